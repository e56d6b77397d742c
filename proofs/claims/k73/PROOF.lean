import PyProof.Rows.All
import KE.KItemsList
import KE.KSortTup
import KE.RegKIsAll
import Lean
import PySem.Challenge.RW_cellpatches_k73_whole_maps
open PySem renaming wpAny_bind->Uq,wpAny_pure->Uw,Shared->Ux,sizeLine->UR,starEach->US,mainGlobals->U4,wpAny_newObj_type->U_,Program->Vf,bootBuiltins->Vh,wpAny_call_entry->Vq,Around->Vw,behindInMarks->VF,wpAny_dictEntries->VH,wpAny_mono->VN,compareOp->VP,wpAny_holding->VT,wpAny_callSpecial?_slot->VU,wpAny_typeNameOfWhole_itemiter->VY,mem_of_lookup->VZ,sysModules->V4,DictEntry->V9,sizeLine_eq->Wg,wpAny_typeNameOf_itemiter->Wh,wpAny_truthy_bool->Wq,wpAny_dictEpoch->Wu,wpAny_isOneOf_itemiter->Ww,wpAny_setField_rec->Wz,attributeBase->WA,wpAny_field->WG,tupleKind->WM,foldedSetIterable->WN,assignEach->WQ,wpAny_getItem_str_slice->WV,wpAny_typeNameOfWhole_keyiter->WW,tupleKind_room_in1->W0,wpAny_passesOwn->W5,backTo->W6,FuncData->Xm,wpAny_typeNameOf_keyiter->Xq,wpAny_Call_Name_kw->Xx,codeAny_builtin->Xy,Keyword->Xz,keywordEach->XJ,Builtin->XW,rawInt->XX,wpAny_newList->XZ,plainId_quiet->X0,swapsWith->X6,sliceBounds->X7,getItem->X8,codeAny->X9,wpAny_typeOf->Yh,pyNext->Yi,binaryOp->Yj,NameKind->Ym,wpAny_fieldsOf->Yo,wpAny_comprehension_free->Yt,wpAny_assign_Name->Yu,wpAny_Call_method->Yv,typeIs_str->Yw,wpAny_attempt->YE,storedH->YF,wpAny_notOrdered_dict->YT,wpAny_execs_nil->YU,post_val_or_str->YV,letOwnedTupleGo->YW,call_meetsIn->YZ,backToKw->Y6,IsItemIter->Zb,wpAny_newTuple->Ze,newFunctionEnv->Zh,Paired->Zk,swapsWithSole->Zz,dictSetHashed->ZD,cellsFrom->ZE,wpAny_sequenceKey->ZU,entryOfKey->ZV,callerA->ZW,codeAny_mono->Z5,IsPart->Z8,wpAny_isInstance->aaa,wpAny_forIn_list->aab,wpAny_eqBool_int->aac,noFill_tuple_add->aad,wpAny_updateSeq->aaq,wpAny_specialOf->aar,valueAt->aas,size_of_entries->aat,PassesOwn->aaz,wpAny_setField->aaG,recursionLimit->aaH,firstArgMember->aaI,evalArgs_none->aaK,wpAny_rule->aaU,call_meets->aaV,wpAny_Call_method0_late->aa3,setField->aa5,seq_tuple_add->aa6,notedBy->aa7,evalPart_none->aa8,compEnvC->aa9,argBest->aa_,call->abb,IsItemIterOut->abk,BindsTo->abl,codeAny_compStart_list->abo
open List renaming length_map->Ur,getElem?_eq_getElem->Us,mem_cons_of_mem->Uu,mem_cons_self->Uv,getD_eq_getElem?_getD->Uy,map_cons->Uz,getElem?_eq_some_iff->UA,mem_map->UC,mem_cons->UD,getElem?_map->UG,range->UH,length_cons->UI,size_toArray->UK,getElem?_set_ne->UM,length_append->UN,mem_range->UP,getElem?_set_self->UQ,all_eq_true->UT,mem_of_getElem?->UZ,map_map->U0,pairwise_cons->U2,mem_append_right->U5,getElem?_append_left->U6,getElem?_append_right->Vb,mem_append->Vd,mem_singleton->Ve,length_range->Vi,nodup_cons->Vk,map_append->Vl,map_congr_left->Vp,toArray->Vr,replicate->Vu,getElem?_cons_zero->Vx,nodup_append->VA,Nodup->VC,lookup_cons->VD,range'->VJ,getElem_of_mem->VL,getElem_mem->VM,getElem?_cons_succ->VO,mem_iff_getElem->VS,zip_cons_cons->VW,length_nil->VX,mem_filter->V6,append_nil->V7,pairwise_map->V_,pairwise_iff_getElem->Wa,getElem?_replicate->Wl,nil_append->Wn,getElem_map->Wv,drop_eq_getElem_cons->Wx,length_zip->WE,nodup_nil->WU,length_replicate->WX,getElem?_concat_length->WY,flatMap_cons->W2,perm_ext_iff_of_nodup->W3,getElem?_zip_eq_some->W9,length_take->Xa,ext_getElem->Xb,getElem?_range->Xd,filterMap_cons->Xe,map_nil->Xf,sum_cons->Xj,find?_cons->Xk,any_cons->Xl,length_filter_le->XB,getElem?_eq_none->XC,all_map->XD,nodup_range->XF,mem_flatMap->XG,drop_length->XH,cons_append->XI,mem_append_left->XN,all_cons->XR,getElem?_eq_none_iff->X4,reverse_cons->Ye,length_eq_zero_iff->Yn,range'_succ->Yp,length_pos_of_mem->Ys,zip_append->Yz,of_mem_zip->YA,mem_iff_getElem?->YB,drop_zero->YM,length_reverse->YR,length_flatMap->YS,set_cons_zero->Y8,set_cons_succ->Y9,length_range'->Y_,getElem_range->Za,getElem?_inj->Zl,append_assoc->Zm,take_length->Zw,length_drop->Zx,filter_cons->Zy,mem_zipIdx_iff_getElem?->ZJ,forIn_cons->ZO,foldl_cons->ZP,length_erase_of_mem->aaj,idxOf_lt_length_iff->aak,pairwise_singleton->aao,range_succ_eq_map->aaA,drop_eq_nil_of_le->aaB,pairwise_flatMap->aaE,contains_iff_mem->aaF,range_eq_range'->aaQ,pairwise_append->aaR,getElem?_mapIdx->aaS,length->aa0,mem_filterMap->abg,getElem_idxOf->abh,filterMap_map->abi,take_add_one->abv,ext_getElem?->abw
open PySem.Heap renaming get?_push_of_some->Ut,lt_size->UE,get?_push_size->UO,SameBut->V2,size_push->Wb,get?_update_self->Wf,get?_update_other->Xu,get?_none_of_le->YL,ExtBut->ZQ
open Nat renaming le_refl->UB,ne_of_lt->UW,le_trans->U1,zero_le->U3,lt_of_lt_of_le->U8,lt_irrefl->Vc,ne_of_gt->Vs,le_of_lt->Vt,lt_trans->VG,lt_succ_of_lt->WH,min_eq_left->Xn,le_antisymm->Xo,lt_succ_self->XM,le_succ->XU,lt_of_le_of_lt->X3,le_max_right->Yr,lt_of_succ_lt_succ->Yx,le_total->YH,le_max_left->YI,mul_le_mul->YQ,zero_add->Zu,sub_zero->Zv,max_eq_right->ZI,max_eq_left->Z0,mod_lt->aan,div_div_eq_div_mul->aaD,succ_pos->aaO,min_self->aaP,mul_le_mul_right->aaZ,le_zero->abf,add_right_comm->abt
open PySem.W renaming Frag->UJ,mg_none_of->Vo,nsIn->Vy,kia_one->V3,fnOf->Wr,keepIn->WJ,codeIn->Xr,mg_of->Yb,methodObj->Y0,instObj->Zr,lookIn->ZG,kitOne->ZH,cellsFrom_some->Z7,kdu_collect->aay,kitx_list->aaL,kitx_dict->aaM,plainGet->aaY,OpenLaw->abc,findIn->abq
open Array renaming length_toList->UL,getElem?_eq_getElem->Vn,getElem?_toList->We,append_assoc->Y4,getElem?_eq_none->aap,isEmpty_iff->abm,toList_inj->aby
open Bool renaming false_ne_true->UU,and_eq_true->UY,false_eq_true->Vj,and_eq_true_iff->WC,eq_iff_iff->XT,not_false->Z_
open PySem.Value renaming ref->UX,none->U7,bool->WR,type->X_,str->aaw,int->aax
open Option.some renaming inj->U9
open PySem.PassesOwn renaming never->Va
open PySem.Heap.SameBut renaming update->Vg,refl->YC
open PySem.Obj renaming mapSeq->Vm,data_mapDictKeys->XQ,isFreed_of_dict->Y1,data_mapFields->abr
open Ne renaming symm->Vv
open PyProof.Rows renaming seqObj->Vz,slot_tuple_getitem->VI,IntsAre->V0,callWith_type1->WK,envOfC->WO,callWith_builtin1->Xg,lt_int->Yk,kindOf->YK,get?_update_seq->YX,entry_list_sort->YY,AllBare->Y5,slot_list_sort->Zf,slicePart_none->Zg,args_list_sort->Zi,entry_tuple_getitem->Zp,subscriptTail->ZA,listUpdate_at->ZC,args_tuple_getitem->ZF,plain_sorted->Z3,entry_sorted->Z4,args_sorted1->Z6,failedOf->aal,seqEpoch_at->aau,kind_sorted->aav,Subscript_->aaW,tupleItemsOf_->aa4,subscriptTail_builtinR->abn
open PySem.Builtin.Slice renaming slicePlaces->VB,sliceAdjust->Wm,sliceApplied->WT,sliceFields->Y3
open PySem.Builtin.Tuple renaming tupleExact->VE,tupleItemsOf->XA,tupleHashOf->Y2
open PySem.Builtin.Dict_items renaming ownsTuple->VQ,ownedTupleIsFree->Wc,pairFromOwner->Wk,ownedTupleFields->XY
open ForInStep renaming yield->VR
open PySem.F renaming slot_dict_itemiterator_next->V1,plainAttrs_dict->Wi,slot_dict_get->Ws,slot_dict_keyiterator_next->WZ,plain_extend_loop->Xh,entry_dict_get->Xi,args_dict_itemiterator_next_1->XE,entry_dict_itemiterator_next->XO,args_tuple_add_2->X1,plainAttrs_list->Yc,entry_tuple_add->Yd,slot_tuple_add->Yg,slot_dict_setdefault->Zj,slot_dict_values->ZM,slot_dict_update->ZN,args_dict_keyiterator_next_1->ZR,args_dict_get_3->ZY,args_dict_get_2->ZZ,entry_dict_keyiterator_next->Z2,type_dict_get->aah,slot_list_lt->aam,slot_dict_items_iter->aa1
open PySem.Calls renaming spliced_cons->V5,callWith_builtin->Wo,spliced_nil->WB,evalArgs_plain->W4,call_function_entry->W7,Name_function_global->ZT
open PySem.Str renaming ofString->V8
open PySem.Builtin.Str renaming strSliceIndices->Wj,occurrences->W8
open PySem.Paired renaming length->Wt
open PySem.Around renaming under_plainId->Wy
open True renaming intro->WD
open Int renaming toNat_natCast->WI,le_antisymm->YJ,emod_lt_of_pos->Zc,emod_nonneg->Z1,le_trans->aaT
open PySem.Builtin.Dict renaming showsAll->WL,entriesForEmpty->YN,updateFrom->Zo,mergeDict->Zt
open False renaming elim->WS
open Option renaming isSome_iff_exists->W_,isSome_map->Y7,map_eq_some_iff->aai,isSome_some->aaN,getD_some->abd,getD_none->abe
open List.Pairwise renaming imp->Xc,nil->Yy
open Classical renaming choose_spec->Xp,choose->X5,propDecidable->ZL,not_forall->Z9,not_imp->aaC
open PUnit renaming unit->Xs
open PySem.Builtin.List renaming listExtendWith->Xv,listTooLong->XS,listSameRef->Zd,listUpdate->Zn
open Int.ofNat renaming inj->X2
open Prod renaming ext->Yl
open Iff renaming rfl->Yq
open PySem.Data renaming dict->YD,fields->aa2
open PySem.Txt renaming slice_le->YG
open PySem.Shared renaming TypeIs->YO
open Sum renaming inl->Zq,inr->ZX
open List.Perm renaming refl->Zs
open PySem.Heap.IsSliceOf renaming new->ZK
open PySem.Expr renaming Name->ZS
open PySem.SeqAt.EqAt renaming str_int->aae,int_str->aaf,int_int->aag
open PySem.SeqAt renaming notIn_tupleAt->aaJ,notIn_listAt->aaX,EqAt->aba,in_tupleAt->abp
open List.cons renaming inj->abj
open PySem.NameKind renaming free->abu
open Function renaming comp->abx
set_option maxHeartbeats 0
set_option compiler.extract_closed false
set_option Elab.async false
set_option linter.all false
set_option maxRecDepth 100000
abbrev abz:=@if_pos
abbrev abA:=@if_neg
abbrev abB:=@decide_eq_true
abbrev abC:=@of_decide_eq_true
abbrev abD:=@decide_eq_false
abbrev abE:=@absurd
abbrev abF:=@decide_eq_true_eq
abbrev abG:=@congrArg
abbrev abH:=@beq_eq_false_iff_ne
abbrev abI:=@decide_eq_decide
namespace L2
open PySem
def eB(s:Stmt):Arguments:=match s with
 | .FunctionDef _ a _ _ _ _ _ _ _ _=>a
 |_=>{posonlyargs:=[],args:=[],vararg:=none,kwonlyargs:=[],kw_defaults:=[],kwarg:=none,defaults:=[]}
def aO(s:Stmt):List Stmt:=match s with
 | .FunctionDef _ _ b _ _ _ _ _ _ _=>b
 |_=>[]
def ah(s:Stmt):Scope:=match s with
 | .FunctionDef _ _ _ _ _ _ sc _ _ _=>sc
 |_=>{kind:= .function,names:=[],isGenerator:=false,isCoroutine:=false}
end L2
namespace K1
open PySem PySem.Spec
def top(i:Nat):Stmt:=PySem.Challenge.pw_cellpatches_k73_whole_maps.main.body.getD i (.Pass ⟨0,0,0,0⟩)
abbrev hS(s:String)(t:Tok):Value:= .str (V8 s) t
abbrev hE(P:Params)(s:String)(t:Tok)(v:Value):V9:={hash:=PyData.keyHash P (V8 s),key:=hS s t,val:=v}
abbrev hT(xs:Array Value):Obj:={cls:= .type "tuple",data:=Data.seq xs}
abbrev hF(s:String)(t:Stmt)(m:Value)(c:Addr):Obj:={cls:= .type "function",data:=Data.func {name:=V8 s,qualname:=V8 s,params:=L2.eB t,body:=FuncBody.stmts (L2.aO t),scope:=L2.ah t,globals:=3,closure:=[],defaults:= .none,kwdefaults:= .none,pyModule:=m,code:= .ref c} }
abbrev j_(s:String)(t1 t2 t3:Tok)(l n f:Int)(a:Addr)(v:Int)(b:Addr)(x y:Value)(d:Addr)(p:Int)(t4:Tok):Obj:={cls:= .type "code",data:=aa2 #[hS s t1,hS s t2,hS "/claim/cut.py" t3, .int l 0, .int n 0, .int 0 0, .int 0 0, .int f 0, .ref a, .bool true, .int v 0, .ref b, .none,x,y, .ref d, .int p 0, .int l 0,hS "/claim/cut.py" t4]}
abbrev By:Value:=hS "cellpatches.boards" 255
abbrev JJ:Value:=hS "cellpatches.patches" 364
abbrev Mk:Value:=hS "law_cellpatches_k73_whole_maps" 512
abbrev Ot:Value:=hS "cellpatches.errors" 187
abbrev Ou:Value:=hS "cellpatches.maps" 475
abbrev Pk:Value:=hS "cellpatches.measures" 444
abbrev Pj(n:String)(b a ns r:Addr)(t1 t2:Tok):Obj:={cls:= .type "type",data:=Data.cls {name:=V8 n,bases:=[.ref b],mro:=[.ref a, .ref b, .type "ValueError", .type "Exception", .type "BaseException", .type "object"],ns:=ns,qualname:=V8 n},slots:= #[some (.ref r),none,some (hS n t1),some (hS n t2),some (.builtin "ValueError.__new__"),some (.bool true)]}
def pA:Params->UJ:=λP=>(nat_lit 2,{cls:= .none,data:=YD #[]})::
 (nat_lit 3,{cls:= .type "dict",data:=YD #[hE P "__name__" 165 Mk,hE P "__doc__" 166 .none,hE P "__package__" 167 .none,hE P "__loader__" 168 (.builtin "__main__.__loader__#opaque"),hE P "__spec__" 169 .none,hE P "__annotations__" 170 (.ref 6),hE P "__builtins__" 171 (.ref 4),hE P "__file__" 173 (hS "/claim/cut.py" 172),hE P "__cached__" 174 .none,hE P "PatchError" 206 (.ref 24),hE P "NoBoard" 222 (.ref 37),hE P "NoWays" 238 (.ref 49),hE P "NoNumber" 254 (.ref 61),hE P "LETTERS" 258 (hS "abcdef" 257),hE P "MOST_ROWS" 260 (.int 8 259),hE P "MOST_COLUMNS" 262 (.int 8 261),hE P "is_whole" 269 (.ref 70),hE P "is_letter" 276 (.ref 77),hE P "is_row" 282 (.ref 82),hE P "is_board" 288 (.ref 87),hE P "need_board" 295 (.ref 94),hE P "need_ways" 302 (.ref 101),hE P "cells_of_row" 308 (.ref 106),hE P "all_cells" 317 (.ref 113),hE P "letter_of" 325 (.ref 120),hE P "are_next" 336 (.ref 127),hE P "next_cells" 348 (.ref 134),hE P "keyed" 357 (.ref 141),hE P "mirrored" 363 (.ref 146),hE P "like_cells" 371 (.ref 151),hE P "steps_back" 385 (.ref 158),hE P "all_patches" 397 (.ref 165),hE P "numbers_of" 408 (.ref 172),hE P "near_numbers" 422 (.ref 179),hE P "distances" 435 (.ref 186),hE P "how_many" 443 (.ref 193),hE P "need_number" 453 (.ref 200),hE P "shared_sides" 466 (.ref 207),hE P "touching" 474 (.ref 214),hE P "map_of" 484 (.ref 221),hE P "neighbours" 494 (.ref 228),hE P "borders" 505 (.ref 235),hE P "middle" 511 (.ref 240),hE P "_law_cell" 521 (.ref 247),hE P "_law_drawn" 531 (.ref 254),hE P "_law_board" 537 (.ref 259),hE P "law" 543 (.ref 264)] 47})::
 (nat_lit 15,hT #[.type "ValueError"])::
 (nat_lit 22,hT #[])::
 (nat_lit 23,{cls:= .type "dict",data:=YD #[hE P "__module__" 196 Ot,hE P "__firstlineno__" 200 (.int 2 199),hE P "__static_attributes__" 201 (.ref 22),hE P "__weakref__" 203 (.ref 25),hE P "__doc__" 204 .none] 3})::
 (nat_lit 24,{cls:= .type "type",data:=Data.cls {name:=V8 "PatchError",bases:=[.type "ValueError"],mro:=[.ref 24, .type "ValueError", .type "Exception", .type "BaseException", .type "object"],ns:=23,qualname:=V8 "PatchError",subclasses:=[.ref 37, .ref 49, .ref 61]},slots:= #[some (.ref 15),none,some (hS "PatchError" 189),some (hS "PatchError" 197),some (.builtin "ValueError.__new__"),some (.bool true)]})::
 (nat_lit 25,{cls:= .type "getset_descriptor",data:=aa2 #[hS "__weakref__" 202, .ref 24, .builtin "ExceptionGroup.__weakref__", .none]})::
 (nat_lit 28,hT #[.ref 24])::
 (nat_lit 35,hT #[])::
 (nat_lit 36,{cls:= .type "dict",data:=YD #[hE P "__module__" 214 Ot,hE P "__firstlineno__" 218 (.int 4 217),hE P "__static_attributes__" 219 (.ref 35),hE P "__doc__" 220 .none] 2})::
 (nat_lit 37,Pj "NoBoard" 24 37 36 28 207 215)::
 (nat_lit 40,hT #[.ref 24])::
 (nat_lit 47,hT #[])::
 (nat_lit 48,{cls:= .type "dict",data:=YD #[hE P "__module__" 230 Ot,hE P "__firstlineno__" 234 (.int 6 233),hE P "__static_attributes__" 235 (.ref 47),hE P "__doc__" 236 .none] 2})::
 (nat_lit 49,Pj "NoWays" 24 49 48 40 223 231)::
 (nat_lit 52,hT #[.ref 24])::
 (nat_lit 59,hT #[])::
 (nat_lit 60,{cls:= .type "dict",data:=YD #[hE P "__module__" 246 Ot,hE P "__firstlineno__" 250 (.int 8 249),hE P "__static_attributes__" 251 (.ref 59),hE P "__doc__" 252 .none] 2})::
 (nat_lit 61,Pj "NoNumber" 24 61 60 52 239 247)::
 (nat_lit 64,hT #[])::
 (nat_lit 66,hT #[hS "thing" 266])::
 (nat_lit 67,hT #[])::
 (nat_lit 69,j_ "is_whole" 263 264 265 14 1 3 64 181 65 (.ref 66) (.ref 67) 68 267 268)::
 (nat_lit 70,hF "is_whole" (top 9) By 69)::
 (nat_lit 71,hT #[])::
 (nat_lit 73,hT #[hS "thing" 273])::
 (nat_lit 74,hT #[])::
 (nat_lit 76,j_ "is_letter" 270 271 272 16 1 3 71 181 72 (.ref 73) (.ref 74) 75 274 275)::
 (nat_lit 77,hF "is_letter" (top 10) By 76)::
 (nat_lit 78,hT #[])::
 (nat_lit 81,j_ "is_row" 277 278 279 18 1 3 78 181 79 .none .none 80 280 281)::
 (nat_lit 82,hF "is_row" (top 11) By 81)::
 (nat_lit 83,hT #[])::
 (nat_lit 86,j_ "is_board" 283 284 285 22 1 3 83 181 84 .none .none 85 286 287)::
 (nat_lit 87,hF "is_board" (top 12) By 86)::
 (nat_lit 88,hT #[])::
 (nat_lit 90,hT #[hS "thing" 292])::
 (nat_lit 91,hT #[])::
 (nat_lit 93,j_ "need_board" 289 290 291 28 1 3 88 181 89 (.ref 90) (.ref 91) 92 293 294)::
 (nat_lit 94,hF "need_board" (top 13) By 93)::
 (nat_lit 95,hT #[])::
 (nat_lit 97,hT #[hS "thing" 299])::
 (nat_lit 98,hT #[])::
 (nat_lit 100,j_ "need_ways" 296 297 298 31 1 3 95 181 96 (.ref 97) (.ref 98) 99 300 301)::
 (nat_lit 101,hF "need_ways" (top 14) By 100)::
 (nat_lit 102,hT #[])::
 (nat_lit 105,j_ "cells_of_row" 303 304 305 34 2 3 102 181 103 .none .none 104 306 307)::
 (nat_lit 106,hF "cells_of_row" (top 15) By 105)::
 (nat_lit 107,hT #[])::
 (nat_lit 109,hT #[hS "board" 312,hS "found" 313,hS "row" 314])::
 (nat_lit 110,hT #[])::
 (nat_lit 112,j_ "all_cells" 309 310 311 36 1 3 107 181 108 (.ref 109) (.ref 110) 111 315 316)::
 (nat_lit 113,hF "all_cells" (top 16) By 112)::
 (nat_lit 114,hT #[])::
 (nat_lit 116,hT #[hS "board" 321,hS "cell" 322])::
 (nat_lit 117,hT #[])::
 (nat_lit 119,j_ "letter_of" 318 319 320 41 2 3 114 181 115 (.ref 116) (.ref 117) 118 323 324)::
 (nat_lit 120,hF "letter_of" (top 17) By 119)::
 (nat_lit 121,hT #[])::
 (nat_lit 123,hT #[hS "one" 329,hS "other" 330,hS "ways" 331,hS "down" 332,hS "along" 333])::
 (nat_lit 124,hT #[])::
 (nat_lit 126,j_ "are_next" 326 327 328 43 3 3 121 181 122 (.ref 123) (.ref 124) 125 334 335)::
 (nat_lit 127,hF "are_next" (top 18) By 126)::
 (nat_lit 128,hT #[])::
 (nat_lit 130,hT #[hS "board" 340,hS "cell" 341,hS "ways" 342,hS "found" 343,hS "row" 344,hS "column" 345])::
 (nat_lit 131,hT #[])::
 (nat_lit 133,j_ "next_cells" 337 338 339 49 3 3 128 181 129 (.ref 130) (.ref 131) 132 346 347)::
 (nat_lit 134,hF "next_cells" (top 19) By 133)::
 (nat_lit 135,hT #[])::
 (nat_lit 137,hT #[hS "things" 352,hS "found" 353,hS "thing" 354])::
 (nat_lit 138,hT #[])::
 (nat_lit 140,j_ "keyed" 349 350 351 56 1 3 135 181 136 (.ref 137) (.ref 138) 139 355 356)::
 (nat_lit 141,hF "keyed" (top 20) By 140)::
 (nat_lit 142,hT #[])::
 (nat_lit 145,j_ "mirrored" 358 359 360 61 1 3 142 181 143 .none .none 144 361 362)::
 (nat_lit 146,hF "mirrored" (top 21) By 145)::
 (nat_lit 147,hT #[])::
 (nat_lit 150,j_ "like_cells" 366 367 368 65 3 3 147 181 148 .none .none 149 369 370)::
 (nat_lit 151,hF "like_cells" (top 23) JJ 150)::
 (nat_lit 152,hT #[])::
 (nat_lit 154,hT #[hS "board" 375,hS "start" 376,hS "ways" 377,hS "back" 378,hS "ring" 379,hS "further" 380,hS "cell" 381,hS "near" 382])::
 (nat_lit 155,hT #[])::
 (nat_lit 157,j_ "steps_back" 372 373 374 68 3 3 152 181 153 (.ref 154) (.ref 155) 156 383 384)::
 (nat_lit 158,hF "steps_back" (top 24) JJ 157)::
 (nat_lit 159,hT #[])::
 (nat_lit 161,hT #[hS "board" 389,hS "ways" 390,hS "found" 391,hS "seen" 392,hS "cell" 393,hS "patch" 394])::
 (nat_lit 162,hT #[])::
 (nat_lit 164,j_ "all_patches" 386 387 388 80 2 3 159 181 160 (.ref 161) (.ref 162) 163 395 396)::
 (nat_lit 165,hF "all_patches" (top 25) JJ 164)::
 (nat_lit 166,hT #[])::
 (nat_lit 168,hT #[hS "found" 401,hS "numbers" 402,hS "number" 403,hS "patch" 404,hS "cell" 405])::
 (nat_lit 169,hT #[])::
 (nat_lit 171,j_ "numbers_of" 398 399 400 89 1 3 166 181 167 (.ref 168) (.ref 169) 170 406 407)::
 (nat_lit 172,hF "numbers_of" (top 26) JJ 171)::
 (nat_lit 173,hT #[])::
 (nat_lit 175,hT #[hS "board" 412,hS "ways" 413,hS "found" 414,hS "numbers" 415,hS "near" 416,hS "cell" 417,hS "mine" 418,hS "other" 419])::
 (nat_lit 176,hT #[])::
 (nat_lit 178,j_ "near_numbers" 409 410 411 95 3 3 173 181 174 (.ref 175) (.ref 176) 177 420 421)::
 (nat_lit 179,hF "near_numbers" (top 27) JJ 178)::
 (nat_lit 180,hT #[])::
 (nat_lit 182,hT #[hS "near" 426,hS "start" 427,hS "far" 428,hS "ring" 429,hS "further" 430,hS "thing" 431,hS "other" 432])::
 (nat_lit 183,hT #[])::
 (nat_lit 185,j_ "distances" 423 424 425 104 2 3 180 181 181 (.ref 182) (.ref 183) 184 433 434)::
 (nat_lit 186,hF "distances" (top 28) JJ 185)::
 (nat_lit 187,hT #[])::
 (nat_lit 189,hT #[hS "board" 439,hS "ways" 440])::
 (nat_lit 190,hT #[])::
 (nat_lit 192,j_ "how_many" 436 437 438 116 2 3 187 181 188 (.ref 189) (.ref 190) 191 441 442)::
 (nat_lit 193,hF "how_many" (top 29) JJ 192)::
 (nat_lit 194,hT #[])::
 (nat_lit 196,hT #[hS "many" 449,hS "thing" 450])::
 (nat_lit 197,hT #[])::
 (nat_lit 199,j_ "need_number" 446 447 448 121 2 3 194 181 195 (.ref 196) (.ref 197) 198 451 452)::
 (nat_lit 200,hF "need_number" (top 31) Pk 199)::
 (nat_lit 201,hT #[])::
 (nat_lit 203,hT #[hS "board" 457,hS "found" 458,hS "numbers" 459,hS "shared" 460,hS "cell" 461,hS "near" 462,hS "pair" 463])::
 (nat_lit 204,hT #[])::
 (nat_lit 206,j_ "shared_sides" 454 455 456 124 2 3 201 181 202 (.ref 203) (.ref 204) 205 464 465)::
 (nat_lit 207,hF "shared_sides" (top 32) Pk 206)::
 (nat_lit 208,hT #[])::
 (nat_lit 210,hT #[hS "board" 470,hS "ways" 471])::
 (nat_lit 211,hT #[])::
 (nat_lit 213,j_ "touching" 467 468 469 133 2 3 208 181 209 (.ref 210) (.ref 211) 212 472 473)::
 (nat_lit 214,hF "touching" (top 33) Pk 213)::
 (nat_lit 215,hT #[])::
 (nat_lit 217,hT #[hS "board" 480,hS "ways" 481])::
 (nat_lit 218,hT #[])::
 (nat_lit 220,j_ "map_of" 477 478 479 138 2 3 215 181 216 (.ref 217) (.ref 218) 219 482 483)::
 (nat_lit 221,hF "map_of" (top 35) Ou 220)::
 (nat_lit 222,hT #[])::
 (nat_lit 224,hT #[hS "board" 488,hS "ways" 489,hS "number" 490,hS "near" 491])::
 (nat_lit 225,hT #[])::
 (nat_lit 227,j_ "neighbours" 485 486 487 142 3 3 222 181 223 (.ref 224) (.ref 225) 226 492 493)::
 (nat_lit 228,hF "neighbours" (top 36) Ou 227)::
 (nat_lit 229,hT #[])::
 (nat_lit 231,hT #[hS "board" 498,hS "ways" 499,hS "one" 500,hS "other" 501,hS "near" 502])::
 (nat_lit 232,hT #[])::
 (nat_lit 234,j_ "borders" 495 496 497 146 4 3 229 181 230 (.ref 231) (.ref 232) 233 503 504)::
 (nat_lit 235,hF "borders" (top 37) Ou 234)::
 (nat_lit 236,hT #[])::
 (nat_lit 239,j_ "middle" 506 507 508 151 2 3 236 181 237 .none .none 238 509 510)::
 (nat_lit 240,hF "middle" (top 38) Ou 239)::
 (nat_lit 241,hT #[])::
 (nat_lit 243,hT #[hS "_law_script" 517,hS "_law_k" 518])::
 (nat_lit 244,hT #[])::
 (nat_lit 246,j_ "_law_cell" 514 515 516 156 2 3 241 181 242 (.ref 243) (.ref 244) 245 519 520)::
 (nat_lit 247,hF "_law_cell" (top 40) Mk 246)::
 (nat_lit 248,hT #[])::
 (nat_lit 250,hT #[hS "_law_script" 525,hS "_law_k" 526,hS "_law_many" 527,hS "_law_cell_here" 528])::
 (nat_lit 251,hT #[])::
 (nat_lit 253,j_ "_law_drawn" 522 523 524 160 3 3 248 181 249 (.ref 250) (.ref 251) 252 529 530)::
 (nat_lit 254,hF "_law_drawn" (top 41) Mk 253)::
 (nat_lit 255,hT #[])::
 (nat_lit 258,j_ "_law_board" 532 533 534 164 3 3 255 181 256 .none .none 257 535 536)::
 (nat_lit 259,hF "_law_board" (top 42) Mk 258)::
 (nat_lit 260,hT #[])::
 (nat_lit 263,j_ "law" 538 539 540 173 1 3 260 181 261 .none .none 262 541 542)::
 (nat_lit 264,hF "law" (top 43) Mk 263)::[]
def pz:List Nat:=[2,3,15,22,23,24,25,28,35,36,37,40,47,48,49,52,59,60,61,64,66,67,69,70,71,73,74,76,77,78,81,82,83,86,87,88,90,91,93,94,95,97,98,100,101,102,105,106,107,109,110,112,113,114,116,117,119,120,121,123,124,126,127,128,130,131,133,134,135,137,138,140,141,142,145,146,147,150,151,152,154,155,157,158,159,161,162,164,165,166,168,169,171,172,173,175,176,178,179,180,182,183,185,186,187,189,190,192,193,194,196,197,199,200,201,203,204,206,207,208,210,211,213,214,215,217,218,220,221,222,224,225,227,228,229,231,232,234,235,236,239,240,241,243,244,246,247,248,250,251,253,254,255,258,259,260,263,264]
def xS:Vf:={PySem.Challenge.pw_cellpatches_k73_whole_maps with main:={PySem.Challenge.pw_cellpatches_k73_whole_maps.main with body:=[top 1,top 2,top 3,top 4,top 6,top 7,top 8,top 9,top 10,top 11,top 12,top 13,top 14,top 15,top 16,top 17,top 18,top 19,top 20,top 21,top 23,top 24,top 25,top 26,top 27,top 28,top 29,top 31,top 32,top 33,top 35,top 36,top 37,top 38,top 40,top 41,top 42,top 43]} }
open PySem.W PyProof.Rows in
def MC:LeftO PySem.Challenge.rw_cellpatches_k73_whole_maps.row.prog xS [] (λs=>xlAt xS [] s&&recOk PySem.Challenge.rw_cellpatches_k73_whole_maps.row.records s) (kHook pA pz (λ_=>by kernel_rfl)).obs (kHook pA pz (λ_=>by kernel_rfl)).val 3816:=λw=>by kernel_rfl
end K1
namespace L2
open PySem PySem.Spec PyProof.Rows
abbrev Key:=Sum Int Str
def mZ:Key->Value->Bool
 | .inl k,v=>Value.isInt k v
 | .inr x,v=>Value.isStrOf x v
def Nb(w:World):Key->Int
 | .inl k=>hashInt k
 | .inr x=>hashStr w x
def br:∀{k:Key}{v:Value},mZ k v=true->(∃i t,k=Zq i/\v=aax i t)\/(∃x t,k=ZX x/\v=aaw x t)
 | .inl i,v,h=>by
   obtain⟨t,e⟩:=Value.isInt_shape (k:=i) (v:=v) h;exact .inl ⟨i,t,rfl,e⟩
 | .inr x,v,h=>by
   obtain⟨t,e⟩:=Value.isStrOf_shape (x:=x) (v:=v) h;exact .inr ⟨x,t,rfl,e⟩
def BL(i:Int)(t:Tok):mZ (.inl i) (.int i t)=true:=by simp[mZ,Value.isInt]
def BM(x:Str)(t:Tok):mZ (.inr x) (.str x t)=true:=by simp[mZ,Value.isStrOf]
def Kl(a b:Int):decide ((Zq a:Key)=Zq b)=(a==b):=by
 by_cases e:a=b
 ·subst e;simp
 ·have h:¬(Zq a:Key)=Zq b:=λq=>e (Sum.inl.inj q);rw[abD h];exact(abH.mpr e).symm
def Ko(a b:Str):decide ((ZX a:Key)=ZX b)=decide (a=b):=by
 by_cases e:a=b
 ·subst e;simp
 ·have h:¬(ZX a:Key)=ZX b:=λq=>e (Sum.inr.inj q);rw[abD h,abD e]
def Km(a:Int)(b:Str):decide ((Zq a:Key)=ZX b)=false:=abD (λq=>nomatch q)
def Kn(a:Str)(b:Int):decide ((ZX a:Key)=Zq b)=false:=abD (λq=>nomatch q)
def aM(prog:Vf)(w:World):PySem.KeyKind prog w Key where
 is:=mZ
 hash:=Nb w
 inj:=λv a b ha hb=>by
  rcases br ha with⟨i,t,rfl,rfl⟩ | ⟨x,t,rfl,rfl⟩
  ·rcases br hb with⟨j,u,rfl,e⟩ | ⟨y,u,rfl,e⟩
   ·injection e with e1 _;rw[e1]
   ·exact nomatch e
  ·rcases br hb with⟨j,u,rfl,e⟩ | ⟨y,u,rfl,e⟩
   ·exact nomatch e
   ·injection e with e1 _;rw[e1]
 byValue:=λk v h=>by
  rcases br h with⟨i,t,rfl,rfl⟩ | ⟨x,t,rfl,rfl⟩<;>rfl
 pyHash:=λhv h=>by
  rcases br hv with⟨i,t,rfl,rfl⟩ | ⟨x,t,rfl,rfl⟩
  ·exact wpAny_pyHash_int h
  ·exact wpAny_pyHash_str h
 eqBool:=λhu hv h=>by
  rcases br hu with⟨i,t,rfl,rfl⟩ | ⟨x,t,rfl,rfl⟩
  ·rcases br hv with⟨j,u,rfl,rfl⟩ | ⟨y,u,rfl,rfl⟩
   ·rw[Kl] at h;exact aac h
   ·rw[Km] at h;exact aaf i t y u _ _ _ _ h
  ·rcases br hv with⟨j,u,rfl,rfl⟩ | ⟨y,u,rfl,rfl⟩
   ·rw[Kn] at h;exact aae x t j u _ _ _ _ h
   ·rw[Ko] at h;exact wpAny_eqBool_str h
 «strs» :=λk x t v h=>by
  rcases br h with⟨i,u,rfl,e⟩ | ⟨y,u,rfl,e⟩
  ·exact nomatch e
  ·injection e with e1 _
   subst e1;cases v<;>rfl
def wA(prog:Vf)(w:World)(i:Int)(t:Tok):(aM prog w).is (.inl i) (.int i t)=true:=BL i t
def wB(prog:Vf)(w:World)(x:Str)(t:Tok):(aM prog w).is (.inr x) (.str x t)=true:=BM x t
inductive V where
 |non | bl (b:Bool) | int (i:Int) | str (x:Str) | byt (b:Array UInt8) | flt (b:UInt64) | ref (a:Addr) | ty (n:String)
 deriving DecidableEq
def RelV:V->Value->Prop
 | .non,u=>u=U7
 | .bl b,u=>u=WR b
 | .int i,u=>∃t,u=aax i t
 | .str x,u=>∃t,u=aaw x t
 | .byt b,u=>∃t,u=Value.bytes b t
 | .flt b,u=>∃t,u=Value.float b t
 | .ref a,u=>u=UX a
 | .ty n,u=>u=X_ n
abbrev Vals:List V->List Value->Prop:=Zk RelV
def Vals.length{xs:List V}{us:List Value}(r:Vals xs us):xs.length=us.length:=Wt r
def Vals.get:∀{xs:List V}{us:List Value}{i:Nat}{x:V},Vals xs us->xs[i]? =some x->∃u,us[i]? =some u/\RelV x u
 |_,_,_,_, .nil,e=>by simp at e
 |_,_,0,_, .cons r _,e=>by simp at e;subst e;exact⟨_,rfl,r⟩
 |_,_,i+1,x, .cons _ t,e=>by
  obtain⟨u,h1,h2⟩:=Vals.get (i:=i) (x:=x) t (by simpa using e);exact⟨u,by simpa using h1,h2⟩
def Vals.append:∀{xs ys:List V}{us ws:List Value},Vals xs us->Vals ys ws->Vals (xs++ys) (us++ws)
 |_,_,_,_, .nil,s=>s
 |_,_,_,_, .cons r t,s=> .cons r (Vals.append t s)
def Vals.take:∀{xs:List V}{us:List Value}(n:Nat),Vals xs us->Vals (xs.take n) (us.take n)
 |_,_,0,_=> .nil
 |_,_,_+1, .nil=> .nil
 |_,_,n+1, .cons r t=> .cons r (Vals.take n t)
def Vals.drop:∀{xs:List V}{us:List Value}(n:Nat),Vals xs us->Vals (xs.drop n) (us.drop n)
 |_,_,0,r=>r
 |_,_,_+1, .nil=> .nil
 |_,_,n+1, .cons _ t=>Vals.drop n t
def RelO:Option V->Option Value->Prop
 |some v,some u=>RelV v u
 |none,none=>True
 |_,_=>False
def KV{κ:Type}:List (κ×V)->List (κ×Value)->Prop:=Zk λ(p:κ×V) (q:κ×Value)=>p.1=q.1/\RelV p.2 q.2
def kV:Key->V
 | .inl i=> .int i
 | .inr x=> .str x
inductive HO where
 |lst (xs:List V)
 |tup (xs:List V)
 |dK (kvs:List (Key×V)) | dT (kvs:List (List Key×V))
 |set (S:Int->Bool) (n:Nat)
 |ins (C dx:Addr) (fs:List (Str×V))
 |own (x:Addr)
 |xd (fs:List (Str×V))
 |met (f x:Addr)
 |rng (lo hi:Int)
 |frz (o:Obj) (u:HO)
 |tbl (ps:Array Value)
 |ext (φ:Heap->Prop)
abbrev Hp:=Addr->Option HO
def upd(H:Hp)(a:Addr)(o:HO):Hp:=λb=>if b=a then some o else H b
def az{H:Hp}{a:Addr}{o:HO}:upd H a o a=some o:=by unfold upd;rw[abz rfl]
def ao{H:Hp}{a b:Addr}{o:HO}(h:b≠a):upd H a o b=H b:=by unfold upd;rw[abA h]
def Ec{H:Hp}{a b:Addr}{o u:HO}(h:H a=some o)(h':H b=some u)(d:o≠u):a≠b:=by
 intro e;subst e;rw[h] at h';exact d (U9 h')
def aW{H:Hp}{a b:Addr}{o:HO}(h:H a=some o)(h':H b=none):a≠b:=by
 intro e;subst e;rw[h] at h';cases h'
section
variable(P:Vf)(w:World)
def ObjOk(H:Hp)(h:Heap)(a:Addr):HO->Prop
 | .lst xs=>xs.length<=UR/\∃(aD:List Value) (n:Nat),Vals xs aD/\h.get? a=some {cls:= .type "list",data:= .seq aD.toArray n}
 | .tup xs=>xs.length<=UR/\∃aD:List Value,Vals xs aD/\IsTup h a aD.toArray
 | .dK kvs=>kvs.length<=UR/\(a==V4)=false/\∃vs,KV kvs vs/\h.DictOf (aM P w) a vs
 | .dT kvs=>kvs.length<=UR/\(a==V4)=false/\∃xs:List (List Key×Addr×Value),
    Zk (λ(p:List Key×V) (q:List Key×Addr×Value)=>p.1=q.1/\H q.2.1=some (.tup (p.1.map kV))/\RelV p.2 q.2.2) kvs xs/\
    ∃o es ep,h.get? a=some o/\o.ExactDict/\o.data= .dict es ep/\es.toList=xs.map (ZV (WM (aM P w)))/\(xs.map (·.1)).Nodup
 | .set S n=>h.SetOf (intKind P w) a S n
 | .ins C dx fs=>H dx=some (.own a)/\fs.length<=1000/\dx≠a/\h.get? a=some (Zr C dx)/\
    ∃mA,h.Ns1 dx mA/\(∀f,RelO (fs.lookup f) (mA f))/\PySem.Within mA (fs.map (·.1))
 | .own _=>∃o,h.get? a=some o
 | .xd fs=>∃mA,h.Ns1 a mA/\∀f,RelO (fs.lookup f) (mA f)
 | .rng lo hi=>∃t u v,h.get? a=some {cls:= .type "range",data:= .fields #[.int lo t, .int hi u, .int 1 v]}
 | .frz o u=>h.get? a=some o/\ObjOk H h a u
 | .tbl ps=>h.get? a=some {cls:= .none,data:= .fields ps}
 | .met f x=>h.get? a=some (Y0 (.ref f) (.ref x))
 | .ext φ=>φ h/\(∃o,h.get? a=some o)/\∀h1 h2:Heap,φ h1->(∀o,h1.get? a=some o->h2.get? a=some o)->φ h2
def HOk(H:Hp)(h:Heap):Prop:=∀a o,H a=some o->ObjOk P w H h a o
end
section
variable{P:Vf}{w:World}{H H':Hp}{h h':Heap}{a:Addr}{o:HO}
def ObjOk.lt(x:ObjOk P w H h a o):a<h.objs.size:=by
 cases o with
 |lst xs=>obtain⟨_,_,_,_,e⟩:=x;exact UE e
 |tup xs=>obtain⟨_,_,_,p⟩:=x;exact p.lt
 |dK kvs=>obtain⟨_,_,_,_,o,_,_,e,_⟩:=x;exact UE e
 |dT kvs=>obtain⟨_,_,_,_,o,_,_,e,_⟩:=x;exact UE e
 |set S n=>obtain⟨o,_,_,_,e,_⟩:=x;exact UE e
 |ins C dx fs=>obtain⟨_,_,_,e,_⟩:=x;exact UE e
 |own y=>obtain⟨_,e⟩:=x;exact UE e
 |xd fs=>obtain⟨_,⟨_,_,_,e,_⟩,_⟩:=x;exact UE e
 |rng lo hi=>obtain⟨_,_,_,e⟩:=x;exact UE e
 |frz ob u=>obtain⟨e,_⟩:=x;exact UE e
 |tbl ps=>exact UE (show h.get? a=some _ from x)
 |met f y=>exact UE (show h.get? a=some _ from x)
 |ext φ=>obtain⟨_,⟨_,e⟩,_⟩:=x;exact UE e
def Paired.mapP{α β:Type}{F G:α->β->Prop}:∀{l₁:List α}{l₂:List β},Zk F l₁ l₂->(∀a b,F a b->G a b)->Zk G l₁ l₂
 |_,_, .nil,_=> .nil
 |_,_, .cons r t,f=> .cons (f _ _ r) (Paired.mapP t f)
def ObjOk.stay(x:ObjOk P w H h a o)(k:∀b u,(b=a\/H b=some (.own a))->h.get? b=some u->h'.get? b=some u)
 (ho:∀b,H b=some (.own a)->H' b=some (.own a))(ht:∀b xs,H b=some (.tup xs)->H' b=some (.tup xs)):ObjOk P w H' h' a o:=by
 induction o with
 |lst xs=>obtain⟨z,aD,n,r,e⟩:=x;exact⟨z,aD,n,r,k _ _ (.inl rfl) e⟩
 |tup xs=>obtain⟨z,aD,r,ob,e,c⟩:=x;exact⟨z,aD,r,ob,k _ _ (.inl rfl) e,c⟩
 |dK kvs=>obtain⟨z,y,vs,r,ob,es,ep,e,c⟩:=x;exact⟨z,y,vs,r,ob,es,ep,k _ _ (.inl rfl) e,c⟩
 |dT kvs=>
  obtain⟨z,y,xs,r,ob,es,ep,e,c⟩:=x;exact⟨z,y,xs,Paired.mapP r λp q z=>⟨z.1,ht _ _ z.2.1,z.2.2⟩,ob,es,ep,k _ _ (.inl rfl) e,c⟩
 |set S n=>obtain⟨ob,es,ep,t,e,c⟩:=x;exact⟨ob,es,ep,t,k _ _ (.inl rfl) e,c⟩
 |ins C dx fs=>
  obtain⟨d,z,ne,e,mA,⟨od,es,ep,e2,c⟩,r⟩:=x;exact⟨ho _ d,z,ne,k _ _ (.inl rfl) e,mA,⟨od,es,ep,k _ _ (.inr d) e2,c⟩,r⟩
 |own y=>obtain⟨ob,e⟩:=x;exact⟨ob,k _ _ (.inl rfl) e⟩
 |xd fs=>obtain⟨mA,⟨od,es,ep,e,c⟩,r⟩:=x;exact⟨mA,⟨od,es,ep,k _ _ (.inl rfl) e,c⟩,r⟩
 |rng lo hi=>obtain⟨t,u,v,e⟩:=x;exact⟨t,u,v,k _ _ (.inl rfl) e⟩
 |frz ob u ih=>obtain⟨e,q⟩:=x;exact⟨k _ _ (.inl rfl) e,ih q⟩
 |tbl ps=>
  have e:h.get? a=some {cls:= .none,data:= .fields ps}:=x;show h'.get? a=some {cls:= .none,data:= .fields ps};exact k a _ (.inl rfl) e
 |met f y=>
  have e:h.get? a=some (Y0 (.ref f) (.ref y)):=x;show h'.get? a=some (Y0 (.ref f) (.ref y));exact k a _ (.inl rfl) e
 |ext φ=>obtain⟨p,⟨o,e⟩,st⟩:=x;exact⟨st _ _ p λo q=>k _ _ (.inl rfl) q,⟨o,k _ _ (.inl rfl) e⟩,st⟩
def HOk.lt(x:HOk P w H h)(e:H a=some o):a<h.objs.size:=(x a o e).lt
def HOk.fresh(x:HOk P w H h)(e:h.objs.size<=a):H a=none:=by
 cases q:H a with
 |none=>rfl
 |some u=>exact abE (U8 (x.lt q) e) (Vc _)
def HOk.kept(x:HOk P w H h)(k:∀b u,h.get? b=some u->h'.get? b=some u):HOk P w H h':=λa o e=>
 (x a o e).stay (λb u _ q=>k b u q) (λ_ q=>q) λ_ _ q=>q
def HOk.laid(x:HOk P w H h)(k:∀b u,h.get? b=some u->h'.get? b=some u)(hp:h.objs.size<=a)(new:ObjOk P w (upd H a o) h' a o):HOk P w (upd H a o) h':=λb u e=>by
 have hn:=x.fresh hp;by_cases hb:b=a
 ·subst hb;rw[az] at e;cases e;exact new
 ·rw[ao hb] at e;exact(x b u e).stay (λc v _ q=>k c v q) (λc q=>by rw[ao (aW q hn)];exact q) λc xs q=>by rw[ao (aW q hn)];exact q
end
def Rd(H:Hp)(a:Addr)(u:HO):Prop:=H a=some u\/∃o,H a=some (.frz o u)
def Rd.ok{P:Vf}{w:World}{H:Hp}{h:Heap}{a:Addr}{u:HO}(r:Rd H a u)(x:HOk P w H h):ObjOk P w H h a u:=by
 rcases r with r | ⟨o,r⟩
 ·exact x a u r
 ·obtain⟨_,q⟩:=x a _ r;exact q
def LY:Option HO->Prop
 |some (.lst _)=>True
 |some (.dK _)=>True
 |some (.dT _)=>True
 |some (.set _ _)=>True
 |some (.ins _ _ _)=>True
 |some (.ext _)=>True
 |_=>False
section
variable{P:Vf}{w:World}{H:Hp}{h h':Heap}{x e:Addr}{o':HO}
def HOk.write(ok:HOk P w H h)(mu:LY (H x))(he:e=x\/H e=some (.own x))(k:∀b u,b≠e->h.get? b=some u->h'.get? b=some u)(CI:∃u,h'.get? e=some u)
 (new:ObjOk P w (upd H x o') h' x o'):HOk P w (upd H x o') h':=λb u q=>by
 have Nq:∀c y,H c=some (.own y)->c≠x:=λc y r z=>by subst z;rw[r] at mu;exact mu
 have QB:∀c xs,H c=some (.tup xs)->c≠x:=λc xs r z=>by subst z;rw[r] at mu;exact mu
 by_cases hb:b=x
 ·subst hb;rw[az] at q;cases q;exact new
 ·rw[ao hb] at q;by_cases JP:b=e
  ·have q':H b=some (.own x):=by
    rcases he with z | z
    ·exact abE (JP.trans z) hb
    ·rw[JP];exact z
   rw[q] at q';cases q';obtain⟨v,hv⟩:=CI;exact⟨v,by rw[JP];exact hv⟩
  ·refine(ok b u q).stay (λc v hc r=>k c v ?_ r) (λc r=>by rw[ao (Nq c b r)];exact r) λc xs r=>by rw[ao (QB c xs r)];exact r
   rcases hc with rfl | hc
   ·exact JP
   ·rintro rfl;rcases he with z | z
    ·exact Nq c b hc z
    ·rw[hc] at z;cases z;exact hb rfl
end
structure Un (fs ex:List Addr) (H H':Hp) (h h':Heap):Prop where
 keep:∀b o,h.get? b=some o->H b=none->b∉fs->b∉ex->h'.get? b=some o
 slot:∀b o,h.get? b=some o->H b=none->b∈fs->b∉ex->∃sl,h'.get? b=some {o with slots:=sl}
 free:∀b o,h.get? b=some o->H b=none->b∉ex->H' b=none
 there:∀b o,h.get? b=some o->b∉ex->∃o',h'.get? b=some o'
 tups:∀b xs,H b=some (.tup xs)->H' b=some (.tup xs)
 frzs:∀b o u,H b=some (.frz o u)->H' b=some (.frz o u)
 tbls:∀b ps,H b=some (.tbl ps)->∃more,H' b=some (.tbl (ps++more))
section
variable{fs Rj ex l5:List Addr}{H H1 H2:Hp}{h h1 h2 h':Heap}{a x e:Addr}{o:HO}
def Un.any(u:Un fs ex H H1 h h1){b:Addr}{ob:Obj}(q:h.get? b=some ob)(n:H b=none)(hx:b∉ex):∃sl,h1.get? b=some {ob with slots:=sl}:=by
 by_cases hb:b∈fs
 ·exact u.slot b ob q n hb hx
 ·exact⟨ob.slots,u.keep b ob q n hb hx⟩
def Un.trans(a:Un fs ex H H1 h h1)(b:Un fs ex H1 H2 h1 h2):Un fs ex H H2 h h2 where
 keep:=λc ob q n hc hx=>b.keep c ob (a.keep c ob q n hc hx) (a.free c ob q n hx) hc hx
 slot:=λc ob q n hc hx=>by
  obtain⟨sl,e1⟩:=a.slot c ob q n hc hx;obtain⟨Lh,e2⟩:=b.slot c _ e1 (a.free c ob q n hx) hc hx;exact⟨Lh,e2⟩
 free:=λc ob q n hx=>by
  obtain⟨o',e1⟩:=a.there c ob q hx;exact b.free c o' e1 (a.free c ob q n hx) hx
 there:=λc ob q hx=>by
  obtain⟨o',e1⟩:=a.there c ob q hx;exact b.there c o' e1 hx
 tups:=λc xs q=>b.tups c xs (a.tups c xs q)
 frzs:=λc ob xs q=>b.frzs c ob xs (a.frzs c ob xs q)
 tbls:=λc ps q=>by
  obtain⟨m1,e1⟩:=a.tbls c ps q;obtain⟨m2,e2⟩:=b.tbls c _ e1;exact⟨m1++m2,by rw[e2,Y4]⟩
def Un.kept(k:∀b u,h.get? b=some u->h'.get? b=some u):Un fs ex H H h h':=
 ⟨λb ob q _ _ _=>k b ob q,λb ob q _ _ _=>⟨ob.slots,k b ob q⟩,λ_ _ _ n _=>n,λb ob q _=>⟨ob,k b ob q⟩,λ_ _ q=>q,λ_ _ _ q=>q,λ_ ps q=>⟨#[],by rw[q];simp⟩⟩
def Un.refl:Un fs ex H H h h:=Un.kept λ_ _ q=>q
def Un.laid(k:∀b u,h.get? b=some u->h'.get? b=some u)(hp:h.objs.size<=a)(hn:H a=none):Un fs ex H (upd H a o) h h' where
 keep:=λb u q _ _ _=>k b u q
 slot:=λb u q _ _ _=>⟨u.slots,k b u q⟩
 free:=λb u q n _=>by rw[ao (UW (U8 (UE q) hp))];exact n
 there:=λb u q _=>⟨u,k b u q⟩
 tups:=λb xs q=>by rw[ao (aW q hn)];exact q
 frzs:=λb u xs q=>by rw[ao (aW q hn)];exact q
 tbls:=λb ps q=>⟨#[],by rw[ao (aW q hn),q];simp⟩
def Un.write(mu:LY (H x))(he:e=x\/H e=some (.own x))(k:∀b u,b≠e->h.get? b=some u->h'.get? b=some u)(CI:∃u,h'.get? e=some u):Un fs ex H (upd H x o) h h':=by
 have hx:∀b,H b=none->b≠x:=λb n z=>by subst z;rw[n] at mu;exact mu
 have hb:∀b,H b=none->b≠e:=λb n z=>by
  subst z;rcases he with r | r
  ·exact hx b n r
  ·rw[n] at r;cases r
 have hm:∀b u,H b=some u->¬LY (some u)->b≠x:=λb u q nm z=>by subst z;rw[q] at mu;exact nm mu
 refine⟨λb u q n _ _=>k b u (hb b n) q,λb u q n _ _=>⟨u.slots,k b u (hb b n) q⟩,λb u q n _=>by rw[ao (hx b n)];exact n,λb u q _=>?_,
  λb xs q=>by rw[ao (hm b _ q λz=>z)];exact q,λb u xs q=>by rw[ao (hm b _ q λz=>z)];exact q,λb ps q=>⟨#[],by rw[ao (hm b _ q λz=>z),q];simp⟩⟩
 by_cases JP:b=e
 ·subst JP;exact CI
 ·exact⟨u,k b u JP q⟩
def Un.mono(u:Un fs ex H H1 h h1)(hs:∀b∈fs,b∈Rj)(hx:∀b∈ex,b∈l5):Un Rj l5 H H1 h h1:=
 ⟨λb ob q n hb he=>u.keep b ob q n (λz=>hb (hs b z)) λz=>he (hx b z),λ_ _ q n _ he=>u.any q n λz=>he (hx _ z),λb ob q n he=>u.free b ob q n λz=>he (hx b z),λb ob q he=>u.there b ob q λz=>he (hx b z),u.tups,u.frzs,u.tbls⟩
end
def OS(h:Heap)(H:Hp):List Addr:=(UH h.objs.size).filter λa=>(H a).isSome
def tJ(h:Heap)(H:Hp):Heap:=PySem.W.hideAll h (OS h H)
def BB(h:Heap)(H:Hp):(tJ h H).objs.size=h.objs.size:=PySem.W.hideAll_size _ _
def DJ{h:Heap}{H:Hp}{b:Addr}{o:Obj}(e:h.get? b=some o)(n:H b=none):(tJ h H).get? b=some o:=
 PySem.W.hideAll_get _ e λhm=>by
  have q:(H b).isSome=true:=(V6.mp hm).2;rw[n] at q;simp at q
def G1{h:Heap}{H:Hp}{b:Addr}{o:Obj}(e:(tJ h H).get? b=some o):h.get? b=some o/\H b=none:=by
 have e':h.get? b=some o:=PySem.W.of_hideAll (OS h H) e;refine⟨e',?_⟩;cases q:H b with
 |none=>rfl
 |some x=>
  have hm:b∈OS h H:=V6.mpr ⟨UP.mpr (UE e'),by simp[q]⟩;have z:(tJ h H).get? b=none:=PySem.W.hideAll_none (OS h H) hm;rw[z] at e;cases e
def FV(g h:Heap)(L:Addr):List (Addr×Obj):=(UH h.objs.size).filterMap λa=>if a=L\/(g.get? a).isSome=true then none else(h.get? a).map λo=>(a,o)
def rest(g h:Heap)(L d:Addr):List (Addr×Obj):=(FV g h L).filter λp=>decide (p.1≠d)
structure Mod (K:UJ) (mg:Str->Option Value) (base:Heap):Prop where
 kin:K.In base
 glob:base.Ns U4 mg
 blt:∃mb,base.Ns builtinsNs mb/\∀x:Str,x≠"__name__"->mb x=Vh x
 nolimit:base.NoLimit
structure Cx where
 prog:Vf
 w:World
 K:UJ
 mg:Str->Option Value
 base:Heap
 A:Vw
 N:List Str
 abK:Ux
 abJ:Hp
 env:Env
 outer:List Env
 stack:List Env
 ex:List Addr
 fn:Str->Bool
 calm:Bool
 pn:List (Addr×Obj)
 xe:Value->Ux->Prop
def nU(l:List Env):List Addr:=l.filterMap (·.frame)
abbrev Cx.fs(X:Cx):List Addr:=nU X.outer
def O4(sc:Scope)(x:Str):Prop:=sc.names.lookup x=some .local\/sc.names.lookup x=some .cell\/sc.names.lookup x=some .free
def Loc(sc:Scope)(x:Str):Prop:=sc.names.lookup x=some .local\/sc.names.lookup x=some .cell
def Look(env:Env)(h:Heap)(m:Str->Option Value)(x:Str)(u:Value):Prop:=
 (env.kindOf x=some .local/\m x=some u)\/((env.kindOf x=some .cell\/env.kindOf x=some .free)/\∃c,env.cells.lookup x=some c/\h.IsCell c (some u))
structure Cx.Ok (X:Cx):Prop where
 mod:Mod X.K X.mg X.base
 kind:X.env.scope.kind= .function
 glob:X.env.globals=U4
 blt:X.env.builtins=builtinsNs
 above:X.abK.heap.objs.size<=X.env.locals
 inj:∀x y c,X.env.cells.lookup x=some c->X.env.cells.lookup y=some c->x=y
 has:∀x,(X.env.kindOf x=some .cell\/X.env.kindOf x=some .free)->∃c,X.env.cells.lookup x=some c
 cab:∀x c,X.fn x=true->X.env.cells.lookup x=some c->X.abK.heap.objs.size<=c
 hd:X.calm=true->X.A.handled=none
 frames:X.A.frames=some X.stack
 stk:X.stack=X.outer\/(X.stack=X.env::X.outer/\X.env.frame=some X.env.locals)
 exf:∀b∈X.ex,b≠X.env.locals/\∀x c,X.env.cells.lookup x=some c->c≠b
 bs:∀b o,X.base.get? b=some o->X.abK.heap.get? b=some o/\X.abJ b=none
 bsz:X.base.objs.size<=X.abK.heap.objs.size
 noex:∀b o,X.base.get? b=some o->b∉X.ex
 exfs:∀b∈X.ex,b∉X.fs
 funs:X.abK.heap.FunFrames X.base X.outer
 frf:∀b∈X.fs,X.abJ b=none
structure Inv (X:Cx) (f8:List (Addr×Obj)) (σ:List (Option V)) (H:Hp) (s:Ux):Prop where
 ok:X.Ok
 os:s.os=X.abK.os
 bare:Y5 s.gens
 base:Un X.fs X.ex X.abJ H X.abK.heap s.heap
 loc:∃m,s.heap.Ns X.env.locals m/\∀(i:Nat) (x:Str) (v:V),X.N[i]? =some x->σ[i]? =some (some v)->O4 X.env.scope x->∃u,RelV v u/\Look X.env s.heap m x u
 cell:∀x c,X.env.cells.lookup x=some c->∃v,s.heap.IsCell c v
 free:H X.env.locals=none
 freeC:∀x c,X.env.cells.lookup x=some c->H c=none
 pin:∀p∈X.pn++f8,s.heap.get? p.1=some p.2/\H p.1=none/\p.1≠X.env.locals/\p.1∉X.fs/\∀v,p.2.data≠ .cell v
 hok:HOk X.prog X.w H s.heap
 len:σ.length=X.N.length
section
variable{X:Cx}{f8:List (Addr×Obj)}{σ:List (Option V)}{H H':Hp}{s:Ux}{h':Heap}
def Cx.Ok.nofr(ok:X.Ok){b:Addr}{o:Obj}(e:X.base.get? b=some o):b∉X.fs:=λhb=>by
 have:=(ok.funs.mem hb).1;rw[e] at this;cases this
def Inv.bs(I:Inv X f8 σ H s):∀b o,X.base.get? b=some o->s.heap.get? b=some o/\H b=none:=λb o e=>
 ⟨I.base.keep b o (I.ok.bs b o e).1 (I.ok.bs b o e).2 (I.ok.nofr e) (I.ok.noex b o e),I.base.free b o (I.ok.bs b o e).1 (I.ok.bs b o e).2 (I.ok.noex b o e)⟩
def Inv.bk(I:Inv X f8 σ H s):∀b o,X.base.get? b=some o->s.heap.get? b=some o:=λb o e=>(I.bs b o e).1
def Inv.mod(I:Inv X f8 σ H s):Mod X.K X.mg X.base:=I.ok.mod
def Inv.kIn(I:Inv X f8 σ H s):X.K.In s.heap:=I.ok.mod.kin.keeps I.bk
def Inv.nolimit(I:Inv X f8 σ H s):s.heap.NoLimit:=I.ok.mod.nolimit.keeps I.bk
def Inv.lt(I:Inv X f8 σ H s):X.env.locals<s.heap.objs.size:=let ⟨_,hn,_⟩:=I.loc;hn.lt
def Inv.sz(I:Inv X f8 σ H s):X.abK.heap.objs.size<=s.heap.objs.size:=U1 I.ok.above (Vt I.lt)
def Inv.nofs(I:Inv X f8 σ H s){a:Addr}(h:s.heap.objs.size<=a):a∉X.fs:=λhb=>by
 obtain⟨_,o,ho,_⟩:=I.ok.funs.mem hb;exact abE (U8 (UE ho) (U1 I.sz h)) (Vc _)
def Inv.cne(I:Inv X f8 σ H s):∀x c,X.env.cells.lookup x=some c->c≠X.env.locals:=λx c e z=>by
 obtain⟨v,o,ho,hd⟩:=I.cell x c e;obtain⟨m,⟨o',es,ep,yd,vj,_⟩,_⟩:=I.loc;rw[z,yd] at ho;cases ho;rw[vj] at hd;cases hd
def Inv.funs(I:Inv X f8 σ H s):s.heap.FunFrames X.base X.outer:=by
 have all:∀(l:List Env),(∀b∈nU l,b∈X.fs)->X.abK.heap.FunFrames X.base l->s.heap.FunFrames X.base l:=by
  intro l;induction l with
  |nil=>intro _ _;trivial
  |cons env r ih=>
   intro hs hl;obtain⟨hk,⟨L,o,hf,hn,ho,hd⟩,hr⟩:=hl;have hL:L∈X.fs:=hs L (by unfold nU;rw[Xe,hf];exact Uv);obtain⟨sl,e⟩:=I.base.slot L o ho (I.ok.frf L hL) hL λz=>I.ok.exfs L z hL;exact⟨hk,⟨L,_,hf,hn,e,hd⟩,ih (λb hb=>hs b (by unfold nU;rw[Xe,hf];exact Uu _ hb)) hr⟩
 exact all X.outer (λ_ hb=>hb) I.ok.funs
def Inv.stack(I:Inv X f8 σ H s):s.heap.FunFrames X.base X.stack:=by
 rcases I.ok.stk with e | ⟨e,hf⟩
 ·rw[e];exact I.funs
 ·rw[e];obtain⟨m,hn,_⟩:=I.loc;refine .cons (by rw[I.ok.kind];decide) hf hn ?_ I.funs;exact YL (U1 I.ok.bsz I.ok.above)
def Inv.stkSub(I:Inv X f8 σ H s):∀b∈nU X.stack,b∈X.env.locals::X.fs:=λb hb=>by
 rcases I.ok.stk with e | ⟨e,hf⟩
 ·rw[e] at hb;exact Uu _ hb
 ·rw[e] at hb;unfold nU at hb;rw[Xe,hf] at hb;exact hb
def Inv.stkFree(I:Inv X f8 σ H s):∀b∈nU X.stack,H b=none:=λb hb=>by
 rcases UD.mp (I.stkSub b hb) with e | hb
 ·rw[e];exact I.free
 ·obtain⟨_,o,ho,_⟩:=I.ok.funs.mem hb;exact I.base.free b o ho (I.ok.frf b hb) λz=>I.ok.exfs b z hb
def Inv.step{g':Array GenState}{t':Nat}{d':Drawn}{ch:List Addr}(I:Inv X f8 σ H s)
 (FJ:∀b∈ch,(b∈X.ex\/X.abK.heap.objs.size<=b)/\b≠X.env.locals/\(∀x c,X.env.cells.lookup x=some c->c≠b)/\∀p∈X.pn++f8,p.1≠b)
 (keep:∀b o,b≠X.env.locals->b∉X.fs->b∉ch->s.heap.get? b=some o->H b=none->h'.get? b=some o)
 (slot:∀b o,b≠X.env.locals->b∈X.fs->b∉ch->s.heap.get? b=some o->H b=none->∃sl,h'.get? b=some {o with slots:=sl})(free:∀b o,b∉ch->s.heap.get? b=some o->H b=none->H' b=none)
 (there:∀b o,b∉ch->s.heap.get? b=some o->∃o',h'.get? b=some o')
 (tups:∀b xs,H b=some (.tup xs)->H' b=some (.tup xs))(frzs:∀b o u,H b=some (.frz o u)->H' b=some (.frz o u))(tbls:∀b ps,H b=some (.tbl ps)->∃more,H' b=some (.tbl (ps++more)))
 (ns:∀m,s.heap.Ns X.env.locals m->h'.Ns X.env.locals m)(hok:HOk X.prog X.w H' h')(hg:Y5 g'):
 Inv X f8 σ H' {s with heap:=h',gens:=g',drawn:=d',toks:=t'}:=by
 have RY:∀b o,X.abK.heap.get? b=some o->b≠X.env.locals:=λb o e=>UW (U8 (UE e) I.ok.above);have OL:∀b o,X.abK.heap.get? b=some o->b∉X.ex->b∉ch:=λb o e hx hb=>by
  rcases(FJ b hb).1 with z | z
  ·exact hx z
  ·exact abE (U8 (UE e) z) (Vc _)
 have cellK:∀x c,X.env.cells.lookup x=some c->∀v,s.heap.IsCell c v->h'.IsCell c v:=λx c e v ⟨o,ho,hd⟩=>by
  have Nl:c∉ch:=λz=>(FJ c z).2.2.1 x c e rfl;by_cases hc:c∈X.fs
  ·obtain⟨sl,q⟩:=slot c o (I.cne x c e) hc Nl ho (I.freeC x c e);exact⟨_,q,hd⟩
  ·exact⟨o,keep c o (I.cne x c e) hc Nl ho (I.freeC x c e),hd⟩
 refine⟨I.ok,I.os,hg,⟨λb o e n hb hx=>?_,λb o e n hb hx=>?_,λb o e n hx=>?_,λb o e hx=>?_,λb xs e=>tups b xs (I.base.tups b xs e),λb o xs e=>frzs b o xs (I.base.frzs b o xs e),λb ps e=>?_⟩,?_,λx c e=>?_,?_,λx c e=>?_,λp hp=>?_,hok,I.len⟩
 ·exact keep b o (RY b o e) hb (OL b o e hx) (I.base.keep b o e n hb hx) (I.base.free b o e n hx)
 ·obtain⟨sl,e1⟩:=I.base.slot b o e n hb hx;obtain⟨Lh,e2⟩:=slot b _ (RY b o e) hb (OL b o e hx) e1 (I.base.free b o e n hx);exact⟨Lh,e2⟩
 ·obtain⟨o',e1⟩:=I.base.there b o e hx;exact free b o' (OL b o e hx) e1 (I.base.free b o e n hx)
 ·obtain⟨o',e1⟩:=I.base.there b o e hx;exact there b o' (OL b o e hx) e1
 ·obtain⟨m1,e1⟩:=I.base.tbls b ps e;obtain⟨m2,e2⟩:=tbls b _ e1;exact⟨m1++m2,by rw[e2,Y4]⟩
 ·obtain⟨m,hn,hl⟩:=I.loc;refine⟨m,ns m hn,λi x v e1 e2 e3=>?_⟩;obtain⟨u,r,l⟩:=hl i x v e1 e2 e3;refine⟨u,r,?_⟩;rcases l with l | ⟨k,c,e,z⟩
  ·exact .inl l
  ·exact .inr ⟨k,c,e,cellK x c e _ z⟩
 ·obtain⟨v,z⟩:=I.cell x c e;exact⟨v,cellK x c e v z⟩
 ·obtain⟨m,⟨o,_,_,ho,_⟩,_⟩:=I.loc;exact free _ o (λz=>(FJ _ z).2.1 rfl) ho I.free
 ·obtain⟨v,o,ho,hd⟩:=I.cell x c e;exact free c o (λz=>(FJ c z).2.2.1 x c e rfl) ho (I.freeC x c e)
 ·obtain⟨e,n,ne,nf,d⟩:=I.pin p hp;have Nl:p.1∉ch:=λz=>(FJ p.1 z).2.2.2 p hp rfl;exact⟨keep p.1 p.2 ne nf Nl e n,free p.1 p.2 Nl e n,ne,nf,d⟩
def Inv.un{t':Nat}(I:Inv X f8 σ H s)(u:Un X.fs [] H H' s.heap h')(hok:HOk X.prog X.w H' h'):Inv X f8 σ H' {s with heap:=h',toks:=t'}:=by
 obtain⟨m,⟨o,es,ep,ho,r⟩,_⟩:=id I.loc;obtain⟨sl,hL⟩:=u.any ho I.free (by simp);exact I.step (g':=s.gens) (d':=s.drawn) (ch:=[]) (λ_ z=>nomatch z) (λb o _ hb _ e n=>u.keep b o e n hb (by simp)) (λb o _ hb _ e n=>u.slot b o e n hb (by simp)) (λb o _ e n=>u.free b o e n (by simp)) (λb o _ e=>u.there b o e (by simp)) u.tups u.frzs u.tbls (λm' hm=>by
  obtain⟨o',LF,Ge,yd,r'⟩:=hm;rw[ho] at yd;cases yd;exact⟨_,LF,Ge,hL,r'⟩) hok I.bare
def Inv.call{g':Array GenState}{t':Nat}{d':Drawn}{ch:List Addr}(I:Inv X f8 σ H s)(u:Un (nU X.stack) ch H H' s.heap h')(hok:HOk X.prog X.w H' h')(hg:Y5 g')
 (FJ:∀b∈ch,(b∈X.ex\/X.abK.heap.objs.size<=b)/\b≠X.env.locals/\(∀x c,X.env.cells.lookup x=some c->c≠b)/\∀p∈X.pn++f8,p.1≠b):
 Inv X f8 σ H' {s with heap:=h',gens:=g',drawn:=d',toks:=t'}:=by
 obtain⟨m,⟨o,es,ep,ho,r⟩,_⟩:=id I.loc;obtain⟨sl,hL⟩:=u.any ho I.free λz=>(FJ _ z).2.1 rfl;exact I.step (ch:=ch) FJ (λb o hL hb hc e n=>u.keep b o e n (λz=>(UD.mp (I.stkSub b z)).elim hL hb) hc) (λb o _ _ hc e n=>u.any e n hc) (λb o hc e n=>u.free b o e n hc) (λb o hc e=>u.there b o e hc) u.tups u.frzs u.tbls (λm' hm=>by
  obtain⟨o',LF,Ge,yd,r'⟩:=hm;rw[ho] at yd;cases yd;exact⟨_,LF,Ge,hL,r'⟩) hok hg
def Inv.turned{t':Nat}{it:Addr}(I:Inv X f8 σ H s)(k:∀b o,b≠it->s.heap.get? b=some o->h'.get? b=some o)(hn:H it=none)(hL:it≠X.env.locals)
 (h1:it∈X.ex\/X.abK.heap.objs.size<=it)(h2:∀x c,X.env.cells.lookup x=some c->c≠it)(h3:∀p∈X.pn++f8,p.1≠it):Inv X f8 σ H {s with heap:=h',toks:=t'}:=by
 have IP:∀b u,H b=some u->b≠it:=λb u e z=>by rw[z,hn] at e;cases e
 refine I.step (g':=s.gens) (d':=s.drawn) (ch:=[it]) (λb hb=>?_) (λb o _ _ hc e _=>k b o (λz=>hc (by simp[z])) e) (λb o _ _ hc e _=>⟨o.slots,k b o (λz=>hc (by simp[z])) e⟩) (λ_ _ _ _ n=>n)
  (λb o hc e=>⟨o,k b o (λz=>hc (by simp[z])) e⟩) (λ_ _ e=>e) (λ_ _ _ e=>e) (λb ps e=>⟨#[],by rw[e];simp⟩) (λm hm=>?_) (λb u e=>?_) I.bare
 ·have e:b=it:=by simpa using hb
  subst e;exact⟨h1,hL,h2,h3⟩
 ·obtain⟨o,es,ep,ho,r⟩:=hm;exact⟨o,es,ep,k _ o (Vv hL) ho,r⟩
 ·refine(I.hok b u e).stay (λc v hc q=>k c v ?_ q) (λ_ q=>q) λ_ _ q=>q;rcases hc with z | z
  ·rw[z];exact IP b u e
  ·exact IP c _ z
def Inv.tok(I:Inv X f8 σ H s)(t:Nat):Inv X f8 σ H {s with toks:=t}:=I.un (h':=s.heap) (t':=t) Un.refl I.hok
def Inv.kept{t':Nat}(I:Inv X f8 σ H s)(k:∀b u,s.heap.get? b=some u->h'.get? b=some u):Inv X f8 σ H {s with heap:=h',toks:=t'}:=I.un (Un.kept k) (I.hok.kept k)
def Inv.laid{a:Addr}{o:HO}{t':Nat}(I:Inv X f8 σ H s)(k:∀b u,s.heap.get? b=some u->h'.get? b=some u)(hp:s.heap.objs.size<=a)(new:ObjOk X.prog X.w (upd H a o) h' a o):
 Inv X f8 σ (upd H a o) {s with heap:=h',toks:=t'}:=I.un (Un.laid k hp (I.hok.fresh hp)) (I.hok.laid k hp new)
def Inv.write{x e:Addr}{o:HO}{t':Nat}(I:Inv X f8 σ H s)(mu:LY (H x))(he:e=x\/H e=some (.own x))(k:∀b u,b≠e->s.heap.get? b=some u->h'.get? b=some u)(CI:∃u,h'.get? e=some u)
 (new:ObjOk X.prog X.w (upd H x o) h' x o):Inv X f8 σ (upd H x o) {s with heap:=h',toks:=t'}:=I.un (Un.write mu he k CI) (I.hok.write mu he k CI new)
def Inv.pins_of{IY:List (Addr×Obj)}(I:Inv X f8 σ H s)(h:∀p∈IY,s.heap.get? p.1=some p.2/\H p.1=none/\p.1≠X.env.locals/\p.1∉X.fs/\∀v,p.2.data≠ .cell v):Inv X IY σ H s:=
 ⟨I.ok,I.os,I.bare,I.base,I.loc,I.cell,I.free,I.freeC,λp hp=>(Vd.mp hp).elim (λz=>I.pin p (XN _ z)) (h p),I.hok,I.len⟩
def wH{N:List Str}(hN:N.Nodup){i j:Nat}{x:Str}(a:N[i]? =some x)(b:N[j]? =some x):i=j:=by
 obtain⟨h1,e1⟩:=UA.mp a;obtain⟨h2,e2⟩:=UA.mp b;exact(List.getElem_inj hN).mp (e1.trans e2.symm)
def sY{M:Model}{A:Vw}{E:Value->Ux->Prop}{i:Nat}{x:Str}{v:V}{u:Value}{Q:Unit->Ux->Prop}(I:Inv X f8 σ H s)(hN:X.N.Nodup)(hi:X.N[i]? =some x)(hx:Loc X.env.scope x)(r:RelV v u)
 (h:∀s',Inv X f8 (σ.set i (some v)) H s'->(∃a,V2 a s.heap s'.heap/\(a=X.env.locals\/X.env.cells.lookup x=some a))->Q () s')(hf:X.fn x=true\/X.env.scope.names.lookup x=some .local:=by first | exact .inl rfl | exact .inr rfl | assumption):wpAny M A (storeName X.env x u) Q E s:=by
 obtain⟨m,hn,hl⟩:=id I.loc;have Pu:(X.env.scope.kind== .class||(X.env.scope.kind== .module&&X.env.locals !=X.env.globals))=false:=by rw[I.ok.kind];rfl
 have RD:i<σ.length:=by rw[I.len];exact(UA.mp hi).1
 have cne:=I.cne;have tracked:∀{a:Addr}{h':Heap},(∃o,s.heap.get? a=some o/\H a=none)->V2 a s.heap h'->HOk X.prog X.w H h':=λ{a h'} ha hs b ob e=>by
  obtain⟨_,_,IB⟩:=ha;refine(I.hok b ob e).stay (λc w' hc q=>(hs.2 c ?_).trans q) (λ_ q=>q) λ_ _ q=>q;rintro rfl;rcases hc with rfl | hc
  ·rw[IB] at e;cases e
  ·rw[IB] at hc;cases hc
 rcases hx with hk | hk
 ·refine wpAny_storeName_local hk hn (λh' OD hs=>?_) Pu;obtain⟨oL,_,_,Af,_⟩:=id hn;refine h _ ⟨I.ok,I.os,I.bare,⟨λb o e n hb hx=>?_,λb o e n hb hx=>?_,I.base.free,λb o e hx=>?_,I.base.tups,I.base.frzs,I.base.tbls⟩,⟨_,OD,λj y v' e1 e2 e3=>?_⟩,λy c e=>?_,I.free,I.freeC,λp hp=>?_,tracked ⟨oL,Af,I.free⟩ hs,by simpa using I.len⟩ ⟨_,hs, .inl rfl⟩
  ·exact(hs.2 b (UW (U8 (UE e) I.ok.above))).trans (I.base.keep b o e n hb hx)
  ·obtain⟨sl,e1⟩:=I.base.slot b o e n hb hx;exact⟨sl,(hs.2 b (UW (U8 (UE e) I.ok.above))).trans e1⟩
  ·obtain⟨o',e1⟩:=I.base.there b o e hx;exact⟨o',(hs.2 b (UW (U8 (UE e) I.ok.above))).trans e1⟩
  ·by_cases hj:j=i
   ·subst hj;rw[hi] at e1;cases e1;rw[UQ RD] at e2;cases e2;exact⟨u,r, .inl ⟨hk,by simp⟩⟩
   ·rw[UM (Vv hj)] at e2;obtain⟨u',r',q⟩:=hl j y v' e1 e2 e3;refine⟨u',r',?_⟩;rcases q with⟨k,e⟩ | ⟨k,c,e,z⟩
    ·refine .inl ⟨k,?_⟩;have:y≠x:=λe=>hj (wH hN e1 (e▸hi));simp[this,e]
    ·exact .inr ⟨k,c,e,z.sameBut hs (cne y c e)⟩
  ·obtain⟨w',z⟩:=I.cell y c e;exact⟨w',z.sameBut hs (cne y c e)⟩
  ·obtain⟨e,n,ne,nf,d⟩:=I.pin p hp;exact⟨(hs.2 p.1 ne).trans e,n,ne,nf,d⟩
 ·have PK:X.fn x=true:=by
   rcases hf with z | z
   ·exact z
   ·rw[z] at hk;cases hk
  obtain⟨c,hc⟩:=I.ok.has x (.inl hk);obtain⟨w',z⟩:=I.cell x c hc;refine wpAny_storeName_cell I.ok.kind hk hc z (λh' r9 hs=>?_);obtain⟨oc,J0,P6⟩:=id z;refine h {s with heap:=h'} ⟨I.ok,I.os,I.bare,⟨λb o e n hb hx=>?_,λb o e n hb hx=>?_,I.base.free,λb o e hx=>?_,I.base.tups,I.base.frzs,I.base.tbls⟩,⟨m,hn.sameBut hs (Vv (cne x c hc)),λj y v' e1 e2 e3=>?_⟩,λy c' e=>?_,I.free,I.freeC,λp hp=>?_,tracked ⟨oc,J0,I.freeC x c hc⟩ hs,by simpa using I.len⟩ ⟨c,hs, .inr hc⟩
  ·exact(hs.2 b (UW (U8 (UE e) (I.ok.cab x c PK hc)))).trans (I.base.keep b o e n hb hx)
  ·obtain⟨sl,e1⟩:=I.base.slot b o e n hb hx;exact⟨sl,(hs.2 b (UW (U8 (UE e) (I.ok.cab x c PK hc)))).trans e1⟩
  ·obtain⟨o',e1⟩:=I.base.there b o e hx;exact⟨o',(hs.2 b (UW (U8 (UE e) (I.ok.cab x c PK hc)))).trans e1⟩
  ·by_cases hj:j=i
   ·subst hj;rw[hi] at e1;cases e1;rw[UQ RD] at e2;cases e2;exact⟨u,r, .inr ⟨.inl hk,c,hc,r9⟩⟩
   ·rw[UM (Vv hj)] at e2;obtain⟨u',r',q⟩:=hl j y v' e1 e2 e3;refine⟨u',r',?_⟩;rcases q with q | ⟨k,c',e,z'⟩
    ·exact .inl q
    ·refine .inr ⟨k,c',e,z'.sameBut hs ?_⟩;rintro rfl;exact hj (wH hN e1 (I.ok.inj _ _ _ e hc▸hi))
  ·by_cases LI:c'=c
   ·subst LI;exact⟨_,r9⟩
   ·obtain⟨w2,z2⟩:=I.cell y c' e;exact⟨w2,z2.sameBut hs LI⟩
  ·obtain⟨e,n,ne,nf,d⟩:=I.pin p hp;refine⟨(hs.2 p.1 ?_).trans e,n,ne,nf,d⟩;intro q;rw[q,J0] at e;have q':oc=p.2:=U9 e;exact d w' (by rw[<-q'];exact P6)
def qH{M:Model}{A:Vw}{E:Value->Ux->Prop}{i:Nat}{x:Str}{v:V}{u:Value}{Q:Unit->Ux->Prop}(I:Inv X f8 σ H s)(hN:X.N.Nodup)(hi:X.N[i]? =some x)(hx:Loc X.env.scope x)(r:RelV v u)
 (h:∀s',Inv X f8 (σ.set i (some v)) H s'->Q () s')(hf:X.fn x=true\/X.env.scope.names.lookup x=some .local:=by first | exact .inl rfl | exact .inr rfl | assumption):wpAny M A (storeName X.env x u) Q E s:=
 sY I hN hi hx r (λs' I' _=>h s' I') hf
def Inv.call'{s':Ux}{ch:List Addr}(I:Inv X f8 σ H s)(ho:s'.os=s.os)(u:Un (nU X.stack) ch H H' s.heap s'.heap)(hok:HOk X.prog X.w H' s'.heap)(hg:Y5 s'.gens)
 (FJ:∀b∈ch,(b∈X.ex\/X.abK.heap.objs.size<=b)/\b≠X.env.locals/\(∀x c,X.env.cells.lookup x=some c->c≠b)/\∀p∈X.pn++f8,p.1≠b):Inv X f8 σ H' s':=by
 obtain⟨h',g',d',t',o'⟩:=s';have e:o'=s.os:=ho;subst e;exact I.call (g':=g') (t':=t') (d':=d') u hok hg FJ
end
abbrev XK:=Value->Option Addr->Hp->Prop
abbrev St:=List (Option V)
abbrev VK:=V->Hp->Prop
abbrev TE:=St->Hp->VK->Prop
abbrev TT:=St->Hp->(Bool->Hp->Prop)->Prop
abbrev TA:=St->Hp->(List V->Hp->Prop)->Prop
structure Ends where
 nx:St->Hp->Prop
 rt:VK
 bk:St->Hp->Prop:=λ_ _=>False
 ct:St->Hp->Prop:=λ_ _=>False
abbrev TS:=Ends->St->Hp->Prop
def EP(X:Cx)(f8:List (Addr×Obj))(σ:St)(Q:VK)(u:Value)(s':Ux):Prop:=∃v H',Inv X f8 σ H' s'/\RelV v u/\Q v H'
def TP(X:Cx)(f8:List (Addr×Obj))(σ:St)(Q:Bool->Hp->Prop)(b:Bool)(s':Ux):Prop:=∃H',Inv X f8 σ H' s'/\Q b H'
def AP(X:Cx)(f8:List (Addr×Obj))(σ:St)(Q:List V->Hp->Prop)(us:List Value)(s':Ux):Prop:=∃vs H',Inv X f8 σ H' s'/\Vals vs us/\Q vs H'
def SP(X:Cx)(f8:List (Addr×Obj))(D:Ends)(f:Flow)(s':Ux):Prop:=
 match f with
 | .next=>∃σ' H',Inv X f8 σ' H' s'/\D.nx σ' H'
 | .brk=>∃σ' H',Inv X f8 σ' H' s'/\D.bk σ' H'
 | .cont=>∃σ' H',Inv X f8 σ' H' s'/\D.ct σ' H'
 | .ret u=>∃v σ' H',Inv X f8 σ' H' s'/\RelV v u/\D.rt v H'
def PE(X:Cx)(e:Expr)(t:TE):Prop:=
 ∀(f8:List (Addr×Obj)) (s:Ux) (σ:St) (H:Hp) (Q:VK),Inv X f8 σ H s->t σ H Q->wpAny (model X.prog X.w) X.A (eval e X.env) (EP X f8 σ Q) X.xe s
def PT(X:Cx)(e:Expr)(t:TT):Prop:=
 ∀(f8:List (Addr×Obj)) (s:Ux) (σ:St) (H:Hp) (Q:Bool->Hp->Prop),Inv X f8 σ H s->t σ H Q->wpAny (model X.prog X.w) X.A (isTrue e X.env (eval e X.env)) (TP X f8 σ Q) X.xe s
def PW(X:Cx)(e:Expr)(t:TT):Prop:=
 ∀(whole:Sem Value) (f8:List (Addr×Obj)) (s:Ux) (σ:St) (H:Hp) (Q:Bool->Hp->Prop),Inv X f8 σ H s->t σ H Q->wpAny (model X.prog X.w) X.A (isTrue e X.env whole) (TP X f8 σ Q) X.xe s
def PW.pt{X:Cx}{e:Expr}{t:TT}(h:PW X e t):PT X e t:=h _
def PA(X:Cx)(es:List Expr)(t:TA):Prop:=
 ∀(pos:Pos) (f8:List (Addr×Obj)) (s:Ux) (σ:St) (H:Hp) (Q:List V->Hp->Prop),Inv X f8 σ H s->t σ H Q->wpAny (model X.prog X.w) X.A (spliced (W6 pos (US es X.env))) (AP X f8 σ Q) X.xe s
def PS(X:Cx)(st:Stmt)(t:TS):Prop:=
 ∀(f8:List (Addr×Obj)) (s:Ux) (σ:St) (H:Hp) (D:Ends),Inv X f8 σ H s->t D σ H->wpAny (model X.prog X.w) X.A (exec st X.env) (SP X f8 D) X.xe s
def PSs(X:Cx)(st:List Stmt)(t:TS):Prop:=
 ∀(f8:List (Addr×Obj)) (s:Ux) (σ:St) (H:Hp) (D:Ends),Inv X f8 σ H s->t D σ H->wpAny (model X.prog X.w) X.A (execs st X.env) (SP X f8 D) X.xe s
def bx{α:Type}{t:Sem α}{Q Q':α->Ux->Prop}{M:Model}{A:Vw}{E:Value->Ux->Prop}{s:Ux}(h:wpAny M A t Q E s)(hQ:∀a s,Q a s->Q' a s):wpAny M A t Q' E s:=VN h hQ λ_ _ x=>x
section
variable{X:Cx}
def bin{a b:Expr}{ta tb:TE}(ha:PE X a ta)(hb:PE X b tb){f8:List (Addr×Obj)}{s:Ux}{σ:St}{H:Hp}{R:V->V->Hp->Prop}(I:Inv X f8 σ H s)(h:ta σ H λx H1=>tb σ H1 λy H2=>R x y H2)
 {α:Type}{Q:α->Ux->Prop}{f:Value->Value->Sem α}
 (hf:∀v u s2 x y H2,Inv X f8 σ H2 s2->RelV x v->RelV y u->R x y H2->wpAny (model X.prog X.w) X.A (f v u) Q X.xe s2):
 wpAny (model X.prog X.w) X.A (eval a X.env) (λv W1=>wpAny (model X.prog X.w) X.A (eval b X.env) (λu u8=>wpAny (model X.prog X.w) X.A (f v u) Q X.xe u8) X.xe W1) X.xe s:=by
 refine bx (ha f8 s σ H _ I h) λv s1 ⟨x,H1,I1,r1,q1⟩=>?_;refine bx (hb f8 s1 σ H1 _ I1 q1) λu s2 ⟨y,H2,I2,r2,q2⟩=>?_;exact hf v u s2 x y H2 I2 r1 r2 q2
def ky(i:Nat):TE:=λσ H Q=>∃v,σ[i]? =some (some v)/\Q v H
def tC(v:V):TE:=λ_ H Q=>Q v H
def K3{i:Nat}{x:Str}{pos:Pos}(hN:X.N[i]? =some x)(hv:O4 X.env.scope x)(hd:(x==("__debug__":Str))=false:=by decide)(yb:(x==("__classdict__":Str))=false:=by decide):PE X (.Name x pos) (ky i):=by
 intro f8 s σ H Q I h;obtain⟨v,e,h⟩:=h;obtain⟨m,hn,hl⟩:=I.loc;obtain⟨u,r,l⟩:=hl i x v hN e hv;have fin:EP X f8 σ Q u s:=⟨v,H,I,r,h⟩
 rcases l with⟨hk,hm⟩ | ⟨hk,c,hc,Ac⟩
 ·exact wpAny_Name (wpAny_loadName_local I.ok.kind hk hn hm fin) hd
 ·rcases hk with hk | hk
  ·exact wpAny_Name (wpAny_loadName_cell I.ok.kind hk hc Ac fin) hd
  ·exact wpAny_Name (wpAny_loadName_free I.ok.kind hk hc Ac fin yb) hd
def KR{i j pos}:PE X (.Constant (.int i) j pos) (tC (.int i)):=λ_ _ _ H _ I h=>wpAny_Constant_int ⟨.int i,H,I.tok _,⟨_,rfl⟩,h⟩
def IV{b j pos}:PE X (.Constant (.bool b) j pos) (tC (.bl b)):=λ_ _ _ H _ I h=>Constant_bool ⟨.bl b,H,I,rfl,h⟩
def KS{j pos}:PE X (.Constant .none j pos) (tC .non):=λ_ _ _ H _ I h=>Constant_none ⟨.non,H,I,rfl,h⟩
def KZ{x j pos}:PE X (.Constant (.str x) j pos) (tC (.str x)):=λ_ _ _ H _ I h=>Calls.Constant_str ⟨.str x,H,I.tok _,⟨_,rfl⟩,h⟩
def Gl(X:Cx)(x:Str):Prop:=X.env.kindOf x=some .globalImplicit
def As{E:Value->Ux->Prop}{f8:List (Addr×Obj)}{s:Ux}{σ:St}{H:Hp}{x:Str}{u:Value}{pos:Pos}{Q:Value->Ux->Prop}(I:Inv X f8 σ H s)(hg:Gl X x)(hm:X.mg x=some u)(h:Q u s)
 (hd:(x==("__debug__":Str))=false:=by decide):wpAny (model X.prog X.w) X.A (eval (.Name x pos) X.env) Q E s:=
 ZT I.ok.kind hg (Calls.loadGlobal_global (by rw[I.ok.glob];exact I.mod.glob.keeps I.bk) hm h) hd
def iM{E:Value->Ux->Prop}{f8:List (Addr×Obj)}{s:Ux}{σ:St}{H:Hp}{x:Str}{u:Value}{pos:Pos}{Q:Value->Ux->Prop}(I:Inv X f8 σ H s)(hg:Gl X x)(hm:X.mg x=none)(hv:Vh x=some u)(h:Q u s)
 (hn:x≠"__name__":=by decide)(hd:(x==("__debug__":Str))=false:=by decide):wpAny (model X.prog X.w) X.A (eval (.Name x pos) X.env) Q E s:=by
 obtain⟨mb,h1,h2⟩:=I.mod.blt;exact ZT I.ok.kind hg (Calls.loadGlobal_builtin (by rw[I.ok.glob];exact I.mod.glob.keeps I.bk) hm (by rw[I.ok.blt];exact h1.keeps I.bk) ((h2 x hn).trans hv) h) hd
def Hv{x:Str}{v:V}{u:Value}{pos:Pos}(hg:Gl X x)(hm:X.mg x=some u)(r:RelV v u)(hd:(x==("__debug__":Str))=false:=by decide):PE X (.Name x pos) (tC v):=
 λ_ _ _ H _ I h=>As I hg hm ⟨v,H,I,r,h⟩ hd
def Hq{x:Str}{v:V}{u:Value}{pos:Pos}(hg:Gl X x)(hm:X.mg x=none)(hv:Vh x=some u)(r:RelV v u)(hn:x≠"__name__":=by decide)(hd:(x==("__debug__":Str))=false:=by decide):PE X (.Name x pos) (tC v):=
 λ_ _ _ H _ I h=>iM I hg hm hv ⟨v,H,I,r,h⟩ hn hd
variable{a b:Expr}{ta tb:TE}{pos:Pos}
def PC(X:Cx)(op:CmpOp)(a b:Expr)(t:TE):Prop:=
 ∀(f8:List (Addr×Obj)) (s:Ux) (σ:St) (H:Hp) (Q:VK),Inv X f8 σ H s->t σ H Q->
  wpAny (model X.prog X.w) X.A (eval a X.env) (λv W1=>wpAny (model X.prog X.w) X.A (eval b X.env) (λu u8=>wpAny (model X.prog X.w) X.A (VP op v u) (EP X f8 σ Q) X.xe u8) X.xe W1) X.xe s
def Eg(b:Expr){op:CmpOp}(h:op≠ .In)(h2:op≠ .NotIn):VF op b=false:=by
 have e1:(op==CmpOp.In)=false:=by cases op<;>first | rfl | exact abE rfl h
 have e2:(op==CmpOp.NotIn)=false:=by cases op<;>first | rfl | exact abE rfl h2
 cases b<;>simp[VF,e1,e2]
def KQ{op:CmpOp}{t:TE}(h:PC X op a b t)(h1:VF op b=false:=by first | exact Eg _ (by decide) (by decide) | rfl):PE X (.Compare a [op] [b] pos) t:=λf8 s σ H Q I hw=>wpAny_Compare1 (h f8 s σ H Q I hw) h1
variable{tA eO:TT}{rest:List Expr}
def T7(t u:TT):TT:=λσ H Q=>t σ H λc H1=>if c=true then Q true H1 else u σ H1 Q
def QR(t:TT):TT:=λσ H Q=>t σ H λc H1=>Q (!c) H1
def K_(ha:PT X a tA):PW X (.BoolOp .Or [a] pos) tA:=by
 intro wh f8 s σ H Q I h;refine isTrue_or (bx (ha f8 s σ H Q I h) λc s1 e=>?_);cases c with
 |false=>exact isTrue_or_nil e
 |true=>exact e
def NJ(ha:PT X a tA)(hb:PW X (.BoolOp .Or (b::rest) pos) eO):PW X (.BoolOp .Or (a::b::rest) pos) (T7 tA eO):=by
 intro wh f8 s σ H Q I h;refine isTrue_or (bx (ha f8 s σ H _ I h) λc s1 ⟨H1,I1,q1⟩=>?_);cases c with
 |true=>exact⟨H1,I1,q1⟩
 |false=>exact hb wh f8 s1 σ H1 Q I1 q1
def K8(ha:PT X a tA):PT X (.UnaryOp .Not a pos) (QR tA):=by
 intro f8 s σ H Q I h;exact isTrue_not (ha f8 s σ H (λc H1=>Q (!c) H1) I h)
def N3(ta tb:TE):TE:=λσ H Q=>ta σ H λx H1=>∃c,x= .bl c/\if c=true then tb σ H1 Q else Q (.bl false) H1
def N9(ta:TE):TE:=λσ H Q=>ta σ H λx H1=>∃c,x= .bl c/\Q (.bl (!c)) H1
def KW{op}{t:TE}(h:PE X a t):PE X (.BoolOp op [a] pos) t:=λf8 s σ H Q I hw=>BoolOp_one (h f8 s σ H Q I hw)
def KP(ha:PE X a ta)(hb:PE X (.BoolOp .And (b::rest) pos) tb):PE X (.BoolOp .And (a::b::rest) pos) (N3 ta tb):=by
 intro f8 s σ H Q I h;refine BoolOp_and (bx (ha f8 s σ H _ I h) λv s1 ⟨x,H1,I1,r1,q1⟩=>?_);obtain⟨c,rfl,q1⟩:=q1;cases r1;refine Wq ?_;cases c with
 |true=>exact hb f8 s1 σ H1 Q I1 q1
 |false=>exact⟨.bl false,H1,I1,rfl,q1⟩
def KU(ha:PE X a ta):PE X (.UnaryOp .Not a pos) (N9 ta):=by
 intro f8 s σ H Q I h;refine UnaryOp_ (bx (ha f8 s σ H _ I h) λv s1 ⟨x,H1,I1,r1,q1⟩=>?_);obtain⟨c,rfl,q1⟩:=q1;cases r1;exact not_of (Wq ⟨.bl (!c),H1,I1,rfl,q1⟩)
end
def SqL(K:UJ)(H:Hp)(a:Addr)(xs:List V):Prop:=
 Rd H a (.lst xs)\/
  ∃(o:Obj) (aD:Array Value) (n:Nat),K.lookup a=some o/\o.cls= .type "list"/\o.dict=none/\o.data= .seq aD n/\aD.size<=UR/\Vals xs aD.toList
def SqT(K:UJ)(H:Hp)(a:Addr)(xs:List V):Prop:=
 Rd H a (.tup xs)\/
  ∃(o:Obj) (aD:Array Value) (n:Nat),K.lookup a=some o/\o.cls= .type "tuple"/\o.data= .seq aD n/\aD.size<=UR/\Vals xs aD.toList
def O5:Value->Option V
 | .none=>some .non
 | .bool b=>some (.bl b)
 | .int i _=>some (.int i)
 | .str x _=>some (.str x)
 | .bytes b _=>some (.byt b)
 | .float b _=>some (.flt b)
 | .ref a=>some (.ref a)
 | .type n=>some (.ty n)
 |_=>none
def RelV.abs{x:V}{u:Value}(r:RelV x u):O5 u=some x:=by
 cases x with
 |non=>cases r;rfl
 |bl _=>cases r;rfl
 |int _=>obtain⟨t,rfl⟩:=r;rfl
 |str _=>obtain⟨t,rfl⟩:=r;rfl
 |byt _=>obtain⟨t,rfl⟩:=r;rfl
 |flt _=>obtain⟨t,rfl⟩:=r;rfl
 |ref _=>cases r;rfl
 |ty _=>cases r;rfl
def RelV.inj{x y:V}{u:Value}(r:RelV x u)(q:RelV y u):x=y:=U9 (r.abs.symm.trans q.abs)
def Vals.inj:∀{xs ys:List V}{us:List Value},Vals xs us->Vals ys us->xs=ys
 |_,_,_, .nil, .nil=>rfl
 |_,_,_, .cons r t, .cons r' t'=>by rw[r.inj r',Vals.inj t t']
section
variable{X:Cx}{f8:List (Addr×Obj)}{σ:St}{H:Hp}{s:Ux}{a:Addr}{xs ys:List V}
def SqL.of{K:UJ}(h:H a=some (.lst xs)):SqL K H a xs:= .inl (.inl h)
def SqT.of{K:UJ}(h:H a=some (.tup xs)):SqT K H a xs:= .inl (.inl h)
def Inv.list(I:Inv X f8 σ H s)(h:SqL X.K H a xs):∃aD:List Value,Vals xs aD/\PlainL s.heap a aD.toArray/\xs.length<=UR:=by
 rcases h with h | ⟨o,aD,n,hk,hc,hd,hs,hz,r⟩
 ·obtain⟨z,aD,n,r,e⟩:=h.ok I.hok;exact⟨aD,r,⟨_,n,e,rfl,rfl,rfl⟩,z⟩
 ·refine⟨aD.toList,r,⟨o,n,I.kIn a o hk,hc,hd,by simpa using hs⟩,?_⟩;have e:=r.length;simp only[UL] at e;omega
def Inv.tuple(I:Inv X f8 σ H s)(h:SqT X.K H a xs):∃aD:List Value,Vals xs aD/\IsTup s.heap a aD.toArray/\xs.length<=UR:=by
 rcases h with h | ⟨o,aD,n,hk,hc,hs,hz,r⟩
 ·obtain⟨z,aD,r,p⟩:=h.ok I.hok;exact⟨aD,r,p,z⟩
 ·refine⟨aD.toList,r,⟨o,I.kIn a o hk,hc,n,by simpa using hs⟩,?_⟩;have e:=r.length;simp only[UL] at e;omega
def Inv.list_inj(I:Inv X f8 σ H s)(h:SqL X.K H a xs)(h':SqL X.K H a ys):xs=ys:=by
 obtain⟨aD,r,⟨o,n,e,_,_,d⟩,_⟩:=I.list h;obtain⟨its',r',⟨o',n',e',_,_,d'⟩,_⟩:=I.list h';rw[e] at e';cases e';rw[d] at d';injection d' with d1 _
 have:aD=its':=by simpa using abG Array.toList d1
 subst this;exact r.inj r'
def Inv.tuple_inj(I:Inv X f8 σ H s)(h:SqT X.K H a xs)(h':SqT X.K H a ys):xs=ys:=by
 obtain⟨aD,r,⟨o,e,_,n,d⟩,_⟩:=I.tuple h;obtain⟨its',r',⟨o',e',_,n',d'⟩,_⟩:=I.tuple h';rw[e] at e';cases e';rw[d] at d';injection d' with d1 _
 have:aD=its':=by simpa using abG Array.toList d1
 subst this;exact r.inj r'
end
abbrev Cx.wish(X:Cx)(E:Value->Ux->Prop):Cx:={X with xe:=E}
abbrev Cx.nox(X:Cx):Cx:=X.wish λ_ _=>False
def Cx.Ok.wish{X:Cx}(ok:X.Ok)(E:Value->Ux->Prop):(X.wish E).Ok:=
 ⟨ok.mod,ok.kind,ok.glob,ok.blt,ok.above,ok.inj,ok.has,ok.cab,ok.hd,ok.frames,ok.stk,ok.exf,ok.bs,ok.bsz,ok.noex,ok.exfs,ok.funs,ok.frf⟩
def Cx.Ok.unwish{X:Cx}{E:Value->Ux->Prop}(ok:(X.wish E).Ok):X.Ok:=
 ⟨ok.mod,ok.kind,ok.glob,ok.blt,ok.above,ok.inj,ok.has,ok.cab,ok.hd,ok.frames,ok.stk,ok.exf,ok.bs,ok.bsz,ok.noex,ok.exfs,ok.funs,ok.frf⟩
section
variable{X:Cx}{f8:List (Addr×Obj)}{σ:St}{H:Hp}{s:Ux}{E:Value->Ux->Prop}
def Inv.wish(I:Inv X f8 σ H s)(E:Value->Ux->Prop):Inv (X.wish E) f8 σ H s:=⟨I.ok.wish E,I.os,I.bare,I.base,I.loc,I.cell,I.free,I.freeC,I.pin,I.hok,I.len⟩
def Inv.unwish(I:Inv (X.wish E) f8 σ H s):Inv X f8 σ H s:=⟨I.ok.unwish,I.os,I.bare,I.base,I.loc,I.cell,I.free,I.freeC,I.pin,I.hok,I.len⟩
def SP.unwish{D:Ends}{f:Flow}{s':Ux}(h:SP (X.wish E) f8 D f s'):SP X f8 D f s':=by
 cases f with
 |next=>obtain⟨σ',H',I,q⟩:=h;exact⟨σ',H',I.unwish,q⟩
 |brk=>obtain⟨σ',H',I,q⟩:=h;exact⟨σ',H',I.unwish,q⟩
 |cont=>obtain⟨σ',H',I,q⟩:=h;exact⟨σ',H',I.unwish,q⟩
 |ret u=>obtain⟨v,σ',H',I,r,q⟩:=h;exact⟨v,σ',H',I.unwish,r,q⟩
def PE.nox{e:Expr}{t:TE}(h:PE X.nox e t):PE X e t:=λf8 s σ H Q I hw=>
 VN (h f8 s σ H Q (I.wish _) hw) (λ_ _ ⟨v,H',I',r,q⟩=>⟨v,H',I'.unwish,r,q⟩) λ_ _ z=>WS z
def PT.nox{e:Expr}{t:TT}(h:PT X.nox e t):PT X e t:=λf8 s σ H Q I hw=>
 VN (h f8 s σ H Q (I.wish _) hw) (λ_ _ ⟨H',I',q⟩=>⟨H',I'.unwish,q⟩) λ_ _ z=>WS z
def PSs.nox{st:List Stmt}{t:TS}(h:PSs X.nox st t):PSs X st t:=λf8 s σ H D I hw=>
 VN (h f8 s σ H D (I.wish _) hw) (λ_ _ q=>q.unwish) λ_ _ z=>WS z
end
section
variable{X:Cx}{st:Stmt}{rest:List Stmt}{t u:TS}{e:Expr}{te:TE}{pos:Pos}
def Jd:TS:=λD σ H=>D.nx σ H
def Oc(t u:TS):TS:=λD σ H=>t {D with nx:=u D} σ H
def AS:PSs X [] Jd:=λ_ _ σ H _ I h=>YU ⟨σ,H,I,h⟩
def xl(h1:PS X st t)(h2:PSs X rest u):PSs X (st::rest) (Oc t u):=by
 intro f8 s σ H D I h;refine wpAny_execs_cons (bx (h1 f8 s σ H {D with nx:=u D} I h) λf s1 q=>?_);cases f with
 |next=>
  obtain⟨σ',H',I',q⟩:=q;exact h2 f8 s1 σ' H' D I' q
 |ret v=>exact q
 |brk=>exact q
 |cont=>exact q
def oH(h1:PS X st t):PSs X [st] t:=by
 intro f8 s σ H D I h;refine wpAny_execs_cons (bx (h1 f8 s σ H D I h) λf s1 q=>?_);cases f with
 |next=>exact YU q
 |ret v=>exact q
 |brk=>exact q
 |cont=>exact q
def Inv.quiet{f8:List (Addr×Obj)}{σ:St}{H:Hp}{s:Ux}(I:Inv X f8 σ H s):interactive X.env=false:=by simp[interactive,I.ok.kind]
def Ft(te:TE):TS:=λD σ H=>te σ H λ_ H1=>D.nx σ H1
def oF(he:PE X e te)(hs:X6 e none pos.line X.env=pure false:=by rfl):PS X (.Expr e pos) (Ft te):=by
 intro f8 s σ H D I h;exact wpAny_Expr_any (bx (he f8 s σ H _ I h) λv s1 ⟨x,H1,I1,r1,q1⟩=>⟨σ,H1,I1,q1⟩) I.quiet hs
def QT(te:TE):TS:=λD σ H=>te σ H D.rt
def K7(he:PE X e te):PS X (.Return (some e) pos) (QT te):=by
 intro f8 s σ H D I h;exact wpAny_Return_some (bx (he f8 s σ H _ I h) λv s1 ⟨x,H1,I1,r1,q1⟩=>⟨x,σ,H1,I1,r1,q1⟩)
def N8(c:TT)(t u:TS):TS:=λD σ H=>c σ H λb H1=>if b=true then t D σ H1 else u D σ H1
def I8{c:Expr}{a b:List Stmt}{tc:TT}(hc:PT X c tc)(ha:PSs X a t)(hb:PSs X b u):PS X (.If c a b pos) (N8 tc t u):=by
 intro f8 s σ H D I h;refine wpAny_If (bx (hc f8 s σ H _ I h) λd s1 ⟨H1,I1,q1⟩=>?_);cases d with
 |true=>exact ha f8 s1 σ H1 D I1 q1
 |false=>exact hb f8 s1 σ H1 D I1 q1
end
abbrev TG:=V->St->Hp->(St->Hp->Prop)->Prop
abbrev Ii:=List V->St->Hp->(St->Hp->Prop)->Prop
def PG(X:Cx)(target:Expr)(t:TG):Prop:=
 ∀(f8:List (Addr×Obj)) (s:Ux) (σ:St) (H:Hp) (v:V) (u:Value) (Q:St->Hp->Prop),Inv X f8 σ H s->RelV v u->t v σ H Q->
  wpAny (model X.prog X.w) X.A (assign target X.env u) (λ_ s'=>∃σ' H',Inv X f8 σ' H' s'/\Q σ' H') X.xe s
def Om(X:Cx)(ts:List Expr)(t:Ii):Prop:=
 ∀(f8:List (Addr×Obj)) (s:Ux) (σ:St) (H:Hp) (vs:List V) (us:List Value) (Q:St->Hp->Prop),Inv X f8 σ H s->Vals vs us->t vs σ H Q->
  wpAny (model X.prog X.w) X.A (assignInOrder ((WQ ts X.env).map (·.2)) us) (λ_ s'=>∃σ' H',Inv X f8 σ' H' s'/\Q σ' H') X.xe s
abbrev O0:=V->V->V->Hp->(Hp->Prop)->Prop
section
variable{X:Cx}{pos:Pos}
def jL(i:Nat):TG:=λv σ H Q=>Q (σ.set i (some v)) H
def aQ{i:Nat}{x:Str}(hN:X.N.Nodup)(hi:X.N[i]? =some x)(hx:Loc X.env.scope x)(hf:X.fn x=true\/X.env.scope.names.lookup x=some .local:=by first | exact .inl rfl | exact .inr rfl | assumption):PG X (.Name x pos) (jL i):=by
 intro f8 s σ H v u Q I r h;exact Yu (qH I hN hi hx r (λs' I'=>⟨_,H,I',h⟩) hf)
def Mh:Ii:=λvs σ H Q=>vs=[]/\Q σ H
def Iy(t:TG)(u:Ii):Ii:=λvs σ H Q=>∃v r,vs=v::r/\t v σ H λσ' H'=>u r σ' H' Q
def AN:Om X [] Mh:=by
 intro f8 s σ H vs us Q I r h;obtain⟨e,h⟩:=h;subst e;cases r;exact assignInOrder_nil ⟨σ,H,I,h⟩
def lG{e:Expr}{es:List Expr}{t:TG}{u:Ii}(h1:PG X e t)(h2:Om X es u)
 (hs:(WQ (e::es) X.env).map (·.2)=assign e X.env::(WQ es X.env).map (·.2):=by rfl):Om X (e::es) (Iy t u):=by
 intro f8 s σ H vs us Q I r h;obtain⟨v,vr,e1,h⟩:=h;subst e1;cases r with
 |cons r rr=>
  rw[hs];refine assignInOrder_cons (bx (h1 f8 s σ H _ _ _ I r h) λ_ s1 ⟨σ1,H1,I1,q1⟩=>?_);exact h2 f8 s1 σ1 H1 _ _ Q I1 rr q1
def JE(K:UJ)(n:Nat)(t:Ii):TG:=λv σ H Q=>∃a xs,v= .ref a/\SqT K H a xs/\xs.length=n/\t xs σ H Q
def EL{es:List Expr}{k:Nat}{t:Ii}{n:Nat}(hc:X.calm=true)(h:Om X es t)
 (hn:(WQ es X.env).length=n:=by rfl)(wa:(WQ es X.env).findIdx? (·.1)=none:=by rfl):PG X (.Tuple es k pos) (JE X.K n t):=by
 intro f8 s σ H v u Q I r hw;obtain⟨a,xs,e1,hq,hl,hw⟩:=hw;subst e1;cases r;obtain⟨aD,rv,ht,hz⟩:=I.tuple hq;refine assign_Tuple_tuple (I.ok.hd hc) ht (by simp[hn,<-hl,rv.length]) wa λh' hx=>?_;have I1:Inv X f8 σ H {s with heap:=h'}:=I.kept (t':=s.toks) λb o e=>hx b o (UW (UE e)) e;exact h f8 _ σ H xs _ Q I1 (by simpa using rv) hw
def yA(to ti:TE)(t:O0):TG:=λv σ H Q=>to σ H λo H1=>ti σ H1 λi H2=>t o i v H2 λH3=>Q σ H3
def N4(te:TE)(g:TG):TS:=λD σ H=>te σ H λx H1=>g x σ H1 D.nx
def mD{tg e:Expr}{te:TE}{g:TG}(he:PE X e te)(hg:PG X tg g)(hs:Zz [tg] e pos.line X.env=pure false:=by rfl)(hw:swappedStores [tg] e X.env=pure none:=by rfl)
 (h1:(WQ [tg] X.env).map (·.2)=[assign tg X.env]:=by rfl):PS X (.Assign [tg] e pos) (N4 te g):=by
 intro f8 s σ H D I h;refine wpAny_Assign_stores (bx (he f8 s σ H _ I h) λv s1 ⟨x,H1,I1,r1,q1⟩=>?_) hs hw;rw[h1];exact bx (hg f8 s1 σ H1 x v _ I1 r1 q1) λ_ s2 q=>q
end
section
variable{X:Cx}{pos:Pos}
def Lr(c:TT)(tb:TS):TS:=λD σ H=>∃W:Nat->St->Hp->Prop,(∃m,W m σ H)/\∀m σ H,W m σ H->
 c σ H λb H1=>if b=true then∃N:St->Hp->Prop,(∀σ' H',N σ' H'->∃m',m'<m/\W m' σ' H')/\tb {D with nx:=N,ct:=N,bk:=D.nx} σ H1 else D.nx σ H1
def EO{c:Expr}{body:List Stmt}{tc:TT}{tb:TS}(hp:aaz (model X.prog X.w) X.A X.env X.xe)(hc:PT X c tc)(hb:PSs X body tb):PS X (.While c body [] pos) (Lr tc tb):=by
 intro f8 s σ H D I h;obtain⟨W,⟨m0,w0⟩,turn⟩:=h;refine wpAny_While (codeAny_whileLoop (λn s'=>∃σ' H',Inv X f8 σ' H' s'/\W n σ' H') ?_ m0 ⟨σ,H,I,w0⟩);rintro n s1 ⟨σ1,H1,I1,w1⟩;refine W5 hp (bx (hc f8 s1 σ1 H1 _ I1 (turn n σ1 H1 w1)) λb s2 ⟨H2,I2,q2⟩=>?_);cases b with
 |true=>
  obtain⟨N,hN,q2⟩:=q2;rw[abz rfl];refine W5 hp (bx (hb f8 s2 σ1 H2 _ I2 q2) λf s3 q3=>?_);cases f with
  |next=>
   obtain⟨σ3,H3,I3,n3⟩:=q3;obtain⟨m',hm,w3⟩:=hN σ3 H3 n3;exact⟨m',hm,σ3,H3,I3,w3⟩
  |cont=>
   obtain⟨σ3,H3,I3,n3⟩:=q3;obtain⟨m',hm,w3⟩:=hN σ3 H3 n3;exact⟨m',hm,σ3,H3,I3,w3⟩
  |brk=>exact q3
  |ret v=>exact q3
 |false=>
  rw[abA UU];exact YU ⟨σ1,H2,I2,q2⟩
end
structure It where
 go:Nat->Hp->Prop
 yld:Nat->Hp->V->Hp->Prop
 stop:Nat->Hp->Prop
def oM(X:Cx)(f8:List (Addr×Obj))(H:Hp)(b:Addr):Prop:=
 H b=none/\b≠X.env.locals/\b∉X.fs/\(b∈X.ex\/X.abK.heap.objs.size<=b)/\(∀x c,X.env.cells.lookup x=some c->c≠b)/\∀p∈X.pn++f8,p.1≠b
def Inv.fpOk{X:Cx}{f8:List (Addr×Obj)}{σ:St}{H H':Hp}{s:Ux}{b:Addr}(I:Inv X f8 σ H s)(hb:s.heap.objs.size<=b)(hn:H' b=none):oM X f8 H' b:=by
 refine⟨hn,Vs (U8 I.lt hb),I.nofs hb, .inr (U1 I.sz hb),λx c e z=>?_,λp hp z=>?_⟩
 ·obtain⟨v,q⟩:=I.cell x c e;exact abE (U8 q.lt (by rw[z];exact hb)) (Vc _)
 ·exact abE (U8 (UE (I.pin p hp).1) (by rw[z];exact hb)) (Vc _)
structure Turn (P:Vf) (w:World) (K:UJ) (tg:Expr) (J:It) (fp:List Addr) (it:Addr) (tn:Nat->Heap->Prop):Prop where
 mem:it∈fp
 obj:∀i h,tn i h->∀b∈fp,∃o,h.get? b=some o/\∀v,o.data≠ .cell v
 keep:∀i h h',tn i h->(∀b∈fp,∀o,h.get? b=some o->h'.get? b=some o)->tn i h'
 item:∀(X:Cx),X.prog=P->X.w=w->X.K=K->X.calm=true->∀(i:Nat) (f8:List (Addr×Obj)) (s:Ux) (σ:St) (H:Hp) (E:Value->Ux->Prop),Inv X f8 σ H s->(∀b∈fp,oM X f8 H b)->tn i s.heap->J.go i H->
  wpAny (model P w) X.A (Yi (.ref it)) (λr s1=>∃u,r=some u/\
   wpAny (model P w) X.A (YW tg (.ref it) u) (λ_ s2=>∃x H',Inv X f8 σ H' s2/\RelV x u/\J.yld i H x H'/\tn (i+1) s2.heap/\∀b∈fp,H' b=none) E s1) E s
 done:∀(X:Cx),X.prog=P->X.w=w->X.K=K->X.calm=true->∀(i:Nat) (f8:List (Addr×Obj)) (s:Ux) (σ:St) (H:Hp) (E:Value->Ux->Prop),Inv X f8 σ H s->(∀b∈fp,oM X f8 H b)->tn i s.heap->J.stop i H->
  wpAny (model P w) X.A (Yi (.ref it)) (λr s1=>r=none/\Inv X f8 σ H s1) E s
 self:∀(A:Vw) (i:Nat) (s:Ux) (Q:Value->Ux->Prop) (E:Value->Ux->Prop),tn i s.heap->Q (.ref it) s->wpAny (model P w) A (pyIter (.ref it)) Q E s
abbrev TI:=St->Hp->(It->Hp->Prop)->Prop
def Q5(X:Cx)(f8:List (Addr×Obj))(σ:St)(tg:Expr)(R:It->Hp->Prop)(RQ:Value)(s2:Ux):Prop:=
 ∃(it:Addr) (fp:List Addr) (tn:Nat->Heap->Prop) (J:It) (H':Hp),RQ= .ref it/\Inv X f8 σ H' s2/\Turn X.prog X.w X.K tg J fp it tn/\tn 0 s2.heap/\(∀b∈fp,oM X f8 H' b)/\R J H'
def PI(X:Cx)(tg iter:Expr)(wi:TI):Prop:=
 ∀(f8:List (Addr×Obj)) (s:Ux) (σ:St) (H:Hp) (R:It->Hp->Prop),Inv X f8 σ H s->wi σ H R->
  wpAny (model X.prog X.w) X.A (eval iter X.env) (λv s1=>wpAny (model X.prog X.w) X.A (pyIter v) (Q5 X f8 σ tg R) X.xe s1) X.xe s
def r6{M:Model}{A:Vw}{E:Value->Ux->Prop}{s:Ux}{tg:Expr}{it:Addr}{u:Value}{o:Obj}{n:String}{vs:Array Value}{Q:Unit->Ux->Prop}(ho:s.heap.get? it=some o)(hc:o.cls= .type n)(hd:o.data= .fields vs)
 (hn:["enumerate","zip","dict_itemiterator","dict_reverseitemiterator","odict_iterator","itertools.zip_longest","itertools.pairwise"].contains n=false)(hQ:Q () s):wpAny M A (YW tg (.ref it) u) Q E s:=by
 unfold YW;cases tg<;>first
  |exact Uw hQ
  |(cases u<;>first
    |exact Uw hQ
    |(refine Uq (wpAny_load ho ?_)
      rw[hc,hd];show wpAny M A (if (["enumerate","zip","dict_itemiterator","dict_reverseitemiterator","odict_iterator","itertools.zip_longest","itertools.pairwise"].contains n&&vs[0]? ==some (XX _))=true then _ else _) Q E s;rw[abA (by intro h;rw[hn,Bool.false_and] at h;cases h)];exact Uw hQ))
def OW(K:UJ)(a:Addr):It:=
 ⟨λi H=>∃xs x,SqL K H a xs/\xs[i]? =some x,λi H x H'=>H'=H/\∀xs,SqL K H a xs->xs[i]? =some x,λi H=>∃xs,SqL K H a xs/\xs.length<=i⟩
def OX(K:UJ)(a:Addr):It:=
 ⟨λi H=>∃xs x,SqT K H a xs/\xs[i]? =some x,λi H x H'=>H'=H/\∀xs,SqT K H a xs->xs[i]? =some x,λi H=>∃xs,SqT K H a xs/\xs.length<=i⟩
def LW(lo:Int)(n:Nat):It:=⟨λi _=>i<n,λi H x H'=>H'=H/\x= .int (lo+i),λi _=>n<=i⟩
def CB{P:Vf}{w:World}{K:UJ}{tg:Expr}(a it:Addr):Turn P w K tg (OW K a) [it] it (λi h=>h.IsListIter it a i) where
 mem:=by simp
 obj:=λi h st b hb=>by
  have e:b=it:=by simpa using hb
  subst e;obtain⟨o,e,c,d⟩:=st;exact⟨o,e,λv z=>by rw[d] at z;cases z⟩
 keep:=λi h h' st k=>st.at λo e=>k it (by simp) o e
 item:=by
  intro X hP hw hK hc i f8 s σ H E I hf st hg;subst hP hw hK;obtain⟨xs,x,hq,hx⟩:=hg;obtain⟨aD,rv,p,hz⟩:=I.list hq;obtain⟨u,hu,ru⟩:=rv.get hx;obtain⟨f0,f1,f2,f3,f4,f5⟩:=hf it (by simp);refine wpAny_pyNext_list_item st p.isList (x:=u) (by simpa using hu) λh' lQ sb=>?_;have I1:Inv X f8 σ H {s with heap:=h'}:=I.turned (t':=s.toks) (λb o hb e=>(sb.2 b hb).trans e) f0 f1 f3 f4 f5;obtain⟨o,e,c,d⟩:=id lQ;exact⟨u,rfl,r6 (s:={s with heap:=h'}) e c d (by decide) ⟨x,H,I1,ru,⟨rfl,λys hy=>by rw[I.list_inj hy hq];exact hx⟩,lQ,λb hb=>(hf b hb).1⟩⟩
 done:=by
  intro X hP hw hK hc i f8 s σ H E I hf st hg;subst hP hw hK;obtain⟨xs,hq,hx⟩:=hg;obtain⟨aD,rv,p,hz⟩:=I.list hq;obtain⟨f0,f1,f2,f3,f4,f5⟩:=hf it (by simp);have hl:=rv.length;exact wpAny_pyNext_list_end (I.ok.hd hc) st p.isList (by simp;omega) λh' eb=>⟨rfl,I.turned (t':=s.toks) (λb o hb e=>eb b o hb e) f0 f1 f3 f4 f5⟩
 self:=λ_ _ _ _ _ st h=>wpAny_pyIter_listiter st h
def zB{P:Vf}{w:World}{K:UJ}{tg:Expr}(a it:Addr):Turn P w K tg (OX K a) [it] it (λi h=>h.IsTupleIter it a i) where
 mem:=by simp
 obj:=λi h st b hb=>by
  have e:b=it:=by simpa using hb
  subst e;obtain⟨o,e,c,d⟩:=st;exact⟨o,e,λv z=>by rw[d] at z;cases z⟩
 keep:=λi h h' st k=>st.at λo e=>k it (by simp) o e
 item:=by
  intro X hP hw hK hc i f8 s σ H E I hf st hg;subst hP hw hK;obtain⟨xs,x,hq,hx⟩:=hg;obtain⟨aD,rv,p,hz⟩:=I.tuple hq;obtain⟨u,hu,ru⟩:=rv.get hx;obtain⟨f0,f1,f2,f3,f4,f5⟩:=hf it (by simp);refine wpAny_pyNext_tuple_item st (show s.heap.IsTuple a aD.toArray from p) (x:=u) (by simpa using hu) λh' lQ sb=>?_;have I1:Inv X f8 σ H {s with heap:=h'}:=I.turned (t':=s.toks) (λb o hb e=>(sb.2 b hb).trans e) f0 f1 f3 f4 f5;obtain⟨o,e,c,d⟩:=id lQ;exact⟨u,rfl,r6 (s:={s with heap:=h'}) e c d (by decide) ⟨x,H,I1,ru,⟨rfl,λys hy=>by rw[I.tuple_inj hy hq];exact hx⟩,lQ,λb hb=>(hf b hb).1⟩⟩
 done:=by
  intro X hP hw hK hc i f8 s σ H E I hf st hg;subst hP hw hK;obtain⟨xs,hq,hx⟩:=hg;obtain⟨aD,rv,p,hz⟩:=I.tuple hq;obtain⟨f0,f1,f2,f3,f4,f5⟩:=hf it (by simp);have hl:=rv.length;exact wpAny_pyNext_tuple_end (I.ok.hd hc) st (show s.heap.IsTuple a aD.toArray from p) (by simp;omega) λh' eb=>⟨rfl,I.turned (t':=s.toks) (λb o hb e=>eb b o hb e) f0 f1 f3 f4 f5⟩
 self:=λ_ _ _ _ _ st h=>wpAny_pyIter_tupleiter st h
def zA{P:Vf}{w:World}{K:UJ}{tg:Expr}(it:Addr)(lo:Int)(n:Nat):Turn P w K tg (LW lo n) [it] it (λi h=>IsRangeIter h it (lo+(i:Nat)*1) ((n:Int) - (i:Nat)) 1) where
 mem:=by simp
 obj:=λi h st b hb=>by
  have e:b=it:=by simpa using hb
  subst e;exact⟨_,st,λv z=>by
   have z':aa2 _=Data.cell v:=z;cases z'⟩
 keep:=λi h h' st k=>k it (by simp) _ st
 item:=by
  intro X hP hw hK hc i f8 s σ H E I hf st hg;subst hP hw hK;obtain⟨f0,f1,f2,f3,f4,f5⟩:=hf it (by simp);have W:=Walks.range (prog:=X.prog) (w:=X.w) (I.ok.hd hc) it lo 1 n;refine W.item i s _ _ hg st λv h' tk hv lQ kk=>?_;obtain⟨t,rfl⟩:=hv;have I1:Inv X f8 σ H {s with heap:=h',toks:=tk}:=I.turned (λb o hb e=>kk b o (by simpa using hb) e) f0 f1 f3 f4 f5;refine⟨_,rfl,r6 (s:={s with heap:=h',toks:=tk}) (n:="range_iterator") lQ rfl rfl (by decide) ⟨.int (lo+i),H,I1,⟨t,?_⟩,⟨rfl,rfl⟩,lQ,λb hb=>(hf b hb).1⟩⟩;rw[Int.mul_one]
 done:=by
  intro X hP hw hK hc i f8 s σ H E I hf st hg;subst hP hw hK;obtain⟨f0,f1,f2,f3,f4,f5⟩:=hf it (by simp);exact wpAny_pyNext_range_end (I.ok.hd hc) st (by have:n<=i:=hg;omega) λh' eb=>⟨rfl,I.turned (t':=s.toks) (λb o hb e=>eb b o hb e) f0 f1 f3 f4 f5⟩
 self:=λ_ _ _ _ _ st h=>wpAny_pyIter_rangeiter st h
section
variable{X:Cx}{tg:Expr}
def M8(K:UJ)(tl:TE):TI:=λσ H R=>tl σ H λx H1=>∃a,x= .ref a/\(∃xs,SqL K H1 a xs)/\R (OW K a) H1
def Qp(K:UJ)(tl:TE):TI:=λσ H R=>tl σ H λx H1=>∃a,x= .ref a/\(∃xs,SqT K H1 a xs)/\R (OX K a) H1
def Hx{l:Expr}{tl:TE}(hl:PE X l tl):PI X tg l (M8 X.K tl):=by
 intro f8 s σ H R I h;refine bx (hl f8 s σ H _ I h) λv s1 ⟨x,H1,I1,r1,q1⟩=>?_;obtain⟨a,e,⟨xs,hq⟩,q⟩:=q1;subst e;cases r1;obtain⟨aD,rv,p,hz⟩:=I1.list hq;refine wpAny_pyIter_list p.isList ?_;refine⟨s1.heap.objs.size,[s1.heap.objs.size],_,_,H1,rfl,I1.kept (t':=s1.toks) λb o e=>Ut _ e,CB a _,⟨_,UO _ rfl,rfl,rfl⟩,λb hb=>?_,q⟩;have e:b=s1.heap.objs.size:=by simpa using hb
 subst e;exact I1.fpOk (UB _) (I1.hok.fresh (UB _))
def K6{l:Expr}{tl:TE}(hl:PE X l tl):PI X tg l (Qp X.K tl):=by
 intro f8 s σ H R I h;refine bx (hl f8 s σ H _ I h) λv s1 ⟨x,H1,I1,r1,q1⟩=>?_;obtain⟨a,e,⟨xs,hq⟩,q⟩:=q1;subst e;cases r1;obtain⟨aD,rv,p,hz⟩:=I1.tuple hq;refine wpAny_pyIter_tuple (show s1.heap.IsTuple a aD.toArray from p) ?_;refine⟨s1.heap.objs.size,[s1.heap.objs.size],_,_,H1,rfl,I1.kept (t':=s1.toks) λb o e=>Ut _ e,zB a _,⟨_,UO _ rfl,rfl,rfl⟩,λb hb=>?_,q⟩;have e:b=s1.heap.objs.size:=by simpa using hb
 subst e;exact I1.fpOk (UB _) (I1.hok.fresh (UB _))
def xo{f8:List (Addr×Obj)}{σ:St}{H:Hp}{s:Ux}{R:It->Hp->Prop}{E:Value->Ux->Prop}{lo hi:Int}{t u v:Tok}{tk:Nat}(I:Inv X f8 σ H s)(h1: -(2 ^ 62)<=lo)(h2:lo<2 ^ 62)(h3: -(2 ^ 62)<=hi)(h4:hi<2 ^ 62)
 (q:R (LW lo (hi - lo).toNat) H):wpAny (model X.prog X.w) X.A (pyIter (.ref s.heap.objs.size)) (Q5 X f8 σ tg R) E {s with heap:=s.heap.push {cls:= .type "range",data:= .fields #[.int lo t, .int hi u, .int 1 v]},toks:=tk}:=by
 refine wpAny_pyIter_range (IsRange.new ..) (small_one h1 h2 h3 h4) ?_;have I1:Inv X f8 σ H {s with heap:=s.heap.push {cls:= .type "range",data:= .fields #[.int lo t, .int hi u, .int 1 v]},toks:=tk}:=I.kept λb o e=>Ut _ e;refine⟨(s.heap.push {cls:= .type "range",data:= .fields #[.int lo t, .int hi u, .int 1 v]}).objs.size,[(s.heap.push {cls:= .type "range",data:= .fields #[.int lo t, .int hi u, .int 1 v]}).objs.size],_,_,H,rfl,
  I1.kept (t':=tk) λb o e=>Ut _ e,zA _ lo (hi - lo).toNat,?_,λb hb=>?_,q⟩
 ·have e1:lo+((0:Nat):Int)*1=lo:=by simp
  have e2:(((hi - lo).toNat:Nat):Int) - ((0:Nat):Int)=Builtin.Range.rangeSize lo hi 1:=by rw[rangeSize_one];split<;>omega
  show IsRangeIter _ _ (lo+((0:Nat):Int)*1) ((((hi - lo).toNat:Nat):Int) - ((0:Nat):Int)) 1;rw[e1,e2];exact UO _ rfl
 ·have e:b=(s.heap.push {cls:= .type "range",data:= .fields #[.int lo t, .int hi u, .int 1 v]}).objs.size:=by simpa using hb
  subst e;exact I1.fpOk (UB _) (I1.hok.fresh (UB _))
def M9(ta:TA):TI:=λσ H R=>ta σ H λvs H1=>∃j:Int,vs=[.int j]/\ -(2 ^ 62)<=j/\j<2 ^ 62/\R (LW 0 j.toNat) H1
def M_(ta:TA):TI:=λσ H R=>ta σ H λvs H1=>∃i j:Int,vs=[.int i, .int j]/\(-(2 ^ 62)<=i/\i<2 ^ 62/\ -(2 ^ 62)<=j/\j<2 ^ 62)/\R (LW i (j - i).toNat) H1
def Cc{a:Expr}{ta:TA}{p pos:Pos}(hg:Gl X "range")(hm:X.mg "range"=none)(ha:PA X [a] ta)(hs:US [a] X.env=[(false,eval a X.env)]:=by rfl):PI X tg (.Call (.Name "range" p) [a] [] pos) (M9 ta):=by
 intro f8 s σ H R I h;refine Call_ (iM I hg hm boot_range (WK (bx (ha pos f8 s σ H _ I h) λus s1 ⟨vs,H1,I1,r1,q1⟩=>?_) hs rfl));obtain⟨j,e,q1,q2,q⟩:=q1;subst e;cases r1 with
 |cons r rr=>
  cases rr;obtain⟨t,rfl⟩:=r;exact call_range_1 (xo I1 (by omega) (by omega) q1 q2 (by simpa using q))
def Cd{a b:Expr}{ta:TA}{p pos:Pos}(hg:Gl X "range")(hm:X.mg "range"=none)(ha:PA X [a,b] ta)(hs:US [a,b] X.env=[(false,eval a X.env),(false,eval b X.env)]:=by rfl)(BD:US [b] X.env=[(false,eval b X.env)]:=by rfl):
 PI X tg (.Call (.Name "range" p) [a,b] [] pos) (M_ ta):=by
 intro f8 s σ H R I h;refine Call_ (iM I hg hm boot_range (WK (bx (ha pos f8 s σ H _ I h) λus s1 ⟨vs,H1,I1,r1,q1⟩=>?_) (by rw[hs,BD]) (by rw[BD];rfl)));obtain⟨i,j,e,⟨q1,q2,q3,q4⟩,q⟩:=q1;subst e;cases r1 with
 |cons r rr=>
  cases rr with
  |cons r' rr=>
   cases rr;obtain⟨t,rfl⟩:=r;obtain⟨t',rfl⟩:=r';exact call_range_2 (xo I1 q1 q2 q3 q4 q)
def N7(wi:TI)(g:TG)(tb:TS):TS:=λD σ H=>wi σ H λJ H1=>∃W:Nat->Nat->St->Hp->Prop,(∃m,W 0 m σ H1)/\∀i m σ H,W i m σ H->
 (J.stop i H/\D.nx σ H)\/(J.go i H/\∃N:St->Hp->Prop,(∀σ' H',N σ' H'->∃m',m'<m/\W (i+1) m' σ' H')/\∀x H',J.yld i H x H'->g x σ H' λσ2 H2=>tb {D with nx:=N,ct:=N,bk:=D.nx} σ2 H2)
def mB(fp:List Addr)(h:Heap):List (Addr×Obj):=fp.filterMap λb=>(h.get? b).map λo=>(b,o)
def ei{fp:List Addr}{h:Heap}{b:Addr}{o:Obj}(hb:b∈fp)(e:h.get? b=some o):(b,o)∈mB fp h:=abg.mpr ⟨b,hb,by rw[e];rfl⟩
def B1{fp:List Addr}{h:Heap}{p:Addr×Obj}(hp:p∈mB fp h):p.1∈fp/\h.get? p.1=some p.2:=by
 obtain⟨b,hb,e⟩:=abg.mp hp;cases q:h.get? b with
 |none=>rw[q] at e;cases e
 |some o=>
  rw[q] at e;have e':(b,o)=p:=U9 e;subst e';exact⟨hb,q⟩
def Inv.pinned{f8:List (Addr×Obj)}{σ:St}{H:Hp}{s:Ux}{fp:List Addr}(I:Inv X f8 σ H s)(hf:∀b∈fp,oM X f8 H b)(ho:∀b∈fp,∃o,s.heap.get? b=some o/\∀v,o.data≠ .cell v):Inv X (f8++mB fp s.heap) σ H s:=
 I.pins_of λp hp=>(Vd.mp hp).elim (λz=>I.pin p (U5 _ z)) λz=>by
  obtain⟨hb,e⟩:=B1 z;obtain⟨f0,f1,f2,_⟩:=hf p.1 hb;obtain⟨o,e',d⟩:=ho p.1 hb;rw[e] at e';cases e';exact⟨e,f0,f1,f2,d⟩
def Inv.unpinned{f8 pl:List (Addr×Obj)}{σ:St}{H:Hp}{s:Ux}(I:Inv X (f8++pl) σ H s):Inv X f8 σ H s:=I.pins_of λp hp=>I.pin p (U5 _ (XN _ hp))
def zg{iter:Expr}{body:List Stmt}{wi:TI}{g:TG}{tb:TS}{pos:Pos}(hp:aaz (model X.prog X.w) X.A X.env X.xe)(hc:X.calm=true)(hi:PI X tg iter wi)(hg:PG X tg g)(hb:PSs X body tb)
 (hs:∀x,WN iter X.env x=pure x:=by intro _;rfl):PS X (.For tg iter body [] pos) (N7 wi g tb):=by
 intro f8 s σ H D I h;refine wpAny_For (bx (hi f8 s σ H _ I h) λv s1 h1=>bx h1 λRQ s2 h2=>?_) hs;obtain⟨it,fp,tn,J,H2,e,I2,T,uT,f2,W,⟨m0,w0⟩,turn⟩:=h2;subst e;have Ll:∀{H':Hp},(∀b∈fp,H' b=none)->∀b∈fp,oM X f8 H' b:=λhn b hb=>⟨hn b hb,(f2 b hb).2⟩
 refine codeAny_forLoop_any (λn s'=>∃i σ' H',Inv X f8 σ' H' s'/\tn i s'.heap/\(∀b∈fp,H' b=none)/\W i n σ' H') ?_ m0 ⟨0,σ,H2,I2,uT,λb hb=>(f2 b hb).1,w0⟩;rintro n s3 ⟨i,σ3,H3,I3,FU,LG,w3⟩;rcases turn i n σ3 H3 w3 with⟨stop,qn⟩ | ⟨go,N,hN,step⟩
 ·refine W5 hp (bx (T.done X rfl rfl rfl hc i f8 s3 σ3 H3 X.xe I3 (Ll LG) FU stop) λr s4 ⟨hr,I4⟩=>?_);subst hr;exact YU ⟨σ3,H3,I4,qn⟩
 ·refine W5 hp (bx (T.item X rfl rfl rfl hc i f8 s3 σ3 H3 X.xe I3 (Ll LG) FU go) λr s4 ⟨u,hr,h4⟩=>?_);subst hr;refine W5 hp (bx h4 λ_ s5 ⟨x,H5,I5,r5,y5,QM,Sq⟩=>?_);have I5':=I5.pinned (Ll Sq) (T.obj _ _ QM);refine W5 hp (bx (hg _ s5 σ3 H5 x u _ I5' r5 (step x H5 y5)) λ_ s6 ⟨σ6,H6,I6,q6⟩=>?_);refine W5 hp (bx (hb _ s6 σ6 H6 _ I6 q6) λf s7 q7=>?_);have again:∀{σ7:St}{H7:Hp},Inv X (f8++mB fp s5.heap) σ7 H7 s7->N σ7 H7->∃m,m<n/\∃i σ' H',Inv X f8 σ' H' s7/\tn i s7.heap/\(∀b∈fp,H' b=none)/\W i m σ' H':=λ{σ7 H7} I7 n7=>by
   obtain⟨m',hm,w7⟩:=hN σ7 H7 n7;refine⟨m',hm,i+1,σ7,H7,I7.unpinned,T.keep _ _ _ QM λb hb o e=>(I7.pin (b,o) (U5 _ (U5 _ (ei hb e)))).1,λb hb=>?_,w7⟩;obtain⟨o,e,d⟩:=T.obj _ _ QM b hb;exact(I7.pin (b,o) (U5 _ (U5 _ (ei hb e)))).2.1
  cases f with
  |next=>obtain⟨σ7,H7,I7,n7⟩:=q7;exact again I7 n7
  |cont=>obtain⟨σ7,H7,I7,n7⟩:=q7;exact again I7 n7
  |brk=>obtain⟨σ7,H7,I7,q7⟩:=q7;exact⟨σ7,H7,I7.unpinned,q7⟩
  |ret v=>obtain⟨x7,σ7,H7,I7,r7,q7⟩:=q7;exact⟨x7,σ7,H7,I7.unpinned,r7,q7⟩
end
abbrev R2:=V->V->Hp->VK->Prop
def OpR(X:Cx)(f:Value->Value->Sem Value)(r:R2):Prop:=
 ∀(f8:List (Addr×Obj)) (s:Ux) (σ:St) (H:Hp) (x y:V) (v u:Value) (Q:VK),Inv X f8 σ H s->RelV x v->RelV y u->r x y H Q->
  wpAny (model X.prog X.w) X.A (f v u) (EP X f8 σ Q) X.xe s
def O3(X:Cx)(f:Value->Sem Value)(r:V->Hp->VK->Prop):Prop:=
 ∀(f8:List (Addr×Obj)) (s:Ux) (σ:St) (H:Hp) (x:V) (v:Value) (Q:VK),Inv X f8 σ H s->RelV x v->r x H Q->
  wpAny (model X.prog X.w) X.A (f v) (EP X f8 σ Q) X.xe s
def CallR(X:Cx)(f:Value)(r:List V->Hp->VK->Prop):Prop:=
 ∀(f8:List (Addr×Obj)) (s:Ux) (σ:St) (H:Hp) (xs:List V) (us:List Value) (Q:VK),Inv X f8 σ H s->Vals xs us->r xs H Q->
  wpAny (model X.prog X.w) X.A (call f us) (EP X f8 σ Q) X.xe s
def O2(X:Cx)(r:V->Hp->(Bool->Hp->Prop)->Prop):Prop:=
 ∀(f8:List (Addr×Obj)) (s:Ux) (σ:St) (H:Hp) (x:V) (v:Value) (Q:Bool->Hp->Prop),Inv X f8 σ H s->RelV x v->r x H Q->
  wpAny (model X.prog X.w) X.A (truthy v) (TP X f8 σ Q) X.xe s
def Oa(r:R2)(ta tb:TE):TE:=λσ H Q=>ta σ H λx H1=>tb σ H1 λy H2=>r x y H2 Q
def T_(r:V->Hp->VK->Prop)(ta:TE):TE:=λσ H Q=>ta σ H λx H1=>r x H1 Q
def rI(C:Int->Int->Prop)(g:Int->Int->V):R2:=λx y H Q=>∃i j,x= .int i/\y= .int j/\C i j/\Q (g i j) H
def CM(g:Int->Int->V):R2:=λx y H Q=>∃i j,x= .int i/\y= .int j/\Q (g i j) H
def rU(g:Int->V):V->Hp->VK->Prop:=λx H Q=>∃i,x= .int i/\Q (g i) H
section
variable{X:Cx}{a b:Expr}{ta tb:TE}{pos:Pos}
def Jk(ha:PE X a ta)(hb:PE X b tb){f8:List (Addr×Obj)}{s:Ux}{σ:St}{H:Hp}{R:V->V->Hp->Prop}(I:Inv X f8 σ H s)
 (h:ta σ H λx H1=>tb σ H1 λy H2=>R x y H2){Q:Value->Ux->Prop}{f:Value->Value->Sem Value}
 (hf:∀v u s2 x y H2,Inv X f8 σ H2 s2->RelV x v->RelV y u->R x y H2->wpAny (model X.prog X.w) X.A (f v u) Q X.xe s2):
 wpAny (model X.prog X.w) X.A (eval a X.env) (λv W1=>wpAny (model X.prog X.w) X.A (eval b X.env) (λu u8=>wpAny (model X.prog X.w) X.A (f v u) Q X.xe u8) X.xe W1) X.xe s:=by
 refine bx (ha f8 s σ H _ I h) λv s1 ⟨x,H1,I1,r1,q1⟩=>?_;refine bx (hb f8 s1 σ H1 _ I1 q1) λu s2 ⟨y,H2,I2,r2,q2⟩=>?_;exact hf v u s2 x y H2 I2 r1 r2 q2
def NF{op:Operator}{r:R2}(ho:OpR X (Yj op) r)(ha:PE X a ta)(hb:PE X b tb):PE X (.BinOp a op b pos) (Oa r ta tb):=by
 intro f8 s σ H Q I h;exact wpAny_BinOp (Jk ha hb I h λv u s2 x y H2 I2 rx ry q=>ho f8 s2 σ H2 x y v u Q I2 rx ry q)
def NG{op:UnaryOp}{r:V->Hp->VK->Prop}(ho:O3 X (unaryOp op) r)(ha:PE X a ta):PE X (.UnaryOp op a pos) (T_ r ta):=by
 intro f8 s σ H Q I h;exact UnaryOp_ (bx (ha f8 s σ H _ I h) λv s1 ⟨x,H1,I1,r1,q1⟩=>ho f8 s1 σ H1 x v Q I1 r1 q1)
def QC{f:Value->Value->Sem Value}{C:Int->Int->Prop}{g:Int->Int->Int}
 (rule:∀(i j:Int) (t u:Tok) (s:Ux) (Q:Value->Ux->Prop) (E:Value->Ux->Prop),C i j->Q (.int (g i j) s.toks) {s with toks:=s.toks+1}->wpAny (model X.prog X.w) X.A (f (.int i t) (.int j u)) Q E s):
 OpR X f (rI C λi j=> .int (g i j)):=by
 intro f8 s σ H x y v u Q I rx ry h;obtain⟨i,j,rfl,rfl,hc,q⟩:=h;obtain⟨t,rfl⟩:=rx;obtain⟨t',rfl⟩:=ry;exact rule i j t t' s _ _ hc ⟨.int (g i j),H,I.tok _,⟨_,rfl⟩,q⟩
def Ny{f:Value->Value->Sem Value}{g:Int->Int->Int}
 (rule:∀(i j:Int) (t u:Tok) (s:Ux) (Q:Value->Ux->Prop) (E:Value->Ux->Prop),Q (.int (g i j) s.toks) {s with toks:=s.toks+1}->wpAny (model X.prog X.w) X.A (f (.int i t) (.int j u)) Q E s):
 OpR X f (CM λi j=> .int (g i j)):=by
 intro f8 s σ H x y v u Q I rx ry h;obtain⟨i,j,rfl,rfl,q⟩:=h;obtain⟨t,rfl⟩:=rx;obtain⟨t',rfl⟩:=ry;exact rule i j t t' s _ _ ⟨.int (g i j),H,I.tok _,⟨_,rfl⟩,q⟩
def Kw{f:Value->Value->Sem Value}{g:Int->Int->Bool}
 (rule:∀(i j:Int) (t u:Tok) (s:Ux) (Q:Value->Ux->Prop) (E:Value->Ux->Prop),Q (.bool (g i j)) s->wpAny (model X.prog X.w) X.A (f (.int i t) (.int j u)) Q E s):
 OpR X f (CM λi j=> .bl (g i j)):=by
 intro f8 s σ H x y v u Q I rx ry h;obtain⟨i,j,rfl,rfl,q⟩:=h;obtain⟨t,rfl⟩:=rx;obtain⟨t',rfl⟩:=ry;exact rule i j t t' s _ _ ⟨.bl (g i j),H,I,rfl,q⟩
def LU(i j:Int):Prop:=0<j/\j<1073741824
def CMul(i j:Int):Prop:=(-(2 ^ 64)<i/\i<2 ^ 64)\/(-(2 ^ 64)<j/\j<2 ^ 64)
def CMul.ok{i j:Int}(h:CMul i j):IntMulOk i j:=by
 rcases h with⟨h1,h2⟩ | ⟨h1,h2⟩
 ·exact .of_left (intBits_le_64 h1 h2)
 ·exact .of_right (intBits_le_64 h1 h2)
def Kx:OpR X (Yj .Add) (CM λi j=> .int (i+j)):=Ny λ_ _ _ _ _ _ _ q=>add_int q
def KC:OpR X (Yj .Sub) (CM λi j=> .int (i - j)):=Ny λ_ _ _ _ _ _ _ q=>sub_int q
def Kz:OpR X (Yj .Mult) (rI CMul λi j=> .int (i*j)):=QC λ_ _ _ _ _ _ _ hc q=>mul_int q hc.ok
def G4:OpR X (Yj .FloorDiv) (rI LU λi j=> .int (i / j)):=QC λi j _ _ _ _ _ hc q=>by
 have h1:(0:Int)<j:=hc.1;have h2:j<1073741824:=hc.2;exact floordiv_int (by omega) (by rw[Int.fdiv_eq_ediv_of_nonneg i (by omega)];exact q) (.inl (PyProof.noPylong_small (by omega)))
def Ky:OpR X (Yj .Mod) (rI (λ_ j=>0<j) λi j=> .int (i % j)):=QC λi j _ _ _ _ _ hc q=>by
 have h1:(0:Int)<j:=hc;exact mod_int' (by omega) (by rw[Int.fmod_eq_emod_of_nonneg i (by omega)];exact q)
def Ub{f:Value->Sem Value}{g:Int->Int}
 (rule:∀(i:Int) (t:Tok) (s:Ux) (Q:Value->Ux->Prop) (E:Value->Ux->Prop),Q (.int (g i) s.toks) {s with toks:=s.toks+1}->wpAny (model X.prog X.w) X.A (f (.int i t)) Q E s):
 O3 X f (rU λi=> .int (g i)):=by
 intro f8 s σ H x v Q I rx h;obtain⟨i,rfl,q⟩:=h;obtain⟨t,rfl⟩:=rx;exact rule i t s _ _ ⟨.int (g i),H,I.tok _,⟨_,rfl⟩,q⟩
def Lx:O3 X (unaryOp .USub) (rU λi=> .int (-i)):=Ub λ_ _ _ _ _ q=>neg_int q
end
section
variable{X:Cx}{a b c:Expr}{ta tb tc:TE}{pos:Pos}
def JC{f8:List (Addr×Obj)}{σ:St}{H:Hp}{s:Ux}{Q:VK}{k k':Bool}(I:Inv X f8 σ H s)(q:Q (.bl k) H)(e:k=k'):EP X f8 σ Q (.bool k') s:=by
 subst e;exact⟨.bl k,H,I,rfl,q⟩
def IS:OpR X (VP .Lt) (CM λi j=> .bl (decide (i<j))):=Kw λ_ _ _ _ _ _ _ q=>lt_int q
def wZ:OpR X (VP .LtE) (CM λi j=> .bl (decide (i<=j))):=Kw λ_ _ _ _ _ _ _ q=>le_int q
def Nz:OpR X (VP .Gt) (CM λi j=> .bl (decide (j<i))):=Kw λ_ _ _ _ _ _ _ q=>gt_int q
def B5:OpR X (VP .In) (λx y H Q=>∃i j,x= .str i/\y= .str j/\Q (.bl (!(W8 j i 0 j.length 1).isEmpty)) H):=by
 intro f8 s σ H x y v u Q I rx ry h;obtain⟨i,j,rfl,rfl,q⟩:=h;obtain⟨t,rfl⟩:=rx;obtain⟨t',rfl⟩:=ry;exact in_str (JC I q rfl)
def OpR.or{f:Value->Value->Sem Value}{r r':R2}(h:OpR X f r)(h':OpR X f r'):OpR X f (λx y H Q=>r x y H Q\/r' x y H Q):=by
 intro f8 s σ H x y v u Q I rx ry q;rcases q with q | q
 ·exact h f8 s σ H x y v u Q I rx ry q
 ·exact h' f8 s σ H x y v u Q I rx ry q
def Ei(b:Expr){op:CmpOp}(h:op≠ .In:=by decide)(h2:op≠ .NotIn:=by decide):VF op b=false:=by
 have e1:(op==CmpOp.In)=false:=by cases op<;>first | rfl | exact abE rfl h
 have e2:(op==CmpOp.NotIn)=false:=by cases op<;>first | rfl | exact abE rfl h2
 cases b<;>simp[VF,e1,e2]
def Hs{op:CmpOp}{r:R2}(ho:OpR X (VP op) r)(ha:PE X a ta)(hb:PE X b tb)(hm:VF op b=false):PE X (.Compare a [op] [b] pos) (Oa r ta tb):=by
 intro f8 s σ H Q I h;exact wpAny_Compare1 (Jk ha hb I h λv u s2 x y H2 I2 rx ry q=>ho f8 s2 σ H2 x y v u Q I2 rx ry q) hm
def Je(t:TE):TT:=λσ H Q=>t σ H λx H'=>∃k,x= .bl k/\Q k H'
def HG{op:CmpOp}{r:R2}(ho:OpR X (VP op) r)(ha:PE X a ta)(hb:PE X b tb)(hm:VF op b=false):PT X (.Compare a [op] [b] pos) (Je (Oa r ta tb)):=by
 intro f8 s σ H Q I h;refine wpAny_isTrue_Compare1 (bx (ha f8 s σ H _ I h) λv s1 ⟨x,H1,I1,r1,q1⟩=>bx (hb f8 s1 σ H1 _ I1 q1) λu s2 ⟨y,H2,I2,r2,q2⟩=>
  bx (ho f8 s2 σ H2 x y v u _ I2 r1 r2 q2) λc s3 ⟨z,H3,I3,r3,k,e,q3⟩=>?_) hm
 subst e;cases r3;exact Wq ⟨H3,I3,q3⟩
def Fp(r r':R2)(ta tb tc:TE):TE:=λσ H Q=>ta σ H λx H1=>tb σ H1 λy H2=>r x y H2 λz H3=>∃k,z= .bl k/\
 (if k=true then tc σ H3 λw' H4=>r' y w' H4 Q else Q (.bl false) H3)
def ET{op LQ:CmpOp}{r r':R2}(ho:OpR X (VP op) r)(yd:OpR X (VP LQ) r')(ha:PE X a ta)(hb:PE X b tb)(hc:PE X c tc)
 (hm:lastMarks [op,LQ] [b,c]=false:=by with_unfolding_all rfl):PT X (.Compare a [op,LQ] [b,c] pos) (Je (Fp r r' ta tb tc)):=by
 intro f8 s σ H Q I h;refine isTrue_chain (bx (ha f8 s σ H _ I h) λv s1 ⟨x,H1,I1,r1,q1⟩=>test_link (bx (hb f8 s1 σ H1 _ I1 q1) λu s2 ⟨y,H2,I2,r2,q2⟩=>
  bx (ho f8 s2 σ H2 x y v u _ I2 r1 r2 q2) λd s3 ⟨z,H3,I3,r3,k,e,q3⟩=>?_)) hm
 subst e;cases r3;refine Wq ?_;cases k with
 |false=>
  obtain⟨k',e',q'⟩:=q3;cases e';exact ite_ff ⟨H3,I3,q'⟩
 |true=>
  refine ite_tt (test_last (bx (hc f8 s3 σ H3 _ I3 q3) λw' s4 ⟨z',H4,I4,r4,q4⟩=>bx (yd f8 s4 σ H4 y z' u w' _ I4 r2 r4 q4) λd' s5 ⟨z2,H5,I5,r5,k2,e2,q5⟩=>?_));subst e2;cases r5;exact Wq ⟨H5,I5,q5⟩
def LZ(K:UJ)(x:V)(H:Hp)(k:Bool):Prop:=
 match x with
 | .non=>k=false
 | .bl b=>k=b
 | .int i=>k=(i !=0)
 | .str y=>y.length<=UR/\k=((y.length:Int) !=0)
 | .byt y=>y.size<=UR/\k=((y.size:Int) !=0)
 | .ref p=>(∃xs,SqL K H p xs/\k=!xs.isEmpty)\/(∃xs,SqT K H p xs/\k=!xs.isEmpty)\/∃kvs,H p=some (.dK kvs)/\k=!kvs.isEmpty
 |_=>False
def yK{κ:Type}{kvs:List (κ×V)}{vs:List (κ×Value)}(r:KV kvs vs):(!vs.isEmpty)=!kvs.isEmpty:=by
 cases r<;>rfl
def pG{xs:List V}{aD:List Value}(r:Vals xs aD):(!aD.toArray.isEmpty)=!xs.isEmpty:=by
 cases r<;>simp
def mm:(UR:Nat)<2 ^ 63:=by rw[Wg];decide
def Lv:O2 X (λx H Q=>∃k,LZ X.K x H k/\Q k H):=by
 intro f8 s σ H x v Q I rx h;obtain⟨k,e,q⟩:=h;have hl:=mm;have hs:UR=16777216:=Wg;cases x with
 |non=>
  cases rx;have e':k=false:=e;subst e';exact truthy_none ⟨H,I,q⟩
 |bl b=>
  cases rx;have e':k=b:=e;subst e';exact Wq ⟨H,I,q⟩
 |int i=>
  obtain⟨t,rfl⟩:=rx;have e':k=(i !=0):=e;subst e';exact PySem.P.truthy_int ⟨H,I,q⟩
 |str y=>
  obtain⟨t,rfl⟩:=rx;obtain⟨hy,e'⟩:y.length<=UR/\k=((y.length:Int) !=0):=e;subst e';exact PySem.P.truthy_str (by omega) ⟨H,I.tok _,q⟩
 |byt y=>
  obtain⟨t,rfl⟩:=rx;obtain⟨hy,e'⟩:y.size<=UR/\k=((y.size:Int) !=0):=e;subst e';exact PySem.W.truthy_bytes (by omega) ⟨H,I.tok _,q⟩
 |ref p=>
  cases rx;have e':(∃xs,SqL X.K H p xs/\k=!xs.isEmpty)\/(∃xs,SqT X.K H p xs/\k=!xs.isEmpty)\/∃kvs,H p=some (.dK kvs)/\k=!kvs.isEmpty:=e;rcases e' with⟨xs,hx,e'⟩ | ⟨xs,hx,e'⟩ | ⟨kvs,hx,e'⟩
  ·subst e';obtain⟨aD,r,pl,hz⟩:=I.list hx;have P3:=r.length;exact wpAny_truthy_list pl.isList (by simp only[UK];omega) ⟨H,I.tok _,by rw[pG r];exact q⟩
  ·subst e';obtain⟨aD,r,pl,hz⟩:=I.tuple hx;have P3:=r.length;exact truthy_tuple pl (by simp only[UK];omega) ⟨H,I.tok _,by rw[pG r];exact q⟩
  ·subst e';obtain⟨hz,hS,vs,r,m⟩:kvs.length<=UR/\(p==V4)=false/\∃vs,KV kvs vs/\s.heap.DictOf (aM X.prog X.w) p vs:=I.hok p _ hx;have P3:kvs.length=vs.length:=Wt r;exact wpAny_truthy_dict hS m (by omega) ⟨H,I.tok _,by rw[yK r];exact q⟩
 |_=>exact(show False from e).elim
def EV(ha:PE X a ta)(he:∀whole,isTrue a X.env whole=(do let v<-whole;standAt a.pos;holding [v] (truthy v))):
 PT X a (λσ H Q=>ta σ H λx H'=>∃k,LZ X.K x H' k/\Q k H'):=by
 intro f8 s σ H Q I h;exact isTrue_plain (bx (ha f8 s σ H _ I h) λv s1 ⟨x,H1,I1,r1,q1⟩=>Lv f8 s1 σ H1 x v Q I1 r1 q1) (he _)
def vals1{x:V}{us:List Value}(r:Vals [x] us):∃u,us=[u]/\RelV x u:=by
 cases r with
 |cons r1 r2=>cases r2;exact⟨_,rfl,r1⟩
def vals2{x y:V}{us:List Value}(r:Vals [x,y] us):∃u w',us=[u,w']/\RelV x u/\RelV y w':=by
 cases r with
 |cons r1 r2=>
  cases r2 with
  |cons r3 r4=>cases r4;exact⟨_,_,rfl,r1,r3⟩
def C0:CallR X (.builtin "abs") (λxs H Q=>∃i,xs=[.int i]/\Q (.int (if i<0 then -i else i)) H):=by
 intro f8 s σ H xs us Q I r h;obtain⟨i,rfl,q⟩:=h;obtain⟨u,rfl,t,rfl⟩:=vals1 r;exact call_abs_int λu tk=>⟨.int (if i<0 then -i else i),H,I.tok _,⟨_,rfl⟩,q⟩
def Bg(hc:X.calm=true):CallR X (.builtin "max") (λxs H Q=>∃i j,xs=[.int i, .int j]/\Q (.int (if j>i then j else i)) H):=by
 intro f8 s σ H xs us Q I r h;obtain⟨i,j,rfl,q⟩:=h;obtain⟨u,w',rfl,⟨t,rfl⟩,⟨t',rfl⟩⟩:=vals2 r;refine max_two_ints (I.ok.hd hc) λh' tk k=>⟨_,H,I.kept k,?_,q⟩
 by_cases hj:j>i
 ·rw[abz hj,abz hj];exact⟨_,rfl⟩
 ·rw[abA hj,abA hj];exact⟨_,rfl⟩
def Bi(hc:X.calm=true):CallR X (.builtin "min") (λxs H Q=>∃i j,xs=[.int i, .int j]/\Q (.int (if j<i then j else i)) H):=by
 intro f8 s σ H xs us Q I r h;obtain⟨i,j,rfl,q⟩:=h;obtain⟨u,w',rfl,⟨t,rfl⟩,⟨t',rfl⟩⟩:=vals2 r;refine min_two_ints (I.ok.hd hc) λh' tk k=>⟨_,H,I.kept k,?_,q⟩
 by_cases hj:j<i
 ·rw[abz hj,abz hj];exact⟨_,rfl⟩
 ·rw[abA hj,abA hj];exact⟨_,rfl⟩
end
structure ObjM (h:Heap) (x dx C:Addr) (mA:Str->Option Value):Prop where
 obj:h.get? x=some (Zr C dx)
 ns:h.Ns1 dx mA
 ne:dx≠x
def BR{h:Heap}{dx:Addr}{mA:Str->Option Value}(n:h.Ns1 dx mA):∃od,h.get? dx=some od/\∀name,ZG name od=some (mA name):=by
 obtain⟨o,es,ep,ho,hd,hk,_,hm⟩:=n;refine⟨o,ho,λname=>?_⟩;have e:=hm name;unfold nsFind findBy at e;rw[<-Array.find?_toList] at e;unfold ZG;rw[hd]
 dsimp only
 split
 ·rename_i y q;rw[q] at e;exact abG some e
 ·rename_i q;rw[q] at e;have a:es.toList.any (·.refKey)=false:=by
   rw[List.any_eq_false];intro y hy;obtain⟨z,t,yD⟩:=hk y (Array.mem_toList_iff.mp hy);simp[DictEntry.refKey,yD]
  have a':¬es.toList.any (·.refKey)=true:=by rw[a];exact UU
  rw[abA a'];exact abG some e
def ObjM.look{h:Heap}{x dx C:Addr}{mA:Str->Option Value}(I:ObjM h x dx C mA):∃od,PySem.W.InstAt h x (Zr C dx) C (some od)/\∀name,ZG name od=some (mA name):=
 let ⟨od,ho,hl⟩:=BR I.ns
 ⟨od,⟨I.obj,rfl,rfl,ho⟩,hl⟩
def RelO.some_of{v:V}{o:Option Value}(r:RelO (some v) o):∃u,o=some u/\RelV v u:=by
 cases o with
 |none=>exact(show False from r).elim
 |some u=>exact⟨u,rfl,r⟩
def RelO.none_of{o:Option Value}(r:RelO none o):o=none:=by
 cases o with
 |none=>rfl
 |some u=>exact(show False from r).elim
section
variable{P:Vf}{w:World}{H:Hp}{h:Heap}{a C dx:Addr}{fs:List (Str×V)}
def GJ(hok:HOk P w H h)(e:H a=some (.ins C dx fs)):∃mA,ObjM h a dx C mA/\(∀f,RelO (fs.lookup f) (mA f))/\PySem.Within mA (fs.map (·.1))/\fs.length<=1000/\H dx=some (.own a):=by
 obtain⟨d,z,ne,ob,mA,n,r,q⟩:=(show ObjOk P w H h a (.ins C dx fs) from hok a _ e)
 exact⟨mA,⟨ob,n,ne⟩,r,q,z,d⟩
end
structure Cls (K:UJ) (C:Addr):Prop where
 pg:aaY K C Str.empty=true
 hd:PySem.W.hasDictIn K C=true
 po:PySem.W.plainOver K C=true
 sa:abq K (.ref C) "__setattr__"=some (some (.builtin "object.__setattr__"))
def Cls.get{K:UJ}{C:Addr}(c:Cls K C)(f:Str):aaY K C f=true:=c.pg
section
variable{X:Cx}{f8:List (Addr×Obj)}{σ:St}{H:Hp}{s:Ux}{A:Vw}{E:Value->Ux->Prop}{Q:Value->Ux->Prop}{c:Value}{b:Bool}
inductive TyOf (K:UJ) (H:Hp):V->Value->Prop where
 |non:TyOf K H .non (.type "NoneType")
 |bl (x:Bool):TyOf K H (.bl x) (.type "bool")
 |int (i:Int):TyOf K H (.int i) (.type "int")
 |str (x:Str):TyOf K H (.str x) (.type "str")
 |flt (x:UInt64):TyOf K H (.flt x) (.type "float")
 |lst {a:Addr}{xs:List V}(e:H a=some (.lst xs)):TyOf K H (.ref a) (.type "list")
 |frz {a:Addr}{o:Obj}{xs:List V}(e:H a=some (.frz o (.lst xs))):TyOf K H (.ref a) (.type "list")
 |tup {a:Addr}{xs:List V}(e:H a=some (.tup xs)):TyOf K H (.ref a) (.type "tuple")
 |dK {a:Addr}{kvs:List (Key×V)}(e:H a=some (.dK kvs)):TyOf K H (.ref a) (.type "dict")
 |dT {a:Addr}{kvs:List (List Key×V)}(e:H a=some (.dT kvs)):TyOf K H (.ref a) (.type "dict")
 |ins {a C dx:Addr}{fs:List (Str×V)}(e:H a=some (.ins C dx fs)) (cl:Cls K C) (ha:abq K (.ref C) "__class__"=some (some (.builtin "object.__class__")))
   (hn:PySem.W.specialIn K (.builtin "object.__class__") "__get__"=some (some (.builtin "getset_descriptor.__get__"))) (RK:PySem.W.takesIn K (.builtin "object.__class__")=some true)
   (hm:PySem.W.mroIn K C (.type "object")=some true):TyOf K H (.ref a) (.ref C)
def BH{x:V}{u t:Value}(I:Inv X f8 σ H s)(rx:RelV x u)(ty:TyOf X.K H x t)(e:ZH X.K t c=some b)(h:∀tk,Q (.bool b) {s with toks:=tk}):
 wpAny (model X.prog X.w) A (call (.builtin "isinstance") [u,c]) Q E s:=by
 cases ty with
 |non=>cases (show u=U7 from rx);exact V3 PySem.W.kitx_none I.kIn WD e (λz=>nomatch z) h
 |bl y=>cases (show u=WR y from rx);exact V3 PySem.W.kitx_bool I.kIn WD e (λz=>nomatch z) h
 |int i=>obtain⟨t,q⟩:=(show∃t,u=aax i t from rx);cases q;exact V3 PySem.W.kitx_int I.kIn WD e (λz=>nomatch z) h
 |str y=>obtain⟨t,q⟩:=(show∃t,u=aaw y t from rx);cases q;exact V3 PySem.W.kitx_str I.kIn WD e (λz=>nomatch z) h
 |flt y=>obtain⟨t,q⟩:=(show∃t,u=Value.float y t from rx);cases q;exact V3 PySem.W.kitx_float I.kIn WD e (λz=>nomatch z) h
 | @lst a xs ea=>
   cases (show u=UX a from rx);obtain⟨_,_,n,_,h1⟩:=(show ObjOk X.prog X.w H s.heap a (.lst xs) from I.hok a _ ea)
   exact V3 aaL I.kIn ⟨_,h1,rfl⟩ e (λz=>nomatch z) h
 | @frz a ob xs ea=>
   cases (show u=UX a from rx);obtain⟨_,_,_,n,_,h1⟩:=(show ObjOk X.prog X.w H s.heap a (.frz ob (.lst xs)) from I.hok a _ ea)
   exact V3 aaL I.kIn ⟨_,h1,rfl⟩ e (λz=>nomatch z) h
 | @tup a xs ea=>
   cases (show u=UX a from rx);obtain⟨_,_,_,p⟩:=(show ObjOk X.prog X.w H s.heap a (.tup xs) from I.hok a _ ea)
   obtain⟨o,h1,h2,_⟩:=p;exact V3 PySem.W.kitx_tuple I.kIn ⟨o,h1,h2⟩ e (λz=>nomatch z) h
 | @dK a kvs ea=>
   cases (show u=UX a from rx);obtain⟨_,_,vs,_,p⟩:=(show ObjOk X.prog X.w H s.heap a (.dK kvs) from I.hok a _ ea)
   obtain⟨o,es,ep,h1,h2,_⟩:=p;exact V3 aaM I.kIn ⟨o,h1,h2.1⟩ e (λz=>nomatch z) h
 | @dT a kvs ea=>
   cases (show u=UX a from rx);obtain⟨_,_,xs,_,o,es,ep,h1,h2,_⟩:=(show ObjOk X.prog X.w H s.heap a (.dT kvs) from I.hok a _ ea)
   exact V3 aaM I.kIn ⟨o,h1,h2.1⟩ e (λz=>nomatch z) h
 | @ins a C dx fs ea cl ha hn RK hm=>
   cases (show u=UX a from rx);obtain⟨mA,O,_⟩:=GJ I.hok ea;obtain⟨od,J,_⟩:=O.look;exact V3 (PySem.W.kitx_own (cl.get _) cl.hd ha hn RK hm) I.kIn J e (λz=>nomatch z) h
end
structure Room (k:Nat) (A:Vw):Prop where
 hd:A.handled=none
 dp:A.depth+3*k+5<aaH
 un:A.units+16*k+200<cLine
def Room.mono{j k:Nat}{A:Vw}(r:Room k A)(h:j<=k):Room j A:=⟨r.hd,by have:=r.dp;omega,by have:=r.un;omega⟩
def Room.deeper{k:Nat}{A:Vw}(r:Room (k+1) A)(env:Env):Room k (A.deeper env):=
 ⟨r.hd,by have:=r.dp;show A.depth+1+3*k+5<_;omega,by have:=r.un;show A.units+3+16*k+200<_;omega⟩
def Room.depth{k:Nat}{A:Vw}(r:Room k A):A.depth<aaH:=by have:=r.dp;omega
def Room.units{k:Nat}{A:Vw}(r:Room k A):A.units+64<cLine:=by have:=r.un;omega
def Lq:TA:=λ_ H Q=>Q [] H
def Fq(ta:TE)(tr:TA):TA:=λσ H Q=>ta σ H λx H1=>tr σ H1 λxs H2=>Q (x::xs) H2
section
variable{X:Cx}{e:Expr}{es:List Expr}{te:TE}{t:TA}{pos:Pos}
def uw:PA X [] Lq:=λ_ _ _ _ H Q I h=>WB ⟨[],H,I, .nil,h⟩
def uv(ha:PE X e te)(hr:PA X es t)(hs:US (e::es) X.env=(false,eval e X.env)::US es X.env:=by rfl):PA X (e::es) (Fq te t):=by
 intro pos f8 s σ H Q I h;rw[hs];show wpAny _ _ (spliced ((false,eval e X.env)::W6 pos (US es X.env))) _ _ s;refine V5 (bx (ha f8 s σ H _ I h) λu s1 ⟨x,H1,I1,r1,q1⟩=>?_);exact bx (hr pos f8 s1 σ H1 _ I1 q1) λus s2 ⟨xs,H2,I2,r2,q2⟩=>⟨x::xs,H2,I2, .cons r1 r2,q2⟩
def QU(t:TA):TE:=λσ H Q=>t σ H λxs H1=>xs.length<=UR/\∀p,H1 p=none->Q (.ref p) (upd H1 p (.tup xs))
def QQ(t:TA):TE:=λσ H Q=>t σ H λxs H1=>xs.length<=UR/\∀p,H1 p=none->Q (.ref p) (upd H1 p (.lst xs))
def K0{x1}(h:PA X es t):PE X (.Tuple es x1 pos) (QU t):=by
 intro f8 s σ H Q I hq;refine wpAny_Tuple_spliced (bx (h pos f8 s σ H _ I hq) λus s1 ⟨xs,H1,I1,r,z,q⟩=>⟨by rw[<-r.length];exact z,?_⟩);have hf:H1 s1.heap.objs.size=none:=I1.hok.fresh (UB _);refine⟨.ref s1.heap.objs.size,upd H1 s1.heap.objs.size (.tup xs),I1.laid (t':=s1.toks) (λb u e=>Ut _ e) (UB _) ?_,rfl,q _ hf⟩;exact⟨z,us,r,⟨_,UO _ rfl,rfl,_,rfl⟩⟩
def EJ(h:PA X es t):PE X (.List es pos) (QQ t):=by
 intro f8 s σ H Q I hq;refine wpAny_List_spliced (bx (h pos f8 s σ H _ I hq) λus s1 ⟨xs,H1,I1,r,z,q⟩=>⟨by rw[<-r.length];exact z,?_⟩);have hf:H1 s1.heap.objs.size=none:=I1.hok.fresh (UB _);refine⟨.ref s1.heap.objs.size,upd H1 s1.heap.objs.size (.lst xs),I1.laid (t':=s1.toks) (λb u e=>Ut _ e) (UB _) ?_,rfl,q _ hf⟩;exact⟨z,us,0,r,UO _ rfl⟩
end
abbrev Sp:=List V->Hp->VK->XK->Prop
abbrev zK:=List Env->Hp->Ux->XK->Value->Ux->Prop
structure Env0 (P:Vf) (w:World) (K:UJ) (mg:Str->Option Value) (base:Heap) (A:Vw) (outer:List Env) (s:Ux) (H:Hp):Prop where
 frames:A.frames=some outer
 mod:Mod K mg base
 bs:∀b o,base.get? b=some o->s.heap.get? b=some o/\H b=none
 bsz:base.objs.size<=s.heap.objs.size
 funs:s.heap.FunFrames base outer
 frf:∀b∈nU outer,H b=none
 hok:HOk P w H s.heap
 bare:Y5 s.gens
def CE(outer:List Env)(P:Vf)(w:World)(H:Hp)(s:Ux)(Q:VK)(u:Value)(s':Ux):Prop:=
 ∃v H',s'.os=s.os/\Y5 s'.gens/\Un (nU outer) [] H H' s.heap s'.heap/\HOk P w H' s'.heap/\RelV v u/\Q v H'
def CR(CX:zK)(outer:List Env)(P:Vf)(w:World)(H:Hp)(s:Ux)(Q:VK)(E:XK)(r:Result)(s':Ux):Prop:=
 match r with
 | .ok (.ret u)=>CE outer P w H s Q u s'
 | .ok _=>False
 | .error e=>CX outer H s E e s'
structure FnOk (P:Vf) (w:World) (K:UJ) (mg:Str->Option Value) (base:Heap) (CX:zK) (k:Nat) (f:Addr) (fd:Xm) (ps:List Str) (sp:Sp):Prop where
 len:∀vs H Q E,sp vs H Q E->vs.length=ps.length
 run:∀(A:Vw) (outer:List Env) (s:Ux) (H:Hp) (args:Args) (us:List Value) (vs:List V) (Q:VK) (E:XK),Room k A->Env0 P w K mg base A outer s H->abl s fd args (ps.zip us)->Vals vs us->sp vs H Q E->
  X9 (model P w) A (.call (.ref f) args) (CR CX outer P w H s Q E) s
def FnOk.mono{P:Vf}{w:World}{K:UJ}{mg:Str->Option Value}{base:Heap}{CX:zK}{j k:Nat}{f:Addr}{fd:Xm}{ps:List Str}{sp:Sp}(F:FnOk P w K mg base CX j f fd ps sp)(h:j<=k):
 FnOk P w K mg base CX k f fd ps sp:=⟨F.len,λA outer s H args us vs Q E hr=>F.run A outer s H args us vs Q E (hr.mono h)⟩
section
variable{X:Cx}{f8:List (Addr×Obj)}{σ:St}{H:Hp}{s s':Ux}
def Inv.env0(I:Inv X f8 σ H s):Env0 X.prog X.w X.K X.mg X.base X.A X.stack s H:=
 ⟨I.ok.frames,I.ok.mod,I.bs,U1 I.ok.bsz I.sz,I.stack,I.stkFree,I.hok,I.bare⟩
def Inv.after{Q:VK}{u:Value}(I:Inv X f8 σ H s)(h:CE X.stack X.prog X.w H s Q u s'):EP X f8 σ Q u s':=by
 obtain⟨v,H',os,bare,un,hok,r,q⟩:=h;obtain⟨hh,g,d,t,TZ⟩:=s';obtain rfl:TZ=s.os:=os;exact⟨v,H',I.call (h':=hh) (g':=g) (d':=d) (t':=t) (ch:=[]) un hok bare (λb z=>abE z (by simp)),r,q⟩
end
def N5(sp:Sp)(Ir:List V)(E:XK)(t:TA):TE:=λσ H Q=>t σ H λvs H1=>sp (vs++Ir) H1 Q E
def Binds(K:UJ)(fd:Xm)(ps:List Str)(ds:List Value):Prop:=
 ∀(s:Ux) (us:List Value),K.In s.heap->(us++ds).length=ps.length->abl s fd ⟨us,[]⟩ (ps.zip (us++ds))
def Binds.all{K:UJ}{fd:Xm}{ps:List Str}(h:∀us:List Value,us.length=ps.length->bindArgs fd ⟨us,[]⟩=pure (ps.zip us)):Binds K fd ps []:=λs us _ hl=>by
 rw[V7] at hl⊢;exact .of_eq (h us hl)
def Passes(CX:zK)(X:Cx)(E:XK):Prop:=∀(f8:List (Addr×Obj)) (σ:St) (H:Hp) (s:Ux) (e:Value) (s':Ux),Inv X f8 σ H s->CX X.stack H s E e s'->X.xe e s'
section
variable{X:Cx}{CX:zK}{k:Nat}{f:Addr}{fd:Xm}{ps:List Str}{sp:Sp}{Ir:List V}{ds:List Value}{E:XK}{x:Str}{p pos:Pos}{e:Expr}{es:List Expr}{t:TA}
def Lc{f8:List (Addr×Obj)}{σ:St}{H:Hp}{s:Ux}{Q:VK}{us:List Value}{vs:List V}(F:FnOk X.prog X.w X.K X.mg X.base CX k f fd ps sp)(hr:Room k X.A)(hb:Binds X.K fd ps ds)(hd:Vals Ir ds)(hx:Passes CX X E)
 (I:Inv X f8 σ H s)(r:Vals vs us)(h:sp (vs++Ir) H Q E):wpAny (model X.prog X.w) X.A (call (.ref f) us) (EP X f8 σ Q) X.xe s:=by
 have r2:Vals (vs++Ir) (us++ds):=r.append hd;have hl:(us++ds).length=ps.length:=by rw[<-r2.length];exact F.len _ _ _ _ h
 refine wpAny_call (Z5 (F.run X.A X.stack s H ⟨us,[]⟩ (us++ds) (vs++Ir) Q E hr I.env0 (hb s us I.kIn hl) r2 h) λr s' hq=>?_);cases r with
 |error e=>exact hx f8 σ H s e s' I hq
 |ok fl=>
  cases fl with
  |ret u=>exact I.after hq
  |next=>exact WS hq
  |brk=>exact WS hq
  |cont=>exact WS hq
def Hr(F:FnOk X.prog X.w X.K X.mg X.base CX k f fd ps sp)(hr:Room k X.A)(hg:Gl X x)(hm:X.mg x=some (.ref f))(hk:WJ X.K (.ref f)=true)(hb:Binds X.K fd ps ds)(hd:Vals Ir ds)(hx:Passes CX X E)
 (ha:PA X (e::es) t)(tI:(x==("__debug__":Str))=false:=by decide)(he:US (e::es) X.env=(false,eval e X.env)::US es X.env:=by rfl)(ou:(W6 pos (US es X.env)).any (·.1)=false:=by rfl):
 PE X (.Call (.Name x p) (e::es) [] pos) (N5 sp Ir E t):=by
 intro f8 s σ H Q I h;refine Xx (As I hg hm ?_ tI);refine PySem.W.callWith_K (h₀:=X.base) I.ok.mod.kin hk (bx (ha pos f8 s σ H _ I h) λus s1 ⟨vs,H1,I1,r,q⟩=>⟨I1.kIn,?_⟩) he ou;exact Lc F hr hb hd hx I1 r q
end
section
variable{ks:List Str}
end
structure FnScope (N P:List Str) (sc:Scope):Prop where
 kind:sc.kind= .function
 co:sc.isCoroutine=false
 gen:sc.isGenerator=false
 nd:N.Nodup
 pre:N.take P.length=P
 par:∀x∈P,sc.names.lookup x=some .local\/sc.names.lookup x=some .cell
 nofree:∀y∈sc.names,y.2≠ .free
def rO{YK:Str->Option Ym}{x:Str}:∀{binds:List (Str×Value)}{m:Str->Option Value},(∀v,(x,v)∉binds)->bindL YK binds m x=m x
 |[],_,_=>rfl
 |(n,v)::r,m,h=>by
  unfold bindL;rw[rO λw hw=>h w (Uu _ hw)];split
  ·have:x≠n:=by rintro rfl;exact h v Uv
   simp[this]
  ·rfl
def rM{YK:Str->Option Ym}{x:Str}:∀{binds:List (Str×Value)}{m:Str->Option Value},(∀v,(x,v)∉binds)->bindC YK binds m x=m x
 |[],_,_=>rfl
 |(n,v)::r,m,h=>by
  unfold bindC;rw[rM λw hw=>h w (Uu _ hw)];split
  ·rfl
  ·have:x≠n:=by rintro rfl;exact h v Uv
   simp[this]
def rN{YK:Str->Option Ym}{x:Str}{v:Value}:∀{P:List Str}{vs:List Value}{i:Nat}{m:Str->Option Value},P.Nodup->P[i]? =some x->vs[i]? =some v->YK x=some .local->
 bindL YK (P.zip vs) m x=some v
 |[],_,_,_,_,h,_,_=>by simp at h
 |_::_,[],_,_,_,_,h,_=>by simp at h
 |p::P,w::vs,0,m,nd,h1,h2,hk=>by
  simp at h1 h2;subst h1;subst h2;show bindL YK ((p,w)::P.zip vs) m p=_;unfold bindL;rw[rO λv hv=>(Vk.mp nd).1 (YA hv).1,abz hk];simp
 |p::P,w::vs,i+1,m,nd,h1,h2,hk=>by
  show bindL YK ((p,w)::P.zip vs) m x=_;unfold bindL;exact rN (i:=i) (Vk.mp nd).2 (by simpa using h1) (by simpa using h2) hk
def rL{YK:Str->Option Ym}{x:Str}{v:Value}:∀{P:List Str}{vs:List Value}{i:Nat}{m:Str->Option Value},P.Nodup->P[i]? =some x->vs[i]? =some v->YK x≠some .local->
 bindC YK (P.zip vs) m x=some v
 |[],_,_,_,_,h,_,_=>by simp at h
 |_::_,[],_,_,_,_,h,_=>by simp at h
 |p::P,w::vs,0,m,nd,h1,h2,hk=>by
  simp at h1 h2;subst h1;subst h2;show bindC YK ((p,w)::P.zip vs) m p=_;unfold bindC;rw[rM λv hv=>(Vk.mp nd).1 (YA hv).1,abA hk];simp
 |p::P,w::vs,i+1,m,nd,h1,h2,hk=>by
  show bindC YK ((p,w)::P.zip vs) m x=_;unfold bindC;exact rL (i:=i) (Vk.mp nd).2 (by simpa using h1) (by simpa using h2) hk
def start(N:List Str)(vs:List V):St:=vs.map some++Vu (N.length - vs.length) none
def de(CX:zK)(P:Vf)(w:World)(K:UJ)(mg:Str->Option Value)(base:Heap)(N:List Str)(qual:Str)(scope:Scope)(f:Addr)(cd:Value)(A:Vw)(outer:List Env)(s:Ux)(H:Hp)(E:XK):Cx where
 prog:=P
 w:=w
 K:=K
 mg:=mg
 base:=base
 A:=A.deeper (WO qual scope s.heap.objs.size f cd)
 N:=N
 abK:=s
 abJ:=H
 env:=WO qual scope s.heap.objs.size f cd
 outer:=outer
 stack:=WO qual scope s.heap.objs.size f cd::outer
 ex:=[]
 calm:=true
 fn:=λ_=>true
 pn:=[]
 xe:=λe s'=>wpAny (model P w) (A.deeper (WO qual scope s.heap.objs.size f cd)) (leaving (WO qual scope s.heap.objs.size f cd) e) (λ_ QK=>CX outer H s E e QK) (λe' QK=>CX outer H s E e' QK) s'
def vC{sc:Scope}{n:Nat}{x:Str}(h:sc.names.lookup x=some .cell):∃c,(ZE n sc.names []).lookup x=some c:=by
 have q:=Z7 sc.names n [] (.inl h);exact W_.mp q
def BE{CX:zK}{P:Vf}{w:World}{K:UJ}{mg:Str->Option Value}{base:Heap}{N ps:List Str}{qual:Str}{scope:Scope}{f:Addr}{cd:Value}{A:Vw}{outer:List Env}{s s1:Ux}{H:Hp}{E:XK}{us:List Value}{vs:List V}
 (S:FnScope N ps scope)(hd:A.handled=none)(e0:Env0 P w K mg base A outer s H)(hl:vs.length=ps.length)(r:Vals vs us)
 (x:InCallC s s.heap.objs.size (bindL (WO qual scope s.heap.objs.size f cd).kindOf (ps.zip us) λ_=>none) (ZE (s.heap.objs.size+1) scope.names []) (bindC (WO qual scope s.heap.objs.size f cd).kindOf (ps.zip us) λ_=>none) s1):
 Inv (de CX P w K mg base N qual scope f cd A outer s H E) [] (start N vs) H s1:=by
 have ou:ps.length<=N.length:=by have:=abG aa0 S.pre;rw[Xa] at this;omega
 obtain⟨h1,tk,rfl,hk⟩:=x.done;have Nn:∀b:Addr,b∉(de CX P w K mg base N qual scope f cd A outer s H E).ex:=λb z=>abE (show b∈([]:List Addr) from z) (by simp);refine⟨⟨e0.mod,S.kind,rfl,rfl,UB _,λy z c h1 h2=>?_,λy hy=>?_,λy c _ h=>?_,λ_=>hd,Around.frames_deeper e0.frames, .inr ⟨rfl,rfl⟩,λb z=>abE z (Nn b),e0.bs,e0.bsz,λb _ _=>Nn b,λb z=>abE z (Nn b),e0.funs,e0.frf⟩,
  rfl,e0.bare,Un.kept hk,⟨_,x.toInCall.ns,λi y v h1 h2 h3=>?_⟩,λy c h=>⟨_,x.cell y c h⟩,e0.hok.fresh (UB _),λy c h=>?_,λp hp=>abE (show p∈([]:List (Addr×Obj)) from hp) (by simp),e0.hok.kept hk,?_⟩
 ·exact name_of_addr x.apart (VZ h1) (VZ h2)
 ·have hy:scope.names.lookup y=some .cell\/scope.names.lookup y=some .free:=hy;rcases hy with hy | hy
  ·exact vC hy
  ·exact abE rfl (S.nofree _ (VZ hy))
 ·exact Vt (x.above y c (VZ h))
 ·have hi:i<vs.length:=by
   unfold start at h2;by_cases hi:i<vs.length
   ·exact hi
   ·rw[Vb (by simpa using hi)] at h2;rw[Wl] at h2;split at h2<;>cases h2
  have ha:vs[i]? =some v:=by
   unfold start at h2;rw[U6 (by simpa using hi),UG] at h2;cases e:vs[i]? with
   |none=>rw[e] at h2;cases h2
   |some a=>rw[e] at h2;cases h2;rfl
  obtain⟨u,hu,rv⟩:=r.get ha;have hp:ps[i]? =some y:=by
   rw[<-S.pre,List.getElem?_take_of_lt (by omega)];exact h1
  have RX:ps.Nodup:=by rw[<-S.pre];exact S.nd.sublist (List.take_sublist _ _)
  refine⟨u,rv,?_⟩;rcases S.par y (UZ hp) with k | k
  ·exact .inl ⟨k,rN RX hp hu k⟩
  ·obtain⟨c,e⟩:=vC (n:=s.heap.objs.size+1) k;refine .inr ⟨.inl k,c,e,?_⟩;have q:=x.cell y c e;rw[rL RX hp hu (by show scope.names.lookup y≠_;rw[k];decide)] at q;exact q
 ·exact e0.hok.fresh (Vt (x.above y c (VZ h)))
 ·unfold start;show _=N.length;rw[UN,Ur,WX];omega
def Iv{CX:zK}{P:Vf}{w:World}{K:UJ}{mg:Str->Option Value}{base:Heap}{k:Nat}{f:Addr}{name qual:Str}{params:Arguments}{body:List Stmt}{scope:Scope}{dV kV doc pm b6 ct oc:Value}{an od:Option Addr}
 {Ha:Array (Option Value)}{N ps:List Str}{sp:Sp}(lk:K.lookup f=some ⟨oc,od, .func (Wr name qual params body scope dV kV doc pm an b6 ct),Ha⟩)(yb:Xr K b6 qual=true)(S:FnScope N ps scope)
 (len:∀vs H Q E,sp vs H Q E->vs.length=ps.length)
 (pw:∀(A:Vw) (outer:List Env) (s:Ux) (H:Hp) (vs:List V) (Q:VK) (E:XK),Room k (A.deeper (WO qual scope s.heap.objs.size f b6))->sp vs H Q E->
  ∃t,PSs (de CX P w K mg base N qual scope f b6 A outer s H E) body t/\t {nx:=λ_ H'=>Q .non H',rt:=Q} (start N vs) H):
 FnOk P w K mg base CX (k+1) f (Wr name qual params body scope dV kV doc pm an b6 ct) ps sp:=by
 refine⟨len,λA outer s H args us vs Q E hr e0 hb r FP=>?_⟩;have hl:=len _ _ _ _ FP;have KX:K.In s.heap:=e0.mod.kin.keeps λb o e=>(e0.bs b o e).1;have lim:s.heap.NoLimit:=e0.mod.nolimit.keeps λb o e=>(e0.bs b o e).1;have v9:∀y∈ps.zip us,scope.names.lookup y.1=some .local\/(scope.names.lookup y.1=some .cell/\((ZE (s.heap.objs.size+1) scope.names []).lookup y.1).isSome=true):=λ⟨n,v⟩ hy=>by
  rcases S.par n (YA hy).1 with q | q
  ·exact .inl q
  ·exact .inr ⟨q,Z7 _ _ _ (.inl q)⟩
 refine codeAny_call_function hr.depth (KX _ _ lk) rfl S.co S.gen rfl (PySem.W.codeRec_of KX yb) (hb _ _ _ _ ?_);refine wpAny_newFunctionEnv_cells S.kind v9 λenv he s1 x=>?_;subst he;refine⟨lim.keeps x.toInCall.keep,codeAny_func ?_⟩;obtain⟨t,ht,hq⟩:=pw A outer s H vs Q E (hr.deeper _) FP;have I:Inv (de CX P w K mg base N qual scope f b6 A outer s H E) [] (start N vs) H s1:=BE S hr.hd e0 hl r x;refine VN (ht [] s1 (start N vs) H _ I hq) (λfl s' hs=>?_) λe s' hs=>hs;have fin:∀{σ':St}{H':Hp}{v:V}{u:Value},Inv (de CX P w K mg base N qual scope f b6 A outer s H E) [] σ' H' s'->RelV v u->Q v H'->CE outer P w H s Q u s':=
  λ{σ' H' v u} J rv q=>⟨v,H',J.os,J.bare,J.base,J.hok,rv,q⟩
 cases fl with
 |ret u=>
  obtain⟨v,σ',H',J,rv,q⟩:=hs;exact fin J rv q
 |next=>
  obtain⟨σ',H',J,q⟩:=hs;exact fin (v:=V.non) (u:=U7) J rfl q
 |brk=>
  obtain⟨_,_,_,q⟩:=hs;exact WS q
 |cont=>
  obtain⟨_,_,_,q⟩:=hs;exact WS q
section
variable{X:Cx}{x:Str}{p pos:Pos}{e:Expr}{es:List Expr}{t:TA}{id T:String}{r:List V->Hp->VK->Prop}
def QO(r:List V->Hp->VK->Prop)(t:TA):TE:=λσ H Q=>t σ H λvs H1=>r vs H1 Q
def EF(hc:CallR X (.builtin id) r)(hg:Gl X x)(hm:X.mg x=none)(hv:Vh x=some (.builtin id))(ha:PA X (e::es) t)(hn:x≠"__name__":=by decide)(tI:(x==("__debug__":Str))=false:=by decide)
 (he:US (e::es) X.env=(false,eval e X.env)::US es X.env:=by rfl)(ou:(W6 pos (US es X.env)).any (·.1)=false:=by rfl):PE X (.Call (.Name x p) (e::es) [] pos) (QO r t):=by
 intro f8 s σ H Q I h;refine Xx (iM I hg hm hv ?_ hn tI);exact Xg (bx (ha pos f8 s σ H _ I h) λus s1 ⟨vs,H1,I1,r1,q1⟩=>hc f8 s1 σ H1 vs us Q I1 r1 q1) he ou
def Cb(hc:CallR X (.type T) r)(hg:Gl X x)(hm:X.mg x=none)(hv:Vh x=some (.type T))(ha:PA X (e::es) t)(hn:x≠"__name__":=by decide)(tI:(x==("__debug__":Str))=false:=by decide)
 (he:US (e::es) X.env=(false,eval e X.env)::US es X.env:=by rfl)(ou:(W6 pos (US es X.env)).any (·.1)=false:=by rfl):PE X (.Call (.Name x p) (e::es) [] pos) (QO r t):=by
 intro f8 s σ H Q I h;refine Xx (iM I hg hm hv ?_ hn tI);exact WK (bx (ha pos f8 s σ H _ I h) λus s1 ⟨vs,H1,I1,r1,q1⟩=>hc f8 s1 σ H1 vs us Q I1 r1 q1) he ou
end
end L2
namespace HT
open PySem PyProof.Rows
def lexLt:List Int->List Int->Bool
 |[],[]=>false
 |[],_::_=>true
 |_::_,[]=>false
 |x::xs,y::ys=>if x=y then lexLt xs ys else decide (x<y)
def lexLt_cons(x y:Int)(xs ys:List Int):lexLt (x::xs) (y::ys)=if x=y then lexLt xs ys else decide (x<y):=rfl
def lexLt_nil_nil:lexLt [] []=false:=rfl
def lexLt_nil_cons(y:Int)(ys:List Int):lexLt [] (y::ys)=true:=rfl
def lexLt_cons_nil(x:Int)(xs:List Int):lexLt (x::xs) []=false:=rfl
def eqAt_int(A:Vw)(s:Ux)(a:Int)(t:Tok)(c:Int)(u:Tok):∃e,aba A s (.int a t) (.int c u) e/\(e=true↔a=c):=
 ⟨(a==c),aag a t c u,by simp⟩
def rcLt_int(A:Vw)(s:Ux)(a:Int)(t:Tok)(c:Int)(u:Tok)(prog:Vf)(w:World)(E:Value->Ux->Prop)(Q:Value->Ux->Prop)(h:Q (.bool (decide (a<c))) s):
 wpAny (model prog w) A (richCompare .Lt (.int a t) (.int c u)) Q E s:=
 (Yk h:wpAny (model prog w) A (VP .Lt (.int a t) (.int c u)) Q E s)
section
open PySem.SeqAt
open PySem.AutoSeq1 (wpAny_loadPart')
open PySem.MeetsSeq PySem.MeetsSeq2 PySem.MeetsSeq3
def tuple_lt_ints(l b:Addr)(items bg:Array Value)(n n2:Nat)(dd rX:Option Addr)(sl zu:Array (Option Value))(ns ms:List Int)(hi:V0 items.toList ns)(hj:V0 bg.toList ms):
 Meets (XW.«tuple.__lt__» ⟨[.ref l, .ref b],[]⟩)
  (λ_ R s=>s.heap.get? l=some {cls:= .type "tuple",dict:=dd,data:= .seq items n,slots:=sl}/\s.heap.get? b=some {cls:= .type "tuple",dict:=rX,data:= .seq bg n2,slots:=zu}/\
   R (.ok (.ret (.bool (lexLt ns ms)))) s):=
 .of_wp λprog w A R s h=>by
  obtain⟨hp,g,d,tk,os⟩:=s;obtain⟨hl,hb,h⟩:=h;have f2:=AutoSeq1.sub_tuple_tuple;have z1:items.size=ns.length:=by rw[<-hi.length];simp
  have z2:bg.size=ms.length:=by rw[<-hj.length];simp
  wp_walk using wpAny_loadPart' hl,wpAny_loadPart' hb,aab _ (λrest b s'=>b.1=none/\s'=⟨hp,g,d,tk,os⟩/\∃(vs ws:List Value) (FR LP:List Int),rest=vs.zip ws/\
   V0 vs FR/\V0 ws LP/\FR.length+bg.size=LP.length+items.size/\R (.ok (.ret (.bool (lexLt FR LP)))) ⟨hp,g,d,tk,os⟩) _
  case turn=>
   rintro⟨y,x⟩ rest b s' ⟨Ms,rfl,vs,ws,FR,LP,hz,Qh,OI,P3,hR⟩;cases Qh with
   |nil=>rw[List.zip_nil_left] at hz;cases hz
   |cons a t Qi=>
    cases OI with
    |nil=>rw[List.zip_nil_right] at hz;cases hz
    |cons c u Qj=>
     rw[VW] at hz;injection hz with TF MQ
     injection TF with hy hx
     subst hy hx;rw[lexLt_cons] at hR;simp only[UI] at P3;obtain⟨e,he,DK⟩:=eqAt_int A.in1 ⟨hp,g,d,tk,os⟩ a t c u;refine Uq (he prog w _ _ ?_);cases e with
     |true=>
      rw[abz (DK.mp rfl)] at hR
      wp_walk
      exact⟨rfl,rfl,_,_,_,_,MQ,Qi,Qj,by omega,hR⟩
     |false=>
      rw[abA (λq=>abE (DK.mpr q) UU)] at hR;have P9:=rcLt_int A.in1 ⟨hp,g,d,tk,os⟩ a t c u prog w
      wp_walk using P9
      exact⟨_,rfl,by simpa using hR⟩
  case fin=>
   rintro⟨b1,b2⟩ s' ⟨Ms,rfl,vs,ws,FR,LP,hz,Qh,OI,P3,hR⟩;simp only at Ms;subst Ms;have hv:lexLt FR LP=decide (items.size<bg.size):=by
    cases Qh with
    |nil=>
     cases OI with
     |nil=>
      simp only[VX] at P3;rw[lexLt_nil_nil];exact(abD (by omega)).symm
     |cons c u hw=>
      simp only[VX,UI] at P3;rw[lexLt_nil_cons];exact(abB (by omega)).symm
    |cons a t hv=>
     cases OI with
     |nil=>
      simp only[VX,UI] at P3;rw[lexLt_cons_nil];exact(abD (by omega)).symm
     |cons c u hw=>
      rw[VW] at hz;cases hz
   rw[hv] at hR
   wp_walk
   exact⟨_,rfl,by simpa[Builtin.Tuple.tupleCompareSizes] using hR⟩
  case h=>
   exact⟨rfl,rfl,items.toList,bg.toList,ns,ms,rfl,hi,hj,by omega,h⟩
end
section
variable{prog:Vf}{w:World}{A:Vw}{E:Value->Ux->Prop}{s:Ux}
def lt_tupInts{l b:Addr}{items bg:Array Value}{ns ms:List Int}{Q:Value->Ux->Prop}(hl:IsTup s.heap l items)(hb:IsTup s.heap b bg)(hi:V0 items.toList ns)(hj:V0 bg.toList ms)
 (hu:A.units<cLine)(h:Q (.bool (lexLt ns ms)) s):wpAny (model prog w) A (VP .Lt (.ref l) (.ref b)) Q E s:=by
 obtain⟨⟨cls,dd,data,sl⟩,ho,hc,n,hd⟩:=id hl;obtain⟨⟨Jq,rX,data2,zu⟩,CK,yB,n2,hd2⟩:=id hb;simp only at hc hd yB hd2;subst hc hd yB hd2;exact richCompare_meets_room (op:= .Lt) ⟨_,ho,rfl⟩ ⟨_,CK,rfl⟩ PySem.F.slot_tuple_lt PySem.F.entry_tuple_lt (PySem.F.args_tuple_lt_2 _ _) (tuple_lt_ints l b items bg n n2 dd rX sl zu ns ms hi hj)
  ⟨ho,CK,show WR (lexLt ns ms)≠Value.notImplemented/\Q (.bool (lexLt ns ms)) s from⟨(λx=>nomatch x),h⟩⟩ hu
def cat_tup{t b:Addr}{vs ws:List Value}{Q:Value->Ux->Prop}(ht:IsTup s.heap t vs.toArray)(hb:IsTup s.heap b ws.toArray)(hv:vs≠[])
 (h1:ws=[]->Q (.ref t) s)(h2:ws≠[]->Q (.ref s.heap.objs.size) {s with heap:=s.heap.push {cls:= .type "tuple",data:= .seq (vs++ws).toArray} })
 (hsz:vs.length+ws.length<=UR):wpAny (model prog w) A (Yj .Add (.ref t) (.ref b)) Q E s:=by
 obtain⟨⟨cls,dd,data,sl⟩,ho,hc,n,hd⟩:=id ht;obtain⟨⟨Jq,rX,data2,zu⟩,CK,yB,n2,hd2⟩:=id hb;simp only at hc hd yB hd2;subst hc hd yB hd2;have e:vs.toArray++ws.toArray=(vs++ws).toArray:=by simp
 by_cases hw:ws=[]
 ·exact concat_meets ⟨_,ho,rfl⟩ ⟨_,CK,rfl⟩ aad aa6 Yg Yd (X1 _ _)
   (tuple_addW1 t b vs.toArray ws.toArray n n2 dd rX sl zu (by simpa using hv) (by simp[hw])) ⟨ho,CK,h1 hw⟩
 ·refine concat_meets ⟨_,ho,rfl⟩ ⟨_,CK,rfl⟩ aad aa6 Yg Yd (X1 _ _)
   (tuple_addW2 t b vs.toArray ws.toArray n n2 dd rX sl zu (by simpa using hv) (by simpa using hw) (by rw[UK,UK];exact hsz)) ⟨ho,CK,?_⟩
  rw[e];exact h2 hw
def sIx(n d:Nat):Option Int->Nat
 |none=>d
 |some v=>if v<0 then(v+(n:Int)).toNat else min v.toNat n
def sIx_nat(n d k:Nat):sIx n d (some (k:Int))=min k n:=by
 show (if (k:Int)<0 then((k:Int)+(n:Int)).toNat else min (k:Int).toNat n)=min k n;rw[abA (by omega),WI]
def sIx_le(n d:Nat)(hd:d<=n)(o:Option Int):sIx n d o<=n:=by
 cases o with
 |none=>exact hd
 |some v=>
  show (if v<0 then(v+(n:Int)).toNat else min v.toNat n)<=n;by_cases hv:v<0
  ·rw[abz hv];omega
  ·rw[abA hv];exact Nat.min_le_right _ _
def clip_eq(v:Int)(n d:Nat):(if v<0 then max (v+(n:Int)) 0 else min v (n:Int))=((sIx n d (some v):Nat):Int):=by
 show (if v<0 then max (v+(n:Int)) 0 else min v (n:Int))=(((if v<0 then(v+(n:Int)).toNat else min v.toNat n):Nat):Int)
 by_cases hv:v<0
 ·simp only[abz hv];omega
 ·simp only[abA hv];omega
def adjust_gen(lo hi:Option Int)(n:Nat):Wm lo hi 1 (n:Int)=(((sIx n 0 lo:Nat):Int),((sIx n n hi:Nat):Int)):=by
 have h1:¬((1:Int)<0):=by omega
 unfold Wm;simp only[h1,if_false];refine Yl ?_ ?_
 ·cases lo with
  |none=>rfl
  |some v=>exact clip_eq v n 0
 ·cases hi with
  |none=>rfl
  |some v=>exact clip_eq v n n
def places_gen(i j:Nat):VB (i:Int) (j:Int) 1=j - i:=by
 unfold VB;have h1:(1:Int)>0:=by omega
 simp only[h1,if_true,Int.ediv_one];split<;>omega
def slicePart_{v:Value}{o:Option Int}{Q:Option Int->Ux->Prop}(p:Z8 v o)(h:Q o s):wpAny (model prog w) A (Builtin.Slice.slicePartIndex v) Q E s:=by
 cases p with
 |none=>exact Zg h
 |int i t=>exact slicePart_int h
def sliceApplied_gen{sl:Addr}{vl vu:Value}{lo hi:Option Int}{n:Nat}{Q:Int×Int×Nat->Ux->Prop}(hs:s.heap.IsSliceOf sl vl vu .none)(pl:Z8 vl lo)(pu:Z8 vu hi)
 (h:Q (((sIx n 0 lo:Nat):Int),1,sIx n n hi - sIx n 0 lo) s):wpAny (model prog w) A (WT (.ref sl) (pure (n:Int))) Q E s:=by
 obtain⟨os,tL,JQ,BA⟩:=id hs;unfold WT Y3;refine Uq (Uq (WG tL BA (x:=vl) rfl (Uq (WG tL BA (x:=vu) rfl (Uq (WG tL BA (x:= .none) rfl (Uw ?_)))))));refine Uq (Zg ?_);show wpAny _ _ (if ((1:Int)==0)=true then _ else _) _ _ s;rw[abA (by decide)];refine Uq (slicePart_ pl (Uq (slicePart_ pu (Uq (Uw ?_)))));show wpAny _ _ (match Wm lo hi 1 (n:Int) with | (lo,hi)=>pure (lo,(1:Int),VB lo hi 1)) _ _ s;rw[adjust_gen lo hi n];show wpAny _ _ (pure (((sIx n 0 lo:Nat):Int),(1:Int),VB ((sIx n 0 lo:Nat):Int) ((sIx n n hi:Nat):Int) 1)) _ _ s;rw[places_gen];exact Uw h
def pick_gen(xs:Array Value)(i k:Nat):((UH k).filterMap λ(m:Nat)=>xs[((i:Int)+(m:Int)*1).toNat]?).toArray=((xs.toList.drop i).take k).toArray:=by
 have e:(λ(m:Nat)=>xs[((i:Int)+(m:Int)*1).toNat]?)=λm=>xs[i+m]? :=by
  funext m;have:((i:Int)+(m:Int)*1).toNat=i+m:=by omega
  rw[this]
 rw[e];have:=pick_run xs i k;rw[abi] at this;have e2:((λx=>xs[x]?)∘λx=>i+x)=λm=>xs[i+m]? :=rfl;rw[e2] at this;rw[this]
def getItem_tuple_cut{t sl:Addr}{items:Array Value}{vl vu:Value}{lo hi:Option Int}{Q:Value->Ux->Prop}(ht:IsTup s.heap t items)(hs:s.heap.IsSliceOf sl vl vu .none)(pl:Z8 vl lo)(pu:Z8 vu hi)
 (hw:¬(sIx items.size 0 lo=0/\sIx items.size items.size hi=items.size))
 (h:Q (.ref s.heap.objs.size) {s with heap:=s.heap.push {cls:= .type "tuple",data:= .seq ((items.toList.drop (sIx items.size 0 lo)).take (sIx items.size items.size hi - sIx items.size 0 lo)).toArray} })
 (hsz:items.size<=UR):wpAny (model prog w) A (X8 (.ref t) (.ref sl)) Q E s:=by
 have Ag:sizeOk (.seq ((items.toList.drop (sIx items.size 0 lo)).take (sIx items.size items.size hi - sIx items.size 0 lo)).toArray):=by
  show ((items.toList.drop (sIx items.size 0 lo)).take (sIx items.size items.size hi - sIx items.size 0 lo)).toArray.size<=UR;rw[UK,Xa,Zx,UL];omega
 have hj:sIx items.size items.size hi<=items.size:=sIx_le _ _ (UB _) hi;obtain⟨os,tL,JQ,BA⟩:=id hs;have Mo:s.TypeIs (.ref sl) "slice":=⟨os,tL,JQ⟩
 unfold X8
 try with_reducible refine VT ?_
 first | refine Uq (Uw ?_) | skip
 refine Uq (ZU ht.typeIs (by decide) ?_);refine Uq (VU (name:=V8 "__getitem__") ht.typeIs VI
  (Vq VI ht.typeIs Zp ?_ (ZF _ _)))
 show wpAny _ _ (XA (.ref t)>>=_) _ _ s;refine Uq (aa4 ht ?_);refine Uq (Yh Mo ?_);rw[abz (by decide)];refine Uq (sliceApplied_gen hs pl pu ?_);have tK:¬((((sIx items.size 0 lo:Nat):Int)==0&&(1:Int)==1&&(sIx items.size items.size hi - sIx items.size 0 lo)==items.size)=true):=by
  intro q;rw[UY,UY] at q;have q1:((sIx items.size 0 lo:Nat):Int)=0:=eq_of_beq q.1.1;have q2:sIx items.size items.size hi - sIx items.size 0 lo=items.size:=eq_of_beq q.2;exact hw ⟨by omega,by omega⟩
 show wpAny _ _ (if (((sIx items.size 0 lo:Nat):Int)==0&&(1:Int)==1&&(sIx items.size items.size hi - sIx items.size 0 lo)==items.size)=true then _ else _) _ _ s;rw[abA tK,pick_gen]
 first
  |exact Uq (m:=VE _) (U_ (Uw ⟨_,rfl,Uw h⟩) Ag)
  |exact Uq (m:=VE _) (U_ (Uq (Uw (Uw ⟨_,rfl,Uw h⟩))) Ag)
  |exact Uq (Uq (m:=VE _) (U_ (Uw (Uw ⟨_,rfl,Uw h⟩)) Ag))
  |exact Uq (Uq (m:=VE _) (U_ (Uw ⟨_,rfl,Uw h⟩) Ag))
end
end HT
namespace L2
open PySem PySem.Spec PyProof.Rows
abbrev TO:=St->Hp->(Option Int->Hp->Prop)->Prop
def PO(X:Cx)(e:Option Expr)(t:TO):Prop:=
 ∀(f8:List (Addr×Obj)) (s:Ux) (σ:St) (H:Hp) (Q:Option Int->Hp->Prop),Inv X f8 σ H s->t σ H Q->
  wpAny (model X.prog X.w) X.A (evalPart e X.env) (λu s'=>∃o H',Inv X f8 σ H' s'/\Z8 u o/\Q o H') X.xe s
def H_:TO:=λ_ H Q=>Q none H
def Ob(t:TE):TO:=λσ H Q=>t σ H λx H1=>∃i,x= .int i/\Q (some i) H1
def intsAre_of{ns:List Int}:∀{us:List Value},Vals (ns.map V.int) us->V0 us ns:=by
 induction ns with
 |nil=>intro us r;rw[Xf] at r;cases r;exact .nil
 |cons n ns ih=>
  intro us r;rw[Uz] at r;cases r with
  |cons r1 r2=>
   obtain⟨t,e⟩:=r1;subst e;exact .cons n t (ih r2)
section
variable{X:Cx}{e:Expr}{te:TE}{lo hi:Option Expr}{tl th:TO}{pos p2:Pos}
def HA:PO X none H_:=by
 intro f8 s σ H Q I h;rw[aa8];exact Uw ⟨none,H,I, .none,h⟩
def HB(h:PE X e te):PO X (some e) (Ob te):=by
 intro f8 s σ H Q I hw;rw[evalPart_some];refine bx (h f8 s σ H _ I hw) λu s1 ⟨x,H1,I1,r1,q1⟩=>?_;obtain⟨i,rfl,q⟩:=q1;obtain⟨t,rfl⟩:=r1;exact⟨some i,H1,I1, .int i t,q⟩
def SlR(X:Cx)(r:V->Option Int->Option Int->Hp->VK->Prop):Prop:=
 ∀(f8:List (Addr×Obj)) (s:Ux) (σ:St) (H:Hp) (x:V) (v vl vu:Value) (lo hi:Option Int) (sl:Addr) (Q:VK),Inv X f8 σ H s->RelV x v->s.heap.IsSliceOf sl vl vu .none->Z8 vl lo->Z8 vu hi->r x lo hi H Q->
  ∃T id,typeLookup (.type T) "__getitem__"=pure (some (.builtin id))/\s.TypeIs v T/\wpAny (model X.prog X.w) X.A (X8 v (.ref sl)) (EP X f8 σ Q) X.xe s
def SlR.or{r r':V->Option Int->Option Int->Hp->VK->Prop}(h:SlR X r)(h':SlR X r'):SlR X (λx lo hi H Q=>r x lo hi H Q\/r' x lo hi H Q):=by
 intro f8 s σ H x v vl vu lo hi sl Q I rx hs pl pu q;rcases q with q | q
 ·exact h f8 s σ H x v vl vu lo hi sl Q I rx hs pl pu q
 ·exact h' f8 s σ H x v vl vu lo hi sl Q I rx hs pl pu q
def T8(r:V->Option Int->Option Int->Hp->VK->Prop)(te:TE)(tl th:TO):TE:=λσ H Q=>te σ H λx H1=>tl σ H1 λl H2=>th σ H2 λu H3=>r x l u H3 Q
def EK{r:V->Option Int->Option Int->Hp->VK->Prop}(hr:SlR X r)(he:PE X e te)(hl:PO X lo tl)(hu:PO X hi th):PE X (.Subscript e (.Slice lo hi none p2) pos) (T8 r te tl th):=by
 intro f8 s σ H Q I h;refine aaW (bx (he f8 s σ H _ I h) λv s1 ⟨x,H1,I1,r1,q1⟩=>?_);refine wpAny_Slice (bx (hl f8 s1 σ H1 _ I1 q1) λvl s2 ⟨l,H2,I2,pl,q2⟩=>bx (hu f8 s2 σ H2 _ I2 q2) λvu s3 ⟨u,H3,I3,pu,q3⟩=>?_);rw[aa8];refine Uw ?_;have I4:Inv X f8 σ H3 {s3 with heap:=s3.heap.push {cls:= .type "slice",data:= .fields #[vl,vu, .none]} }:=I3.kept (t':=s3.toks) λb ob q=>Ut _ q;obtain⟨T,id,hT,ht,hg⟩:=hr f8 {s3 with heap:=s3.heap.push {cls:= .type "slice",data:= .fields #[vl,vu, .none]} } σ H3 x v vl vu l u s3.heap.objs.size Q I4 r1 (ZK ..) pl pu q3;show wpAny (model X.prog X.w) X.A (ZA e (.Slice lo hi none p2) v (.ref s3.heap.objs.size)) (EP X f8 σ Q) X.xe {s3 with heap:=s3.heap.push {cls:= .type "slice",data:= .fields #[vl,vu, .none]} };exact tail_any (ops:=[.ref s3.heap.objs.size,v]) ht hT hg (by with_unfolding_all rfl)
def vG(xs:List V)(lo hi:Option Int):List V:=(xs.drop (HT.sIx xs.length 0 lo)).take (HT.sIx xs.length xs.length hi - HT.sIx xs.length 0 lo)
def mT(xs:List V)(lo hi:Option Int):(vG xs lo hi).length<=xs.length:=by
 unfold vG;rw[Xa,Zx];omega
def QJ(K:UJ):V->Option Int->Option Int->Hp->VK->Prop:=λx lo hi H Q=>∃a xs,x= .ref a/\SqT K H a xs/\
 ¬(HT.sIx xs.length 0 lo=0/\HT.sIx xs.length xs.length hi=xs.length)/\∀p,H p=none->Q (.ref p) (upd H p (.tup (vG xs lo hi)))
def Lj:SlR X (QJ X.K):=by
 intro f8 s σ H x v vl vu lo hi sl Q I rx hs pl pu h;obtain⟨a,xs,rfl,hx,hw,q⟩:=h;cases rx;obtain⟨aD,r,ht,hz⟩:=I.tuple hx;have P3:aD.toArray.size=xs.length:=by rw[UK];exact r.length.symm
 refine⟨"tuple",_,PyProof.Rows.slot_tuple_getitem.lookup,ht.typeIs,?_⟩;refine HT.getItem_tuple_cut ht hs pl pu (by rw[P3];exact hw) ?_ (by rw[P3];exact hz);rw[P3];refine⟨.ref s.heap.objs.size,_,I.laid (t':=s.toks) (o:= .tup (vG xs lo hi)) (λb ob q=>Ut _ q) (UB _) ?_,rfl,q _ (I.hok.fresh (UB _))⟩;exact⟨U1 (mT xs lo hi) hz,_,(r.drop (HT.sIx xs.length 0 lo)).take (HT.sIx xs.length xs.length hi - HT.sIx xs.length 0 lo),IsTup.new _ _⟩
def NL(K:UJ):R2:=λx y H Q=>∃a b xs ys,x= .ref a/\y= .ref b/\SqT K H a xs/\SqT K H b ys/\xs≠[]/\xs.length+ys.length<=UR/\
 (ys=[]->Q (.ref a) H)/\(ys≠[]->∀p,H p=none->Q (.ref p) (upd H p (.tup (xs++ys))))
def Vals.nil_iff{xs:List V}{us:List Value}(r:Vals xs us):us=[]↔xs=[]:=by
 cases r with
 |nil=>simp
 |cons _ _=>simp
def G3:OpR X (Yj .Add) (NL X.K):=by
 intro f8 s σ H x y v u Q I rx ry h;obtain⟨a,b,xs,ys,rfl,rfl,ha,hb,hx,hz,q1,q2⟩:=h;cases rx;cases ry;obtain⟨aD,r1,p1,_⟩:=I.tuple ha;obtain⟨iI,r2,p2,_⟩:=I.tuple hb;refine HT.cat_tup p1 p2 (λz=>hx (r1.nil_iff.mp z)) (λz=>⟨.ref a,H,I,rfl,q1 (r2.nil_iff.mp z)⟩) (λz=>?_) (by rw[<-r1.length,<-r2.length];exact hz);refine⟨.ref s.heap.objs.size,_,I.laid (t':=s.toks) (o:= .tup (xs++ys)) (λb ob q=>Ut _ q) (UB _) ?_,rfl,q2 (λw=>z (r2.nil_iff.mpr w)) _ (I.hok.fresh (UB _))⟩;exact⟨by rw[UN];exact hz,_,r1.append r2,IsTup.new _ _⟩
end
def Kf(n:Nat)(i:Int):Option Nat:=if 0<=i then(if i<n then some i.toNat else none) else if -(n:Int)<=i then some (i+n).toNat else none
def atI{α:Type}(xs:List α)(i:Int):Option α:=(Kf xs.length i).bind λj=>xs[j]?
def GO{n:Nat}{i:Int}{j:Nat}(h:Kf n i=some j):seqIndex? i n=some j/\j<n/\ -(n:Int)<=i/\i<n:=by
 unfold Kf at h;by_cases h0:0<=i
 ·rw[abz h0] at h;by_cases h1:i<n
  ·rw[abz h1] at h;have e:i.toNat=j:=U9 h;exact⟨by rw[seqIndex_of h0 h1,e],by omega,by omega,h1⟩
  ·rw[abA h1] at h;cases h
 ·rw[abA h0] at h;by_cases h1: -(n:Int)<=i
  ·rw[abz h1] at h;have e:(i+n).toNat=j:=U9 h;exact⟨by rw[seqIndex_neg (by omega) h1,e],by omega,h1,by omega⟩
  ·rw[abA h1] at h;cases h
def tj{α:Type}{xs:List α}{i:Int}{v:α}(h:atI xs i=some v):∃j,seqIndex? i xs.length=some j/\xs[j]? =some v/\j<xs.length/\ -(xs.length:Int)<=i/\i<xs.length:=by
 unfold atI at h;cases e:Kf xs.length i with
 |none=>rw[e] at h;cases h
 |some j=>
  rw[e] at h;obtain⟨h1,h2,h3,h4⟩:=GO e;exact⟨j,h1,h,h2,h3,h4⟩
def js(b:Expr):Prop:=∀o i,subscripted b false o i=operate [o,i] (X8 o i)
def LX(X:Cx)(r:R2):Prop:=
 ∀(value slice:Expr) (f8:List (Addr×Obj)) (s:Ux) (σ:St) (H:Hp) (x y:V) (v u:Value) (Q:VK),Inv X f8 σ H s->RelV x v->RelV y u->r x y H Q->
  subscripted slice false v u=operate [v,u] (X8 v u)->wpAny (model X.prog X.w) X.A (ZA value slice v u) (EP X f8 σ Q) X.xe s
def Oi(X:Cx)(id:String)(r:V->List V->Hp->VK->Prop):Prop:=
 ∀(f8:List (Addr×Obj)) (s:Ux) (σ:St) (H:Hp) (x:V) (xs:List V) (v:Value) (us:List Value) (Q:VK),Inv X f8 σ H s->RelV x v->Vals xs us->r x xs H Q->
  wpAny (model X.prog X.w) X.A (call (.builtin id) (v::us)) (EP X f8 σ Q) X.xe s
section
variable{X:Cx}{a b:Expr}{ta tb:TE}{pos:Pos}
def ND{r:R2}(hr:LX X r)(ha:PE X a ta)(hb:PE X b tb)(hs:js b):PE X (.Subscript a b pos) (Oa r ta tb):=by
 intro f8 s σ H Q I h;exact aaW (Jk ha hb I h λv u s2 x y H2 I2 rx ry q=>hr a b f8 s2 σ H2 x y v u Q I2 rx ry q (hs _ _))
def Lb(K:UJ):R2:=λx y H Q=>∃p xs i v,x= .ref p/\y= .int i/\SqL K H p xs/\atI xs i=some v/\Q v H
def NR(K:UJ):R2:=λx y H Q=>∃p xs i v,x= .ref p/\y= .int i/\SqT K H p xs/\atI xs i=some v/\Q v H
def NQ:R2:=λx y H Q=>∃z i c,x= .str z/\y= .int i/\z.length<=UR/\atI z.cps.toList i=some c/\Q (.str ⟨#[c]⟩) H
def Aq:LX X (Lb X.K):=by
 intro value slice f8 s σ H x y v u Q I rx ry h hs;obtain⟨p,xs,i,z,rfl,rfl,hq,he,q⟩:=h;cases rx;obtain⟨t,rfl⟩:=ry;obtain⟨aD,r,pl,hz⟩:=I.list hq;obtain⟨j,h1,h2,h3,h4,h5⟩:=tj he;obtain⟨w,ew,vn⟩:=r.get h2;have hl:=r.length;have hn:=mm;have fin:EP X f8 σ Q w s:=⟨z,H,I,vn,q⟩
 by_cases h0:0<=i
 ·have hj:i.toNat=j:=by
   rw[seqIndex_of h0 h5] at h1;exact U9 h1
  exact item_listR pl.isList h0 (by omega) (by rw[hj];simpa using ew) fin hs
 ·have hj:(i+(aD.toArray.size:Int)).toNat=j:=by
   rw[seqIndex_neg (by omega) h4] at h1;rw[UK,<-hl];exact U9 h1
  exact abn (x:=w) pl.isList.typeIs slot_list_getitem.lookup
   (wpAny_getItem_list_neg (Q:=λr s'=>r=w/\EP X f8 σ Q r s') pl.isList (by omega) (by rw[UK]<;>omega) (by omega) (by rw[hj];simpa using ew) ⟨rfl,fin⟩) hs
def Ki:LX X (NR X.K):=by
 intro value slice f8 s σ H x y v u Q I rx ry h hs;obtain⟨p,xs,i,z,rfl,rfl,hq,he,q⟩:=h;cases rx;obtain⟨t,rfl⟩:=ry;obtain⟨aD,r,pl,hz⟩:=I.tuple hq;obtain⟨j,h1,h2,h3,h4,h5⟩:=tj he;obtain⟨w,ew,vn⟩:=r.get h2;have hl:=r.length;have hn:=mm;have fin:EP X f8 σ Q w s:=⟨z,H,I,vn,q⟩
 exact abn (x:=w) pl.typeIs slot_tuple_getitem.lookup
  (getItem_tuple (j:=j) (Q:=λr s'=>r=w/\EP X f8 σ Q r s') pl (by omega) (by omega) (by rw[UK,<-hl];exact h1) (by simpa using ew) ⟨rfl,fin⟩) hs
def Kh:LX X NQ:=by
 intro value slice f8 s σ H x y v u Q I rx ry h hs;obtain⟨z,i,c,rfl,rfl,hz,he,q⟩:=h;obtain⟨t,rfl⟩:=rx;obtain⟨t',rfl⟩:=ry;obtain⟨j,h1,h2,h3,h4,h5⟩:=tj he;have hl:z.cps.toList.length=z.length:=by simp[Str.length]
 rw[hl] at h1 h4 h5;have hn:=mm;exact tail_any (Yw s z t) slot_str_getitem.lookup (getItem_str (c:=c) (by
  have e1:decide (i< -(2 ^ 63:Int))=false:=abD (by omega);have e2:decide (i>=2 ^ 63)=false:=abD (by omega);rw[e1,e2,Bool.or_false]) (by rw[h1];simpa using h2) ⟨.str ⟨#[c]⟩,H,I.tok _,⟨_,rfl⟩,q⟩) hs
def Inv.lst{f8:List (Addr×Obj)}{σ:St}{H:Hp}{s:Ux}{p:Addr}{xs:List V}(I:Inv X f8 σ H s)(h:H p=some (.lst xs)):
 ∃(aD:List Value) (n:Nat),Vals xs aD/\s.heap.get? p=some {cls:= .type "list",data:= .seq aD.toArray n}/\xs.length<=UR:=by
 obtain⟨z,aD,n,r,e⟩:=I.hok p _ h;exact⟨aD,n,r,e,z⟩
def uS(lo hi:Option Int)(n:Nat):(X7 lo hi none n).1=((HT.sIx n 0 lo:Nat):Int)/\(X7 lo hi none n).2.1=((HT.sIx n n hi:Nat):Int)/\(X7 lo hi none n).2.2=1:=by
 refine⟨?_,?_,rfl⟩
 ·cases lo with
  |none=>simp[X7,HT.sIx]
  |some i=>
   simp only[X7,HT.sIx,abe,show (1:Int)>0 by decide,if_true];by_cases h:i<0
   ·simp only[h,if_true]<;>omega
   ·simp only[h,if_false]<;>omega
 ·cases hi with
  |none=>simp[X7,HT.sIx]
  |some i=>
   simp only[X7,HT.sIx,abe,show (1:Int)>0 by decide,if_true];by_cases h:i<0
   ·simp only[h,if_true]<;>omega
   ·simp only[h,if_false]<;>omega
def ro(aD:List Value)(lo hi:Option Int):slicePick aD.toArray lo hi none=((aD.drop (HT.sIx aD.length 0 lo)).take (HT.sIx aD.length aD.length hi - HT.sIx aD.length 0 lo)).toArray:=by
 obtain⟨h1,h2,h3⟩:=uS lo hi aD.toArray.size;unfold slicePick;rw[h1,h2,h3];simp only[sliceRange_one,pick_run,UK]<;>rfl
def QI(K:UJ):V->Option Int->Option Int->Hp->VK->Prop:=λx lo hi H Q=>∃a xs,x= .ref a/\SqL K H a xs/\∀p,H p=none->Q (.ref p) (upd H p (.lst (vG xs lo hi)))
def uR:SlR X (QI X.K):=by
 intro f8 s σ H x v vl vu lo hi sl Q I rx hs pl pu h;obtain⟨a,xs,rfl,hx,q⟩:=h;cases rx;obtain⟨aD,r,ht,hz⟩:=I.list hx;have P3:=r.length;refine⟨"list",_,slot_list_getitem.lookup,ht.isList.typeIs,?_⟩;refine wpAny_getItem_list_slice ht.isList hs pl pu .none (by simp) ?_ (by rw[UK]<;>omega);rw[ro,<-P3];refine⟨.ref s.heap.objs.size,_,I.laid (t':=s.toks) (o:= .lst (vG xs lo hi)) (λb ob q=>Ut _ q) (UB _) ?_,rfl,q _ (I.hok.fresh (UB _))⟩;exact⟨U1 (mT xs lo hi) hz,_,0,(r.drop (HT.sIx xs.length 0 lo)).take (HT.sIx xs.length xs.length hi - HT.sIx xs.length 0 lo),UO _ rfl⟩
def mV:V->Bool
 | .non=>true
 | .bl _=>true
 | .int _=>true
 | .str _=>true
 |_=>false
def FI:V->V->Bool
 | .non, .non=>true
 | .bl a, .bl b=>a==b
 | .bl a, .int b=>(if a then 1 else 0)==b
 | .int a, .bl b=>a==(if b then 1 else 0)
 | .int a, .int b=>a==b
 | .str a, .str b=>a==b
 |_,_=>false
def Jz{A:Vw}{s:Ux}{y x:V}{u v:Value}(ry:RelV y u)(rx:RelV x v)(fy:mV y=true)(fx:mV x=true):aba A s u v (FI y x):=by
 cases y with
 |non=>
  cases ry;cases x with
  |non=>cases rx;exact SeqAt.EqAt.same _
  |bl b=>cases rx;exact SeqAt.EqAt.none_bool b
  |int b=>obtain⟨t,rfl⟩:=rx;exact SeqAt.EqAt.none_int b t
  |str b=>obtain⟨t,rfl⟩:=rx;exact SeqAt.EqAt.none_str b t
  |_=>exact abE (show false=true from fx) UU
 |bl a=>
  cases ry;cases x with
  |non=>cases rx;exact SeqAt.EqAt.bool_none a
  |bl b=>cases rx;exact SeqAt.EqAt.bool_bool a b
  |int b=>obtain⟨t,rfl⟩:=rx;exact SeqAt.EqAt.bool_int a b t
  |str b=>obtain⟨t,rfl⟩:=rx;exact SeqAt.EqAt.bool_str a b t
  |_=>exact abE (show false=true from fx) UU
 |int a=>
  obtain⟨t',rfl⟩:=ry;cases x with
  |non=>cases rx;exact SeqAt.EqAt.int_none a t'
  |bl b=>cases rx;exact SeqAt.EqAt.int_bool a t' b
  |int b=>obtain⟨t,rfl⟩:=rx;exact aag a t' b t
  |str b=>obtain⟨t,rfl⟩:=rx;exact aaf a t' b t
  |_=>exact abE (show false=true from fx) UU
 |str a=>
  obtain⟨t',rfl⟩:=ry;cases x with
  |non=>cases rx;exact SeqAt.EqAt.str_none a t'
  |bl b=>cases rx;exact SeqAt.EqAt.str_bool a t' b
  |int b=>obtain⟨t,rfl⟩:=rx;exact aae a t' b t
  |str b=>obtain⟨t,rfl⟩:=rx;exact SeqAt.EqAt.str_str a t' b t
  |_=>exact abE (show false=true from fx) UU
 |_=>exact abE (show false=true from fy) UU
def yt(x:V)(u:Value):Bool:=match u with
 | .none=>FI .non x
 | .bool b=>FI (.bl b) x
 | .int i _=>FI (.int i) x
 | .str z _=>FI (.str z) x
 |_=>false
def Dk{x y:V}{u:Value}(r:RelV y u)(f:mV y=true):yt x u=FI y x:=by
 cases y with
 |non=>cases r;rfl
 |bl b=>cases r;rfl
 |int i=>obtain⟨t,rfl⟩:=r;rfl
 |str z=>obtain⟨t,rfl⟩:=r;rfl
 |_=>exact abE (show false=true from f) UU
def kE{x:V}:∀{xs:List V}{us:List Value},Vals xs us->xs.all mV=true->us.any (yt x)=xs.any λy=>FI y x
 |_,_, .nil,_=>rfl
 |y::xs,u::us, .cons r t,f=>by
  rw[XR,UY] at f;rw[Xl,Xl,Dk r f.1,kE t f.2]
def iN{A:Vw}{s:Ux}{x:V}{v:Value}(rx:RelV x v)(fx:mV x=true):∀{xs:List V}{us:List Value},Vals xs us->xs.all mV=true->∀u∈us,aba A s u v (yt x u)
 |_,_, .nil,_=>λu hu=>by cases hu
 |y::xs,u::us, .cons r t,f=>λu' hu=>by
  rw[XR,UY] at f;rcases UD.mp hu with rfl | hu
  ·rw[Dk r f.1];exact Jz r rx f.1 fx
  ·exact iN rx fx t f.2 u' hu
def OJ(x:V)(xs:List V):Bool:=xs.any λy=>FI y x
def OP(K:UJ)(neg:Bool):R2:=λx y H Q=>∃p xs,y= .ref p/\(SqL K H p xs\/SqT K H p xs)/\mV x=true/\xs.all mV=true/\Q (.bl (if neg then !OJ x xs else OJ x xs)) H
def sC:OpR X (VP .In) (OP X.K false):=by
 intro f8 s σ H x y v u Q I rx ry h;obtain⟨p,xs,rfl,hq,fx,fs,q⟩:=h;cases ry;rcases hq with hq | hq
 ·obtain⟨aD,r,pl,hz⟩:=I.list hq;refine SeqAt.in_listAt (yt x) pl.isList (λw hw=>iN rx fx r fs w (by simpa using hw)) ⟨.bl _,H,I,rfl,?_⟩;rw[show aD.toArray.any (yt x)=aD.any (yt x) by simp,kE r fs];exact q
 ·obtain⟨aD,r,pl,hz⟩:=I.tuple hq;refine abp (yt x) pl (λw hw=>iN rx fx r fs w (by simpa using hw)) ⟨.bl _,H,I,rfl,?_⟩;rw[show aD.toArray.any (yt x)=aD.any (yt x) by simp,kE r fs];exact q
def lu:OpR X (VP .NotIn) (OP X.K true):=by
 intro f8 s σ H x y v u Q I rx ry h;obtain⟨p,xs,rfl,hq,fx,fs,q⟩:=h;cases ry;rcases hq with hq | hq
 ·obtain⟨aD,r,pl,hz⟩:=I.list hq;refine aaX (yt x) pl.isList (λw hw=>iN rx fx r fs w (by simpa using hw)) ⟨.bl _,H,I,rfl,?_⟩;rw[show aD.toArray.any (yt x)=aD.any (yt x) by simp,kE r fs];exact q
 ·obtain⟨aD,r,pl,hz⟩:=I.tuple hq;refine aaJ (yt x) pl (λw hw=>iN rx fx r fs w (by simpa using hw)) ⟨.bl _,H,I,rfl,?_⟩;rw[show aD.toArray.any (yt x)=aD.any (yt x) by simp,kE r fs];exact q
def tw:CallR X (.builtin "len") (λxs H Q=>∃p ys,xs=[.ref p]/\(SqL X.K H p ys\/SqT X.K H p ys)/\Q (.int ys.length) H):=by
 intro f8 s σ H xs us Q I r h;obtain⟨p,ys,rfl,hq,q⟩:=h;obtain⟨u,rfl,rx⟩:=vals1 r;cases rx;have hn:=mm;rcases hq with hq | hq
 ·obtain⟨aD,r',pl,hz⟩:=I.list hq;have P3:=r'.length;exact Calls.call_len_list pl.isList (by simp only[UK]<;>omega) ⟨.int ys.length,H,I.tok _,⟨s.toks+1,by rw[UK,P3]⟩,q⟩
 ·obtain⟨aD,r',pl,hz⟩:=I.tuple hq;have P3:=r'.length;exact len_tuple pl (by simp only[UK]<;>omega) ⟨.int ys.length,H,I.tok _,⟨s.toks+1,by rw[UK,P3]⟩,q⟩
def tB:CallR X (.builtin "len") (λxs H Q=>∃z,xs=[.str z]/\z.length<=UR/\Q (.int z.length) H):=by
 intro f8 s σ H xs us Q I r h;obtain⟨z,rfl,hz,q⟩:=h;obtain⟨u,rfl,t,rfl⟩:=vals1 r;have hn:=mm;exact len_str (by omega) ⟨.int z.length,H,I.tok _,⟨_,rfl⟩,q⟩
def CallR.or{f:Value}{r r':List V->Hp->VK->Prop}(h:CallR X f r)(h':CallR X f r'):CallR X f (λxs H Q=>r xs H Q\/r' xs H Q):=by
 intro f8 s σ H xs us Q I rs q;rcases q with q | q
 ·exact h f8 s σ H xs us Q I rs q
 ·exact h' f8 s σ H xs us Q I rs q
def qU:CallR X (.type "tuple") (λxs H Q=>∃p ys,xs=[.ref p]/\((SqL X.K H p ys/\∀l,H l=none->Q (.ref l) (upd H l (.tup ys)))\/(SqT X.K H p ys/\Q (.ref p) H))):=by
 intro f8 s σ H xs us Q I r h;obtain⟨p,ys,rfl,h⟩:=h;obtain⟨u,rfl,rx⟩:=vals1 r;cases rx;rcases h with⟨hq,q⟩ | ⟨hq,q⟩
 ·obtain⟨aD,r',pl,hz⟩:=I.list hq;have P3:=r'.length;refine call_tuple_list pl.isList (λh' kp=>?_) (by simp only[UK]<;>omega);have I1:Inv X f8 σ H {s with heap:=h'}:=I.kept (t':=s.toks) kp;have I2:Inv X f8 σ (upd H h'.objs.size (.tup ys)) {s with heap:=h'.push {cls:= .type "tuple",data:= .seq aD.toArray} }:=
   I1.laid (t':=s.toks) (λb o e=>Ut _ e) (UB _) (show ObjOk X.prog X.w _ _ _ (.tup ys) from⟨hz,aD,r',IsTup.new _ _⟩)
  exact⟨.ref h'.objs.size,_,I2,rfl,q _ (I1.hok.fresh (UB _))⟩
 ·obtain⟨aD,r',pl,hz⟩:=I.tuple hq;exact call_tuple_same pl ⟨.ref p,H,I,rfl,q⟩
def Of(K:UJ)(T:String)(x:V)(H:Hp):Prop:=match x with
 | .str _=>T="str"
 | .int _=>T="int"
 | .ref p=>(T="list"/\∃xs,SqL K H p xs)\/(T="tuple"/\∃o,K.lookup p=some o/\o.cls= .type "tuple"/\o.dict=none)\/
    (T="dict"/\((∃kvs,H p=some (.dK kvs))\/∃kvs,H p=some (.dT kvs)))\/(T="set"/\∃S n,H p=some (.set S n))
 |_=>False
def Lw{f8:List (Addr×Obj)}{σ:St}{H:Hp}{s:Ux}{T:String}{x:V}{v:Value}(I:Inv X f8 σ H s)(r:RelV x v)(ty:Of X.K T x H):
 s.TypeIs v T/\∀a,v= .ref a->∃ob,s.heap.get? a=some ob/\ob.dict=none:=by
 cases x with
 |str z=>
  obtain⟨t,rfl⟩:=r;cases (show T="str" from ty);exact⟨Yw s z t,λ_ e=>nomatch e⟩
 |int i=>
  obtain⟨t,rfl⟩:=r;cases (show T="int" from ty);exact⟨typeIs_int s i t,λ_ e=>nomatch e⟩
 |ref p=>
  cases r;rcases ty with⟨rfl,xs,hq⟩ | ⟨rfl,o,hk,hc,hd⟩ | ⟨rfl,hk⟩ | ⟨rfl,S,n,hk⟩
  ·obtain⟨aD,_,pl,_⟩:=I.list hq;refine⟨pl.isList.typeIs,λa e=>?_⟩;cases e;obtain⟨o,n,e,c,hd,_⟩:=pl;exact⟨o,e,hd⟩
  ·refine⟨⟨o,I.kIn p o hk,hc⟩,λa e=>?_⟩;cases e;exact⟨o,I.kIn _ o hk,hd⟩
  ·have z:∃o,s.heap.get? p=some o/\o.ExactDict:=by
    rcases hk with⟨kvs,hk⟩ | ⟨kvs,hk⟩
    ·obtain⟨_,_,_,_,o,_,_,e,ex,_⟩:=I.hok p _ hk;exact⟨o,e,ex⟩
    ·obtain⟨_,_,_,_,o,_,_,e,ex,_⟩:=I.hok p _ hk;exact⟨o,e,ex⟩
   obtain⟨o,e,ex⟩:=z;refine⟨⟨o,e,ex.1⟩,λa e2=>?_⟩;cases e2;exact⟨o,e,ex.2.1⟩
  ·obtain⟨o,_,_,_,e,ex,_⟩:=I.hok p _ hk;refine⟨⟨o,e,ex.1⟩,λa e2=>?_⟩;cases e2;exact⟨o,e,ex.2.1⟩
 |_=>exact WS ty
def QN(K:UJ)(T:String)(r:V->List V->Hp->VK->Prop)(to:TE)(t:TA):TE:=λσ H Q=>to σ H λx H1=>Of K T x H1/\t σ H1 λxs H2=>r x xs H2 Q
variable{o e:Expr}{es:List Expr}{to:TE}{t:TA}{name:Str}{apos aL:Pos}{T id:String}{r:V->List V->Hp->VK->Prop}
def EE(pa:PlainAttrs T)(slot:Slot T name id)(Qf:typeOf (.builtin id)=pure (.type "method_descriptor"))(hm:Oi X id r)(ho:PE X o to)(ha:PA X (e::es) t)
 (fG:WA o name X.env (eval o X.env)=eval o X.env:=by rfl)
 (pB:((W6 aL (US (e::es) X.env)).all (λx=>!x.1)&&(Y6 aL (XJ [] X.env)).all (λx=>x.1.isSome)
  &&decide ((e::es).length+([]:List Xz).length+(if ([]:List Xz).isEmpty then 0 else 1)<30))=true:=by rfl)
 (fH:(apos.endLine==aL.line)=true:=by rfl) (hs:US (e::es) X.env=(false,eval e X.env)::US es X.env:=by rfl) (yG:(W6 aL (US es X.env)).any (·.1)=false:=by rfl):
 PE X (.Call (.Attribute o name apos) (e::es) [] aL) (QN X.K T r to t):=by
 intro f8 s σ H Q I h;refine wpAny_Call_method_late fG pB fH rfl (bx (ho f8 s σ H _ I h) λv s1 ⟨x,H1,I1,r1,ty,q1⟩=>?_);obtain⟨h1,h2⟩:=Lw I1 r1 ty;refine⟨T,id,pa,slot,Qf,h1,h2,?_⟩;have hA:=ha aL f8 s1 σ H1 _ I1 q1;rw[hs] at hA⊢;refine Wo (by show (false||(W6 aL (US es X.env)).any (·.1))=false;rw[yG]<;>rfl) (W4 ?_);exact bx hA λus s2 ⟨vs,H2,I2,r2,q2⟩=>hm f8 s2 σ H2 x vs v us Q I2 r1 r2 q2
end
def Q4(X:Cx)(id:String)(r:V->List V->Hp->VK->Prop):Prop:=
 ∀(f8:List (Addr×Obj)) (s:Ux) (σ:St) (H:Hp) (x:V) (xs:List V) (v:Value) (us:List Value) (Q:VK),Inv X f8 σ H s->RelV x v->Vals xs us->r x xs H Q->
  wpAny (model X.prog X.w) X.A (call (.builtin id) (v::us)) (EP X f8 σ Q) X.xe s
def Vals.one:∀{x:V}{us:List Value},Vals [x] us->∃u,us=[u]/\RelV x u
 |_,_, .cons r .nil=>⟨_,rfl,r⟩
def Vals.reverse{xs:List V}{us:List Value}(h:Vals xs us):Vals xs.reverse us.reverse:=by
 induction h with
 |nil=>exact .nil
 |cons r t ih=>rw[Ye,Ye];exact Vals.append ih (.cons r .nil)
section
variable{X:Cx}{f8:List (Addr×Obj)}{σ:St}{H:Hp}{s:Ux}{l:Addr}{xs ys:List V}
def Inv.lset{aD its':List Value}{n:Nat}{f:Array Value->Array Value}{t':Nat}(I:Inv X f8 σ H s)(hH:H l=some (.lst xs))
 (e:s.heap.get? l=some {cls:= .type "list",data:= .seq aD.toArray n})(hf:f aD.toArray=its'.toArray)(hv:Vals ys its')(hz:ys.length<=UR):
 Inv X f8 σ (upd H l (.lst ys)) {s with heap:=s.heap.update l (Vm f),toks:=t'}:=by
 have q:=PySem.IsL.update e f;rw[hf] at q;refine I.write (x:=l) (e:=l) (by rw[hH];exact trivial) (.inl rfl) (λb' u hb hu=>(Xu s.heap (Vm f) (Vv hb)).trans hu) ⟨_,q⟩ ?_;exact⟨hz,its',_,hv,q⟩
def Inv.lstM(I:Inv X f8 σ H s)(hH:H l=some (.lst xs)):xs.length<=UR/\∃(aD:List Value) (n:Nat),Vals xs aD/\xs.length=aD.length/\s.heap.get? l=some {cls:= .type "list",data:= .seq aD.toArray n}:=by
 obtain⟨z,aD,n,r,e⟩:=I.hok l _ hH;exact⟨z,aD,n,r,r.length,e⟩
def Ej{n:Nat}(h:n<=UR):XS n=false:=by
 unfold XS;exact abD (by omega)
end
section
variable{X:Cx}
def AX:V->List V->Hp->VK->Prop:=λx vs H Q=>∃l xs y,x= .ref l/\vs=[y]/\H l=some (.lst xs)/\xs.length<UR/\Q .non (upd H l (.lst (xs++[y])))
def mv:Q4 X "list.append" AX:=by
 intro f8 s σ H x vs v us Q I rx rv h;obtain⟨l,xs,y,rfl,rfl,hH,hz,q⟩:=h;cases rx;obtain⟨u,rfl,ru⟩:=rv.one;obtain⟨z,aD,n,r,hl,e⟩:=I.lstM hH;refine aaV F.slot_list_append ⟨_,e,rfl⟩ F.entry_list_append (F.args_list_append_2 _ _) (PySem.list_append l aD.toArray n u (by rw[UK];omega)) ⟨e,?_⟩;refine⟨.non,_,I.lset (its':=aD++[u]) hH e (by simp) (r.append (.cons ru .nil)) ?_,rfl,q⟩;rw[UN,List.length_singleton];omega
def AY:V->List V->Hp->VK->Prop:=λx vs H Q=>∃l b xs zs,x= .ref l/\vs=[.ref b]/\H l=some (.lst xs)/\H b=some (.lst zs)/\xs.length+zs.length<=UR/\Q .non (upd H l (.lst (xs++zs)))
def BX:Q4 X "list.extend" AY:=by
 intro f8 s σ H x vs v us Q I rx rv h;obtain⟨l,b,xs,zs,rfl,rfl,hH,hB,hz,q⟩:=h;cases rx;obtain⟨u,rfl,ru⟩:=rv.one;cases ru;obtain⟨z,aD,n,r,hl,e⟩:=I.lstM hH;obtain⟨z2,iI,n2,r2,v_,e2⟩:=I.lstM hB;have hsz:aD.toArray.size+iI.toArray.size<=UR:=by rw[UK,UK];omega
 have MD:¬(!aD.toArray.isEmpty&&XS (aD.toArray.size+iI.toArray.size))=true:=by
  rw[Ej hsz,Bool.and_false];exact UU
 refine aaV F.slot_list_extend ⟨_,e,rfl⟩ F.entry_list_extend (F.args_list_extend_2 _ _)
  (AutoSeq1.list_extend_list_list_0 l aD.toArray n b iI.toArray n2 MD (by rw[UK];omega) (by omega)) ⟨e,e2,?_⟩
 refine⟨.non,_,I.lset (its':=aD++iI) hH e (by simp) (r.append r2) ?_,rfl,q⟩;rw[UN];omega
end
end L2
namespace Att
open PySem PySem.W PySem.Calls PyProof.Rows
def ints_of_wellAll{P:Params}{h:Heap}:∀(ns:List Int) (vs:List Value),WellAll P h vs (ns.map WData.int)->V0 vs ns:=by
 intro ns;induction ns with
 |nil=>
  intro vs w;rw[Xf] at w;cases w;exact .nil
 |cons n ns ih=>
  intro vs w;rw[Uz] at w;cases w with
  |cons a b=>
   cases a;exact .cons _ _ (ih _ b)
def script_of{l:OpenLaw}{n:Nat}(hn:l.most=some n){P:Params}{h:Heap}{args:List WData}{vals:List Value}
 (Gx:l.row.toRowW.claim.pre args=true)(Qk:WellAll P h vals args):
 ∃a vs ns,vals=[UX a]/\args=[WData.list (ns.map WData.int)]/\h.get? a=some {cls:= .type "list",data:= .seq vs.toArray}/\V0 vs ns/\ns.length<=n:=by
 have Tq:WShape.hasAll [] args [.list .int]=true:=(pre_splitW Gx).1;have hc:l.pre.holds [] {args:=args}=true:=(pre_splitW Gx).2;obtain⟨d,r,rfl,h1,h2⟩:=hasAllW_cons Tq;obtain rfl:=hasAllW_nil h2;obtain⟨xs,rfl,h3⟩:=hasW_list h1;obtain⟨ns,rfl⟩:=items_int h3;have P3:ns.length<=n:=by
  unfold OpenLaw.pre at hc;have h4:(WTm.not (.lt (.lit (.int (n:Int))) (.len (.arg 0)))).holds [] {args:=[.list (ns.map .int)]}=true:=by
   have h4:=(holds_andW hc).1;rw[hn] at h4;exact h4
  have h5:=condW_of h4 (w_not (w_lt w_lit (w_len_list (w_arg rfl))));rw[Ur] at h5;refine Nat.le_of_not_lt λq=>?_;have q':(n:Int)<((ns.length:Nat):Int):=by omega
  first
   |(rw [abB q'] at h5;exact abE h5 (by decide))
   |(simp at h5;omega)
 cases Qk with
 |cons w1 w2=>
  cases w2;cases w1 with
  |list ho me=>exact⟨_,_,ns,rfl,rfl,ho,ints_of_wellAll ns _ me,P3⟩
def post_true(l:OpenLaw)(args:List WData):l.row.toRowW.claim.post args (.bool true) args=true:=
 postW_of (r:=l.row.toRowW) (X:=(true==true))
  (show WShape.has [] (.bool true) .bool=true by first | rfl | decide | simp[WShape.has,WShape.arms,WShape.armsAll])
  (show (WTm.eq .res (.lit (.bool true))).value [] {args:=args,res:=some (.bool true),after:=args}=some (.bool (true==true)) from w_eq_bool (w_res rfl) w_lit) rfl
def attach_call{l:OpenLaw}{n:Nat}{q:Vf}{loose:List Str}{XP:(Str->Option Value)->Heap->Prop}{YP:World->Heap->Prop}{d:DefRec}
 (hn:l.most=some n)(My:d.params.defaults=[])
 (call:∀(w:World) (abK W1:Ux) (mg mb:Str->Option Value) (fa:Addr) (o:Obj) (pm cd doc:Value) (a:Addr) (vs:List Value) (ns:List Int),
  Ground q loose [] XP w abK mg mb W1.heap->YP w W1.heap->
  W1.heap.get? fa=some o->o.data= .func (docDef d.name d.params d.body d.scope pm cd doc)->W1.heap.CodeRec cd d.name->mg d.name=some (.ref fa)->
  W1.heap.get? a=some {cls:= .type "list",data:= .seq vs.toArray}->V0 vs ns->ns.length<=n->W1.gens= #[]->
  X9 (model l.prog w) ZW (.call (.ref fa) ⟨[.ref a],[]⟩) (λr s'=>r= .ok (.ret (.bool true))/\OldK W1.heap s'.heap/\s'.os=W1.os/\Y5 s'.gens) W1):
 WalkO q loose XP YP l.row.toRowW d [] (λf vs=>abb f vs):=by
 intro w abK W1 mg mb G Y fa o pm cd doc dV kV ho hd yb hD JW hg args vals as Gx S6 RI Qk Ul;obtain rfl:dV= .none:=Dflts.none hD My;obtain rfl:kV= .none:=Dflts.noKw hD;obtain⟨a,vs,ns,rfl,rfl,DM,hints,P3⟩:=script_of hn Gx Qk;refine enter_call (Z5 (call w abK W1 mg mb fa o pm cd doc a vs ns G Y ho (fd_plain hd) yb JW DM hints P3 hg) λr s' hq=>?_);obtain⟨rfl,h2,h3,h4⟩:=hq;exact⟨.inl ⟨.bool true, .bool true,[],rfl,λ_=>rfl, .bool true,post_true l _,λ_=>⟨Yy,λ_ hm=>(nomatch hm)⟩⟩,h2,h3,h4⟩
def ledger(h:Heap)(L d:Addr):List (Addr×Obj):=(UH h.objs.size).filterMap λa=>if a=L\/a=d then none else(h.get? a).map λo=>(a,o)
end Att
namespace L2
open PySem PySem.Spec PyProof.Rows
def sZ:∀{vs:List Value}{ns:List Int},V0 vs ns->Vals (ns.map V.int) vs
 |_,_, .nil=> .nil
 |_,_, .cons n t h=> .cons ⟨t,rfl⟩ (sZ h)
def Jh(H:Hp):Prop:=∀b,H b=none\/∃o xs,H b=some (.frz o (.lst xs))
def wm{P:Vf}{w:World}{K:UJ}{mg mb:Str->Option Value}{CX:zK}{k:Nat}{fa a:Addr}{fd:Xm}{x:Str}{sp:Sp}{W1:Ux}{vs:List Value}{ns:List Int}
 (KX:K.In W1.heap)(Ae:W1.heap.Ns U4 mg)(hb:W1.heap.Ns builtinsNs mb)(Pq:∀x:Str,x≠"__name__"->mb x=Vh x)(JU:W1.heap.NoLimit)(hg:W1.gens= #[])
 (ha:W1.heap.get? a=some {cls:= .type "list",data:= .seq vs.toArray})(hi:V0 vs ns)(hl:ns.length<=UR)(hr:Room k ZW)
 (F:∀base:Heap,K.In base->base.Ns U4 mg->FnOk P w K mg base CX k fa fd [x] sp)(Mt:∀(s:Ux) (u:Value),abl s fd ⟨[u],[]⟩ [(x,u)])
 (FP:∀H:Hp,Jh H->SqL K H a (ns.map V.int)->sp [.ref a] H (λv _=>v= .bl true) λ_ _ _=>False)
 (Pe:∀H e s',CX [] H W1 (λ_ _ _=>False) e s'->False):
 X9 (model P w) ZW (.call (.ref fa) ⟨[.ref a],[]⟩) (λr s'=>r= .ok (.ret (.bool true))/\OldK W1.heap s'.heap/\s'.os=W1.os/\Y5 s'.gens) W1:=by
 have rv:=sZ hi;have Qy:=hi.length;have core:∀H:Hp,Jh H->SqL K H a (ns.map V.int)->HOk P w H W1.heap->(∀b,H b≠none->b=a)->(H a≠none->K.lookup a=none)->
  X9 (model P w) ZW (.call (.ref fa) ⟨[.ref a],[]⟩) (λr s'=>r= .ok (.ret (.bool true))/\OldK W1.heap s'.heap/\s'.os=W1.os/\Y5 s'.gens) W1:=by
  intro H hO hS hok hA hK;have zP:∀{b:Addr}{o:Obj},W1.heap.get? b=some o->H b=none->(tJ W1.heap H).get? b=some o:=λe n=>DJ e n;have Nn:∀{b:Addr}{o:Obj}{es:Array V9}{ep:Nat},W1.heap.get? b=some o->o.data= .dict es ep->H b=none:=λ{b o es ep} e d=>by
   cases q:H b with
   |none=>rfl
   |some u=>
    have e':b=a:=hA b (by rw[q];simp);subst e';rw[ha] at e;cases e;have d':Data.seq vs.toArray _=YD es ep:=d;cases d'
  have ON:∀{b:Addr}{m:Str->Option Value},W1.heap.Ns b m->(tJ W1.heap H).Ns b m:=λ{b m} ⟨o,es,ep,e,d,r⟩=>⟨o,es,ep,zP e (Nn e d),d,r⟩
  have Rn:K.In (tJ W1.heap H):=λb o e=>zP (KX b o e) (by
   cases q:H b with
   |none=>rfl
   |some u=>
    have e':b=a:=hA b (by rw[q];simp);subst e';rw[hK (by rw[q];simp)] at e;cases e)
  have hM:Mod K mg (tJ W1.heap H):=⟨Rn,ON Ae,⟨mb,ON hb,Pq⟩,let ⟨mc,h1,h2⟩:=JU;⟨mc,ON h1,h2⟩⟩
  have e0:Env0 P w K mg (tJ W1.heap H) ZW [] W1 H:=⟨rfl,hM,λb o e=>G1 e,Nat.le_of_eq (BB _ _),trivial,λb hb=>abE (show b∈([]:List Addr) from hb) (by simp),hok, .of_eq hg⟩
  refine Z5 ((F _ Rn (ON Ae)).run ZW [] W1 H ⟨[.ref a],[]⟩ [.ref a] [.ref a] _ _ hr e0 (Mt W1 (.ref a)) (.cons rfl .nil) (FP H hO hS)) λr s' h=>?_;cases r with
  |error e=>exact(Pe H e s' h).elim
  |ok fl=>
   cases fl with
   |next=>exact WS h
   |brk=>exact WS h
   |cont=>exact WS h
   |ret u=>
    obtain⟨v,H',os,bare,un,MM,r',q⟩:=h;have q':v= .bl true:=q;subst q';obtain rfl:u=WR true:=r';refine⟨rfl,OldK.of_keep λb o e=>?_,os,bare⟩;cases q:H b with
    |none=>exact un.keep b o e q (by intro z;exact abE (show b∈([]:List Addr) from z) (by simp)) (by simp)
    |some u=>
     rcases hO b with z | ⟨ob,xs,z⟩
     ·rw[q] at z;cases z
     ·have z2:=un.frzs b ob _ z;obtain⟨e1,_⟩:=hok b _ z;obtain⟨e2,_⟩:=MM b _ z2;rw[e] at e1;cases e1;exact e2
 cases hk:K.lookup a with
 |some o=>
  have e:=KX a o hk;rw[ha] at e;cases e;refine core (λ_=>none) (λ_=> .inl rfl) (.inr ⟨_,vs.toArray,_,hk,rfl,rfl,rfl,by rw[UK,Qy];exact hl,by simpa using rv⟩) (λb u z=>by have z':(none:Option HO)=some u:=z;cases z') (λb z=>abE rfl z) λz=>abE rfl z
 |none=>
  refine core (λb=>if b=a then some (.frz {cls:= .type "list",data:= .seq vs.toArray} (.lst (ns.map V.int))) else none) (λb=>?_) (.inl (.inr ⟨{cls:= .type "list",data:= .seq vs.toArray},abz rfl⟩)) (λb u z=>?_) (λb z=>?_) λ_=>hk
  ·by_cases hb:b=a
   ·exact .inr ⟨_,_,abz hb⟩
   ·exact .inl (abA hb)
  ·by_cases hb:b=a
   ·have z':=(abz hb).symm.trans z;cases z';subst hb;exact⟨ha,by rw[Ur];exact hl,vs,_,rv,ha⟩
   ·have z':=(abA hb).symm.trans z;cases z'
  ·by_cases hb:b=a
   ·exact hb
   ·exact abE (abA hb) z
abbrev Ue{K:UJ}{h:Heap}(_:K.In h):UJ:=K
def OV{l:abc}{n k:Nat}{q:Vf}{loose:List Str}{XP:(Str->Option Value)->Heap->Prop}{YP:World->Heap->Prop}{d:DefRec}{K:Params->UJ}{CX:World->zK}{sp:World->Sp}{x:Str}
 (hn:l.most=some n)(OF:n<=UR)(My:d.params.defaults=[])(hr:Room k ZW)
 (hY:∀(w:World) (h:Heap),YP w h->(K w.params).In h)
 (F:∀(w:World) (mg:Str->Option Value) (fa:Addr) (h:Heap),(K w.params).In h->h.Ns U4 mg->mg d.name=some (.ref fa)->
  ∃fd:Xm,(∀(s:Ux) (u:Value),abl s fd ⟨[u],[]⟩ [(x,u)])/\
   ∀base:Heap,(K w.params).In base->base.Ns U4 mg->FnOk l.prog w (K w.params) mg base (CX w) k fa fd [x] (sp w))
 (FP:∀(w:World) (H:Hp) (a:Addr) (ns:List Int),ns.length<=n->Jh H->SqL (K w.params) H a (ns.map V.int)->sp w [.ref a] H (λv _=>v= .bl true) λ_ _ _=>False)
 (Pe:∀(w:World) (H:Hp) (s:Ux) (e:Value) (s':Ux),CX w [] H s (λ_ _ _=>False) e s'->False):
 PySem.W.WalkO q loose XP YP l.row.toRowW d [] (λf vs=>abb f vs):=by
 refine Att.attach_call hn My λw abK W1 mg mb fa o pm cd doc a vs ns G Y ho hd yb JW DM hints P3 hg=>?_;have KX:=hY w _ Y;obtain⟨fd,hb,hF⟩:=F w mg fa _ KX G.T.g JW;exact wm KX G.T.g G.T.b G.T.builtins G.T.nolimit hg DM hints (U1 P3 OF) hr hF hb (λH hO hS=>FP w H a ns P3 hO hS) λH e s'=>Pe w H W1 e s'
abbrev Q1:zK:=λ_ _ _ _ _ _=>False
structure Fun (K:UJ) (x qual:Str) (st:Stmt) (f:Addr) (fd:Xm):Prop where
 ex:∃(oc:Value) (od:Option Addr) (kV doc pm:Value) (an:Option Addr) (b6 ct:Value) (Ha:Array (Option Value)),
  fd=Wr x qual (eB st) (aO st) (ah st) .none kV doc pm an b6 ct/\K.lookup f=some ⟨oc,od, .func fd,Ha⟩/\Xr K b6 qual=true
 kp:WJ K (.ref f)=true
section
variable{P:Vf}{w:World}{K:UJ}{mg:Str->Option Value}{base:Heap}
def Fun.ok{x qual:Str}{st:Stmt}{f:Addr}{fd:Xm}{N ps:List Str}{k:Nat}{sp:Sp}(F:Fun K x qual st f fd)(S:FnScope N ps (ah st))(len:∀vs H Q E,sp vs H Q E->vs.length=ps.length)
 (pw:∀(b6:Value) (A:Vw) (outer:List Env) (s:Ux) (H:Hp) (vs:List V) (Q:VK) (E:XK),Room k (A.deeper (WO qual (ah st) s.heap.objs.size f b6))->sp vs H Q E->
  ∃t,PSs (de Q1 P w K mg base N qual (ah st) f b6 A outer s H E).nox (aO st) t/\t {nx:=λ_ H'=>Q .non H',rt:=Q} (start N vs) H):FnOk P w K mg base Q1 (k+1) f fd ps sp:=by
 obtain⟨oc,od,kV,doc,pm,an,b6,ct,Ha,rfl,lk,yb⟩:=F.ex;refine Iv lk yb S len λA outer s H vs Q E hr FP=>?_;obtain⟨t,h,q⟩:=pw b6 A outer s H vs Q E hr FP;exact⟨t,h.nox,q⟩
def Fun.binds{x qual:Str}{st:Stmt}{f:Addr}{fd:Xm}{ps:List Str}(F:Fun K x qual st f fd)
 (h:∀(kV doc pm:Value) (an:Option Addr) (b6 ct:Value) (us:List Value),us.length=ps.length->bindArgs (Wr x qual (eB st) (aO st) (ah st) .none kV doc pm an b6 ct) ⟨us,[]⟩=pure (ps.zip us)):Binds K fd ps []:=by
 obtain⟨oc,od,kV,doc,pm,an,b6,ct,Ha,rfl,lk,yb⟩:=F.ex;exact .all (h kV doc pm an b6 ct)
def Dp{x qual:Str}{st:Stmt}{f:Addr}{oc:Value}{od an:Option Addr}{Ha:Array (Option Value)}{kV doc pm b6 ct:Value}(l:K.lookup f=some ⟨oc,od, .func (Wr x qual (eB st) (aO st) (ah st) .none kV doc pm an b6 ct),Ha⟩)
 (c:Xr K b6 qual=true)(k:WJ K (.ref f)=true):Fun K x qual st f (Wr x qual (eB st) (aO st) (ah st) .none kV doc pm an b6 ct):=⟨⟨oc,od,kV,doc,pm,an,b6,ct,Ha,rfl,l,c⟩,k⟩
end
section
variable{X:Cx}
def pv(i:Nat){x:Str}{pos:Pos}(hN:X.N[i]? =some x:=by rfl)(hv:O4 X.env.scope x:=by first | exact Or.inl rfl | exact Or.inr (Or.inl rfl) | exact Or.inr (Or.inr rfl))(hd:(x==("__debug__":Str))=false:=by decide)
 (yb:(x==("__classdict__":Str))=false:=by decide):PE X (.Name x pos) (ky i):=K3 hN hv hd yb
end
def Same(H H':Hp):Prop:=∀b o,H b=some o->H' b=some o
def Same.refl(H:Hp):Same H H:=λ_ _ h=>h
def Same.trans{H H1 H2:Hp}(a:Same H H1)(b:Same H1 H2):Same H H2:=λc o h=>b c o (a c o h)
def Same.free{H H':Hp}(e:Same H H'){l:Addr}(h:H' l=Option.none):H l=Option.none:=by
 cases q:H l with
 |none=>rfl
 |some o=>
  rw[e l o q] at h;cases h
def Same.seq{K:UJ}{H H':Hp}{a:Addr}{xs:List V}(e:Same H H')(h:SqL K H a xs):SqL K H' a xs:=by
 rcases h with(h | ⟨o,h⟩) | h
 ·exact .inl (.inl (e _ _ h))
 ·exact .inl (.inr ⟨o,e _ _ h⟩)
 ·exact .inr h
section
variable{κ:Type}[DecidableEq κ]
def eN(kvs:List (κ×V))(k:κ):Option V:=(kvs.find? λkv=>decide (kv.1=k)).map (·.2)
def putK(kvs:List (κ×V))(k:κ)(v:V):List (κ×V):=
 if (kvs.any λkv=>decide (kv.1=k))=true then kvs.map (λkv=>if kv.1=k then(kv.1,v) else kv) else kvs++[(k,v)]
def jm{p:κ×V}{r:List (κ×V)}{k:κ}(e:p.1=k):eN (p::r) k=some p.2:=by simp[eN,Xk,e]
def jl{p:κ×V}{r:List (κ×V)}{k:κ}(e:¬p.1=k):eN (p::r) k=eN r k:=by simp[eN,Xk,e]
def jk(k:κ):∀kvs:List (κ×V),(kvs.any λkv=>decide (kv.1=k))=(eN kvs k).isSome
 |[]=>rfl
 |p::r=>by
  rw[Xl];by_cases e:p.1=k
  ·simp only[jm e,abB e,Bool.true_or,aaN]
  ·rw[jl e,abD e,Bool.false_or];exact jk k r
def dH(kvs:List (κ×V))(k:κ)(v:V):(putK kvs k v).length<=kvs.length+1:=by
 unfold putK;split
 ·rw[Ur];omega
 ·rw[UN,UI,VX];omega
def xn{kvs:List (κ×V)}{k:κ}(v:V)(h:eN kvs k=none):putK kvs k v=kvs++[(k,v)]:=by
 unfold putK;rw[jk,h];exact abA (by decide)
def RelO.isSome_eq{o:Option V}{u:Option Value}(r:RelO o u):o.isSome=u.isSome:=by
 cases o with
 |none=>cases u with
  |none=>rfl
  |some _=>exact(show False from r).elim
 |some _=>cases u with
  |none=>exact(show False from r).elim
  |some _=>rfl
def RelO.getD{o:Option V}{u:Option Value}{d:V}{d':Value}(r:RelO o u)(rd:RelV d d'):RelV (o.getD d) (u.getD d'):=by
 cases o with
 |none=>cases u with
  |none=>exact rd
  |some _=>exact(show False from r).elim
 |some _=>cases u with
  |none=>exact(show False from r).elim
  |some _=>exact r
def KV.val{kvs:List (κ×V)}{vs:List (κ×Value)}(r:KV kvs vs)(k:κ):RelO (eN kvs k) (aas vs k):=by
 unfold KV at r;induction r with
 |nil=>exact WD
 | @cons p q ps qs h t ih=>
   obtain⟨h1,h2⟩:=h;by_cases e:p.1=k
   ·have e':q.1=k:=h1.symm.trans e;have b:aas (q::qs) k=some q.2:=by simp[aas,Xk,e']
    rw[jm e,b];exact h2
   ·have e':¬q.1=k:=λz=>e (h1.trans z);have b:aas (q::qs) k=aas qs k:=by simp[aas,Xk,e']
    rw[jl e,b];exact ih
def KV.any{kvs:List (κ×V)}{vs:List (κ×Value)}(r:KV kvs vs)(k:κ):(kvs.any λkv=>decide (kv.1=k))=vs.any λkv=>decide (kv.1=k):=by
 unfold KV at r;induction r with
 |nil=>rfl
 |cons h t ih=>rw[Xl,Xl,ih,h.1]
def KV.repl{kvs:List (κ×V)}{vs:List (κ×Value)}(r:KV kvs vs)(k:κ){y:V}{u:Value}(ry:RelV y u):
 KV (kvs.map λkv=>if kv.1=k then(kv.1,y) else kv) (vs.map λkv=>if kv.1=k then(kv.1,u) else kv):=by
 unfold KV at r⊢;induction r with
 |nil=>exact .nil
 | @cons p q ps qs h t ih=>
   rw[Uz,Uz];refine .cons ?_ ih;obtain⟨h1,h2⟩:=h;by_cases e:p.1=k
   ·rw[abz e,abz (h1.symm.trans e)];exact⟨h1,ry⟩
   ·rw[abA e,abA (λz=>e (h1.trans z))];exact⟨h1,h2⟩
def KV.put{kvs:List (κ×V)}{vs:List (κ×Value)}(r:KV kvs vs)(k:κ){y:V}{u:Value}(ry:RelV y u):KV (putK kvs k y) (stored vs k u):=by
 unfold putK stored;rw[r.any k];by_cases e:(vs.any λkv=>decide (kv.1=k))=true
 ·rw[abz e,abz e];exact r.repl k ry
 ·rw[abA e,abA e];exact Paired.snoc r ⟨rfl,ry⟩
def KV.keys{kvs:List (κ×V)}{vs:List (κ×Value)}(r:KV kvs vs):kvs.map (·.1)=vs.map (·.1):=by
 unfold KV at r;induction r with
 |nil=>rfl
 |cons h t ih=>rw[Uz,Uz,ih,h.1]
def KV.length{kvs:List (κ×V)}{vs:List (κ×Value)}(r:KV kvs vs):kvs.length=vs.length:=Wt r
end
def kU{P:Vf}{w:World}{k:Key}{u:Value}(r:RelV (kV k) u):(aM P w).is k u=true:=by
 cases k with
 |inl i=>obtain⟨t,e⟩:=(show∃t,u=aax i t from r);subst e;exact wA P w i t
 |inr x=>obtain⟨t,e⟩:=(show∃t,u=aaw x t from r);subst e;exact wB P w x t
def Kj{a b:Key}(e:kV a=kV b):a=b:=by
 cases a with
 |inl i=>cases b with
  |inl j=>have e':V.int i=V.int j:=e;injection e' with e';rw[e']
  |inr y=>exact nomatch (show V.int i=V.str y from e)
 |inr x=>cases b with
  |inl j=>exact nomatch (show V.str x=V.int j from e)
  |inr y=>have e':V.str x=V.str y:=e;injection e' with e';rw[e']
def Ar:∀{a b:List Key},a.map kV=b.map kV->a=b
 |[],[],_=>rfl
 |[],_::_,e=>by simp at e
 |_::_,[],e=>by simp at e
 |x::xs,y::ys,e=>by
  rw[Uz,Uz] at e;injection e with e1 e2
  rw[Kj e1,Ar e2]
def si{P:Vf}{w:World}:∀{ks:List Key}{us:List Value},Vals (ks.map kV) us->ItemsAre (aM P w) ks us
 |[],_,r=>by rw[Xf] at r;cases r;exact .nil
 |k::ks,_,r=>by
  rw[Uz] at r;cases r with
  |cons h t=>exact .cons (kU h) (si t)
abbrev KT(H:Hp):List (List Key×V)->List (List Key×Addr×Value)->Prop:=Zk λp q=>p.1=q.1/\H q.2.1=some (.tup (p.1.map kV))/\RelV p.2 q.2.2
def KT.val{H:Hp}{kvs:List (List Key×V)}{xs:List (List Key×Addr×Value)}(r:KT H kvs xs)(k:List Key):RelO (eN kvs k) ((atKey xs k).map (·.2)):=by
 induction r with
 |nil=>exact WD
 | @cons p q ps qs h t ih=>
   obtain⟨h1,_,h2⟩:=h;by_cases e:p.1=k
   ·have e':q.1=k:=h1.symm.trans e;have b:atKey (q::qs) k=some q.2:=by simp[atKey,Xk,e']
    rw[jm e,b];exact h2
   ·have e':¬q.1=k:=λz=>e (h1.trans z);have b:atKey (q::qs) k=atKey qs k:=by simp[atKey,Xk,e']
    rw[jl e,b];exact ih
def KT.repl{H:Hp}{kvs:List (List Key×V)}{xs:List (List Key×Addr×Value)}(r:KT H kvs xs)(k:List Key){y:V}{u:Value}(ry:RelV y u):
 KT H (kvs.map λkv=>if kv.1=k then(kv.1,y) else kv) (xs.map (putAt k u)):=by
 induction r with
 |nil=>exact .nil
 | @cons p q ps qs h t ih=>
   rw[Uz,Uz];refine .cons ?_ ih;obtain⟨h1,h2,h3⟩:=h;unfold putAt;by_cases e:p.1=k
   ·rw[abz e,abz (h1.symm.trans e)];exact⟨h1,h2,ry⟩
   ·rw[abA e,abA (λz=>e (h1.trans z))];exact⟨h1,h2,h3⟩
def KT.put{H:Hp}{kvs:List (List Key×V)}{xs:List (List Key×Addr×Value)}(r:KT H kvs xs)(k:List Key){b:Addr}{y:V}{u:Value}(hb:H b=some (.tup (k.map kV)))(ry:RelV y u):
 KT H (putK kvs k y) (YF xs k b u):=by
 have e:(kvs.any λkv=>decide (kv.1=k))=(atKey xs k).isSome:=by
  rw[jk,(r.val k).isSome_eq,Y7]
 unfold putK YF;rw[e];by_cases q:(atKey xs k).isSome=true
 ·rw[abz q,abz q];exact r.repl k ry
 ·rw[abA q,abA q];exact Paired.snoc r ⟨rfl,hb,ry⟩
def KT.keeps{H H':Hp}{kvs:List (List Key×V)}{xs:List (List Key×Addr×Value)}(r:KT H kvs xs)(ht:∀b ys,H b=some (.tup ys)->H' b=some (.tup ys)):KT H' kvs xs:=
 Paired.mapP r λ_ _ z=>⟨z.1,ht _ _ z.2.1,z.2.2⟩
section
variable{P:Vf}{w:World}{H:Hp}{h:Heap}{a:Addr}
def I9{u:HO}(ok:HOk P w H h)(e:Rd H a u):ObjOk P w H h a u:=e.ok ok
def iD{kvs:List (Key×V)}(ok:HOk P w H h)(e:Rd H a (.dK kvs)):kvs.length<=UR/\(a==V4)=false/\∃vs,KV kvs vs/\h.DictOf (aM P w) a vs:=
 show ObjOk P w H h a (.dK kvs) from I9 ok e
def Dd{kvs:List (Key×V)}(ok:HOk P w H h)(e:H a=some (.dK kvs)):kvs.length<=UR/\(a==V4)=false/\∃vs,KV kvs vs/\h.DictOf (aM P w) a vs:=iD ok (.inl e)
def iL{ks:List Key}(ok:HOk P w H h)(e:H a=some (.tup (ks.map kV))):(WM (aM P w)).is h ks a:=by
 obtain⟨_,aD,r,o,h1,h2,n,h3⟩:=(show ObjOk P w H h a (.tup (ks.map kV)) from ok a _ e)
 exact⟨o,aD.toArray,n,h1,h2,h3,by simpa using si r⟩
def kG{kvs:List (List Key×V)}(ok:HOk P w H h)(e:Rd H a (.dT kvs)):kvs.length<=UR/\(a==V4)=false/\
 ∃xs,KT H kvs xs/\h.DictOfH (WM (aM P w)) a xs:=by
 obtain⟨z,y,xs,r,o,es,ep,h1,h2,h3,h4,h5⟩:=(show ObjOk P w H h a (.dT kvs) from I9 ok e)
 refine⟨z,y,xs,r,o,es,ep,h1,h2,h3,h4,λx hx=>?_,h5⟩;have all:∀{l:List (List Key×V)}{m:List (List Key×Addr×Value)},KT H l m->∀x∈m,(WM (aM P w)).is h x.1 x.2.1:=by
  intro l m q;induction q with
  |nil=>intro x hx;exact nomatch hx
  | @cons p q ps qs hq t ih=>
    intro x hx;rcases UD.mp hx with e | hx
    ·subst e;exact iL ok (by rw[<-hq.1];exact hq.2.1)
    ·exact ih x hx
 exact all r x hx
def Dh{kvs:List (List Key×V)}(ok:HOk P w H h)(e:H a=some (.dT kvs)):kvs.length<=UR/\(a==V4)=false/\
 ∃xs,KT H kvs xs/\h.DictOfH (WM (aM P w)) a xs:=kG ok (.inl e)
end
def jY(H:Hp)(a:Addr)(y:V)(r:Option V):Prop:=
 (∃kvs k,Rd H a (.dK kvs)/\y=kV k/\r=eN kvs k)\/∃kvs k b,Rd H a (.dT kvs)/\y= .ref b/\H b=some (.tup (k.map kV))/\r=eN kvs k
def DPut(H:Hp)(a:Addr)(y v:V)(H':Hp):Prop:=
 (∃kvs k,H a=some (.dK kvs)/\y=kV k/\kvs.length<UR/\H'=upd H a (.dK (putK kvs k v)))\/
 ∃kvs k b,H a=some (.dT kvs)/\y= .ref b/\H b=some (.tup (k.map kV))/\kvs.length<UR/\H'=upd H a (.dT (putK kvs k v))
def DPut.k{H:Hp}{a:Addr}{kvs:List (Key×V)}{k:Key}{v:V}(e:H a=some (.dK kvs))(hl:kvs.length<UR):DPut H a (kV k) v (upd H a (.dK (putK kvs k v))):= .inl ⟨kvs,k,e,rfl,hl,rfl⟩
def DPut.t{H:Hp}{a b:Addr}{kvs:List (List Key×V)}{k:List Key}{v:V}(e:H a=some (.dT kvs))(eb:H b=some (.tup (k.map kV)))(hl:kvs.length<UR):
 DPut H a (.ref b) v (upd H a (.dT (putK kvs k v))):= .inr ⟨kvs,k,b,e,rfl,eb,hl,rfl⟩
section
variable{X:Cx}{f8:List (Addr×Obj)}{σ:St}{H:Hp}{s:Ux}{a:Addr}{y v:V}{u r:Value}{o:Option V}{A:Vw}{E:Value->Ux->Prop}
def Inv.big(I:Inv X f8 σ H s):V4<s.heap.objs.size:=by
 have h:U4<s.heap.objs.size:=(I.mod.glob.keeps I.bk).lt;exact VG (by decide) h
def Bt{Q:Value->Ux->Prop}(hu:A.units+1<cLine)(I:Inv X f8 σ H s)(g:jY H a y (some v))(ry:RelV y u)(h:∀w' s',Inv X f8 σ H s'->RelV v w'->Q w' s'):
 wpAny (model X.prog X.w) A (X8 (.ref a) u) Q E s:=by
 rcases g with⟨kvs,k,e,ey,l⟩ | ⟨kvs,k,b,e,ey,eb,l⟩
 ·subst ey;obtain⟨z,hd,vs,rel,dd⟩:=iD I.hok e;obtain⟨w',hw,vn⟩:=RelO.some_of (v:=v) (o:=aas vs k) (by rw[l];exact rel.val k);exact wpAny_getItem_of (kU ry) dd.mapOf hw (h w' _ (I.tok _) vn)
 ·subst ey;cases (show u=UX b from ry);obtain⟨z,hd,xs,rel,dd⟩:=kG I.hok e;obtain⟨w',hw,vn⟩:=RelO.some_of (v:=v) (o:=(atKey xs k).map (·.2)) (by rw[l];exact rel.val k);obtain⟨p,hp,MO⟩:=aai.mp hw;refine wpAny_getItem_heap (W0 hu) (iL I.hok eb) dd hp ?_;rw[MO];exact h w' _ (I.tok _) vn
def O8{Q:Value->Ux->Prop}(hu:A.units+1<cLine)(I:Inv X f8 σ H s)(g:jY H a y o)(ry:RelV y u)(h:∀s',Inv X f8 σ H s'->Q (.bool o.isSome) s'):
 wpAny (model X.prog X.w) A (VP .In u (.ref a)) Q E s:=by
 rcases g with⟨kvs,k,e,ey,l⟩ | ⟨kvs,k,b,e,ey,eb,l⟩
 ·subst ey;obtain⟨z,hd,vs,rel,dd⟩:=iD I.hok e;refine wpAny_in_of (kU ry) hd dd.mapOf ?_;rw[<-(rel.val k).isSome_eq,<-l];exact h _ (I.tok _)
 ·subst ey;cases (show u=UX b from ry);obtain⟨z,hd,xs,rel,dd⟩:=kG I.hok e;refine wpAny_in_heap (W0 hu) (iL I.hok eb) hd dd ?_;have q:=(rel.val k).isSome_eq;rw[Y7] at q;rw[<-q,<-l];exact h _ (I.tok _)
def F7{Q:Value->Ux->Prop}(hu:A.units+1<cLine)(I:Inv X f8 σ H s)(g:jY H a y o)(ry:RelV y u)(h:∀s',Inv X f8 σ H s'->Q (.bool (!o.isSome)) s'):
 wpAny (model X.prog X.w) A (VP .NotIn u (.ref a)) Q E s:=by
 rcases g with⟨kvs,k,e,ey,l⟩ | ⟨kvs,k,b,e,ey,eb,l⟩
 ·subst ey;obtain⟨z,hd,vs,rel,dd⟩:=iD I.hok e;refine wpAny_notIn_of (kU ry) hd dd.mapOf ?_;rw[<-(rel.val k).isSome_eq,<-l];exact h _ (I.tok _)
 ·subst ey;cases (show u=UX b from ry);obtain⟨z,hd,xs,rel,dd⟩:=kG I.hok e;refine wpAny_notIn_heap (W0 hu) (iL I.hok eb) hd dd ?_;have q:=(rel.val k).isSome_eq;rw[Y7] at q;rw[<-q,<-l];exact h _ (I.tok _)
def ju{h':Heap}{t':Nat}{ob:HO}(I:Inv X f8 σ H s)(mu:LY (H a))(hs:V2 a s.heap h')(he:∃q,h'.get? a=some q)(new:ObjOk X.prog X.w (upd H a ob) h' a ob):
 Inv X f8 σ (upd H a ob) {s with heap:=h',toks:=t'}:=
 I.write (x:=a) (e:=a) mu (.inl rfl) (λb q hb z=>(hs.2 b hb).trans z) he new
def yq{P:Vf}{w:World}{H':Hp}{h':Heap}{kvs:List (Key×V)}{vs:List (Key×Value)}(z:kvs.length<=UR)(hd:(a==V4)=false)(rel:KV kvs vs)(dd:h'.DictOf (aM P w) a vs):
 ObjOk P w H' h' a (.dK kvs):=⟨z,hd,vs,rel,dd⟩
def Bu{H':Hp}{Q:Unit->Ux->Prop}(hu:A.units+1<cLine)(I:Inv X f8 σ H s)(g:DPut H a y v H')(ry:RelV y u)(rv:RelV v r)(h:∀s',Inv X f8 σ H' s'->Q () s'):
 wpAny (model X.prog X.w) A (setItem (.ref a) u r) Q E s:=by
 rcases g with⟨kvs,k,e,ey,l,eH⟩ | ⟨kvs,k,b,e,ey,eb,l,eH⟩
 ·subst ey eH;obtain⟨z,hd,vs,rel,dd⟩:=Dd I.hok e;have hz:vs.length<=UR:=by rw[<-rel.length];exact z
  have hl:(putK kvs k v).length<=UR:=by have:=dH kvs k v;omega
  refine wpAny_setItem_pairs (hsz:=hz) (kU ry) dd λh' zU hs=>h _ ?_;have he:∃q,h'.get? a=some q:=let ⟨q,_,_,hq,_⟩:=zU;⟨q,hq⟩
  exact ju I (by rw[e];exact WD) hs he (yq hl hd (rel.put k rv) zU)
 ·subst ey eH;cases (show u=UX b from ry);obtain⟨z,hd,xs,rel,dd⟩:=Dh I.hok e;have hz:xs.length<=UR:=by rw[<-Wt rel];exact z
  have hl:(putK kvs k v).length<=UR:=by have:=dH kvs k v;omega
  refine wpAny_setItem_heap (hsz:=hz) (W0 hu) (iL I.hok eb) dd λh' zU hs=>h _ ?_;obtain⟨q,es,ep,hq,h2,h3,h4,_,h5⟩:=zU;refine ju I (by rw[e];exact WD) hs ⟨q,hq⟩ ⟨hl,hd,_,(rel.put k eb rv).keeps λc ys ec=>?_,q,es,ep,hq,h2,h3,h4,h5⟩;rw[ao (Ec ec e (λz=>nomatch z))];exact ec
end
section
variable{X:Cx}{f8:List (Addr×Obj)}{σ:St}{H:Hp}{s:Ux}{a:Addr}{kvs:List (Key×V)}{A:Vw}{E:Value->Ux->Prop}
def L6{Q:Value->Ux->Prop}(I:Inv X f8 σ H s)(e:Rd H a (.dK kvs))(h:∀t s',Inv X f8 σ H s'->Q (.int kvs.length t) s'):wpAny (model X.prog X.w) A (call (.builtin "len") [.ref a]) Q E s:=by
 obtain⟨z,hd,vs,rel,dd⟩:=iD I.hok e;refine call_len_dict hd dd (by rw[<-rel.length];rw[Wg] at z;omega) ?_;rw[<-rel.length];exact h _ _ (I.tok _)
end
def Jg(i:Expr):Prop:=∀ov iv,subscripted i false ov iv=operate [ov,iv] (X8 ov iv)
def HY{prog:Vf}{w:World}{A:Vw}{E:Value->Ux->Prop}{s:Ux}{env:Env}{value slice:Expr}{pos:Pos}{T id:String}{Q:Value->Ux->Prop}
 (hl:typeLookup (.type T) "__getitem__"=pure (some (.builtin id)))(hs:Jg slice)
 (h:wpAny (model prog w) A (eval value env) (λo W1=>wpAny (model prog w) A (eval slice env) (λi u8=>u8.TypeIs o T/\wpAny (model prog w) A (X8 o i) Q E u8) E W1) E s):
 wpAny (model prog w) A (eval (.Subscript value slice pos) env) Q E s:=by
 refine aaW (VN h (λo W1 h₁=>VN h₁ (λi u8 h₂=>?_) λ_ _ x=>x) λ_ _ x=>x);obtain⟨hT,h₂⟩:=h₂;unfold ZA;refine Uq ?_;rw[getitemInPython_of_ne hT.not_modules];refine Uq (aar hT hl ?_);have fin:wpAny (model prog w) A (subscripted slice false o i) (λr s₃=>wpAny (model prog w) A (letTemporaryGo value o r>>=λ_=>pure r) Q E s₃) E u8:=by
  rw[hs o i];exact wpAny_operating (VN h₂ (λr s₃ h₃=>Uq (wpAny_letTemporaryGo (Uw h₃))) λ_ _ x=>x)
 first
  |exact Uw (Uq fin)
  |exact Uq (Uw (Uq fin))
  |exact Uq fin
def vN{X:Cx}{f8:List (Addr×Obj)}{σ:St}{H:Hp}{s:Ux}{a:Addr}{y:V}{o:Option V}(I:Inv X f8 σ H s)(g:jY H a y o):s.TypeIs (.ref a) "dict":=by
 rcases g with⟨kvs,k,e,_,_⟩ | ⟨kvs,k,b,e,_,_,_⟩
 ·obtain⟨_,_,vs,_,dd⟩:=iD I.hok e;exact dd.typeIs
 ·obtain⟨_,_,xs,_,dd⟩:=kG I.hok e;exact dd.typeIs
def N6(td ty:TE):TE:=λσ H Q=>td σ H λx H1=>ty σ H1 λy H2=>∃a v,x= .ref a/\jY H2 a y (some v)/\Q v H2
def QP(ty td:TE):TE:=λσ H Q=>ty σ H λy H1=>td σ H1 λx H2=>∃a o,x= .ref a/\jY H2 a y o/\Q (.bl o.isSome) H2
def I_(td ty tv:TE):TS:=λD σ H=>tv σ H λv H1=>td σ H1 λx H2=>ty σ H2 λy H3=>∃a H4,x= .ref a/\DPut H3 a y v H4/\D.nx σ H4
section
variable{X:Cx}{o i value:Expr}{pos pos':Pos}{td ty tv:TE}
def Ht(hu:X.A.units+1<cLine)(ho:PE X o td)(hi:PE X i ty)(hs:Jg i):PE X (.Subscript o i pos) (N6 td ty):=by
 intro f8 s σ H Q I h;refine HY PySem.F.slot_dict_getitem.lookup hs (bx (ho f8 s σ H _ I h) λu s1 ⟨x,H1,I1,rx,q1⟩=>bx (hi f8 s1 σ H1 _ I1 q1) λiv s2 ⟨y,H2,I2,ry,a,v,ex,g,q2⟩=>?_);subst ex;obtain rfl:u=UX a:=rx;exact⟨vN I2 g,Bt hu I2 g ry λw' s3 I3 vn=>⟨v,H2,I3,vn,q2⟩⟩
def KG(hu:X.A.units+1<cLine)(hi:PE X i ty)(ho:PE X o td):PC X .In i o (QP ty td):=by
 intro f8 s σ H Q I h;refine bx (hi f8 s σ H _ I h) λiv s1 ⟨y,H1,I1,ry,q1⟩=>bx (ho f8 s1 σ H1 _ I1 q1) λu s2 ⟨x,H2,I2,rx,a,ov,ex,g,q2⟩=>?_;subst ex;obtain rfl:u=UX a:=rx;exact O8 hu I2 g ry λs3 I3=>⟨.bl ov.isSome,H2,I3,rfl,q2⟩
def AR(hu:X.A.units+1<cLine)(ho:PE X o td)(hi:PE X i ty)(hv:PE X value tv)(hs:X6 value (some (.Subscript o i pos')) pos.line X.env=pure false):
 PS X (.Assign [.Subscript o i pos'] value pos) (I_ td ty tv):=by
 intro f8 s σ H D I h;refine wpAny_Assign_Subscript (bx (hv f8 s σ H _ I h) λr s1 ⟨v,H1,I1,rv,q1⟩=>bx (ho f8 s1 σ H1 _ I1 q1) λu s2 ⟨x,H2,I2,rx,q2⟩=>bx (hi f8 s2 σ H2 _ I2 q2) λiv s3 ⟨y,H3,I3,ry,a,H4,ex,g,q3⟩=>?_) hs;subst ex;obtain rfl:u=UX a:=rx;exact Bu hu I3 g ry rv λs4 I4=>⟨σ,H4,I4,q3⟩
end
def vQ{P:Vf}{w:World}{H:Hp}(h:Heap)(hb:V4<h.objs.size):ObjOk P w H (h.push {cls:= .type "dict",data:= .dict #[]}) h.objs.size (.dK []):=
 ⟨U3 _,abH.mpr (Vv (UW hb)),[], .nil,Heap.DictOf.new h⟩
def vR{P:Vf}{w:World}{H:Hp}(h:Heap)(hb:V4<h.objs.size):ObjOk P w H (h.push {cls:= .type "dict",data:= .dict #[]}) h.objs.size (.dT []):=
 ⟨U3 _,abH.mpr (Vv (UW hb)),[], .nil,_,#[],0,UO _ rfl,⟨rfl,rfl,rfl⟩,rfl,rfl,WU⟩
def Fs:TE:=λ_ H Q=>∀p,H p=none->Q (.ref p) (upd H p (.dK []))
def Lp:TE:=λ_ H Q=>∀p,H p=none->Q (.ref p) (upd H p (.dT []))
section
variable{X:Cx}{pos:Pos}
def xh:PE X (.Dict [] [] pos) Fs:=λf8 s σ H Q I h=>
 wpAny_Dict_empty ⟨.ref s.heap.objs.size,_,I.laid (a:=s.heap.objs.size) (o:= .dK []) (t':=s.toks) (λ_ _ q=>Ut _ q) (UB _) (vQ s.heap I.big),rfl,h _ (I.hok.fresh (UB _))⟩
def EI:PE X (.Dict [] [] pos) Lp:=λf8 s σ H Q I h=>
 wpAny_Dict_empty ⟨.ref s.heap.objs.size,_,I.laid (a:=s.heap.objs.size) (o:= .dT []) (t':=s.toks) (λ_ _ q=>Ut _ q) (UB _) (vR s.heap I.big),rfl,h _ (I.hok.fresh (UB _))⟩
end
def Fu:List (TE×TE)->St->Hp->(List (V×V)->Hp->Prop)->Prop
 |[],_,H,Q=>Q [] H
 |(tk,tv)::r,σ,H,Q=>tk σ H λx H1=>tv σ H1 λy H2=>Fu r σ H2 λps H3=>Q ((x,y)::ps) H3
abbrev VV:List (V×V)->List (Value×Value)->Prop:=Zk λp q=>RelV p.1 q.1/\RelV p.2 q.2
def OZ(X:Cx)(pos:Pos)(keys:List (Option Expr))(values:List Expr)(OT:List (TE×TE)):Prop:=
 ∀(f8:List (Addr×Obj)) (s:Ux) (σ:St) (H:Hp) (Q:List (V×V)->Hp->Prop),Inv X f8 σ H s->Fu OT σ H Q->
  wpAny (model X.prog X.w) X.A (evalPairs (pairTrees keys values X.env pos)) (λvs s'=>∃ps H',Inv X f8 σ H' s'/\VV ps vs/\Q ps H') X.xe s
def HD{X:Cx}{pos:Pos}:OZ X pos [] [] []:=λf8 s σ H Q I h=>pairTrees_nil_walk ⟨[],H,I, .nil,h⟩
def EN{X:Cx}{pos:Pos}{k v:Expr}{ks:List (Option Expr)}{vs:List Expr}{tk tv:TE}{OT:List (TE×TE)}(hk:PE X k tk)(hv:PE X v tv)(hr:OZ X pos ks vs OT):
 OZ X pos (some k::ks) (v::vs) ((tk,tv)::OT):=λf8 s σ H Q I h=>
 pairTrees_cons_walk (bx (hk f8 s σ H _ I h) λu s1 ⟨x,H1,I1,rx,q1⟩=>bx (hv f8 s1 σ H1 _ I1 q1) λw2 s2 ⟨y,H2,I2,ry,q2⟩=>
  bx (hr f8 s2 σ H2 _ I2 q2) λws s3 ⟨ps,H3,I3,rel,q3⟩=>⟨(x,y)::ps,H3,I3, .cons ⟨rx,ry⟩ rel,q3⟩)
structure M1 (X:Cx) (o:Expr) (m:Str) (apos:Pos) (e:Expr) (aL:Pos):Prop where
 base:WA o m X.env (eval o X.env)=eval o X.env
 few:((W6 aL (US [e] X.env)).all (λx=>!x.1)&&(Y6 aL (XJ [] X.env)).all (λx=>x.1.isSome)
  &&decide (([e]:List Expr).length+([]:List Xz).length+(if ([]:List Xz).isEmpty then 0 else 1)<30))=true
 line:(apos.endLine==aL.line)=true
 trees:W6 aL (US [e] X.env)=[(false,eval e X.env)]
structure M2 (X:Cx) (o:Expr) (m:Str) (apos:Pos) (e f:Expr) (aL:Pos):Prop where
 base:WA o m X.env (eval o X.env)=eval o X.env
 few:((W6 aL (US [e,f] X.env)).all (λx=>!x.1)&&(Y6 aL (XJ [] X.env)).all (λx=>x.1.isSome)
  &&decide (([e,f]:List Expr).length+([]:List Xz).length+(if ([]:List Xz).isEmpty then 0 else 1)<30))=true
 line:(apos.endLine==aL.line)=true
 trees:W6 aL (US [e,f] X.env)=[(false,eval e X.env),(false,eval f X.env)]
def LA(H:Hp)(a:Addr):Prop:=(∃kvs,Rd H a (.dK kvs))\/∃kvs,Rd H a (.dT kvs)
def tQ{X:Cx}{f8:List (Addr×Obj)}{σ:St}{H:Hp}{s:Ux}{a:Addr}(I:Inv X f8 σ H s)(d:LA H a):
 s.TypeIs (.ref a) "dict"/\(∀b,UX a= .ref b->∃ob,s.heap.get? b=some ob/\ob.dict=none)/\(a==V4)=false:=by
 rcases d with⟨kvs,e⟩ | ⟨kvs,e⟩
 ·obtain⟨_,hd,vs,_,dd⟩:=iD I.hok e;refine⟨dd.typeIs,λb q=>?_,hd⟩;cases q;obtain⟨ob,_,_,h1,h2,_⟩:=dd;exact⟨ob,h1,h2.2.1⟩
 ·obtain⟨_,hd,xs,_,dd⟩:=kG I.hok e;refine⟨dd.typeIs,λb q=>?_,hd⟩;cases q;obtain⟨ob,_,_,h1,h2,_⟩:=dd;exact⟨ob,h1,h2.2.1⟩
section
variable{X:Cx}{f8:List (Addr×Obj)}{σ:St}{H:Hp}{s:Ux}{a:Addr}{y d:V}{u r:Value}{o:Option V}{A:Vw}{E:Value->Ux->Prop}
def Jt{Q:Value->Ux->Prop}(hu:A.units+1<cLine)(I:Inv X f8 σ H s)(g:jY H a y o)(ry:RelV y u)(h:∀w' s',Inv X f8 σ H s'->RelV (o.getD .non) w'->Q w' s'):
 wpAny (model X.prog X.w) A (call (.builtin "dict.get") [.ref a,u]) Q E s:=by
 rcases g with⟨kvs,k,e,ey,l⟩ | ⟨kvs,k,b,e,ey,eb,l⟩
 ·subst ey;obtain⟨z,hd,vs,rel,dd⟩:=iD I.hok e;refine YZ Ws dd.typeIs Xi (ZZ _ _) (meets_dict_get (aM X.prog X.w) a (kU ry) hd) ⟨_,dd.mapOf,h _ _ (I.tok _) ?_⟩;rw[l];exact(rel.val k).getD rfl
 ·subst ey;cases (show u=UX b from ry);obtain⟨z,hd,xs,rel,dd⟩:=kG I.hok e;refine YZ Ws dd.typeIs Xi (ZZ _ _) (meetsH_dict_get (WM (aM X.prog X.w)) a b hd) ⟨W0 hu,k,xs,iL I.hok eb,dd,h _ _ (I.tok _) ?_⟩;rw[l];exact(rel.val k).getD rfl
def Ju{Q:Value->Ux->Prop}(hu:A.units+1<cLine)(I:Inv X f8 σ H s)(g:jY H a y o)(ry:RelV y u)(rd:RelV d r)(h:∀w' s',Inv X f8 σ H s'->RelV (o.getD d) w'->Q w' s'):
 wpAny (model X.prog X.w) A (call (.builtin "dict.get") [.ref a,u,r]) Q E s:=by
 rcases g with⟨kvs,k,e,ey,l⟩ | ⟨kvs,k,b,e,ey,eb,l⟩
 ·subst ey;obtain⟨z,hd,vs,rel,dd⟩:=iD I.hok e;refine YZ Ws dd.typeIs Xi (ZY _ _ _) (meets_dict_get_default (aM X.prog X.w) a (kU ry) hd r) ⟨_,dd.mapOf,h _ _ (I.tok _) ?_⟩;rw[l];exact(rel.val k).getD rd
 ·subst ey;cases (show u=UX b from ry);obtain⟨z,hd,xs,rel,dd⟩:=kG I.hok e;refine YZ Ws dd.typeIs Xi (ZY _ _ _) (meetsH_dict_get_default (WM (aM X.prog X.w)) a b hd r) ⟨W0 hu,k,xs,iL I.hok eb,dd,h _ _ (I.tok _) ?_⟩;rw[l];exact(rel.val k).getD rd
end
def Lm(td ty:TE):TE:=λσ H Q=>td σ H λx H1=>∃a,x= .ref a/\LA H1 a/\ty σ H1 λy H2=>∃o,jY H2 a y o/\Q (o.getD .non) H2
def Lo(td ty tx:TE):TE:=λσ H Q=>td σ H λx H1=>∃a,x= .ref a/\LA H1 a/\ty σ H1 λy H2=>tx σ H2 λz H3=>∃o,jY H3 a y o/\Q (o.getD z) H3
section
variable{X:Cx}{o e f:Expr}{apos aL:Pos}{td ty tx:TE}
def EG(hu:X.A.units+1<cLine)(ho:PE X o td)(he:PE X e ty)(m:M1 X o "get" apos e aL):PE X (.Call (.Attribute o "get" apos) [e] [] aL) (Lm td ty):=by
 intro f8 s σ H Q I h;refine Yv m.base m.few m.line Wi Ws aah (bx (ho f8 s σ H _ I h) λu s1 ⟨x,H1,I1,rx,a,ex,d,q1⟩=>?_);subst ex;obtain rfl:u=UX a:=rx;obtain⟨t1,t2,_⟩:=tQ I1 d;refine⟨t1,t2,?_⟩;rw[m.trees];refine Wo rfl (W4 (V5 (bx (he f8 s1 σ H1 _ I1 q1) λiv s2 ⟨y,H2,I2,ry,ov,g,q2⟩=>WB ?_)));exact Jt hu I2 g ry λw' s3 I3 vn=>⟨_,H2,I3,vn,q2⟩
def EH(hu:X.A.units+1<cLine)(ho:PE X o td)(he:PE X e ty)(hf:PE X f tx)(m:M2 X o "get" apos e f aL):PE X (.Call (.Attribute o "get" apos) [e,f] [] aL) (Lo td ty tx):=by
 intro f8 s σ H Q I h;refine Yv m.base m.few m.line Wi Ws aah (bx (ho f8 s σ H _ I h) λu s1 ⟨x,H1,I1,rx,a,ex,d,q1⟩=>?_);subst ex;obtain rfl:u=UX a:=rx;obtain⟨t1,t2,_⟩:=tQ I1 d;refine⟨t1,t2,?_⟩;rw[m.trees];refine Wo rfl (W4 (V5 (bx (he f8 s1 σ H1 _ I1 q1) λiv s2 ⟨y,H2,I2,ry,q2⟩=>
  V5 (bx (hf f8 s2 σ H2 _ I2 q2) λfv s3 ⟨z,H3,I3,rz,ov,g,q3⟩=>WB ?_))))
 exact Ju hu I3 g ry rz λw' s4 I4 vn=>⟨_,H3,I4,vn,q3⟩
end
end L2
namespace L3
open PySem PySem.Spec L2
open PyProof.Rows hiding St
inductive Rs (α:Type) where
 |ok (a:α) | ex (n:Nat)
def M(α:Type):=Option (Rs α)
def aa(a:α):M α:=some (.ok a)
def M.bind(m:M α)(k:α->M β):M β:=match m with
 |none=>none
 |some (.ex n)=>some (.ex n)
 |some (.ok a)=>k a
def af:M α:=none
def oA(n:Nat):M α:=some (.ex n)
instance:Monad M where
 pure:=aa
 bind:=M.bind
@[simp] def au{α β:Type}(a:α)(k:α->M β):(aa a>>=k)=k a:=rfl
@[simp] def Jl{α β:Type}(a:α)(k:α->M β):((pure a:M α)>>=k)=k a:=rfl
@[simp] def Jm{α β:Type}(n:Nat)(k:α->M β):(oA n>>=k)=oA n:=rfl
@[simp] def Jn{α β:Type}(k:α->M β):((af:M α)>>=k)=af:=rfl
def M.cs(m:M α):m=af\/(∃n,m=oA n)\/∃a,m=aa a:=by
 match m with
 |none=>exact .inl rfl
 |some (.ex n)=>exact .inr (.inl ⟨n,rfl⟩)
 |some (.ok a)=>exact .inr (.inr ⟨a,rfl⟩)
def b8(h:aa a=aa b):a=b:=by
 have h:some (Rs.ok a)=some (Rs.ok b):=h;cases h;rfl
def cV(h:af=aa a):False:=by
 have h:none=some (Rs.ok a):=h;cases h
def E2(h:oA n=aa a):False:=by
 have h:some (Rs.ex n)=some (Rs.ok a):=h;cases h
def b0(h:(m>>=k)=aa r):∃a,m=aa a/\k a=aa r:=by
 rcases m.cs with e | ⟨n,e⟩ | ⟨a,e⟩
 ·subst e;exact(cV h).elim
 ·subst e;exact(E2 h).elim
 ·subst e;exact⟨a,rfl,h⟩
def LV(h:Heap)(ea D:Addr):Prop:=∃ox,h.get? ea=some ox/\ox.cls= .ref D
def R_(ea D:Addr):HO:= .ext λh=>LV h ea D
inductive D where
 |non | bl (b:Bool) | int (i:Int) | str (x:Str) | raw (v:V) | exc (C:Addr) | scr (l:List Int) | tup (l:List D) | lst (l:List D)
 |dct (ks:List (List Key)) (l:List D) | dci (ks:List Key) (l:List D)
instance:Inhabited D:=⟨.non⟩
def lim:Nat:=4096
def cR:lim<UR:=by rw[Wg];decide
mutual
def Den(K:UJ)(F:Hp):D->V->Prop
 | .non,v=>v= .non
 | .bl b,v=>v= .bl b
 | .int i,v=>v= .int i
 | .str x,v=>v= .str x/\x.length<=lim
 | .raw u,v=>v=u
 | .exc C,v=>∃ea,v= .ref ea/\F ea=some (R_ ea C)
 | .scr ns,v=>∃a,v= .ref a/\SqL K F a (ns.map V.int)/\ns.length<=lim
 | .tup ds,v=>∃a vs,v= .ref a/\F a=some (.tup vs)/\DenL K F ds vs/\ds.length<=lim
 | .lst ds,v=>∃a vs,v= .ref a/\F a=some (.lst vs)/\DenL K F ds vs/\ds.length<=lim
 | .dct ks ds,v=>∃a ob vs,v= .ref a/\F a=some (.frz ob (.dT (ks.zip vs)))/\DenL K F ds vs/\ks.length=ds.length/\ds.length<=lim
 | .dci ks ds,v=>∃a ob vs,v= .ref a/\F a=some (.frz ob (.dK (ks.zip vs)))/\DenL K F ds vs/\ks.length=ds.length/\ds.length<=lim
def DenL(K:UJ)(F:Hp):List D->List V->Prop
 |[],vs=>vs=[]
 |d::ds,vs=>∃v r,vs=v::r/\Den K F d v/\DenL K F ds r
end
def Same.rd(e:Same H H')(h:Rd H a u):Rd H' a u:=by
 rcases h with h | ⟨o,h⟩
 ·exact .inl (e _ _ h)
 ·exact .inr ⟨o,e _ _ h⟩
def Same.tup{K:UJ}(e:Same H H')(h:SqT K H a xs):SqT K H' a xs:=by
 rcases h with h | h
 ·exact .inl (Same.rd e h)
 ·exact .inr h
section
variable{K:UJ}{F F':Hp}
mutual
def Den.mono(e:Same F F'):∀{d:D}{v:V},Den K F d v->Den K F' d v
 | .non,_,h=>h
 | .bl _,_,h=>h
 | .int _,_,h=>h
 | .str _,_,h=>h
 | .raw _,_,h=>h
 | .exc _,_,⟨a,h1,h2⟩=>⟨a,h1,e _ _ h2⟩
 | .scr _,_,⟨a,h1,h2,h3⟩=>⟨a,h1,Same.seq e h2,h3⟩
 | .tup _,_,⟨a,vs,h1,h2,h3,h4⟩=>⟨a,vs,h1,e _ _ h2,DenL.mono e h3,h4⟩
 | .lst _,_,⟨a,vs,h1,h2,h3,h4⟩=>⟨a,vs,h1,e _ _ h2,DenL.mono e h3,h4⟩
 | .dct _ _,_,⟨a,ob,vs,h1,h2,h3,h4⟩=>⟨a,ob,vs,h1,e _ _ h2,DenL.mono e h3,h4⟩
 | .dci _ _,_,⟨a,ob,vs,h1,h2,h3,h4⟩=>⟨a,ob,vs,h1,e _ _ h2,DenL.mono e h3,h4⟩
def DenL.mono(e:Same F F'):∀{ds:List D}{vs:List V},DenL K F ds vs->DenL K F' ds vs
 |[],_,h=>h
 |_::_,_,⟨v,r,h1,h2,h3⟩=>⟨v,r,h1,Den.mono e h2,DenL.mono e h3⟩
end
def DenL.nil:DenL K F [] []:=rfl
def DenL.cons(h:Den K F d v)(r:DenL K F ds vs):DenL K F (d::ds) (v::vs):=⟨v,vs,rfl,h,r⟩
def DenL.len:∀{ds:List D}{vs:List V},DenL K F ds vs->ds.length=vs.length
 |[],_,h=>by cases (show _=_ from h);rfl
 |_::ds,_,⟨v,r,h1,_,h3⟩=>by subst h1;rw[UI,UI,DenL.len h3]
def DenL.get:∀{ds:List D}{vs:List V}{i:Nat}{d:D},DenL K F ds vs->ds[i]? =some d->∃v,vs[i]? =some v/\Den K F d v
 |[],_,_,_,_,e=>by simp at e
 |d::ds,_,0,_,⟨v,r,h1,h2,h3⟩,e=>by subst h1;simp at e;subst e;exact⟨v,rfl,h2⟩
 |d::ds,_,i+1,_,⟨v,r,h1,h2,h3⟩,e=>by
  subst h1;obtain⟨w,e1,e2⟩:=DenL.get h3 (by simpa using e);exact⟨w,by simpa using e1,e2⟩
def DenL.at:∀{ds:List D}{vs:List V}{i:Nat}{v:V},DenL K F ds vs->vs[i]? =some v->∃d,ds[i]? =some d/\Den K F d v
 |[],_,_,_,h,e=>by cases (show _=_ from h);simp at e
 |d::ds,_,0,_,⟨v,r,h1,h2,h3⟩,e=>by subst h1;simp at e;subst e;exact⟨d,rfl,h2⟩
 |d::ds,_,i+1,_,⟨v,r,h1,h2,h3⟩,e=>by
  subst h1;obtain⟨w,e1,e2⟩:=DenL.at h3 (by simpa using e);exact⟨w,by simpa using e1,e2⟩
def DenL.append:∀{ds es:List D}{vs ws:List V},DenL K F ds vs->DenL K F es ws->DenL K F (ds++es) (vs++ws)
 |[],_,_,_,h,h'=>by cases (show _=_ from h);exact h'
 |d::ds,_,_,_,⟨v,r,h1,h2,h3⟩,h'=>by subst h1;exact⟨v,_,rfl,h2,DenL.append h3 h'⟩
def DenL.take:∀{ds:List D}{vs:List V}(n:Nat),DenL K F ds vs->DenL K F (ds.take n) (vs.take n)
 |_,_,0,_=>by simp[List.take];rfl
 |[],_,_+1,h=>by cases (show _=_ from h);rfl
 |d::ds,_,n+1,⟨v,r,h1,h2,h3⟩=>by subst h1;exact⟨v,_,rfl,h2,DenL.take n h3⟩
def DenL.drop:∀{ds:List D}{vs:List V}(n:Nat),DenL K F ds vs->DenL K F (ds.drop n) (vs.drop n)
 |_,_,0,h=>by simpa using h
 |[],_,_+1,h=>by cases (show _=_ from h);rfl
 |d::ds,_,n+1,⟨v,r,h1,h2,h3⟩=>by subst h1;exact DenL.drop n h3
def DenL.reverse:∀{ds:List D}{vs:List V},DenL K F ds vs->DenL K F ds.reverse vs.reverse
 |[],_,h=>by cases (show _=_ from h);rfl
 |d::ds,_,⟨v,r,h1,h2,h3⟩=>by
  subst h1;rw[Ye,Ye];exact DenL.append (DenL.reverse h3) (.cons h2 .nil)
def DenL.ints(ns:List Int):DenL K F (ns.map D.int) (ns.map V.int):=by
 induction ns with
 |nil=>rfl
 |cons n ns ih=>exact .cons rfl ih
end
structure Ext (F H F' H':Hp):Prop where
 hh:Same H H'
 ff:Same F F'
 fh:Same F' H'
 new:∀a,H a≠none->F' a=F a\/∃ts,H a=some (.tup ts)
def Ext.old(e:Ext F H F' H')(h:H a=some o)(hn:∀ts,o≠ .tup ts):F' a=F a:=by
 rcases e.new a (by rw[h];exact λz=>nomatch z) with q | ⟨ts,q⟩
 ·exact q
 ·rw[h] at q;cases q;exact abE rfl (hn ts)
def Ext.refl(h:Same F H):Ext F H F H:=⟨Same.refl _,Same.refl _,h,λ_ _=> .inl rfl⟩
def Ext.trans(a:Ext F H F' H')(b:Ext F' H' F'' H''):Ext F H F'' H'':=
 ⟨a.hh.trans b.hh,a.ff.trans b.ff,b.fh,λc hc=>by
  have:H' c≠none:=by
   cases q:H c with
   |none=>exact abE q hc
   |some o=>rw[a.hh c o q];exact λz=>nomatch z
  rcases a.new c hc with p | p
  ·rcases b.new c this with q | ⟨ts,q⟩
   ·exact .inl (q.trans p)
   ·cases z:H c with
    |none=>exact abE z hc
    |some o=>
     rw[a.hh c o z] at q;exact .inr ⟨ts,q⟩
  ·exact .inr p⟩
def Ext.lay(h:Same F H)(n:H a=none):Ext F H (upd F a o) (upd H a o):=by
 have nf:F a=none:=Same.free h n;refine⟨λb u e=>?_,λb u e=>?_,λb u e=>?_,λb hb=>?_⟩
 ·rw[ao (aW e n)];exact e
 ·rw[ao (aW e nf)];exact e
 ·by_cases q:b=a
  ·subst q;rw[az] at e⊢;exact e
  ·rw[ao q] at e⊢;exact h b u e
 ·exact .inl (ao λz=>hb (by rw[z];exact n))
def Ext.free(h:Same F H)(n:H a=none):Ext F H F (upd H a o):=
 ⟨λb u e=>by rw[ao (aW e n)];exact e,Same.refl _,λb u e=>by rw[ao (aW (h b u e) n)];exact h b u e,λ_ _=> .inl rfl⟩
def Ext.tup(h:Same F H)(e:H a=some (.tup ts)):Ext F H (upd F a (.tup ts)) H:=by
 refine⟨Same.refl _,λb u q=>?_,λb u q=>?_,λb hb=>?_⟩
 ·by_cases z:b=a
  ·subst z;rw[az,<-e];exact h b u q
  ·rw[ao z];exact q
 ·by_cases z:b=a
  ·subst z;rw[az] at q;rw[e];exact q
  ·rw[ao z] at q;exact h b u q
 ·by_cases z:b=a
  ·subst z;exact .inr ⟨ts,e⟩
  ·exact .inl (ao z)
def WP(K:UJ)(Xw:Nat->Hp->Prop)(F H:Hp)(m:M D)(Q:VK):Prop:=
 match m with
 |none=>False
 |some (.ok d)=>∀v H' F',Ext F H F' H'->Den K F' d v->Q v H'
 |some (.ex n)=>∀F' H',Ext F H F' H'->Xw n H'
def WPL(K:UJ)(Xw:Nat->Hp->Prop)(F H:Hp)(m:M (List D))(Q:List V->Hp->Prop):Prop:=
 match m with
 |none=>False
 |some (.ok ds)=>∀vs H' F',Ext F H F' H'->DenL K F' ds vs->Q vs H'
 |some (.ex n)=>∀F' H',Ext F H F' H'->Xw n H'
def WPB(Xw:Nat->Hp->Prop)(F H:Hp)(m:M Bool)(Q:Bool->Hp->Prop):Prop:=
 match m with
 |none=>False
 |some (.ok b)=>∀H' F',Ext F H F' H'->Q b H'
 |some (.ex n)=>∀F' H',Ext F H F' H'->Xw n H'
section
variable{K:UJ}{Xw:Nat->Hp->Prop}{F F' H H':Hp}{Q:VK}
def WP.ext(e:Ext F H F' H')(h:WP K Xw F H m Q):WP K Xw F' H' m Q:=by
 match m,h with
 |none,h=>exact h
 |some (.ok d),h=>exact λv H2 F2 e2 q=>h v H2 F2 (e.trans e2) q
 |some (.ex n),h=>exact λF2 H2 e2=>h F2 H2 (e.trans e2)
def WPL.ext{Q:List V->Hp->Prop}(e:Ext F H F' H')(h:WPL K Xw F H m Q):WPL K Xw F' H' m Q:=by
 match m,h with
 |none,h=>exact h
 |some (.ok d),h=>exact λv H2 F2 e2 q=>h v H2 F2 (e.trans e2) q
 |some (.ex n),h=>exact λF2 H2 e2=>h F2 H2 (e.trans e2)
def WPB.ext{Q:Bool->Hp->Prop}(e:Ext F H F' H')(h:WPB Xw F H m Q):WPB Xw F' H' m Q:=by
 match m,h with
 |none,h=>exact h
 |some (.ok d),h=>exact λH2 F2 e2=>h H2 F2 (e.trans e2)
 |some (.ex n),h=>exact λF2 H2 e2=>h F2 H2 (e.trans e2)
def WP.fin(h:WP K Xw F H (aa d) Q)(e:Ext F H F' H')(q:Den K F' d v):Q v H':=h v H' F' e q
def WP.now(h:WP K Xw F H (aa d) Q)(s:Same F H)(q:Den K F d v):Q v H:=h v H F (Ext.refl s) q
def WP.bind(h:WP K Xw F H (m>>=k) Q):WP K Xw F H m λv H1=>∃F1 d,Ext F H F1 H1/\Den K F1 d v/\WP K Xw F1 H1 (k d) Q:=by
 match m,h with
 |none,h=>exact h
 |some (.ok d),h=>exact λv H2 F2 e2 q=>⟨F2,d,e2,q,WP.ext e2 (show WP K Xw F H (k d) Q from h)⟩
 |some (.ex n),h=>exact h
def WP.bindL(h:WP K Xw F H (m>>=k) Q):WPL K Xw F H m λvs H1=>∃F1 ds,Ext F H F1 H1/\DenL K F1 ds vs/\WP K Xw F1 H1 (k ds) Q:=by
 match m,h with
 |none,h=>exact h
 |some (.ok d),h=>exact λv H2 F2 e2 q=>⟨F2,d,e2,q,WP.ext e2 (show WP K Xw F H (k d) Q from h)⟩
 |some (.ex n),h=>exact h
def WPB.bind{Q:Bool->Hp->Prop}(h:WPB Xw F H (m>>=k) Q):WP K Xw F H m λv H1=>∃F1 d,Ext F H F1 H1/\Den K F1 d v/\WPB Xw F1 H1 (k d) Q:=by
 match m,h with
 |none,h=>exact h
 |some (.ok d),h=>exact λv H2 F2 e2 q=>⟨F2,d,e2,q,WPB.ext e2 (show WPB Xw F H (k d) Q from h)⟩
 |some (.ex n),h=>exact h
def WPB.bindB{Q:Bool->Hp->Prop}(h:WPB Xw F H (m>>=k) Q):WPB Xw F H m λb H1=>∃F1,Ext F H F1 H1/\WPB Xw F1 H1 (k b) Q:=by
 match m,h with
 |none,h=>exact h
 |some (.ok d),h=>exact λH2 F2 e2=>⟨F2,e2,WPB.ext e2 (show WPB Xw F H (k d) Q from h)⟩
 |some (.ex n),h=>exact h
def WPL.bind{Q:List V->Hp->Prop}(h:WPL K Xw F H (m>>=k) Q):WP K Xw F H m λv H1=>∃F1 d,Ext F H F1 H1/\Den K F1 d v/\WPL K Xw F1 H1 (k d) Q:=by
 match m,h with
 |none,h=>exact h
 |some (.ok d),h=>exact λv H2 F2 e2 q=>⟨F2,d,e2,q,WPL.ext e2 (show WPL K Xw F H (k d) Q from h)⟩
 |some (.ex n),h=>exact h
def WPL.bindL{Q:List V->Hp->Prop}(h:WPL K Xw F H (m>>=k) Q):WPL K Xw F H m λvs H1=>∃F1 ds,Ext F H F1 H1/\DenL K F1 ds vs/\WPL K Xw F1 H1 (k ds) Q:=by
 match m,h with
 |none,h=>exact h
 |some (.ok d),h=>exact λv H2 F2 e2 q=>⟨F2,d,e2,q,WPL.ext e2 (show WPL K Xw F H (k d) Q from h)⟩
 |some (.ex n),h=>exact h
def WP.mono(h:WP K Xw F H m Q)(k:∀v H',Q v H'->Q' v H'):WP K Xw F H m Q':=by
 match m,h with
 |none,h=>exact h
 |some (.ok d),h=>exact λv H2 F2 e2 q=>k _ _ (h v H2 F2 e2 q)
 |some (.ex n),h=>exact h
def WPL.mono{Q Q':List V->Hp->Prop}(h:WPL K Xw F H m Q)(k:∀v H',Q v H'->Q' v H'):WPL K Xw F H m Q':=by
 match m,h with
 |none,h=>exact h
 |some (.ok d),h=>exact λv H2 F2 e2 q=>k _ _ (h v H2 F2 e2 q)
 |some (.ex n),h=>exact h
def WPB.mono{Q Q':Bool->Hp->Prop}(h:WPB Xw F H m Q)(k:∀v H',Q v H'->Q' v H'):WPB Xw F H m Q':=by
 match m,h with
 |none,h=>exact h
 |some (.ok d),h=>exact λH2 F2 e2=>k _ _ (h H2 F2 e2)
 |some (.ex n),h=>exact h
end
inductive C where
 |lst (l:List D) | dct (ks:List (List Key)) (l:List D) | dci (ks:List Key) (l:List D)
def C.d:C->D
 | .lst ds=> .lst ds
 | .dct ks ds=> .dct ks ds
 | .dci ks ds=> .dci ks ds
inductive Sl where
 |fz (d:D) | ow (c:C)
abbrev bC:=List (Option Sl)
def DenC(K:UJ)(F:Hp):C->HO->Prop
 | .lst ds,o=>∃vs,o= .lst vs/\DenL K F ds vs/\ds.length<=lim
 | .dct ks ds,o=>∃vs,o= .dT (ks.zip vs)/\DenL K F ds vs/\ks.length=ds.length/\ds.length<=lim
 | .dci ks ds,o=>∃vs,o= .dK (ks.zip vs)/\DenL K F ds vs/\ks.length=ds.length/\ds.length<=lim
def DenC.mono{K:UJ}(e:Same F F'):∀{c:C}{o:HO},DenC K F c o->DenC K F' c o
 | .lst _,_,⟨vs,h1,h2,h3⟩=>⟨vs,h1,DenL.mono e h2,h3⟩
 | .dct _ _,_,⟨vs,h1,h2,h3⟩=>⟨vs,h1,DenL.mono e h2,h3⟩
 | .dci _ _,_,⟨vs,h1,h2,h3⟩=>⟨vs,h1,DenL.mono e h2,h3⟩
def DenC.notup{K:UJ}:∀{c:C}{o:HO},DenC K F c o->∀ts,o≠ .tup ts
 | .lst _,_,⟨_,h1,_⟩,ts,z=>by rw[h1] at z;cases z
 | .dct _ _,_,⟨_,h1,_⟩,ts,z=>by rw[h1] at z;cases z
 | .dci _ _,_,⟨_,h1,_⟩,ts,z=>by rw[h1] at z;cases z
def nV(ob:Obj):HO->HO
 | .dT kvs=> .frz ob (.dT kvs)
 | .dK kvs=> .frz ob (.dK kvs)
 |o=>o
def DenC.den{K:UJ}:∀{c:C}{o:HO},DenC K F c o->Same F F'->F' a=some (nV ob o)->Den K F' c.d (.ref a)
 | .lst _,_,⟨vs,h1,h2,h3⟩,e,q=>by subst h1;exact⟨a,vs,rfl,q,DenL.mono e h2,h3⟩
 | .dct _ _,_,⟨vs,h1,h2,h3⟩,e,q=>by subst h1;exact⟨a,ob,vs,rfl,q,DenL.mono e h2,h3⟩
 | .dci _ _,_,⟨vs,h1,h2,h3⟩,e,q=>by subst h1;exact⟨a,ob,vs,rfl,q,DenL.mono e h2,h3⟩
def DenO(K:UJ)(F H:Hp):Sl->V->Prop
 | .fz d,v=>Den K F d v
 | .ow c,v=>∃a o,v= .ref a/\H a=some o/\F a=none/\DenC K F c o
structure StE (K:UJ) (F H:Hp) (σ:St) (ρ:bC):Prop where
 fh:Same F H
 den:∀(i:Nat) (sl:Sl),ρ[i]? =some (some sl)->∃v,σ[i]? =some (some v)/\DenO K F H sl v
def DenO.ext{K:UJ}(e:Ext F H F' H'):∀{sl:Sl}{v:V},DenO K F H sl v->DenO K F' H' sl v
 | .fz _,_,h=>Den.mono e.ff h
 | .ow _,_,⟨a,o,h1,h2,h3,h4⟩=>⟨a,o,h1,e.hh _ _ h2,by rw[e.old h2 h4.notup];exact h3,DenC.mono e.ff h4⟩
def StE.ext{K:UJ}(s:StE K F H σ ρ)(e:Ext F H F' H'):StE K F' H' σ ρ:=
 ⟨e.fh,λi sl q=>let ⟨v,h1,h2⟩:=s.den i sl q;⟨v,h1,h2.ext e⟩⟩
abbrev DE:=bC->M D
abbrev DT:=bC->M Bool
abbrev DA:=bC->M (List D)
def tD(K:UJ)(Xw:Nat->Hp->Prop)(δ:DE):TE:=λσ H Q=>∃F ρ,StE K F H σ ρ/\WP K Xw F H (δ ρ) Q
def OR(K:UJ)(Xw:Nat->Hp->Prop)(δ:DT):TT:=λσ H Q=>∃F ρ,StE K F H σ ρ/\WPB Xw F H (δ ρ) Q
def R6(K:UJ)(Xw:Nat->Hp->Prop)(δ:DA):TA:=λσ H Q=>∃F ρ,StE K F H σ ρ/\WPL K Xw F H (δ ρ) Q
def PD(X:Cx)(Xw:Nat->Hp->Prop)(e:Expr)(δ:DE):Prop:=PE X e (tD X.K Xw δ)
def oP(X:Cx)(Xw:Nat->Hp->Prop)(e:Expr)(δ:DT):Prop:=PT X e (OR X.K Xw δ)
def kA(X:Cx)(Xw:Nat->Hp->Prop)(es:List Expr)(δ:DA):Prop:=PA X es (R6 X.K Xw δ)
def PE.weak(h:PE X e t)(k:∀σ H Q,t' σ H Q->t σ H Q):PE X e t':=λf8 s σ H Q I w=>h f8 s σ H Q I (k σ H Q w)
def PT.weak(h:PT X e t)(k:∀σ H Q,t' σ H Q->t σ H Q):PT X e t':=λf8 s σ H Q I w=>h f8 s σ H Q I (k σ H Q w)
def PA.weak(h:PA X e t)(k:∀σ H Q,t' σ H Q->t σ H Q):PA X e t':=λpos f8 s σ H Q I w=>h pos f8 s σ H Q I (k σ H Q w)
def dV(i:Nat):DE:=λρ=>match ρ[i]? with
 |some (some (.fz d))=>aa d
 |_=>af
def dC(d:D):DE:=λ_=>aa d
def d1(g:D->M D)(a:DE):DE:=λρ=>a ρ>>=g
def d2(g:D->D->M D)(a b:DE):DE:=λρ=>a ρ>>=λx=>b ρ>>=λy=>g x y
def aN:DA:=λ_=>aa []
def aC(a:DE)(r:DA):DA:=λρ=>a ρ>>=λx=>r ρ>>=λxs=>aa (x::xs)
def dA(g:List D->M D)(a:DA):DE:=λρ=>a ρ>>=g
def CW:D->M Bool
 | .bl b=>aa b
 |_=>af
def eO(a:DE):DT:=λρ=>a ρ>>=CW
def vH(a b:DT):DT:=λρ=>a ρ>>=λx=>if x then aa true else b ρ
def fm(a:DT):DT:=λρ=>a ρ>>=λx=>aa (!x)
def fk(a b:DE):DE:=λρ=>a ρ>>=λx=>CW x>>=λc=>if c then b ρ else aa (.bl false)
def Io(a:DE):DE:=λρ=>a ρ>>=λx=>CW x>>=λc=>aa (.bl (!c))
section
variable{X:Cx}{Xw:Nat->Hp->Prop}{a b:Expr}{δa δb:DE}{pos:Pos}
def ae(h:PE X (.Name x pos) (ky i)):PD X Xw (.Name x pos) (dV i):=PE.weak h λσ H Q ⟨F,ρ,s,w⟩=>by
 unfold dV at w;split at w
 ·rename_i d e;obtain⟨v,h1,h2⟩:=s.den i _ e;exact⟨v,h1,WP.now w s.fh h2⟩
 ·exact w.elim
def gG(h:PE X e (tC v))(hd:∀F,Den X.K F d v):PD X Xw e (dC d):=PE.weak h λσ H Q ⟨F,ρ,s,w⟩=>WP.now w s.fh (hd F)
def aA:PD X Xw (.Constant (.int i) j pos) (dC (.int i)):=gG KR λ_=>rfl
def il:PD X Xw (.Constant (.bool i) j pos) (dC (.bl i)):=gG IV λ_=>rfl
def KL:PD X Xw (.Constant .none j pos) (dC .non):=gG KS λ_=>rfl
def qm(h:x.length<=lim:=by decide):PD X Xw (.Constant (.str x) j pos) (dC (.str x)):=gG KZ λ_=>⟨rfl,h⟩
def vp(K:UJ)(r:R2)(g:D->D->M D):Prop:=∀(Xw:Nat->Hp->Prop) (F H:Hp) (x y:V) (dx dy:D) (Q:VK),Same F H->Den K F dx x->Den K F dy y->WP K Xw F H (g dx dy) Q->r x y H Q
def u7(hg:vp X.K r g):∀σ H Q,tD X.K Xw (d2 g δa δb) σ H Q->Oa r (tD X.K Xw δa) (tD X.K Xw δb) σ H Q:=λσ H Q ⟨F,ρ,s,w⟩=>by
 refine⟨F,ρ,s,WP.mono (WP.bind w) λv H1 ⟨F1,d,e1,q1,w1⟩=>?_⟩;refine⟨F1,ρ,s.ext e1,WP.mono (WP.bind w1) λu H2 ⟨F2,d',e2,q2,w2⟩=>?_⟩;exact hg Xw F2 H2 v u d d' Q e2.fh (Den.mono e2.ff q1) q2 w2
def sH(ho:OpR X (Yj op) r)(hg:vp X.K r g)(ha:PD X Xw a δa)(hb:PD X Xw b δb):PD X Xw (.BinOp a op b pos) (d2 g δa δb):=
 PE.weak (NF ho ha hb) (u7 hg)
def zc(ho:OpR X (VP op) r)(hg:vp X.K r g)(ha:PD X Xw a δa)(hb:PD X Xw b δb)(hm:VF op b=false:=by first | exact Ei _ | rfl):PD X Xw (.Compare a [op] [b] pos) (d2 g δa δb):=
 PE.weak (Hs ho ha hb hm) (u7 hg)
def e7(ho:OpR X (VP op) r)(hg:vp X.K r g)(ha:PD X Xw a δa)(hb:PD X Xw b δb)(hm:VF op b=false:=by first | exact Ei _ | rfl):oP X Xw (.Compare a [op] [b] pos) (eO (d2 g δa δb)):=
 PT.weak (HG ho ha hb hm) λσ H Q ⟨F,ρ,s,w⟩=>by
  refine u7 hg σ H _ ⟨F,ρ,s,WP.mono (WPB.bind w) λv H1 ⟨F1,d,e1,q1,w1⟩=>?_⟩;cases d with
  |bl k=>exact⟨k,q1,w1 _ _ (Ext.refl e1.fh)⟩
  |_=>exact w1.elim
def AK(hr:LX X r)(hg:vp X.K r g)(ha:PD X Xw a δa)(hb:PD X Xw b δb)(hs:js b:=by intro _ _;rfl):PD X Xw (.Subscript a b pos) (d2 g δa δb):=
 PE.weak (ND hr ha hb hs) (u7 hg)
def ag:kA X Xw [] aN:=PA.weak uw λσ H Q ⟨F,ρ,s,w⟩=>w [] H F (Ext.refl s.fh) rfl
def ab(ha:PD X Xw a δa)(hr:kA X Xw es δs)(hs:US (a::es) X.env=(false,eval a X.env)::US es X.env:=by rfl):kA X Xw (a::es) (aC δa δs):=
 PA.weak (uv ha hr hs) λσ H Q ⟨F,ρ,s,w⟩=>by
  refine⟨F,ρ,s,WP.mono (WPL.bind w) λv H1 ⟨F1,d,e1,q1,w1⟩=>?_⟩;refine⟨F1,ρ,s.ext e1,WPL.mono (WPL.bindL w1) λvs H2 ⟨F2,ds,e2,q2,w2⟩=>?_⟩;exact w2 _ _ _ (Ext.refl e2.fh) (.cons (Den.mono e2.ff q1) q2)
def fL(ds:List D):M D:=if ds.length<=lim then aa (.tup ds) else af
def eU(ds:List D):M D:=if ds.length<=lim then aa (.lst ds) else af
def ub{f:List D->D}(w:WP X.K Xw F H (if ds.length<=lim then aa (f ds) else af) Q):ds.length<=lim/\WP X.K Xw F H (aa (f ds)) Q:=by
 split at w
 ·rename_i h;exact⟨h,w⟩
 ·exact w.elim
def i2(h:kA X Xw es δs):PD X Xw (.Tuple es x1 pos) (dA fL δs):=PE.weak (K0 h) λσ H Q ⟨F,ρ,s,w⟩=>by
 refine⟨F,ρ,s,WPL.mono (WP.bindL w) λvs H1 ⟨F1,ds,e1,q1,w1⟩=>?_⟩;obtain⟨hl,w1⟩:=ub w1;have hv:=q1.len;refine⟨by have:=cR;omega,λp hp=>WP.fin w1 (Ext.lay e1.fh hp) ⟨p,vs,rfl,az,DenL.mono (Ext.lay e1.fh hp).ff q1,hl⟩⟩
def kh(h:kA X Xw es δs):PD X Xw (.List es pos) (dA eU δs):=PE.weak (EJ h) λσ H Q ⟨F,ρ,s,w⟩=>by
 refine⟨F,ρ,s,WPL.mono (WP.bindL w) λvs H1 ⟨F1,ds,e1,q1,w1⟩=>?_⟩;obtain⟨hl,w1⟩:=ub w1;have hv:=q1.len;refine⟨by have:=cR;omega,λp hp=>WP.fin w1 (Ext.lay e1.fh hp) ⟨p,vs,rfl,az,DenL.mono (Ext.lay e1.fh hp).ff q1,hl⟩⟩
end
def ItD(K:UJ)(F:Hp)(J:It)(ds:List D):Prop:=∀(F' H':Hp) (i:Nat),Same F F'->Same F' H'->
 (∀d,ds[i]? =some d->J.go i H'/\∀x H'',J.yld i H' x H''->∃F'',Ext F' H' F'' H''/\Den K F'' d x)/\(ds.length<=i->J.stop i H')
def ItD.mono{K:UJ}(h:ItD K F J ds)(e:Same F F1):ItD K F1 J ds:=λF' H' i s1 s2=>h F' H' i (e.trans s1) s2
def WPI(K:UJ)(Xw:Nat->Hp->Prop)(F H:Hp)(m:M (List D))(R:It->Hp->Prop):Prop:=
 match m with
 |none=>False
 |some (.ok ds)=>∀J H' F',Ext F H F' H'->ItD K F' J ds->R J H'
 |some (.ex n)=>∀F' H',Ext F H F' H'->Xw n H'
def R7(K:UJ)(Xw:Nat->Hp->Prop)(δ:DA):TI:=λσ H R=>∃F ρ,StE K F H σ ρ/\WPI K Xw F H (δ ρ) R
def vi(X:Cx)(Xw:Nat->Hp->Prop)(tg iter:Expr)(δ:DA):Prop:=PI X tg iter (R7 X.K Xw δ)
def PI.weak{X:Cx}(h:PI X tg e t)(k:∀σ H Q,t' σ H Q->t σ H Q):PI X tg e t':=λf8 s σ H Q I w=>h f8 s σ H Q I (k σ H Q w)
def WPI.bind{K:UJ}(h:WPI K Xw F H (m>>=k) R):
 WP K Xw F H m λv H1=>∃F1 d,Ext F H F1 H1/\Den K F1 d v/\WPI K Xw F1 H1 (k d) R:=by
 match m,h with
 |none,h=>exact h
 |some (.ok d),h=>
  refine λv H2 F2 e2 q=>⟨F2,d,e2,q,?_⟩
  have h:WPI K Xw F H (k d) R:=h;show WPI K Xw F2 H2 (k d) R
  match k d,h with
  |none,h=>exact h
  |some (.ok ds),h=>exact λJ H3 F3 e3 q3=>h J H3 F3 (e2.trans e3) q3
  |some (.ex n),h=>exact λF3 H3 e3=>h F3 H3 (e2.trans e3)
 |some (.ex n),h=>exact h
def WPI.bindL{K:UJ}(h:WPI K Xw F H (m>>=k) R):
 WPL K Xw F H m λv H1=>∃F1 d,Ext F H F1 H1/\DenL K F1 d v/\WPI K Xw F1 H1 (k d) R:=by
 match m,h with
 |none,h=>exact h
 |some (.ok d),h=>
  refine λv H2 F2 e2 q=>⟨F2,d,e2,q,?_⟩
  have h:WPI K Xw F H (k d) R:=h;show WPI K Xw F2 H2 (k d) R
  match k d,h with
  |none,h=>exact h
  |some (.ok ds),h=>exact λJ H3 F3 e3 q3=>h J H3 F3 (e2.trans e3) q3
  |some (.ex n),h=>exact λF3 H3 e3=>h F3 H3 (e2.trans e3)
 |some (.ex n),h=>exact h
def lstM:D->M (List D)
 | .lst ds=>aa ds
 |_=>af
def QY:D->M (List D)
 | .tup ds=>aa ds
 |_=>af
def cW(a:DE):DA:=λρ=>a ρ>>=lstM
def qV(a:DE):DA:=λρ=>a ρ>>=QY
def DZ{K:UJ}(h:SqL K F a vs)(hd:DenL K F ds vs):ItD K F (OW K a) ds:=λF' H' i s1 s2=>by
 have hs:=Same.seq s2 (Same.seq s1 h);refine⟨λd e=>?_,λhl=>⟨vs,hs,by rw[<-hd.len];exact hl⟩⟩;obtain⟨v,e1,q⟩:=hd.get e;refine⟨⟨vs,v,hs,e1⟩,λx H'' y=>?_⟩;obtain⟨e2,y⟩:=y;subst e2;have:=y vs hs;rw[e1] at this;cases this;exact⟨F',Ext.refl s2,Den.mono s1 q⟩
def GN{K:UJ}(h:SqT K F a vs)(hd:DenL K F ds vs):ItD K F (OX K a) ds:=λF' H' i s1 s2=>by
 have hs:=Same.tup s2 (Same.tup s1 h);refine⟨λd e=>?_,λhl=>⟨vs,hs,by rw[<-hd.len];exact hl⟩⟩;obtain⟨v,e1,q⟩:=hd.get e;refine⟨⟨vs,v,hs,e1⟩,λx H'' y=>?_⟩;obtain⟨e2,y⟩:=y;subst e2;have:=y vs hs;rw[e1] at this;cases this;exact⟨F',Ext.refl s2,Den.mono s1 q⟩
def gM(lo:Int)(n:Nat):List D:=(UH n).map λ(i:Nat)=>D.int (lo+(i:Int))
def sf{K:UJ}{F:Hp}(lo:Int)(n:Nat):ItD K F (LW lo n) (gM lo n):=λF' H' i s1 s2=>by
 refine⟨λd e=>?_,λhl=>show n<=i by simpa[gM] using hl⟩;unfold gM at e;rw[UG] at e;have hi:i<n:=by
  by_cases hi:i<n
  ·exact hi
  ·rw[XC (by simpa using hi)] at e;cases e
 rw[Xd hi] at e;cases e;refine⟨hi,λx H'' y=>?_⟩;obtain⟨e2,y⟩:=y;subst e2 y;exact⟨F',Ext.refl s2,rfl⟩
section
variable{X:Cx}{Xw:Nat->Hp->Prop}{tg l:Expr}{δ:DE}{pos:Pos}
def bb(h:PD X Xw l δ):vi X Xw tg l (cW δ):=PI.weak (Hx h) λσ H R ⟨F,ρ,s,w⟩=>by
 refine⟨F,ρ,s,WP.mono (WPI.bind w) λv H1 ⟨F1,d,e1,q1,w1⟩=>?_⟩;cases d with
 |lst ds=>
  obtain⟨a,vs,h1,h2,h3,h4⟩:=q1;exact⟨a,h1,⟨vs,Same.seq e1.fh (SqL.of h2)⟩,w1 _ _ _ (Ext.refl e1.fh) (DZ (SqL.of h2) h3)⟩
 |_=>exact w1.elim
def uC(h:PD X Xw l δ):vi X Xw tg l (qV δ):=PI.weak (K6 h) λσ H R ⟨F,ρ,s,w⟩=>by
 refine⟨F,ρ,s,WP.mono (WPI.bind w) λv H1 ⟨F1,d,e1,q1,w1⟩=>?_⟩;cases d with
 |tup ds=>
  obtain⟨a,vs,h1,h2,h3,h4⟩:=q1;exact⟨a,h1,⟨vs,Same.tup e1.fh (SqT.of h2)⟩,w1 _ _ _ (Ext.refl e1.fh) (GN (SqT.of h2) h3)⟩
 |_=>exact w1.elim
def c0:List D->M (List D)
 |[.int j]=>if -4096<=j/\j<=4096 then aa (gM 0 j.toNat) else af
 |_=>af
def sU:List D->M (List D)
 |[.int i, .int j]=>if (-4096<=i/\i<=4096)/\(-4096<=j/\j<=4096) then aa (gM i (j - i).toNat) else af
 |_=>af
def DenL.one{K:UJ}(h:DenL K F [d] vs):∃v,vs=[v]/\Den K F d v:=by
 obtain⟨v,r,h1,h2,h3⟩:=h;cases (show r=[] from h3);exact⟨v,h1,h2⟩
def DenL.two{K:UJ}(h:DenL K F [d,d'] vs):∃v v',vs=[v,v']/\Den K F d v/\Den K F d' v':=by
 obtain⟨v,r,h1,h2,h3⟩:=h;obtain⟨v',h4,h5⟩:=h3.one;subst h4;exact⟨v,v',h1,h2,h5⟩
def bc{a:Expr}(hg:Gl X "range")(hm:X.mg "range"=none)(ha:kA X Xw [a] δs)(hs:US [a] X.env=[(false,eval a X.env)]:=by rfl):vi X Xw tg (.Call (.Name "range" p) [a] [] pos) (λρ=>δs ρ>>=c0):=
 PI.weak (Cc hg hm ha hs) λσ H R ⟨F,ρ,s,w⟩=>by
  refine⟨F,ρ,s,WPL.mono (WPI.bindL w) λvs H1 ⟨F1,ds,e1,q1,w1⟩=>?_⟩;unfold c0 at w1;split at w1
  ·rename_i j;obtain⟨v,h1,h2⟩:=q1.one;cases (show v=_ from h2);split at w1
   ·exact⟨j,h1,by omega,by omega,w1 _ _ _ (Ext.refl e1.fh) (sf 0 _)⟩
   ·exact w1.elim
  ·exact w1.elim
def qo{a b:Expr}(hg:Gl X "range")(hm:X.mg "range"=none)(ha:kA X Xw [a,b] δs)(hs:US [a,b] X.env=[(false,eval a X.env),(false,eval b X.env)]:=by rfl)
 (BD:US [b] X.env=[(false,eval b X.env)]:=by rfl):vi X Xw tg (.Call (.Name "range" p) [a,b] [] pos) (λρ=>δs ρ>>=sU):=
 PI.weak (Cd hg hm ha hs BD) λσ H R ⟨F,ρ,s,w⟩=>by
  refine⟨F,ρ,s,WPL.mono (WPI.bindL w) λvs H1 ⟨F1,ds,e1,q1,w1⟩=>?_⟩;unfold sU at w1;split at w1
  ·rename_i i j;obtain⟨v,v',h1,h2,h3⟩:=q1.two;cases (show v=_ from h2);cases (show v'=_ from h3);split at w1
   ·exact⟨i,j,h1,⟨by omega,by omega,by omega,by omega⟩,w1 _ _ _ (Ext.refl e1.fh) (sf i _)⟩
   ·exact w1.elim
  ·exact w1.elim
end
def aZ(tg N:List Str):List Str:=N.map λy=>if tg.contains y then y++(" ":Str) else y
def iC(X:Cx)(scope:Scope)(tn:List Str)(f8:List (Addr×Obj))(cl:List (Str×Addr))(C:Addr)(fp:List Addr)(u8:Ux)(H:Hp):Cx:=
 {X with N:=tn++aZ tn X.N,abK:=u8,abJ:=H,env:=aa9 scope cl C X.env,outer:=X.stack,ex:=fp,fn:=λ_=>false,pn:=X.pn++f8,xe:=λ_ _=>False}
structure CompSc (X:Cx) (scope:Scope) (tn:List Str):Prop where
 kind:scope.kind= .function
 nocell:∀y∈scope.names,y.2≠ .cell
 names:∀y∈scope.names,y.2= .local->scope.names.lookup y.1=some .local
 frees:∀y∈scope.names,y.2= .free->X.env.kindOf y.1=some .cell\/X.env.kindOf y.1=some .free
 vis:∀p∈(aZ tn X.N).zip X.N,scope.names.lookup p.1=none\/(p.1=p.2/\scope.names.lookup p.1=some .free)
def j5{env:Env}:∀(names:List (Str×Ym)) (T0:List (Str×Addr)),(∀y∈names,y.2= .free->∃c,env.cells.lookup y.1=some c)->
 (∀x c,T0.lookup x=some c->env.cells.lookup x=some c)->
 ∃cl,(forIn names T0 (λ(x:Str×Ym) (r:List (Str×Addr))=>do
   let __x:=x
   if (__x.2==abu)=true then do let c<-cellOf env __x.1;pure (VR ((__x.1,c)::r)) else pure (VR r)):Sem (List (Str×Addr)))=pure cl/\
  (∀x c,cl.lookup x=some c->env.cells.lookup x=some c)/\(∀x c,T0.lookup x=some c->∃c',cl.lookup x=some c')/\(∀x,names.lookup x=some .free->∃c,cl.lookup x=some c)
 |[],T0,_,h2=>⟨T0,rfl,h2,λx c e=>⟨c,e⟩,λx e=>by simp at e⟩
 |(n,k)::r,T0,h1,h2=>by
  by_cases hk:k= .free
  ·subst hk;obtain⟨c,hc⟩:=h1 (n, .free) Uv rfl;obtain⟨cl,e,a1,a2,a3⟩:=j5 r ((n,c)::T0) (λy hy=>h1 y (Uu _ hy)) (λx c' q=>by
    rw[VD] at q;split at q
    ·rename_i hx;cases q;rw[show x=n from by simpa using hx];exact hc
    ·exact h2 x c' q)
   refine⟨cl,?_,a1,λx c' q=>?_,λx q=>?_⟩
   ·rw[ZO];have:cellOf env n=pure c:=by unfold cellOf;rw[hc]
    simp only[beq_self_eq_true,if_true,this,pure_bind];exact e
   ·by_cases hx:x=n
    ·subst hx;exact a2 x c (by simp[VD])
    ·exact a2 x c' (by rw[VD,show (x==n)=false from by simpa using hx];exact q)
   ·rw[VD] at q;split at q
    ·rename_i hx;exact a2 x c (by rw[VD,hx])
    ·exact a3 x q
  ·obtain⟨cl,e,a1,a2,a3⟩:=j5 r T0 (λy hy=>h1 y (Uu _ hy)) h2;refine⟨cl,?_,a1,a2,λx q=>?_⟩
   ·rw[ZO];have:((k==abu)=true)=False:=by simpa using hk
    simp only[this,if_false,pure_bind];exact e
   ·rw[VD] at q;split at q
    ·cases q;exact abE rfl hk
    ·exact a3 x q
def j6{scope:Scope}(h:∀y∈scope.names,y.2= .free->∃c,env.cells.lookup y.1=some c):
 ∃cl,closureFor scope env=pure cl/\(∀x c,cl.lookup x=some c->env.cells.lookup x=some c)/\(∀x,scope.names.lookup x=some .free->∃c,cl.lookup x=some c):=by
 obtain⟨cl,e,a1,_,a3⟩:=j5 scope.names [] h (λx c q=>by simp at q);refine⟨cl,?_,a1,a3⟩;unfold closureFor;show (forIn scope.names [] _>>=λr=>pure r)=_;rw[bind_pure];exact e
def noex:M α->M α
 |some (.ok a)=>some (.ok a)
 |_=>none
def bY(f:D->M (Option D)):List D->M (List D)
 |[]=>aa []
 |d::ds=>f d>>=λo=>bY f ds>>=λr=>aa (match o with | some y=>y::r | none=>r)
def R8(n:Nat):D->M (List D):=λd=>match n,d with
 |0,d=>aa [d]
 |n, .tup ds=>if ds.length=n then aa ds else af
 |_,_=>af
def dP(n:Nat)(δt:DT)(δe:DE)(ρ:bC):D->M (Option D):=λd=>
 R8 n d>>=λts=>δt (ts.map (λt=>some (Sl.fz t))++ρ)>>=λb=>if b then δe (ts.map (λt=>some (Sl.fz t))++ρ)>>=λy=>aa (some y) else aa none
def aV(n:Nat)(δi:DA)(δt:DT)(δe:DE):DE:=λρ=>δi ρ>>=λds=>noex (bY (dP n δt δe ρ) ds)>>=eU
def bw:DT:=λ_=>aa true
def dq(f:D->M (Option D))(d:D)(ds:List D):bY f (d::ds)=(f d>>=λo=>bY f ds>>=λr=>aa (match o with | some y=>y::r | none=>r)):=rfl
def o6(hd:ds[i]? =some d)
 (h:bY f ds=(bY f (ds.drop i)>>=λr=>aa (ys++r)))(hR:bY f ds=aa R):
 ∃o,f d=aa o/\bY f ds=(bY f (ds.drop (i+1))>>=λr=>aa ((match o with | some y=>ys++[y] | none=>ys)++r)):=by
 have e:ds.drop i=d::ds.drop (i+1):=by
  obtain⟨hi,e⟩:=UA.mp hd;rw[Wx hi,e]
 rw[e,dq] at h;have h':=h.symm.trans hR;obtain⟨r,h1,h2⟩:=b0 h';obtain⟨o,h3,h4⟩:=b0 h1;refine⟨o,h3,?_⟩;obtain⟨r',h5,h6⟩:=b0 h4;rw[h5,hR];rw[<-h2,<-b8 h6];show aa _=aa _;cases o with
 |none=>rfl
 |some y=>simp
def rT(I:Nat->Ux->Prop)
 (turn:∀n s,I n s->wpAny (model prog w) A (Yi it) (λr W1=>match r with
  |none=>R (.ok .next) W1
  |some v=>wpAny (model prog w) A (YW target it v) (λ_ R5=>wpAny (model prog w) A (assign target env v) (λ_ u8=>
    wpAny (model prog w) A (forIn ifs true λc r=>if r=true then do let ok<-isTrue c env (eval c env);pure (VR ok) else pure (VR r)) (λok s₃=>
     if ok=true then wpAny (model prog w) A (eval elt env) (λx s₄=>
      wpAny (model prog w) A (call (.builtin "list.append") [T0,x]) (λ_ s₅=>∃m,m<n/\I m s₅) (aa7 (model prog w) A env λe s'=>R (.error e) s') s₄) (aa7 (model prog w) A env λe s'=>R (.error e) s') s₃
     else∃m,m<n/\I m s₃) (aa7 (model prog w) A env λe s'=>R (.error e) s') u8) (aa7 (model prog w) A env λe s'=>R (.error e) s') R5) (aa7 (model prog w) A env λe s'=>R (.error e) s') W1) (aa7 (model prog w) A env λe s'=>R (.error e) s') s)
 (n:Nat) (h:I n s):
 X9 (model prog w) A (.compLoop (.ListComp elt [⟨target,iter,ifs,0⟩] scope pos) 0 it T0 env) R s:=by
 refine codeAny_loop rfl I (λn s hI=>?_) n h;show wpAny _ A ((compTurn (.ListComp elt [⟨target,iter,ifs,0⟩] scope pos) 0 it T0 env).onRaise (λx=>do noteFrame x env;theTreesLotGoes x)) _ _ s;refine wpAny_noted ?_;rw[compTurn_list];refine Uq (wpAny_standAt (Uq (VN (turn n s hI) (λr W1 h₁=>?_) λ_ _ h'=>h')));cases r with
 |none=>exact Uw h₁
 |some v=>
  refine Uq (VN h₁ (λ_ R5 h₁=>?_) λ_ _ h'=>h');refine Uq (VN h₁ (λ_ u8 h₂=>Uq (VN h₂ (λok s₃ h₃=>?_) λ_ _ h'=>h')) λ_ _ h'=>h');cases ok with
  |false=>exact Uw ⟨rfl,h₃⟩
  |true=>
   exact Uq (Uq (VN h₃ (λx s₄ h₄=>Uq (VN h₄ (λ_ s₅ h₅=>Uw (Uw ⟨rfl,h₅⟩)) λ_ _ h'=>h')) λ_ _ h'=>h'))
def qT(X:Cx)(tg:Expr)(n:Nat)(σ:St):Prop:=∀(f8:List (Addr×Obj)) (s:Ux) (σ':St) (F H:Hp) (d:D) (ts:List D) (v:V) (u:Value),Inv X f8 σ' H s->Same F H->σ'.drop (max n 1)=σ->RelV v u->Den X.K F d v->R8 n d=aa ts->
 wpAny (model X.prog X.w) X.A (assign tg X.env u) (λ_ s'=>∃vs,Inv X f8 (vs.map some++σ) H s'/\DenL X.K F ts vs) X.xe s
def gP(X:Cx)(ifs:List Expr)(δt:DT):Prop:=∀(f8:List (Addr×Obj)) (s:Ux) (σ:St) (H:Hp) (Q:Bool->Hp->Prop),Inv X f8 σ H s->OR X.K (λ_ _=>False) δt σ H Q->
 wpAny (model X.prog X.w) X.A (forIn ifs true λc r=>if r=true then do let ok<-isTrue c X.env (eval c X.env);pure (VR ok) else pure (VR r)) (TP X f8 σ Q) X.xe s
def bj:gP X [] bw:=λf8 s σ H Q I ⟨F,ρ,S,w⟩=>wpAny_tests_nil ⟨H,I,w H F (Ext.refl S.fh)⟩
def qJ(h:oP X (λ_ _=>False) c δ):gP X [c] δ:=λf8 s σ H Q I w=>wpAny_tests_one (h f8 s σ H Q I w)
def StE.cons{K:UJ}(s:StE K F H σ ρ)(h:DenL K F ts vs):StE K F H (vs.map some++σ) (ts.map (λt=>some (Sl.fz t))++ρ):=by
 refine⟨s.fh,λi sl e=>?_⟩;have hl:=h.len;by_cases hi:i<ts.length
 ·rw[U6 (by simpa using hi),UG] at e;cases q:ts[i]? with
  |none=>rw[q] at e;cases e
  |some t=>
   rw[q] at e;cases e;obtain⟨v,e1,e2⟩:=h.get q;exact⟨v,by rw[U6 (by simp;omega),UG,e1];rfl,e2⟩
 ·rw[Vb (by simpa using hi)] at e;obtain⟨v,e1,e2⟩:=s.den _ _ e;refine⟨v,?_,e2⟩;rw[Vb (by simp;omega)];simpa[hl] using e1
def WPB.take:WPB Xw F H (aa b) λb' H'=>b'=b/\∃F',Ext F H F' H':=λH' F' e=>⟨rfl,F',e⟩
def WP.take{K:UJ}:WP K Xw F H (aa d) λv H'=>∃F',Ext F H F' H'/\Den K F' d v:=λv H' F' e q=>⟨F',e,q⟩
def i8(env:Env)(p:Str×Ym):Str×Ym:=if (p.2== .free&&env.scope.kind== .function&&env.kindOf p.1==some .cell) then(p.1, .cell) else(p.1,p.2)
def eE(scope:Scope)(env:Env):(relabel scope env).names=scope.names.map (i8 env):=rfl
def E4(env:Env)(p:Str×Ym):(i8 env p).1=p.1:=by unfold i8;split<;>rfl
def fK(env:Env)(x:Str):∀ns:List (Str×Ym),(ns.map (i8 env)).lookup x=(ns.lookup x).map λk=>(i8 env (x,k)).2
 |[]=>rfl
 |(m,k)::r=>by
  rw[Uz,VD,VD];have e:i8 env (m,k)=(m,(i8 env (m,k)).2):=Yl (E4 env (m,k)) rfl;rw[e]
  dsimp only
  by_cases hx:(x==m)=true
  ·have hm:x=m:=by simpa using hx
   subst hm;rw[hx];rfl
  ·have hx:(x==m)=false:=by simpa using hx
   rw[hx];exact fK env x r
def lK(h:scope.names.lookup x=none):(relabel scope env).names.lookup x=none:=by
 rw[eE,fK,h];rfl
def uI(hc:∀y∈scope.names,y.2≠ .cell)(h:(relabel scope env).names.lookup x=some .cell\/(relabel scope env).names.lookup x=some .free):scope.names.lookup x=some .free:=by
 rw[eE,fK] at h;cases q:scope.names.lookup x with
 |none=>rw[q] at h;rcases h with h | h<;>cases h
 |some k=>
  rw[q] at h;have hk:k≠ .cell:=hc _ (VZ q);have h:(i8 env (x,k)).2= .cell\/(i8 env (x,k)).2= .free:=by simpa using h
  by_cases hf:k= .free
  ·rw[hf]
  ·have:(i8 env (x,k)).2=k:=by
    unfold i8;rw[abA];simp[hf]
   rw[this] at h;rcases h with h | h
   ·exact abE h hk
   ·exact abE h hf
def gL(h:scope.names.lookup x=some .free):¬(relabel scope env).names.lookup x=some .local:=by
 rw[eE,fK,h];intro z;have z:(i8 env (x, .free)).2= .local:=by simpa using z
 unfold i8 at z;split at z<;>cases z
structure BlockEnd (X:Cx) (f8:List (Addr×Obj)) (C:Addr) (H':Hp) (s1:Ux):Prop where
 ns:∃m,s1.heap.Ns C m
 free:H' C=none
 nl:C≠X.env.locals
 nw:X.abK.heap.objs.size<=C
 nc:∀x c,X.env.cells.lookup x=some c->c≠C
 np:∀p∈X.pn++f8,p.1≠C
def vE{RR:Value->Addr->Result->Ux->Prop}
 (sc:CompSc X scope tn)(hn:tn.length=max n 1)(hc:X.calm=true)(hi:vi X Xw tg iter δi)
 (hg:∀f8 cl C fp u8 H σ,qT (iC X scope tn f8 cl C fp u8 H) tg n σ)
 (ht:∀f8 cl C fp u8 H,gP (iC X scope tn f8 cl C fp u8 H) ifs δt)
 (he:∀f8 cl C fp u8 H,PD (iC X scope tn f8 cl C fp u8 H) (λ_ _=>False) elt δe)
 (I:Inv X f8 σ H s)(S:StE X.K F H σ ρ)(w:WP X.K Xw F H (aV n δi δt δe ρ) Q)
 (ya:∀x c,cl.lookup x=some c->X.env.cells.lookup x=some c)(C5:∀x,scope.names.lookup x=some .free->∃c,cl.lookup x=some c)
 (Pn:∀(s1:Ux) (C D:Addr) (H':Hp),Inv X f8 σ H' s1->Q (.ref D) H'->BlockEnd X f8 C H' s1->RR (.ref D) C (.ok .next) s1):
 wpAny (model X.prog X.w) X.A (eval iter X.env) (λx W1=>wpAny (model X.prog X.w) X.A (pyIter x) (λit u8=>wpAny (model X.prog X.w) X.A (newList []) (λT0 s₃=>
  wpAny (model X.prog X.w) X.A (Zh scope X.env.globals cl [] X.env.qual none .none (some X.env)) (λC3 s₄=>
   X9 (model X.prog X.w) X.A (.compStart (.ListComp elt [⟨tg,iter,ifs,0⟩] scope pos) 0 it T0 {C3 with scope:=relabel scope X.env}) (RR T0 C3.locals) s₄) X.xe s₃) X.xe u8) X.xe W1) X.xe s:=by
 refine bx (hi f8 s σ H (λJ H2=>∃F2 ds,Ext F H F2 H2/\ItD X.K F2 J ds/\WP X.K Xw F2 H2 (noex (bY (dP n δt δe ρ) ds)>>=eU) Q) I ⟨F,ρ,S,?_⟩) λxv W1 h₁=>bx h₁ λit u8 h₂=>?_
 ·unfold aV at w;rcases(δi ρ).cs with hq | ⟨m,hq⟩ | ⟨ds,hq⟩
  ·rw[hq] at w;exact w.elim
  ·rw[hq] at w⊢;exact w
  ·rw[hq] at w⊢;exact λJ H' F' e q=>⟨F',ds,e,q,WP.ext e w⟩
 obtain⟨ia,fp,Oe,J,H2,rfl,I2,T,uT,f2,F2,ds,e2,Na,w2⟩:=h₂;obtain⟨R,hR,Mm,w2⟩:∃R,bY (dP n δt δe ρ) ds=aa R/\R.length<=lim/\WP X.K Xw F2 H2 (aa (.lst R)) Q:=by
  rcases(bY (dP n δt δe ρ) ds).cs with hq | ⟨m,hq⟩ | ⟨R,hq⟩
  ·rw[hq] at w2;exact w2.elim
  ·rw[hq] at w2;exact w2.elim
  ·rw[hq] at w2;obtain⟨h1,h2⟩:=ub (show WP X.K Xw F2 H2 (eU R) Q from w2);exact⟨R,hq,h1,h2⟩
 refine U_ (wpAny_newFunctionEnv sc.nocell (by intro y hy;simp at hy) (λh₁ DL Gy=>?_) sc.kind)
 dsimp only at DL Gy⊢
 generalize JI:u8.heap.push {cls:= .type "list",dict:=none,data:= .seq ([]:List Value).toArray}=HL at DL Gy⊢;have hC:HL.objs.size=u8.heap.objs.size+1:=by rw[<-JI,Wb]
 have mW:u8.heap.objs.size<HL.objs.size:=by rw[hC];exact XM _
 have old:∀b o,u8.heap.get? b=some o->h₁.get? b=some o:=λb o e=>Gy.extBut b o (UW (VG (UE e) mW)) (Ut _ (JI▸Ut _ e));have gb:h₁.get? u8.heap.objs.size=some {cls:= .type "list",data:= .seq ([]:List Value).toArray}:=Gy.extBut _ _ (UW mW) (Ut _ (JI▸UO _ rfl));have nD:H2 u8.heap.objs.size=none:=I2.hok.fresh (UB _);have nC:H2 HL.objs.size=none:=I2.hok.fresh (Vt mW);have gC:u8.heap.get? HL.objs.size=none:=YL (Vt mW);have fl:∀b∈fp,b<u8.heap.objs.size:=λb hb=>by
  obtain⟨o,e,_⟩:=T.obj 0 _ uT b hb;exact UE e
 generalize iH:iC X scope tn f8 cl HL.objs.size fp u8 H2=X';have Nu:X'.Ok:=by
  subst iH;refine⟨I2.ok.mod,sc.kind,I2.ok.glob,I2.ok.blt,Vt mW,λx y c h1 h2=>I2.ok.inj x y c (ya _ _ h1) (ya _ _ h2),λx hx=>?_,λ_ _ h=>(by cases h),I2.ok.hd,I2.ok.frames, .inl rfl,
   λb hb=>⟨UW (VG (fl b hb) mW),λx c h=>(f2 b hb).2.2.2.2.1 x c (ya _ _ h)⟩,I2.bs,U1 I2.ok.bsz I2.sz,λb o e hb=>?_,λb hb z=>?_,I2.stack,I2.stkFree⟩
  ·have hx:(relabel scope X.env).names.lookup x=some .cell\/(relabel scope X.env).names.lookup x=some .free:=hx;exact C5 x (uI sc.nocell hx)
  ·rcases(f2 b hb).2.2.2.1 with z | z
   ·exact I2.ok.noex b o e z
   ·exact abE (U8 (UE (I2.ok.bs b o e).1) z) (Vc _)
  ·rcases UD.mp (I2.stkSub b z) with q | q
   ·exact(f2 b hb).2.1 q
   ·exact(f2 b hb).2.2.1 q
 have Ks:∀b o,H2 b=some o->b≠u8.heap.objs.size:=λb o e=>aW e nD;have yx:∀{H':Hp},(∀b∈fp,H' b=none)->∀b∈fp,oM X' [] H' b:=λyF b hb=>by
  subst iH;refine⟨yF b hb,UW (VG (fl b hb) mW),λz=>Nu.exfs b hb z, .inl hb,λx c h=>(f2 b hb).2.2.2.2.1 x c (ya _ _ h),λp hp=>?_⟩;rw[V7] at hp;exact(f2 b hb).2.2.2.2.2 p hp
 have I0:Inv X' [] (Vu (max n 1) none++σ) (upd H2 u8.heap.objs.size (.lst [])) {u8 with heap:=h₁,toks:=u8.toks+([]:List (Str×Value)).length}:=by
  subst iH;have J1:HOk X.prog X.w (upd H2 u8.heap.objs.size (.lst [])) h₁:=I2.hok.laid old (UB _) ⟨U3 _,[],_, .nil,gb⟩;refine⟨Nu,rfl,I2.bare,Un.laid old (UB _) nD,⟨_,DL,λi x v h1 h2 h3=>?_⟩,λx c h=>?_,?_,λx c h=>?_,λp hp=>?_,J1,?_⟩
  ·by_cases hi:i<max n 1
   ·rw[U6 (by simpa using hi),Wl,abz hi] at h2;cases h2
   ·have qZ:tn.length<=i:=by omega
    have h1:(tn++aZ tn X.N)[i]? =some x:=h1;rw[Vb qZ] at h1;rw[Vb (by simpa using hi),WX,<-hn] at h2;have hN:∃y,X.N[i - tn.length]? =some y/\(x,y)∈(aZ tn X.N).zip X.N:=by
     have cI:=(UA.mp h1).1;have yE:i - tn.length<X.N.length:=by simpa[aZ] using cI
     refine⟨X.N[i - tn.length],Us yE,?_⟩;refine YB.mpr ⟨i - tn.length,?_⟩;rw[W9];exact⟨h1,Us yE⟩
    obtain⟨y,hy,hm⟩:=hN;have hV:(relabel scope X.env).names.lookup x=some .local\/(relabel scope X.env).names.lookup x=some .cell\/(relabel scope X.env).names.lookup x=some .free:=h3;rcases sc.vis _ hm with tK | ⟨GC,vk⟩
    ·have tK:scope.names.lookup x=none:=tK;have:(relabel scope X.env).names.lookup x=none:=lK tK;rw[this] at hV;rcases hV with z | z | z<;>cases z
    ·have GC:x=y:=GC;subst GC;have vk:scope.names.lookup x=some .free:=vk;have hk:=sc.frees (x, .free) (VZ vk) rfl;obtain⟨m,IC,v_⟩:=I2.loc;obtain⟨u,ru,lk⟩:=v_ _ x v hy h2 (by rcases hk with z | z;exact .inr (.inl z);exact .inr (.inr z));refine⟨u,ru, .inr ⟨?_,?_⟩⟩
     ·rcases hV with z | z | z
      ·exact abE z (gL vk)
      ·exact .inl z
      ·exact .inr z
     ·rcases lk with⟨z,_⟩ | ⟨_,c,Pt,yB⟩
      ·rcases hk with q | q
       ·rw[show X.env.kindOf x=some .local from z] at q;cases q
       ·rw[show X.env.kindOf x=some .local from z] at q;cases q
      ·obtain⟨c',r9⟩:=C5 x vk;have:=ya _ _ r9;rw[Pt] at this;cases this;obtain⟨o,ho,hd⟩:=yB;exact⟨c,r9,o,old _ _ ho,hd⟩
  ·obtain⟨v,o,ho,hd⟩:=I2.cell x c (ya _ _ h);exact⟨v,o,old _ _ ho,hd⟩
  ·show upd H2 u8.heap.objs.size (.lst []) HL.objs.size=none;rw[ao (Vs mW)];exact nC
  ·have Mv:=ya _ _ h;obtain⟨v,q⟩:=I2.cell x c Mv;rw[ao (UW q.lt)];exact I2.freeC x c Mv
  ·rw[V7] at hp;obtain⟨e,nn,ne,nf,d⟩:=I2.pin p hp;have cI:=UE e;refine⟨old _ _ e,by rw[ao (UW cI)];exact nn,UW (VG cI mW),λz=>?_,d⟩;rcases UD.mp (I2.stkSub p.1 z) with q | q
   ·exact ne q
   ·exact nf q
  ·show (Vu (max n 1) none++σ).length=(tn++aZ tn X.N).length;rw[UN,UN,WX,hn,show (aZ tn X.N).length=X.N.length from by simp[aZ],I2.len]
 have loop:∀s₃:Ux,s₃={u8 with heap:=h₁,toks:=u8.toks+([]:List (Str×Value)).length}->
  X9 (model X.prog X.w) X.A (.compLoop (.ListComp elt [⟨tg,iter,ifs,0⟩] scope pos) 0 (.ref ia) (.ref u8.heap.objs.size) (aa9 scope cl HL.objs.size X.env))
   (RR (.ref u8.heap.objs.size) HL.objs.size) s₃:=by
  intro s₃ yI;have pd:X'.env=aa9 scope cl HL.objs.size X.env:=by subst iH;rfl
  have hA:X'.A=X.A:=by subst iH;rfl
  have hP:X'.prog=X.prog:=by subst iH;rfl
  have hw:X'.w=X.w:=by subst iH;rfl
  have hK:X'.K=X.K:=by subst iH;rfl
  have Ql:X'.xe=λ_ _=>False:=by subst iH;rfl
  have v7:X'.calm=true:=by subst iH;exact hc
  have PL:X'.fs=nU X.stack:=by subst iH;rfl
  have hex:X'.ex=fp:=by subst iH;rfl
  have Ph:X'.abJ=H2:=by subst iH;rfl
  have MT:X'.abK=u8:=by subst iH;rfl
  have pass:∀{α:Type}{t:Sem α}{P:α->Ux->Prop}{E':Value->Ux->Prop}{s:Ux},wpAny (model X'.prog X'.w) X'.A t P X'.xe s->wpAny (model X.prog X.w) X.A t P E' s:=λ{α t P E' s} h=>by
   rw[hP,hw,hA,Ql] at h;exact VN h (λ_ _ q=>q) λ_ _ q=>q.elim
  refine rT (λm s'=>∃(i:Nat) (F' H':Hp) (vs:List V) (ys:List D) (σt:St),m=ds.length - i/\i<=ds.length/\σt.length=max n 1/\Inv X' [] (σt++σ) H' s'/\Oe i s'.heap/\(∀b∈fp,H' b=none)/\Ext F2 H2 F' H'/\
   H' u8.heap.objs.size=some (.lst vs)/\F' u8.heap.objs.size=none/\DenL X.K F' ys vs/\bY (dP n δt δe ρ) ds=(bY (dP n δt δe ρ) (ds.drop i)>>=λr=>aa (ys++r))) ?_ ds.length ?_
  ·rintro m s' ⟨i,F',H',vs,ys,σt,rfl,MB,Qn,I',lQ,Mf,l5,hD,fD,GD,heq⟩;by_cases cI:i<ds.length
   ·
    obtain⟨d,hd⟩:∃d,ds[i]? =some d:=⟨_,Us cI⟩
    obtain⟨Gs,tN⟩:=(Na F' H' i l5.ff l5.fh).1 d hd;obtain⟨o,ho,DB⟩:=o6 hd heq hR;have J7:ys.length<=lim:=by
     rw[heq] at hR;obtain⟨r,_,hr⟩:=b0 hR;rw[<-b8 hr,UN] at Mm;omega
    obtain⟨ts,Qe,ho⟩:=b0 ho;refine pass ?_;rw[hP,hw];refine bx (T.item X' hP hw hK v7 i [] s' (σt++σ) H' X'.xe I' (yx Mf) lQ Gs) ?_;rintro r s1 ⟨u,rfl,h1⟩;refine pass ?_;rw[hP,hw];refine bx h1 ?_;rintro _ s2 ⟨x,H3,I3,rx,y3,FU,LG⟩;obtain⟨F3,pf,q3⟩:=tN x H3 y3;have Mi:H3 u8.heap.objs.size=some (.lst vs):=pf.hh _ _ hD;have Pb:F3 u8.heap.objs.size=none:=by rw[pf.old hD (λ_ z=>nomatch z)];exact fD
    have I3':=I3.pinned (yx LG) (T.obj _ _ FU);have kW:∀{σ7:St}{H7:Hp}{s7:Ux},Inv X' ([]++mB fp s2.heap) σ7 H7 s7->Oe (i+1) s7.heap/\∀b∈fp,H7 b=none:=λ{σ7 H7 s7} I7=>
     ⟨T.keep _ _ _ FU λb hb o e=>(I7.pin (b,o) (U5 _ (U5 _ (ei hb e)))).1,λb hb=>by
      obtain⟨o,e,_⟩:=T.obj _ _ FU b hb;exact(I7.pin (b,o) (U5 _ (U5 _ (ei hb e)))).2.1⟩
    have PM:qT X' tg n σ:=by subst iH;exact hg _ _ _ _ _ _ _
    have Qd:gP X' ifs δt:=by subst iH;exact ht _ _ _ _ _ _
    have Pz:PD X' (λ_ _=>False) elt δe:=by subst iH;exact he _ _ _ _ _ _
    refine pass ?_;rw[<-pd];refine bx (PM _ s2 (σt++σ) F3 H3 d ts x u I3' pf.fh (by rw[<-Qn];simp) rx (by rw[hK];exact q3) Qe) ?_;rintro _ s4 ⟨vt,I4,dt⟩;rw[hK] at dt;have S4:StE X.K F3 H3 (vt.map some++σ) (ts.map (λt=>some (Sl.fz t))++ρ):=StE.cons ((S.ext e2).ext (l5.trans pf)) dt;obtain⟨b,hb,ho⟩:=b0 ho;refine pass ?_
    try rw[<-pd]
    refine bx (Qd _ s4 _ H3 (λb' H5=>b'=b/\∃F5,Ext F3 H3 F5 H5) I4 ⟨F3,_,by rw[hK];exact S4,by rw[hb];exact WPB.take⟩) ?_;rintro b' s5 ⟨H5,I5,rfl,F5,yw⟩;have JH:H5 u8.heap.objs.size=some (.lst vs):=yw.hh _ _ Mi;have Mc:F5 u8.heap.objs.size=none:=by rw[yw.old Mi (λ_ z=>nomatch z)];exact Pb
    cases b' with
    |false=>
     rw[abA UU] at ho⊢;obtain rfl:=b8 ho;refine⟨ds.length - (i+1),by omega,i+1,F5,H5,vs,ys,vt.map some,rfl,cI,?_,I5.unpinned,(kW I5).1,(kW I5).2,l5.trans (pf.trans yw),JH,Mc,DenL.mono (pf.trans yw).ff GD,DB⟩;have h1:=I5.len;have h2:=I3.len;rw[UN] at h1 h2;omega
    |true=>
     rw[abz rfl] at ho⊢;obtain⟨yv,hy,ho⟩:=b0 ho;obtain rfl:=b8 ho;refine pass ?_
     try rw[<-pd]
     refine bx (Pz _ s5 _ H5 (λv H6=>∃F6,Ext F5 H5 F6 H6/\Den X.K F6 yv v) I5 ⟨F5,_,by rw[hK];exact S4.ext yw,by rw[hy,hK];exact WP.take⟩) ?_;rintro xv s6 ⟨v,H6,I6,rv,F6,Gh,qv⟩;have Pg:H6 u8.heap.objs.size=some (.lst vs):=Gh.hh _ _ JH;have Md:F6 u8.heap.objs.size=none:=by rw[Gh.old JH (λ_ z=>nomatch z)];exact Mc
     have IG:vs.length<UR:=by
      have:=GD.len;have:=cR;omega
     refine pass ?_;refine bx (mv _ s6 _ H6 (.ref u8.heap.objs.size) [v] (.ref u8.heap.objs.size) [xv] (λ_ H7=>H7=upd H6 u8.heap.objs.size (.lst (vs++[v]))) I6 rfl (.cons rv .nil) ⟨_,vs,v,rfl,rfl,Pg,IG,rfl⟩) ?_;rintro _ s7 ⟨_,H7,I7,_,rfl⟩;have Pa:Ext F2 H2 F6 (upd H6 u8.heap.objs.size (.lst (vs++[v]))):=by
      have e:=l5.trans (pf.trans (yw.trans Gh));refine⟨λb u q=>?_,e.ff,λb u q=>?_,e.new⟩
      ·rw[ao (Ks b u q)];exact e.hh b u q
      ·rw[ao (λz=>by rw[z,Md] at q;cases q)];exact e.fh b u q
     refine⟨ds.length - (i+1),by omega,i+1,F6,_,vs++[v],ys++[yv],vt.map some,rfl,cI,?_,I7.unpinned,(kW I7).1,(kW I7).2,Pa,az,Md,
      DenL.append (DenL.mono (pf.trans (yw.trans Gh)).ff GD) (.cons qv .nil),DB⟩
     have h1:=I5.len;have h2:=I3.len;rw[UN] at h1 h2;omega
   ·
    have hi:i=ds.length:=by omega
    subst hi;rw[XH] at heq;have Po:R=ys:=by
     rw[heq] at hR;have hR:aa (ys++[])=aa R:=hR;rw[<-b8 hR,V7]
    subst Po;refine pass ?_;rw[hP,hw];refine bx (T.done X' hP hw hK v7 ds.length [] s' (σt++σ) H' X'.xe I' (yx Mf) lQ ((Na F' H' ds.length l5.ff l5.fh).2 (UB _))) ?_;rintro r s1 ⟨rfl,I1⟩;obtain⟨m,hm,_⟩:=I1.loc;rw[pd] at hm;have Pf:H' HL.objs.size=none:=by
     have:=I1.free;rw[pd] at this;exact this
    have u:=I1.base;rw[PL,hex,Ph,MT] at u;have tL:s1.os=u8.os:=by have:=I1.os;rw[MT] at this;exact this
    have DI:=I1.hok;rw[hP,hw] at DI;refine Pn s1 HL.objs.size u8.heap.objs.size H' (I2.call' tL u DI I1.bare (λb hb=>⟨(f2 b hb).2.2.2.1,(f2 b hb).2.1,(f2 b hb).2.2.2.2.1,(f2 b hb).2.2.2.2.2⟩)) ?_
     ⟨⟨m,hm⟩,Pf,Vs (VG I2.lt mW),U1 I2.sz (Vt mW),λx c q z=>?_,λp hp z=>?_⟩
    rotate_left
    ·obtain⟨v,q'⟩:=I2.cell x c q;exact abE (VG q'.lt mW) (by rw[z];exact Vc _)
    ·exact abE (VG (UE (I2.pin p hp).1) mW) (by rw[z];exact Vc _)
    refine WP.fin w2 (F':=upd F' u8.heap.objs.size (.lst vs)) ⟨l5.hh,λb u q=>?_,λb u q=>?_,λa ha=>?_⟩ ⟨_,vs,rfl,az,DenL.mono (λb u q=>?_) GD,Mm⟩
    ·rw[ao (λz=>by have:=l5.ff b u q;rw[z,fD] at this;cases this)];exact l5.ff b u q
    ·by_cases z:b=u8.heap.objs.size
     ·rw[z,az] at q;rw[z,hD];exact q
     ·rw[ao z] at q;exact l5.fh b u q
    ·rcases l5.new a ha with q | q
     ·exact .inl (by rw[ao (λz=>ha (by rw[z];exact nD))];exact q)
     ·exact .inr q
    ·rw[ao (λz=>by rw[z,fD] at q;cases q)];exact q
  ·rw[yI];refine⟨0,F2,_,[],[],Vu (max n 1) none,by simp,U3 _,by simp,I0,T.keep _ _ _ uT (λb hb o e=>old b o e),λb hb=>?_,⟨λb u q=>?_,Same.refl _,λb u q=>?_,λ_ _=> .inl rfl⟩,az,Same.free e2.fh nD,rfl,?_⟩
   ·rw[ao (UW (fl b hb))];exact(f2 b hb).1
   ·rw[ao (Ks b u q)];exact q
   ·rw[ao (Ks b u (e2.fh b u q))];exact e2.fh b u q
   ·rw[YM];rcases(bY (dP n δt δe ρ) ds).cs with hq | ⟨m,hq⟩ | ⟨R,hq⟩<;>rw[hq]<;>rfl
 exact abo (loop _ rfl) (T.self X.A 0 _ _ _ (T.keep _ _ _ uT (λb hb o e=>old b o e)) (loop _ rfl))
def Inv.block{C:Addr}(I:Inv X f8 σ H' s1)(b:BlockEnd X f8 C H' s1)(J5:V2 C s1.heap h'):Inv X f8 σ H' {s1 with heap:=h'}:=
 I.turned (λa o ha e=>(J5.2 a ha).trans e) b.free b.nl (.inr b.nw) b.nc b.np
section
variable{X:Cx}{Xw:Nat->Hp->Prop}{elt iter tg:Expr}{ifs:List Expr}{scope:Scope}{pos:Pos}{tn:List Str}{n:Nat}{δi:DA}{δt:DT}{δe:DE}
def b7(sc:CompSc X scope tn)(hn:tn.length=max n 1)(hc:X.calm=true)(hi:vi X Xw tg iter δi)
 (hg:∀f8 cl C fp u8 H σ,qT (iC X scope tn f8 cl C fp u8 H) tg n σ)
 (ht:∀f8 cl C fp u8 H,gP (iC X scope tn f8 cl C fp u8 H) ifs δt)
 (he:∀f8 cl C fp u8 H,PD (iC X scope tn f8 cl C fp u8 H) (λ_ _=>False) elt δe)
 (hs:∀x,WN iter X.env x=pure x:=by intro _;rfl):
 PD X Xw (.ListComp elt [⟨tg,iter,ifs,0⟩] scope pos) (aV n δi δt δe):=by
 intro f8 s σ H Q I ⟨F,ρ,S,w⟩;obtain⟨cl,v8,ya,C5⟩:=j6 λy hy hf=>I.ok.has y.1 (sc.frees y hy hf);rw[eval_ListComp];refine Yt rfl hs v8 sc.kind sc.names (vE (RR:=λT0 C=>compPost (model X.prog X.w) X.A X.xe none (EP X f8 σ Q) T0 C) sc hn hc hi hg ht he I S w ya C5 λs1 C D H' I1 q b=>?_);obtain⟨m,hm⟩:=b.ns;exact⟨m,hm,λh' J5=>⟨.ref D,H',Inv.block I1 b J5,rfl,q⟩⟩
end
inductive Out where
 |nx (ρ:bC) | rt (d:D)
abbrev DS:=bC->M Out
structure StOk (K:UJ) (t0 abJ F H:Hp) (σ:St) (ρ:bC):Prop where
 ext:Ext t0 abJ F H
 st:StE K F H σ ρ
 len:ρ.length=σ.length
 own:∀(i:Nat) (c:C) (a:Addr),ρ[i]? =some (some (.ow c))->σ[i]? =some (some (.ref a))->abJ a=none
 sep:∀(i j:Nat) (c c':C) (a:Addr),ρ[i]? =some (some (.ow c))->ρ[j]? =some (some (.ow c'))->σ[i]? =some (some (.ref a))->σ[j]? =some (some (.ref a))->i=j
def WPS(K:UJ)(Xw:Nat->Hp->Prop)(t0 abJ:Hp)(m:M Out)(Dn:Ends):Prop:=
 match m with
 |none=>False
 |some (.ok (.nx ρ))=>∀σ F H,StOk K t0 abJ F H σ ρ->Dn.nx σ H
 |some (.ok (.rt d))=>∀v F H,Ext t0 abJ F H->Den K F d v->Dn.rt v H
 |some (.ex n)=>∀F H,Ext t0 abJ F H->Xw n H
def tS(K:UJ)(Xw:Nat->Hp->Prop)(t0 abJ:Hp)(τ:DS):TS:=λDn σ H=>∃F ρ,StOk K t0 abJ F H σ ρ/\WPS K Xw t0 abJ (τ ρ) Dn
def gj(X:Cx)(Xw:Nat->Hp->Prop)(st:Stmt)(τ:DS):Prop:=∀t0 abJ,PS X st (tS X.K Xw t0 abJ τ)
def PSDs(X:Cx)(Xw:Nat->Hp->Prop)(st:List Stmt)(τ:DS):Prop:=∀t0 abJ,PSs X st (tS X.K Xw t0 abJ τ)
def PS.weak{st:Stmt}(h:PS X st t)(k:∀D σ H,t' D σ H->t D σ H):PS X st t':=λf8 s σ H D I w=>h f8 s σ H D I (k D σ H w)
def PSs.weak{st:List Stmt}(h:PSs X st t)(k:∀D σ H,t' D σ H->t D σ H):PSs X st t':=λf8 s σ H D I w=>h f8 s σ H D I (k D σ H w)
section
variable{K:UJ}{t0 abJ F H F' H':Hp}{σ:St}{ρ:bC}
def StOk.ext'(s:StOk K t0 abJ F H σ ρ)(e:Ext F H F' H'):StOk K t0 abJ F' H' σ ρ:=⟨s.ext.trans e,s.st.ext e,s.len,s.own,s.sep⟩
def StOk.set(s:StOk K t0 abJ F H σ ρ){d:D}(h:Den K F d v):StOk K t0 abJ F H (σ.set i (some v)) (ρ.set i (some (.fz d))):=by
 have hl:=s.len;have get:∀(j:Nat) (sl:Sl),(ρ.set i (some (.fz d)))[j]? =some (some sl)->(j=i/\i<ρ.length/\sl= .fz d)\/(j≠i/\ρ[j]? =some (some sl)):=λj sl e=>by
  by_cases hj:j=i
  ·subst hj;have hi:j<ρ.length:=by
    have:=(UA.mp e).1;simpa using this
   rw[UQ hi] at e;cases e;exact .inl ⟨rfl,hi,rfl⟩
  ·rw[UM (Vv hj)] at e;exact .inr ⟨hj,e⟩
 refine⟨s.ext,⟨s.st.fh,λj sl e=>?_⟩,by simp[hl],λj c a e e'=>?_,λj k c c' a e1 e2 e3 e4=>?_⟩
 ·rcases get j sl e with⟨rfl,hi,rfl⟩ | ⟨hj,e⟩
  ·exact⟨v,by rw[UQ (by omega)],h⟩
  ·obtain⟨u,h1,h2⟩:=s.st.den j sl e;exact⟨u,by rw[UM (Vv hj)];exact h1,h2⟩
 ·rcases get j _ e with⟨_,_,z⟩ | ⟨hj,e⟩
  ·cases z
  ·rw[UM (Vv hj)] at e';exact s.own j c a e e'
 ·rcases get j _ e1 with⟨_,_,z⟩ | ⟨hj,e1⟩
  ·cases z
  ·rcases get k _ e2 with⟨_,_,z⟩ | ⟨hk,e2⟩
   ·cases z
   ·rw[UM (Vv hj)] at e3;rw[UM (Vv hk)] at e4;exact s.sep j k c c' a e1 e2 e3 e4
def StOk.setNew(s:StOk K t0 abJ F H σ ρ){o:HO}(n:H a=none)(h:DenC K F c₀ o):
 StOk K t0 abJ F (upd H a o) (σ.set i (some (.ref a))) (ρ.set i (some (.ow c₀))):=by
 have hle:=s.len;have e0:=Ext.free (o:=o) s.st.fh n;have nF:F a=none:=Same.free s.st.fh n;have get:∀(j:Nat) (sl:Sl),(ρ.set i (some (.ow c₀)))[j]? =some (some sl)->(j=i/\i<ρ.length/\sl= .ow c₀)\/(j≠i/\ρ[j]? =some (some sl)):=λj sl e=>by
  by_cases hj:j=i
  ·subst hj;have hi:j<ρ.length:=by
    have:=(UA.mp e).1;simpa using this
   rw[UQ hi] at e;cases e;exact .inl ⟨rfl,hi,rfl⟩
  ·rw[UM (Vv hj)] at e;exact .inr ⟨hj,e⟩
 have old:∀(j:Nat) (c:C) (b:Addr),ρ[j]? =some (some (.ow c))->σ[j]? =some (some (.ref b))->b≠a:=λj c b e e' z=>by
  obtain⟨u,h1,b',o,h2,h3,_⟩:=s.st.den j _ e;rw[h1] at e';cases e';cases h2;rw[z,n] at h3;cases h3
 refine⟨s.ext.trans e0,⟨e0.fh,λj sl e=>?_⟩,by simp[hle],λj c b e e'=>?_,λj k c c' b e1 e2 e3 e4=>?_⟩
 ·rcases get j sl e with⟨rfl,hi,rfl⟩ | ⟨hj,e⟩
  ·exact⟨.ref a,by rw[UQ (by omega)],a,_,rfl,az,nF,h⟩
  ·obtain⟨u,h1,h2⟩:=s.st.den j sl e;exact⟨u,by rw[UM (Vv hj)];exact h1,h2.ext e0⟩
 ·rcases get j _ e with⟨rfl,hi,_⟩ | ⟨hj,e⟩
  ·rw[UQ (by omega)] at e';cases e';exact Same.free s.ext.hh n
  ·rw[UM (Vv hj)] at e';exact s.own j c b e e'
 ·rcases get j _ e1 with⟨rfl,hi,_⟩ | ⟨hj,e1⟩
  ·rw[UQ (by omega)] at e3;cases e3;rcases get k _ e2 with⟨rfl,_,_⟩ | ⟨hk,e2⟩
   ·rfl
   ·rw[UM (Vv hk)] at e4;exact abE rfl (old k c' a e2 e4)
  ·rcases get k _ e2 with⟨PZ,hi,_⟩ | ⟨hk,e2⟩
   ·rw[PZ,UQ (by omega)] at e4;cases e4;rw[UM (Vv hj)] at e3;exact abE rfl (old j c a (by assumption) e3)
   ·rw[UM (Vv hj)] at e3;rw[UM (Vv hk)] at e4;exact s.sep j k c c' b e1 e2 e3 e4
def StOk.chg(s:StOk K t0 abJ F H σ ρ){c c₀:C}(hi:ρ[i]? =some (some (.ow c)))(ha:σ[i]? =some (some (.ref a)))(h:DenC K F c₀ o₀):
 StOk K t0 abJ F (upd H a o₀) σ (ρ.set i (some (.ow c₀))):=by
 have hle:=s.len;have h0:=s.own i c a hi ha;obtain⟨u,q1,a',o,q2,q3,q4,q5⟩:=s.st.den i _ hi;rw[ha] at q1;cases q1;cases q2;have FK:i<ρ.length:=(UA.mp hi).1;have get:∀(j:Nat) (sl:Sl),(ρ.set i (some (.ow c₀)))[j]? =some (some sl)->(j=i/\sl= .ow c₀)\/(j≠i/\ρ[j]? =some (some sl)):=λj sl e=>by
  by_cases hj:j=i
  ·subst hj;rw[UQ FK] at e;cases e;exact .inl ⟨rfl,rfl⟩
  ·rw[UM (Vv hj)] at e;exact .inr ⟨hj,e⟩
 have fh:Same F (upd H a o₀):=λb o e=>by
  rw[ao (λz=>by rw[z,q4] at e;cases e)];exact s.st.fh b o e
 refine⟨⟨λb o e=>?_,s.ext.ff,fh,s.ext.new⟩,⟨fh,λj sl e=>?_⟩,by simp[hle],λj c' b e e'=>?_,λj k c1 c2 b e1 e2 e3 e4=>?_⟩
 ·rw[ao (λz=>by rw[z,h0] at e;cases e)];exact s.ext.hh b o e
 ·rcases get j sl e with⟨rfl,rfl⟩ | ⟨hj,e⟩
  ·exact⟨.ref a,ha,a,_,rfl,az,q4,h⟩
  ·obtain⟨u,h1,h2⟩:=s.st.den j sl e;refine⟨u,h1,?_⟩;cases sl with
   |fz d=>exact h2
   |ow c'=>
    obtain⟨b,o',r1,r2,r3,r4⟩:=h2;refine⟨b,o',r1,?_,r3,r4⟩;rw[ao (λz=>hj (s.sep j i c' c a e hi (by rw[h1,r1,z]) ha))];exact r2
 ·rcases get j _ e with⟨rfl,_⟩ | ⟨hj,e⟩
  ·rw[ha] at e';cases e';exact h0
  ·exact s.own j c' b e e'
 ·have k1:∃c,ρ[j]? =some (some (.ow c)):=by
   rcases get j _ e1 with⟨rfl,_⟩ | ⟨_,e⟩
   ·exact⟨c,hi⟩
   ·exact⟨_,e⟩
  have k2:∃c,ρ[k]? =some (some (.ow c)):=by
   rcases get k _ e2 with⟨rfl,_⟩ | ⟨_,e⟩
   ·exact⟨c,hi⟩
   ·exact⟨_,e⟩
  obtain⟨_,k1⟩:=k1;obtain⟨_,k2⟩:=k2;exact s.sep j k _ _ b k1 k2 e3 e4
def frz(i:Nat)(ρ:bC):bC:=match ρ[i]? with
 |some (some (.ow c))=>ρ.set i (some (.fz c.d))
 |_=>ρ
def StOk.frz(s:StOk K t0 abJ F H σ ρ)(i:Nat)(obj:Addr->Obj):(∃a o,H a=some o/\DenC K F (ρ[i]?.elim (.lst []) λx=>x.elim (.lst []) λy=>match y with | .ow c=>c | _=> .lst []) o/\σ[i]? =some (some (.ref a))/\StOk K t0 abJ (upd F a (nV (obj a) o)) (upd H a (nV (obj a) o)) σ (frz i ρ))\/frz i ρ=ρ:=by
 unfold L3.frz;split
 ·rename_i c₀ hi;have hle:=s.len;obtain⟨u,ha,a,o,rfl,q3,q4,BA⟩:=s.st.den i _ hi;refine .inl ⟨a,o,q3,by rw[hi];exact BA,ha,?_⟩;have h0:=s.own i _ a hi ha;have FK:i<ρ.length:=(UA.mp hi).1;have ff:Same F (upd F a (nV (obj a) o)):=λb o e=>by rw[ao (λz=>by rw[z,q4] at e;cases e)];exact e
  have fh:Same (upd F a (nV (obj a) o)) (upd H a (nV (obj a) o)):=λb o e=>by
   by_cases z:b=a
   ·rw[z,az] at e⊢;exact e
   ·rw[ao z] at e⊢;exact s.st.fh b o e
  have get:∀(j:Nat) (sl:Sl),(ρ.set i (some (.fz c₀.d)))[j]? =some (some sl)->(j=i/\sl= .fz c₀.d)\/(j≠i/\ρ[j]? =some (some sl)):=λj sl e=>by
   by_cases hj:j=i
   ·subst hj;rw[UQ FK] at e;cases e;exact .inl ⟨rfl,rfl⟩
   ·rw[UM (Vv hj)] at e;exact .inr ⟨hj,e⟩
  refine⟨⟨λb u q=>?_,s.ext.ff.trans ff,fh,λb hb=>?_⟩,⟨fh,λj sl e=>?_⟩,by simp[hle],λj c' b e e'=>?_,λj k c1 c2 b e1 e2 e3 e4=>?_⟩
  ·rw[ao (λz=>by rw[z,h0] at q;cases q)];exact s.ext.hh b u q
  ·rcases s.ext.new b hb with q | q
   ·exact .inl (by rw[ao (λz=>hb (by rw[z];exact h0))];exact q)
   ·exact .inr q
  ·rcases get j sl e with⟨rfl,rfl⟩ | ⟨hj,e⟩
   ·exact⟨.ref a,ha,DenC.den BA ff az⟩
   ·obtain⟨u,h1,h2⟩:=s.st.den j sl e;refine⟨u,h1,?_⟩;cases sl with
    |fz d=>exact Den.mono ff h2
    |ow c'=>
     obtain⟨b,o',r1,r2,r3,r4⟩:=h2;have fI:b≠a:=λz=>hj (s.sep j i c' _ a e hi (by rw[h1,r1,z]) ha);exact⟨b,o',r1,by rw[ao fI];exact r2,by rw[ao fI];exact r3,DenC.mono ff r4⟩
  ·rcases get j _ e with⟨_,z⟩ | ⟨hj,e⟩
   ·cases z
   ·exact s.own j c' b e e'
  ·rcases get j _ e1 with⟨_,z⟩ | ⟨_,e1⟩
   ·cases z
   ·rcases get k _ e2 with⟨_,z⟩ | ⟨_,e2⟩
    ·cases z
    ·exact s.sep j k _ _ b e1 e2 e3 e4
 ·exact .inr rfl
end
def join(F H:Hp):Hp:=λa=>match F a with
 |some o=>some o
 |none=>H a
def StOk.rebase{K:UJ}{t0 abJ F H:Hp}(s:StOk K t0 abJ F H σ ρ):StOk K F (join F abJ) F H σ ρ/\∀F' H',Ext F (join F abJ) F' H'->Ext t0 abJ F' H':=by
 have hj:Same (join F abJ) H:=λb o e=>by
  unfold join at e;cases q:F b with
  |some u=>rw[q] at e;cases e;exact s.st.fh b _ q
  |none=>rw[q] at e;exact s.ext.hh b o e
 have h0:Same abJ (join F abJ):=λb o e=>by
  unfold join;cases q:F b with
  |some u=>
   have h1:=s.st.fh b u q;rw[s.ext.hh b o e] at h1;exact h1.symm
  |none=>exact e
 refine⟨⟨⟨hj,Same.refl _,s.st.fh,λ_ _=> .inl rfl⟩,s.st,s.len,λi c a e e'=>?_,s.sep⟩,λF' H' x=>⟨h0.trans x.hh,s.ext.ff.trans x.ff,x.fh,λa ha=>?_⟩⟩
 ·have h1:=s.own i c a e e';obtain⟨v,q1,a',o,q2,q3,q4,_⟩:=s.st.den i _ e;rw[e'] at q1;cases q1;cases q2;unfold join;rw[q4];exact h1
 ·have:join F abJ a≠none:=by
   cases q:abJ a with
   |none=>exact abE q ha
   |some o=>rw[h0 a o q];exact λz=>nomatch z
  rcases s.ext.new a ha with p | p
  ·rcases x.new a this with q | ⟨ts,q⟩
   ·exact .inl (q.trans p)
   ·cases z:abJ a with
    |none=>exact abE z ha
    |some o=>
     rw[h0 a o z] at q;exact .inr ⟨ts,q⟩
  ·exact .inr p
def StOk.unbase{K:UJ}{t0 abJ F U F' H':Hp}(k:∀F' H',Ext F U F' H'->Ext t0 abJ F' H')(s:StOk K F U F' H' σ ρ)(h:Same abJ U):StOk K t0 abJ F' H' σ ρ:=
 ⟨k _ _ s.ext,s.st,s.len,λi c a e e'=>Same.free h (s.own i c a e e'),s.sep⟩
def BK{K:UJ}{t0 abJ F H:Hp}(s:StOk K t0 abJ F H σ ρ):Same abJ (join F abJ):=λb o e=>by
 unfold join;cases q:F b with
 |some u=>
  have h1:=s.st.fh b u q;rw[s.ext.hh b o e] at h1;exact h1.symm
 |none=>exact e
def Inv.refrz(I:Inv X f8 σ H s)(e:H a=some o)
 (ho:o'=o\/∃u,o'= .frz ((s.heap.get? a).getD {cls:= .none,data:= .fields #[]}) u/\((∃k,o= .dT k/\u= .dT k)\/∃k,o= .dK k/\u= .dK k)):Inv X f8 σ (upd H a o') s:=by
 rcases ho with rfl | ⟨u,rfl,hu⟩
 ·have:upd H a o'=H:=by
   funext b;by_cases z:b=a
   ·rw[z,az,e]
   ·rw[ao z]
  rw[this];exact I
 have Te:o=u:=by rcases hu with⟨k,h1,h2⟩ | ⟨k,h1,h2⟩<;>rw[h1,h2]
 subst Te;have nt:∀ts,o≠ .tup ts:=λts z=>by rcases hu with⟨k,h1,_⟩ | ⟨k,h1,_⟩<;>rw[h1] at z<;>cases z
 have nf:∀ob v,o≠ .frz ob v:=λob v z=>by rcases hu with⟨k,h1,_⟩ | ⟨k,h1,_⟩<;>rw[h1] at z<;>cases z
 have nb:∀p,o≠ .tbl p:=λp z=>by rcases hu with⟨k,h1,_⟩ | ⟨k,h1,_⟩<;>rw[h1] at z<;>cases z
 have no:∀p,o≠ .own p:=λp z=>by rcases hu with⟨k,h1,_⟩ | ⟨k,h1,_⟩<;>rw[h1] at z<;>cases z
 have ne:∀b,H b=none->b≠a:=λb hb z=>by rw[z,e] at hb;cases hb
 have hk:=I.hok a o e;have cI:=hk.lt;obtain⟨ob,JZ⟩:∃ob,s.heap.get? a=some ob:=by
  rcases hu with⟨k,h1,_⟩ | ⟨k,h1,_⟩
  ·subst h1;obtain⟨_,_,_,_,ob,_,_,q,_⟩:=hk;exact⟨ob,q⟩
  ·subst h1;obtain⟨_,_,_,_,ob,_,_,q,_⟩:=hk;exact⟨ob,q⟩
 rw[JZ];refine⟨I.ok,I.os,I.bare,⟨I.base.keep,I.base.slot,λb q h1 h2 h3=>?_,I.base.there,λb xs q=>?_,λb q1 v q=>?_,λb ps q=>?_⟩,I.loc,I.cell,?_,λx c q=>?_,λp hp=>?_,λb v q=>?_,I.len⟩
 ·have:=I.base.free b q h1 h2 h3;rw[ao (ne b this)];exact this
 ·have:=I.base.tups b xs q;rw[ao (λz=>by rw[z,e] at this;exact nt xs (U9 this))];exact this
 ·have:=I.base.frzs b q1 v q;rw[ao (λz=>by rw[z,e] at this;exact nf _ _ (U9 this))];exact this
 ·obtain⟨m,this⟩:=I.base.tbls b ps q;exact⟨m,by rw[ao (λz=>by rw[z,e] at this;exact nb _ (U9 this))];exact this⟩
 ·rw[ao (ne _ I.free)];exact I.free
 ·rw[ao (ne _ (I.freeC x c q))];exact I.freeC x c q
 ·obtain⟨h1,h2,h3⟩:=I.pin p hp;exact⟨h1,by rw[ao (ne _ h2)];exact h2,h3⟩
 ·have st:∀{c:Addr}{v:HO},ObjOk X.prog X.w H s.heap c v->ObjOk X.prog X.w (upd H a (.frz ob o)) s.heap c v:=λ{c v} k=>k.stay (λ_ _ _ q=>q)
   (λc' q=>by rw[ao (λz=>by rw[z,e] at q;exact no _ (U9 q))];exact q) λc' xs q=>by rw[ao (λz=>by rw[z,e] at q;exact nt _ (U9 q))];exact q
  by_cases z:b=a
  ·subst z;rw[show (some ob).getD _=ob from rfl,az] at q;cases q;exact⟨JZ,st hk⟩
  ·rw[ao z] at q;exact st (I.hok b v q)
def aG(a b:DS):DS:=λρ=>a ρ>>=λo=>match o with | .nx ρ'=>b ρ' | .rt d=>aa (.rt d)
def eT:DS:=λρ=>aa (.nx ρ)
def bI(δ:DE):DS:=λρ=>δ ρ>>=λd=>aa (.rt d)
def kj(δ:DE):DS:=λρ=>δ ρ>>=λ_=>aa (.nx ρ)
def bW(i:Nat)(δ:DE):DS:=λρ=>δ ρ>>=λd=>aa (.nx (ρ.set i (some (.fz d))))
def kC(c:DT)(a b:DS):DS:=λρ=>c ρ>>=λx=>if x then a ρ else b ρ
def A3(i:Nat)(a:DS):DS:=λρ=>a (frz i ρ)
def zo(i:Nat):DS:=λρ=>aa (.nx (ρ.set i (some (.ow (.lst [])))))
def B8(ρ:bC)(i:Nat):Option (List D):=match ρ[i]? with
 |some (some (.ow (.lst ds)))=>some ds
 |_=>none
def sD{i:Nat}(h:B8 ρ i=some ds):ρ[i]? =some (some (.ow (.lst ds))):=by
 unfold B8 at h;split at h
 ·rename_i ds' e;cases h;exact e
 ·cases h
def uL(i:Nat)(δ:DE):DS:=λρ=>match B8 ρ i with
 |some ds=>δ ρ>>=λd=>if ds.length<lim then aa (.nx (ρ.set i (some (.ow (.lst (ds++[d])))))) else af
 |none=>af
def E6(i:Nat)(δ:DE):DS:=λρ=>match B8 ρ i with
 |some ds=>δ ρ>>=λd=>lstM d>>=λes=>if ds.length+es.length<=lim then aa (.nx (ρ.set i (some (.ow (.lst (ds++es)))))) else af
 |none=>af
def forL(put:D->bC->Option bC)(body:DS):List D->DS
 |[],ρ=>aa (.nx ρ)
 |d::ds,ρ=>(match put d ρ with | none=>af | some ρ1=>body ρ1>>=λo=>match o with | .nx ρ2=>forL put body ds ρ2 | .rt v=>aa (.rt v))
def putN(i:Nat):D->bC->Option bC:=λd ρ=>some (ρ.set i (some (.fz d)))
def d5(put:D->bC->Option bC)(δi:DA)(body:DS):DS:=λρ=>δi ρ>>=λds=>forL put body ds ρ
section
variable{X:Cx}{Xw:Nat->Hp->Prop}{t0 abJ:Hp}{st:Stmt}{rest:List Stmt}{τ τ':DS}{e:Expr}{δ:DE}{pos:Pos}
def bq:PSDs X Xw [] eT:=λt0 abJ=>PSs.weak AS λD σ H ⟨F,ρ,s,w⟩=>w σ F H s
def aj(h1:gj X Xw st τ)(h2:PSDs X Xw rest τ'):PSDs X Xw (st::rest) (aG τ τ'):=λt0 abJ=>PSs.weak (xl (h1 t0 abJ) (h2 t0 abJ)) λD σ H ⟨F,ρ,s,w⟩=>by
 refine⟨F,ρ,s,?_⟩;unfold aG at w
 match τ ρ,w with
 |none,w=>exact w
 |some (.ok (.nx ρ')),w=>exact λσ' F' H' s'=>⟨F',ρ',s',w⟩
 |some (.ok (.rt d)),w=>exact w
 |some (.ex n),w=>exact w
def ar(h1:gj X Xw st τ):PSDs X Xw [st] τ:=λt0 abJ=>oH (h1 t0 abJ)
def dZ{i:Nat}(h:gj X Xw st τ):gj X Xw st (A3 i τ):=λt0 abJ f8 sh σ H D I ⟨F,ρ,s,w⟩=>by
 rcases s.frz i (λa=>(sh.heap.get? a).getD {cls:= .none,data:= .fields #[]}) with⟨a,o,ha,hc,hσ,s'⟩ | e
 ·refine h t0 abJ f8 sh σ _ D (L3.Inv.refrz I ha ?_) ⟨_,_,s',w⟩;generalize (ρ[i]?.elim (C.lst []) λx=>x.elim (.lst []) λy=>match y with | .ow c=>c | _=> .lst [])=c at hc;cases c with
  |lst ds=>obtain⟨vs,rfl,_⟩:=hc;exact .inl rfl
  |dct ks ds=>obtain⟨vs,rfl,_⟩:=hc;exact .inr ⟨_,rfl, .inl ⟨_,rfl,rfl⟩⟩
  |dci ks ds=>obtain⟨vs,rfl,_⟩:=hc;exact .inr ⟨_,rfl, .inr ⟨_,rfl,rfl⟩⟩
 ·exact h t0 abJ f8 sh σ H D I ⟨F,ρ,s,by unfold A3 at w;rw[e] at w;exact w⟩
def aF(h:PD X Xw e δ):gj X Xw (.Return (some e) pos) (bI δ):=λt0 abJ=>PS.weak (K7 h) λD σ H ⟨F,ρ,s,w⟩=>by
 refine⟨F,ρ,s.st,?_⟩;unfold bI at w
 match δ ρ,w with
 |none,w=>exact w
 |some (.ok d),w=>exact λv H' F' e' q=>w v F' H' (s.ext.trans e') q
 |some (.ex n),w=>exact λF' H' e'=>w F' H' (s.ext.trans e')
def eD(h:PD X Xw e δ)(hs:X6 e none pos.line X.env=pure false:=by rfl):gj X Xw (.Expr e pos) (kj δ):=λt0 abJ=>PS.weak (oF h hs) λD σ H ⟨F,ρ,s,w⟩=>by
 refine⟨F,ρ,s.st,?_⟩;unfold kj at w
 match δ ρ,w with
 |none,w=>exact w
 |some (.ok d),w=>exact λv H' F' e' q=>w σ F' H' (s.ext' e')
 |some (.ex n),w=>exact λF' H' e'=>w F' H' (s.ext.trans e')
def aK{x:Str}(hN:X.N.Nodup)(hi:X.N[i]? =some x)(hx:Loc X.env.scope x)(he:PD X Xw e δ)(hf:X.fn x=true\/X.env.scope.names.lookup x=some .local:=by first | exact .inl rfl | exact .inr rfl)
 (hs:Zz [.Name x pos'] e pos.line X.env=pure false:=by rfl):
 gj X Xw (.Assign [.Name x pos'] e pos) (bW i δ):=λt0 abJ=>PS.weak (mD he (aQ hN hi hx hf) hs) λD σ H ⟨F,ρ,s,w⟩=>by
 refine⟨F,ρ,s.st,?_⟩;unfold bW at w
 match δ ρ,w with
 |none,w=>exact w
 |some (.ok d),w=>exact λv H' F' e' q=>w _ F' H' ((s.ext' e').set q)
 |some (.ex n),w=>exact λF' H' e'=>w F' H' (s.ext.trans e')
def i6(hN:X.N.Nodup)(qZ:X.N[i]? =some x)(hx:Loc X.env.scope x)
 (sc:CompSc X scope tn)(hn:tn.length=max n 1)(hc:X.calm=true)(hi:vi X Xw tg iter δi)
 (hg:∀f8 cl C fp u8 H σ,qT (iC X scope tn f8 cl C fp u8 H) tg n σ)
 (ht:∀f8 cl C fp u8 H,gP (iC X scope tn f8 cl C fp u8 H) ifs δt)
 (he:∀f8 cl C fp u8 H,PD (iC X scope tn f8 cl C fp u8 H) (λ_ _=>False) elt δe)
 (hf:X.fn x=true\/X.env.scope.names.lookup x=some .local:=by first | exact .inl rfl | exact .inr rfl)
 (Ts:X6 (.ListComp elt [⟨tg,iter,ifs,0⟩] scope aL) (some (.Name x pos')) pos.line X.env=pure true:=by rfl)
 (hs:∀x,WN iter X.env x=pure x:=by intro _;rfl):
 gj X Xw (.Assign [.Name x pos'] (.ListComp elt [⟨tg,iter,ifs,0⟩] scope aL) pos) (bW i (aV n δi δt δe)):=λt0 abJ f8 s σ H D I ⟨F,ρ,S,w⟩=>by
 obtain⟨cl,v8,ya,C5⟩:=j6 λy hy hf=>I.ok.has y.1 (sc.frees y hy hf);have w':WP X.K Xw F H (aV n δi δt δe ρ) (λv H'=>D.nx (σ.set i (some v)) H'):=by
  have w:WPS X.K Xw t0 abJ (aV n δi δt δe ρ>>=λd=>aa (.nx (ρ.set i (some (.fz d))))) D:=w
  match aV n δi δt δe ρ,w with
  |none,w=>exact w
  |some (.ok d),w=>exact λv H' F' e' q=>w _ F' H' ((S.ext' e').set q)
  |some (.ex n),w=>exact λF' H' e'=>w F' H' (S.ext.trans e')
 rw[exec_Assign_Name_used _ _ _ _ Ts];refine Uq (wpAny_standAt (Uq ?_));show wpAny _ X.A (do let _<-comprehension (.ListComp elt [⟨tg,iter,ifs,0⟩] scope aL) scope X.env _ (newList []) false (eval iter X.env) (some (assign (.Name x pos') X.env))) _ _ s;refine Uq (VN (Yt rfl hs v8 sc.kind sc.names
  (vE sc hn hc hi hg ht he I S.st w' ya C5 λs1 C D' H' I1 q b=>?_)) (λ_ s' hq=>Uw (Uw hq)) λ_ _ e=>e)
 show wpAny _ X.A (assign (.Name x pos') X.env (.ref D')) _ _ _;refine Yu (sY I1 hN qZ hx (v:= .ref D') rfl (λs2 I2 ⟨a,sb,ha⟩=>?_) hf);have Su:C≠a:=by
  rcases ha with z | z
  ·rw[z];exact b.nl
  ·exact Vv (b.nc x a z)
 obtain⟨m,hm⟩:=b.ns;have IC:s2.heap.Ns C m:=hm.sameBut sb Su;refine⟨m,IC,λh' J5=>⟨_,H',Inv.block I2 ⟨⟨m,IC⟩,b.free,b.nl,b.nw,b.nc,b.np⟩ J5,q⟩⟩
def bV{a b:List Stmt}(hc:oP X Xw c tc)(ha:PSDs X Xw a τ)(hb:PSDs X Xw b τ'):gj X Xw (.If c a b pos) (kC tc τ τ'):=λt0 abJ=>PS.weak (I8 hc (ha t0 abJ) (hb t0 abJ)) λD σ H ⟨F,ρ,s,w⟩=>by
 refine⟨F,ρ,s.st,?_⟩;unfold kC at w
 match tc ρ,w with
 |none,w=>exact w
 |some (.ok true),w=>exact λH' F' e'=>⟨F',ρ,s.ext' e',w⟩
 |some (.ok false),w=>exact λH' F' e'=>⟨F',ρ,s.ext' e',w⟩
 |some (.ex n),w=>exact λF' H' e'=>w F' H' (s.ext.trans e')
def lH{pos' HC:Pos}(hN:X.N.Nodup)(hi:X.N[i]? =some x)(hx:Loc X.env.scope x)(hf:X.fn x=true\/X.env.scope.names.lookup x=some .local:=by first | exact .inl rfl | exact .inr rfl):
 gj X Xw (.Assign [.Name x pos'] (.List [] HC) pos) (zo i):=λt0 abJ=>PS.weak (mD (EJ uw) (aQ hN hi hx hf) rfl) λD σ H ⟨F,ρ,s,w⟩=>by
 refine⟨U3 _,λp hp=>?_⟩;exact w _ F _ (s.setNew hp ⟨[],rfl,rfl,U3 _⟩)
def CO(K:UJ)(g:TG)(put:D->bC->Option bC):Prop:=∀(t0 abJ F H:Hp) (σ:St) (ρ ρ':bC) (d:D) (v:V) (Q:St->Hp->Prop),StOk K t0 abJ F H σ ρ->Den K F d v->put d ρ=some ρ'->
 (∀σ',StOk K t0 abJ F H σ' ρ'->Q σ' H)->g v σ H Q
def bA{K:UJ}{i:Nat}:CO K (jL i) (putN i):=λt0 abJ F H σ ρ ρ' d v Q s q e k=>by
 cases e;exact k _ (s.set q)
def T9(K:UJ)(Xw:Nat->Hp->Prop)(τ:DS):TS:=λD σ H=>∃t0 abJ,tS K Xw t0 abJ τ D σ H
def PSDs.ex{body:List Stmt}(h:PSDs X Xw body τ):PSs X body (T9 X.K Xw τ):=λf8 s σ H D I ⟨t0,abJ,w⟩=>h t0 abJ f8 s σ H D I w
def bS{tg iter:Expr}{body:List Stmt}(hp:aaz (model X.prog X.w) X.A X.env X.xe)(hc:X.calm=true)(hi:vi X Xw tg iter δi)(hg:PG X tg g)(P8:CO X.K g put)(hb:PSDs X Xw body τ)
 (hs:∀x,WN iter X.env x=pure x:=by intro _;rfl):gj X Xw (.For tg iter body [] pos) (d5 put δi τ):=λt0 abJ=>PS.weak (zg hp hc hi hg hb.ex hs) λD σ H ⟨F,ρ,s,w⟩=>by
 refine⟨F,ρ,s.st,?_⟩;unfold d5 at w
 match δi ρ,w with
 |none,w=>exact w
 |some (.ex n),w=>exact λF' H' e'=>w F' H' (s.ext.trans e')
 |some (.ok ds),w=>
  have w:WPS X.K Xw t0 abJ (forL put τ ds ρ) D:=w;intro J H1 F1 e1 RP;obtain⟨s1,back⟩:=(s.ext' e1).rebase;have hU:=BK (s.ext' e1);generalize join F1 abJ=U at s1 back hU;refine⟨λi m σ H=>m=ds.length - i/\i<=ds.length/\∃F ρ,StOk X.K F1 U F H σ ρ/\WPS X.K Xw t0 abJ (forL put τ (ds.drop i) ρ) D,⟨ds.length,by simp,U3 _,F1,ρ,s1,by simpa using w⟩,?_⟩;rintro i m σ2 H2 ⟨rfl,MB,F2,ρ2,s2,w2⟩;by_cases cI:i<ds.length
  ·obtain⟨d,hd⟩:∃d,ds[i]? =some d:=⟨_,Us cI⟩
   obtain⟨Gs,tN⟩:=(RP F2 H2 i s2.ext.ff s2.st.fh).1 d hd;have ed:ds.drop i=d::ds.drop (i+1):=by
    obtain⟨hi,e⟩:=UA.mp hd;rw[Wx hi,e]
   rw[ed] at w2;unfold forL at w2;refine .inr ⟨Gs,λσ' H'=>∃F' ρ',StOk X.K F1 U F' H' σ' ρ'/\WPS X.K Xw t0 abJ (forL put τ (ds.drop (i+1)) ρ') D,λσ' H' ⟨F',ρ',h2,h3⟩=>⟨ds.length - (i+1),by omega,rfl,cI,F',ρ',h2,h3⟩,λx H3 y3=>?_⟩;obtain⟨F3,pf,q3⟩:=tN x H3 y3
   match Th:put d ρ2,w2 with
   |none,w2=>exact w2.elim
   |some ρ3,w2=>
    refine P8 F1 U F3 H3 σ2 ρ2 ρ3 d x _ (s2.ext' pf) q3 Th λσ3 s3=>⟨F1,U,F3,ρ3,s3,?_⟩
    have w2:WPS X.K Xw t0 abJ (τ ρ3>>=λo=>match o with | .nx ρ2=>forL put τ (ds.drop (i+1)) ρ2 | .rt v=>aa (.rt v)) D:=w2
    match τ ρ3,w2 with
    |none,w2=>exact w2
    |some (.ok (.nx ρ')),w2=>exact λσ' F' H' s'=>⟨F',ρ',s',w2⟩
    |some (.ok (.rt d)),w2=>exact λv F' H' e q=>w2 v F' H' (back _ _ e) q
    |some (.ex n),w2=>exact λF' H' e=>w2 F' H' (back _ _ e)
  ·have hi:i=ds.length:=by omega
   subst hi;rw[XH] at w2;exact .inl ⟨(RP F2 H2 ds.length s2.ext.ff s2.st.fh).2 (UB _),w2 σ2 F2 H2 (s2.unbase back hU)⟩
end
def gI(f:Int->Int->D):D->D->M D
 | .int i, .int j=>aa (f i j)
 |_,_=>af
def Mg(c:Int->Int->Bool)(f:Int->Int->D):D->D->M D
 | .int i, .int j=>if c i j then aa (f i j) else af
 |_,_=>af
def w6{K:UJ}{gd:Int->Int->D}(h:∀F i j,Den K F (gd i j) (gv i j)):vp K (CM gv) (gI gd):=λXw F H x y dx dy Q s hx hy w=>by
 unfold gI at w;split at w
 ·rename_i i j;exact⟨i,j,hx,hy,WP.now w s (h F i j)⟩
 ·exact w.elim
def y_{K:UJ}{C:Int->Int->Prop}(h:∀F i j,Den K F (gd i j) (gv i j))(hc:∀i j,c i j=true->C i j):vp K (rI C gv) (Mg c gd):=λXw F H x y dx dy Q s hx hy w=>by
 unfold Mg at w;split at w
 ·rename_i i j;split at w
  ·rename_i LI;exact⟨i,j,hx,hy,hc i j LI,WP.now w s (h F i j)⟩
  ·exact w.elim
 ·exact w.elim
def dU:=gI λi j=> .int (i+j)
def yA:=gI λi j=> .int (i - j)
def iG:=Mg (λi j=>decide ((-(2 ^ 64)<i/\i<2 ^ 64)\/(-(2 ^ 64)<j/\j<2 ^ 64))) λi j=> .int (i*j)
def qW:=Mg (λ_ j=>decide (0<j/\j<1073741824)) λi j=> .int (i / j)
def kM:=Mg (λ_ j=>decide (0<j)) λi j=> .int (i % j)
def Pc:=gI λi j=> .bl (decide (i<j))
def Rk:=gI λi j=> .bl (decide (j<i))
section
variable{X:Cx}{Xw:Nat->Hp->Prop}{a b:Expr}{δa δb:DE}{pos:Pos}
def cJ(ha:PD X Xw a δa)(hb:PD X Xw b δb):PD X Xw (.BinOp a .Add b pos) (d2 dU δa δb):=sH Kx (w6 λ_ _ _=>rfl) ha hb
def uB(ha:PD X Xw a δa)(hb:PD X Xw b δb):PD X Xw (.BinOp a .Sub b pos) (d2 yA δa δb):=sH KC (w6 λ_ _ _=>rfl) ha hb
def iZ(ha:PD X Xw a δa)(hb:PD X Xw b δb):PD X Xw (.BinOp a .Mult b pos) (d2 iG δa δb):=sH Kz (y_ (λ_ _ _=>rfl) λi j h=>by unfold CMul;exact abC h) ha hb
def uy(ha:PD X Xw a δa)(hb:PD X Xw b δb):PD X Xw (.BinOp a .FloorDiv b pos) (d2 qW δa δb):=sH G4 (y_ (λ_ _ _=>rfl) λi j h=>by unfold LU;exact abC h) ha hb
def mz(ha:PD X Xw a δa)(hb:PD X Xw b δb):PD X Xw (.BinOp a .Mod b pos) (d2 kM δa δb):=sH Ky (y_ (λ_ _ _=>rfl) λi j h=>abC h) ha hb
def NI(ha:PD X Xw a δa)(hb:PD X Xw b δb):oP X Xw (.Compare a [.Lt] [b] pos) (eO (d2 Pc δa δb)):=e7 IS (w6 λ_ _ _=>rfl) ha hb
def NH(ha:PD X Xw a δa)(hb:PD X Xw b δb):oP X Xw (.Compare a [.Gt] [b] pos) (eO (d2 Rk δa δb)):=e7 Nz (w6 λ_ _ _=>rfl) ha hb
def dg:D->D->M D
 | .lst ds, .int i=>match atI ds i with | some d=>aa d | none=>af
 |_,_=>af
def dD:D->D->M D
 | .tup ds, .int i=>match atI ds i with | some d=>aa d | none=>af
 |_,_=>af
def Du:D->D->M D
 | .scr ns, .int i=>match atI ns i with | some n=>aa (.int n) | none=>af
 |_,_=>af
def v3:D->D->M D
 | .str x, .int i=>match atI x.cps.toList i with | some c=>aa (.str ⟨#[c]⟩) | none=>af
 |_,_=>af
def DenL.atI{K:UJ}(h:DenL K F ds vs){d:D}(e:L2.atI ds i=some d):∃v,L2.atI vs i=some v/\Den K F d v:=by
 unfold L2.atI at e⊢;rw[<-h.len];cases q:Kf ds.length i with
 |none=>rw[q] at e;cases e
 |some j=>
  rw[q] at e;exact h.get e
def G6{K:UJ}:vp K (Lb K) dg:=λXw F H x y dx dy Q s hx hy w=>by
 unfold dg at w;split at w
 ·rename_i ds i;obtain⟨a,vs,h1,h2,h3,h4⟩:=hx;split at w
  ·rename_i d e;obtain⟨v,e1,q⟩:=h3.atI e;exact⟨a,vs,i,v,h1,hy,SqL.of (s _ _ h2),e1,WP.now w s q⟩
  ·exact w.elim
 ·exact w.elim
def G9{K:UJ}:vp K (NR K) dD:=λXw F H x y dx dy Q s hx hy w=>by
 unfold dD at w;split at w
 ·rename_i ds i;obtain⟨a,vs,h1,h2,h3,h4⟩:=hx;split at w
  ·rename_i d e;obtain⟨v,e1,q⟩:=h3.atI e;exact⟨a,vs,i,v,h1,hy,SqT.of (s _ _ h2),e1,WP.now w s q⟩
  ·exact w.elim
 ·exact w.elim
def G7{K:UJ}:vp K (Lb K) Du:=λXw F H x y dx dy Q s hx hy w=>by
 unfold Du at w;split at w
 ·rename_i ns i;obtain⟨a,h1,h2,h3⟩:=hx;split at w
  ·rename_i n e;refine⟨a,_,i, .int n,h1,hy,Same.seq s h2,?_,WP.now w s rfl⟩;unfold L2.atI at e⊢;rw[Ur];cases q:Kf ns.length i with
   |none=>rw[q] at e;cases e
   |some j=>
    rw[q] at e;have e:ns[j]? =some n:=e;show (ns.map V.int)[j]? =some (.int n);rw[UG,e];rfl
  ·exact w.elim
 ·exact w.elim
def G8{K:UJ}:vp K NQ v3:=λXw F H x y dx dy Q s hx hy w=>by
 unfold v3 at w;split at w
 ·rename_i z i;obtain⟨h1,h2⟩:=hx;split at w
  ·rename_i c e;exact⟨z,i,c,h1,hy,by have:=cR;omega,e,WP.now w s ⟨rfl,by show 1<=lim;decide⟩⟩
  ·exact w.elim
 ·exact w.elim
def cK(ha:PD X Xw a δa)(hb:PD X Xw b δb)(hs:js b:=by intro _ _;rfl):PD X Xw (.Subscript a b pos) (d2 dg δa δb):=AK Aq G6 ha hb hs
def KI(ha:PD X Xw a δa)(hb:PD X Xw b δb)(hs:js b:=by intro _ _;rfl):PD X Xw (.Subscript a b pos) (d2 Du δa δb):=AK Aq G7 ha hb hs
def dY(ha:PD X Xw a δa)(hb:PD X Xw b δb)(hs:js b:=by intro _ _;rfl):PD X Xw (.Subscript a b pos) (d2 dD δa δb):=AK Ki G9 ha hb hs
def Ey(ha:PD X Xw a δa)(hb:PD X Xw b δb)(hs:js b:=by intro _ _;rfl):PD X Xw (.Subscript a b pos) (d2 v3 δa δb):=AK Kh G8 ha hb hs
def ji(x y:Str):(x++y).length=x.length+y.length:=by
 show (x.cps++y.cps).size=_;simp[Str.length]
end
end L3
namespace L3
open PySem PySem.Spec L2 SeqAt
open PyProof.Rows hiding St
def nT(f:D->D->Option Bool):List D->List D->Option Bool
 |[],[]=>some true
 |x::xs,y::ys=>match f x y,nT f xs ys with
  |some b,some r=>some (b&&r)
  |_,_=>none
 |[],_::_=>some false
 |_::_,[]=>some false
def yr:D->D->Option Bool
 | .non, .non=>some true
 | .bl a, .bl b=>some (a==b)
 | .bl a, .int j=>some ((if a then 1 else 0)==j)
 | .int i, .bl b=>some (i==(if b then 1 else 0))
 | .int i, .int j=>some (i==j)
 | .str x, .str y=>some (x==y)
 | .non, .bl _=>some false
 | .non, .int _=>some false
 | .non, .str _=>some false
 | .non, .lst _=>some false
 | .non, .tup _=>some false
 | .bl _, .non=>some false
 | .bl _, .str _=>some false
 | .bl _, .lst _=>some false
 | .bl _, .tup _=>some false
 | .int _, .non=>some false
 | .int _, .str _=>some false
 | .int _, .lst _=>some false
 | .int _, .tup _=>some false
 | .str _, .non=>some false
 | .str _, .bl _=>some false
 | .str _, .int _=>some false
 | .str _, .lst _=>some false
 | .str _, .tup _=>some false
 | .lst _, .non=>some false
 | .lst _, .bl _=>some false
 | .lst _, .int _=>some false
 | .lst _, .str _=>some false
 | .lst _, .tup _=>some false
 | .tup _, .non=>some false
 | .tup _, .bl _=>some false
 | .tup _, .int _=>some false
 | .tup _, .str _=>some false
 | .tup _, .lst _=>some false
 |_,_=>none
def jH:Nat->D->D->Option Bool
 |n+1, .tup xs, .tup ys=>nT (jH n) xs ys
 |n+1, .lst xs, .lst ys=>nT (jH n) xs ys
 |n+1, .scr xs, .lst ys=>nT (jH n) (xs.map D.int) ys
 |_,x,y=>yr x y
structure EqAll (A:Vw) (s:Ux) (u v:Value) (b:Bool):Prop where
 rc:RcAt A s u v b
 ne:RcNeAt A s u v (!b)
 eq:EqAt A s u v b
section
variable{X:Cx}{f8:List (Addr×Obj)}{σ:St}{F H:Hp}{s:Ux}{A:Vw}
def u9(I:Inv X f8 σ H s)(hs:Same F H)(h:Den X.K F (.tup ds) v)(r:RelV v u):∃a vs aD,u= .ref a/\v= .ref a/\F a=some (.tup vs)/\DenL X.K F ds vs/\Vals vs aD/\s.heap.IsTuple a aD.toArray:=by
 obtain⟨a,vs,rfl,h2,h3,h4⟩:=h;obtain⟨aD,r1,p1,_⟩:=I.tuple (SqT.of (hs _ _ h2));exact⟨a,vs,aD,r,rfl,h2,h3,r1,p1⟩
def pN(I:Inv X f8 σ H s)(hs:Same F H)(h:Den X.K F (.lst ds) v)(r:RelV v u):∃a vs aD,u= .ref a/\v= .ref a/\F a=some (.lst vs)/\DenL X.K F ds vs/\Vals vs aD/\s.heap.IsList a aD.toArray:=by
 obtain⟨a,vs,rfl,h2,h3,h4⟩:=h;obtain⟨aD,r1,p1,_⟩:=I.list (SqL.of (hs _ _ h2));exact⟨a,vs,aD,r,rfl,h2,h3,r1,p1.isList⟩
def Lf(I:Inv X f8 σ H s)(hs:Same F H)(h:Den X.K F (.scr ns) v)(r:RelV v u):∃a aD,u= .ref a/\v= .ref a/\SqL X.K F a (ns.map V.int)/\Vals (ns.map V.int) aD/\s.heap.IsList a aD.toArray:=by
 obtain⟨a,rfl,h2,h3⟩:=h;obtain⟨aD,r1,p1,_⟩:=I.list (Same.seq hs h2);exact⟨a,aD,r,rfl,h2,r1,p1.isList⟩
def vU(I:Inv X f8 σ H s)(hs:Same F H)(hu:A.units<cLine)(hx:Den X.K F x v)(hy:Den X.K F y w)(rx:RelV v u)(ry:RelV w t)(e:yr x y=some b):EqAll A s u t b:=by
 cases x<;>cases y<;>cases e<;>(first | (cases (show _=V.non from hx);cases rx) | (cases (show _=V.bl _ from hx);cases rx) | (cases (show _=V.int _ from hx);obtain⟨_,rfl⟩:=rx) | (cases (show _=V.str _ from hx.1);obtain⟨_,rfl⟩:=rx) | (have q:=u9 I hs hx rx;obtain⟨_,_,_,rfl,_,_,_,_,p1⟩:=q) | (have q:=pN I hs hx rx;obtain⟨_,_,_,rfl,_,_,_,_,p1⟩:=q))<;>(first | (cases (show _=V.non from hy);cases ry) | (cases (show _=V.bl _ from hy);cases ry) | (cases (show _=V.int _ from hy);obtain⟨_,rfl⟩:=ry) | (cases (show _=V.str _ from hy.1);obtain⟨_,rfl⟩:=ry) | (have q:=u9 I hs hy ry;obtain⟨_,_,_,rfl,_,_,_,_,p2⟩:=q) | (have q:=pN I hs hy ry;obtain⟨_,_,_,rfl,_,_,_,_,p2⟩:=q))
 ·exact⟨RcAt.none_none,RcNeAt.none_none,EqAt.same _⟩
 ·exact⟨RcAt.none_bool _,RcNeAt.none_bool _,EqAt.none_bool _⟩
 ·exact⟨RcAt.none_int _ _,RcNeAt.none_int _ _,EqAt.none_int _ _⟩
 ·exact⟨RcAt.none_str _ _,RcNeAt.none_str _ _,EqAt.none_str _ _⟩
 ·exact⟨RcAt.none_tuple p2 hu,RcNeAt.none_tuple p2 hu,EqAt.none_tuple p2 hu⟩
 ·exact⟨RcAt.none_list p2 hu,RcNeAt.none_list p2 hu,EqAt.none_list p2 hu⟩
 ·exact⟨RcAt.bool_none _,RcNeAt.bool_none _,EqAt.bool_none _⟩
 ·exact⟨RcAt.bool_bool _ _,RcNeAt.bool_bool _ _,EqAt.bool_bool _ _⟩
 ·exact⟨RcAt.bool_int _ _ _,RcNeAt.bool_int _ _ _,EqAt.bool_int _ _ _⟩
 ·exact⟨RcAt.bool_str _ _ _,RcNeAt.bool_str _ _ _,EqAt.bool_str _ _ _⟩
 ·exact⟨RcAt.bool_tuple _ p2 hu,RcNeAt.bool_tuple _ p2 hu,EqAt.bool_tuple _ p2 hu⟩
 ·exact⟨RcAt.bool_list _ p2 hu,RcNeAt.bool_list _ p2 hu,EqAt.bool_list _ p2 hu⟩
 ·exact⟨RcAt.int_none _ _,RcNeAt.int_none _ _,EqAt.int_none _ _⟩
 ·exact⟨RcAt.int_bool _ _ _,RcNeAt.int_bool _ _ _,EqAt.int_bool _ _ _⟩
 ·exact⟨RcAt.int_int _ _ _ _,RcNeAt.int_int _ _ _ _,EqAt.int_int _ _ _ _⟩
 ·exact⟨RcAt.int_str _ _ _ _,RcNeAt.int_str _ _ _ _,EqAt.int_str _ _ _ _⟩
 ·exact⟨RcAt.int_tuple _ _ p2 hu,RcNeAt.int_tuple _ _ p2 hu,EqAt.int_tuple _ _ p2 hu⟩
 ·exact⟨RcAt.int_list _ _ p2 hu,RcNeAt.int_list _ _ p2 hu,EqAt.int_list _ _ p2 hu⟩
 ·exact⟨RcAt.str_none _ _,RcNeAt.str_none _ _,EqAt.str_none _ _⟩
 ·exact⟨RcAt.str_bool _ _ _,RcNeAt.str_bool _ _ _,EqAt.str_bool _ _ _⟩
 ·exact⟨RcAt.str_int _ _ _ _,RcNeAt.str_int _ _ _ _,EqAt.str_int _ _ _ _⟩
 ·exact⟨RcAt.str_str _ _ _ _,RcNeAt.str_str _ _ _ _,EqAt.str_str _ _ _ _⟩
 ·exact⟨RcAt.str_tuple _ _ p2 hu,RcNeAt.str_tuple _ _ p2 hu,EqAt.str_tuple _ _ p2 hu⟩
 ·exact⟨RcAt.str_list _ _ p2 hu,RcNeAt.str_list _ _ p2 hu,EqAt.str_list _ _ p2 hu⟩
 ·exact⟨RcAt.tuple_none p1 hu,RcNeAt.tuple_none p1 hu,EqAt.tuple_none p1 hu⟩
 ·exact⟨RcAt.tuple_bool _ p1 hu,RcNeAt.tuple_bool _ p1 hu,EqAt.tuple_bool _ p1 hu⟩
 ·exact⟨RcAt.tuple_int _ _ p1 hu,RcNeAt.tuple_int _ _ p1 hu,EqAt.tuple_int _ _ p1 hu⟩
 ·exact⟨RcAt.tuple_str _ _ p1 hu,RcNeAt.tuple_str _ _ p1 hu,EqAt.tuple_str _ _ p1 hu⟩
 ·exact⟨RcAt.tuple_list p1 p2 hu,RcNeAt.tuple_list p1 p2 hu,EqAt.tuple_list p1 p2 hu⟩
 ·exact⟨RcAt.list_none p1 hu,RcNeAt.list_none p1 hu,EqAt.list_none p1 hu⟩
 ·exact⟨RcAt.list_bool _ p1 hu,RcNeAt.list_bool _ p1 hu,EqAt.list_bool _ p1 hu⟩
 ·exact⟨RcAt.list_int _ _ p1 hu,RcNeAt.list_int _ _ p1 hu,EqAt.list_int _ _ p1 hu⟩
 ·exact⟨RcAt.list_str _ _ p1 hu,RcNeAt.list_str _ _ p1 hu,EqAt.list_str _ _ p1 hu⟩
 ·exact⟨RcAt.list_tuple p1 p2 hu,RcNeAt.list_tuple p1 p2 hu,EqAt.list_tuple p1 p2 hu⟩
end
def ev(f:D->D->Option Bool)(xs ys:List D)(j:Nat):Bool:=match xs[j]?,ys[j]? with
 |some x,some y=>(f x y).getD false
 |_,_=>false
def vS:∀{xs ys:List D}{b:Bool},nT f xs ys=some b->∀(j:Nat) (x y:D),xs[j]? =some x->ys[j]? =some y->∃c,f x y=some c
 |[],_,_,_,_,_,_,h,_=>by simp at h
 |_::_,[],_,_,_,_,_,_,h=>by simp at h
 |x::xs,y::ys,b,e,j,x',y',hx,hy=>by
  unfold nT at e;split at e
  ·rename_i b1 r1 e1 e2;cases j with
   |zero=>simp at hx hy;subst hx hy;exact⟨_,e1⟩
   |succ j=>exact vS e2 j x' y' (by simpa using hx) (by simpa using hy)
  ·cases e
def tG:∀{xs ys:List D}{b:Bool},nT f xs ys=some b->b=((UH (min xs.length ys.length)).all (ev f xs ys)&&xs.length==ys.length)
 |[],[],_,e=>by cases e;rfl
 |[],_::_,_,e=>by cases e;simp
 |_::_,[],_,e=>by cases e;simp
 |x::xs,y::ys,b,e=>by
  unfold nT at e;split at e
  ·rename_i b1 r1 e1 e2;cases e;have h:=tG e2;rw[UI,UI,Nat.succ_min_succ,aaA,XR,XD];have e0:ev f (x::xs) (y::ys) 0=b1:=by unfold ev;simp[e1]
   have e3:(ev f (x::xs) (y::ys)∘Nat.succ)=ev f xs ys:=by funext j;simp[ev,abx]
   have e4:(xs.length+1==ys.length+1)=(xs.length==ys.length):=by simp
   rw[e0,e3,e4,h,Bool.and_assoc]
  ·cases e
section
variable{X:Cx}{f8:List (Addr×Obj)}{σ:St}{F H:Hp}{s:Ux}
def kI(h:∀x y v b,Den X.K F x v->Den X.K F y v->f x y=some b->b=true):∀{xs ys:List D}{vs:List V}{b:Bool},DenL X.K F xs vs->DenL X.K F ys vs->nT f xs ys=some b->b=true
 |[],[],_,_,_,_,e=>by cases e;rfl
 |[],_::_,_,_,h1,h2,_=>by
  cases (show _=_ from h1);obtain⟨v,r,z,_⟩:=h2;cases z
 |_::_,[],_,_,h1,h2,_=>by
  cases (show _=_ from h2);obtain⟨v,r,z,_⟩:=h1;cases z
 |x::xs,y::ys,_,b,⟨v,r,e1,q1,q2⟩,⟨v',r',e2,q3,q4⟩,e=>by
  subst e1;cases e2;unfold nT at e;split at e
  ·rename_i b1 r1 f1 f2;cases e;rw[h x y v b1 q1 q3 f1,kI h q2 q4 f2];rfl
  ·cases e
def r0(hx:Den X.K F x v)(hy:Den X.K F y v)(e:yr x y=some b):b=true:=by
 cases x<;>cases y<;>first
  |(cases e;done)
  |(cases e;cases (show _=_ from hx);cases (show _=_ from hy);first | rfl | simp)
  |(cases e;cases (show _=_ from hx.1);cases (show _=_ from hy.1);simp)
  |(cases e;cases (show _=_ from hx);cases (show _=_ from hy.1))
  |(cases e;cases (show _=_ from hx.1);cases (show _=_ from hy))
  |(cases e;obtain⟨_,_,z,_⟩:=hx;subst z;cases (show _=_ from hy);done)
  |(cases e;obtain⟨_,_,z,_⟩:=hx;subst z;cases (show _=_ from hy.1);done)
  |(cases e;obtain⟨_,z,_⟩:=hx;subst z;cases (show _=_ from hy);done)
  |(cases e;obtain⟨_,z,_⟩:=hx;subst z;cases (show _=_ from hy.1);done)
  |(cases e;obtain⟨_,_,z,_⟩:=hy;subst z;cases (show _=_ from hx);done)
  |(cases e;obtain⟨_,_,z,_⟩:=hy;subst z;cases (show _=_ from hx.1);done)
  |(cases e;obtain⟨_,z,_⟩:=hy;subst z;cases (show _=_ from hx);done)
  |(cases e;obtain⟨_,z,_⟩:=hy;subst z;cases (show _=_ from hx.1);done)
  |(cases e;obtain⟨_,_,z,h2,_⟩:=hx;obtain⟨_,_,z',JG,_⟩:=hy;subst z;cases z';rw[h2] at JG;cases JG;done)
  |(cases e;cases (show _=_ from hx);cases (show _=_ from hy);done)
  |(cases e;cases (show _=_ from hx.1);cases (show _=_ from hy.1);done)
def kH(I:Inv X f8 σ H s)(hs:Same F H):∀(n:Nat) (x y:D) (v:V) (b:Bool),Den X.K F x v->Den X.K F y v->jH n x y=some b->b=true
 |0,x,y,v,b,hx,hy,e=>r0 hx hy (by unfold jH at e;exact e)
 |n+1,x,y,v,b,hx,hy,e=>by
  unfold jH at e;split at e
  ·rename_i xs ys _;obtain⟨a,vs,rfl,h2,h3,_⟩:=hx;obtain⟨a',gO,z,k2,k3,_⟩:=hy;cases z;rw[h2] at k2;cases k2;exact kI (kH I hs _) h3 k3 (by simpa using e)
  ·rename_i xs ys _;obtain⟨a,vs,rfl,h2,h3,_⟩:=hx;obtain⟨a',gO,z,k2,k3,_⟩:=hy;cases z;rw[h2] at k2;cases k2;exact kI (kH I hs _) h3 k3 (by simpa using e)
  ·rename_i xs ys _;obtain⟨a,rfl,h2,_⟩:=hx;obtain⟨a',gO,z,k2,k3,_⟩:=hy;cases z;have hv:=I.list_inj (Same.seq hs h2) (SqL.of (hs _ _ k2));rw[<-hv] at k3;exact kI (kH I hs _) (DenL.ints xs) k3 (by simpa using e)
  ·exact r0 hx hy e
def Vals.at(r:Vals vs aD)(h:j<aD.toArray.size):∃v,vs[j]? =some v/\RelV v aD.toArray[j]:=by
 have hl:=r.length;have hj:j<vs.length:=by rw[UK] at h;omega
 obtain⟨u,e1,e2⟩:=r.get (Us hj);refine⟨vs[j],Us hj,?_⟩;have:aD.toArray[j]=u:=by
  have:=(UA.mp e1).2;simpa using this
 rw[this];exact e2
def og(h1:DenL X.K F xs vs)(h2:DenL X.K F ys ws)(r1:Vals vs aD)(r2:Vals ws iI)(e:nT f xs ys=some b)
 (ih:∀x y v w u t c,Den X.K F x v->Den X.K F y w->RelV v u->RelV w t->f x y=some c->EqAt A s u t c):
 ∀j (k1:j<aD.toArray.size) (k2:j<iI.toArray.size),EqAt A s aD.toArray[j] iI.toArray[j] (ev f xs ys j):=λj k1 k2=>by
 obtain⟨v,e1,q1⟩:=Vals.at r1 k1;obtain⟨w,e2,q2⟩:=Vals.at r2 k2;obtain⟨x,e3,q3⟩:=h1.at e1;obtain⟨y,e4,q4⟩:=h2.at e2;obtain⟨c,hc⟩:=vS e j x y e3 e4;have:ev f xs ys j=c:=by unfold ev;rw[e3,e4];simp[hc]
 rw[this];exact ih x y v w _ _ c q3 q4 q1 q2 hc
def sv(hu:A.units<cLine)(h1:DenL X.K F xs vs)(h2:DenL X.K F ys ws)(r1:Vals vs aD)(r2:Vals ws iI)
 (p1:s.heap.IsList a aD.toArray)(p2:s.heap.IsList a' iI.toArray)(e:nT f xs ys=some b)(hr:a=a'->b=true)
 (ih:∀x y v w u t c,Den X.K F x v->Den X.K F y w->RelV v u->RelV w t->f x y=some c->EqAt A.in1 s u t c):EqAll A s (.ref a) (.ref a') b:=by
 have l1:=h1.len;have l2:=h2.len;have l3:=r1.length;have l4:=r2.length;have hv:=tG e;have core:RcAt A s (.ref a) (.ref a') b/\RcNeAt A s (.ref a) (.ref a') (!b):=by
  by_cases hl:xs.length=ys.length
  ·have hsz:aD.toArray.size=iI.toArray.size:=by rw[UK,UK];omega
   have hb:b=(UH aD.toArray.size).all (ev f xs ys):=by
    rw[hv,hl,aaP,beq_self_eq_true,Bool.and_true];congr 2;rw[UK];omega
   rw[hb];exact⟨RcAt.lists p1 p2 hsz hu (og h1 h2 r1 r2 e ih),RcNeAt.lists p1 p2 hsz hu (og h1 h2 r1 r2 e ih)⟩
  ·have hb:b=false:=by rw[hv,show (xs.length==ys.length)=false from by simpa using hl,Bool.and_false]
   have hsz:(aD.toArray.size !=iI.toArray.size)=true:=by
    rw[UK,UK];simp;omega
   rw[hb];exact⟨RcAt.lists_lengths p1 p2 hsz hu,RcNeAt.lists_lengths p1 p2 hsz hu⟩
 refine⟨core.1,core.2,?_⟩;by_cases hq:a=a'
 ·rw[hr hq];subst hq;exact EqAt.same _
 ·exact EqAt.of_refs hq core.1
def zy(hu:A.units<cLine)(h1:DenL X.K F xs vs)(h2:DenL X.K F ys ws)(r1:Vals vs aD)(r2:Vals ws iI)
 (p1:s.heap.IsTuple a aD.toArray)(p2:s.heap.IsTuple a' iI.toArray)(e:nT f xs ys=some b)(hr:a=a'->b=true)
 (ih:∀x y v w u t c,Den X.K F x v->Den X.K F y w->RelV v u->RelV w t->f x y=some c->EqAt A.in1 s u t c):EqAll A s (.ref a) (.ref a') b:=by
 have l1:=h1.len;have l2:=h2.len;have l3:=r1.length;have l4:=r2.length;have hb:b=((UH (min aD.toArray.size iI.toArray.size)).all (ev f xs ys)&&aD.toArray.size==iI.toArray.size):=by
  rw[tG e,UK,UK,<-l3,<-l4,<-l1,<-l2]
 have core:RcAt A s (.ref a) (.ref a') b/\RcNeAt A s (.ref a) (.ref a') (!b):=by
  rw[hb];exact⟨RcAt.tuples p1 p2 hu (og h1 h2 r1 r2 e ih),RcNeAt.tuples p1 p2 hu (og h1 h2 r1 r2 e ih)⟩
 refine⟨core.1,core.2,?_⟩;by_cases hq:a=a'
 ·rw[hr hq];subst hq;exact EqAt.same _
 ·exact EqAt.of_refs hq core.1
def pe(I:Inv X f8 σ H s)(hs:Same F H):∀(n:Nat) (A:Vw) (x y:D) (v w:V) (u t:Value) (b:Bool),A.units+n<cLine->Den X.K F x v->Den X.K F y w->RelV v u->RelV w t->jH n x y=some b->EqAll A s u t b
 |0,A,x,y,v,w,u,t,b,hu,hx,hy,rx,ry,e=>vU I hs (by omega) hx hy rx ry (by unfold jH at e;exact e)
 |n+1,A,x,y,v,w,u,t,b,hu,hx,hy,rx,ry,e=>by
  have OH:A.units<cLine:=by omega
  have Tu:A.in1.units+n<cLine:=by show A.units+1+n<cLine;omega
  have hrefl:=kH I hs (n+1) x y;have ih:∀x y v w u t c,Den X.K F x v->Den X.K F y w->RelV v u->RelV w t->jH n x y=some c->EqAt A.in1 s u t c:=λx y v w u t c q1 q2 q3 q4 q5=>(pe I hs n A.in1 x y v w u t c Tu q1 q2 q3 q4 q5).eq;have e0:=e;unfold jH at e;split at e
  ·rename_i xs ys heq;cases heq;obtain⟨a,vs,aD,rfl,Ma,h2,h3,r1,p1⟩:=u9 I hs hx rx;obtain⟨a',gO,its',rfl,Mb,k2,k3,NK,NB⟩:=u9 I hs hy ry;exact zy OH h3 k3 r1 NK p1 NB e (λz=>by subst z;exact hrefl v b hx (by rw[Ma,<-Mb];exact hy) e0) ih
  ·rename_i xs ys heq;cases heq;obtain⟨a,vs,aD,rfl,Ma,h2,h3,r1,p1⟩:=pN I hs hx rx;obtain⟨a',gO,its',rfl,Mb,k2,k3,NK,NB⟩:=pN I hs hy ry;exact sv OH h3 k3 r1 NK p1 NB e (λz=>by subst z;exact hrefl v b hx (by rw[Ma,<-Mb];exact hy) e0) ih
  ·rename_i xs ys heq;cases heq;obtain⟨a,aD,rfl,Ma,h2,r1,p1⟩:=Lf I hs hx rx;obtain⟨a',gO,its',rfl,Mb,k2,k3,NK,NB⟩:=pN I hs hy ry;exact sv OH (DenL.ints _) k3 r1 NK p1 NB e (λz=>by subst z;exact hrefl v b hx (by rw[Ma,<-Mb];exact hy) e0) ih
  ·exact vU I hs OH hx hy rx ry e
end
def md(x y:D):M D:=match jH 6 x y with | some b=>aa (.bl b) | none=>af
def qX(x y:D):M D:=match jH 6 x y with | some b=>aa (.bl (!b)) | none=>af
def NM(K:UJ):R2:=λx y H Q=>∃F dx dy b,Same F H/\Den K F dx x/\Den K F dy y/\jH 6 dx dy=some b/\Q (.bl b) H
def NS(K:UJ):R2:=λx y H Q=>∃F dx dy b,Same F H/\Den K F dx x/\Den K F dy y/\jH 6 dx dy=some b/\Q (.bl (!b)) H
section
variable{X:Cx}{Xw:Nat->Hp->Prop}{a b:Expr}{δa δb:DE}{pos:Pos}
def Es(hu:X.A.units+64<cLine):OpR X (VP .Eq) (NM X.K):=by
 intro f8 s σ H x y v u Q I rx ry h;obtain⟨F,dx,dy,b,hs,hx,hy,e,q⟩:=h;exact(pe I hs 6 X.A dx dy x y v u b (by omega) hx hy rx ry e).rc _ _ _ _ ⟨.bl b,H,I,rfl,q⟩
def KA(hu:X.A.units+64<cLine):OpR X (VP .NotEq) (NS X.K):=by
 intro f8 s σ H x y v u Q I rx ry h;obtain⟨F,dx,dy,b,hs,hx,hy,e,q⟩:=h;exact(pe I hs 6 X.A dx dy x y v u b (by omega) hx hy rx ry e).ne _ _ _ _ ⟨.bl (!b),H,I,rfl,q⟩
def Et{K:UJ}:vp K (NM K) md:=λXw F H x y dx dy Q s hx hy w=>by
 unfold md at w;split at w
 ·rename_i b e;exact⟨F,dx,dy,b,s,hx,hy,e,WP.now w s rfl⟩
 ·exact w.elim
def KD{K:UJ}:vp K (NS K) qX:=λXw F H x y dx dy Q s hx hy w=>by
 unfold qX at w;split at w
 ·rename_i b e;exact⟨F,dx,dy,b,s,hx,hy,e,WP.now w s rfl⟩
 ·exact w.elim
def EU(hu:X.A.units+64<cLine)(ha:PD X Xw a δa)(hb:PD X Xw b δb):oP X Xw (.Compare a [.Eq] [b] pos) (eO (d2 md δa δb)):=e7 (Es hu) Et ha hb
def lJ(hu:X.A.units+64<cLine)(ha:PD X Xw a δa)(hb:PD X Xw b δb):oP X Xw (.Compare a [.NotEq] [b] pos) (eO (d2 qX δa δb)):=e7 (KA hu) KD ha hb
def lF(hu:X.A.units+64<cLine)(ha:PD X Xw a δa)(hb:PD X Xw b δb):PD X Xw (.Compare a [.Eq] [b] pos) (d2 md δa δb):=zc (Es hu) Et ha hb
end
def PDW(X:Cx)(Xw:Nat->Hp->Prop)(e:Expr)(δ:DT):Prop:=PW X e (OR X.K Xw δ)
def PW.weak(h:PW X e t)(k:∀σ H Q,t' σ H Q->t σ H Q):PW X e t':=λwh f8 s σ H Q I w=>h wh f8 s σ H Q I (k σ H Q w)
section
variable{X:Cx}{Xw:Nat->Hp->Prop}{a b c:Expr}{rest:List Expr}{δa δb δc:DE}{τa τb:DT}{pos:Pos}
def g0(ha:oP X Xw a τa):PDW X Xw (.BoolOp .Or [a] pos) τa:=K_ ha
def ki(ha:oP X Xw a τa)(hb:PDW X Xw (.BoolOp .Or (b::rest) pos) τb):PDW X Xw (.BoolOp .Or (a::b::rest) pos) (vH τa τb):=PW.weak (NJ ha hb) λσ H Q ⟨F,ρ,s,w⟩=>by
 refine⟨F,ρ,s,WPB.mono (WPB.bindB w) λv H1 ⟨F1,e1,w1⟩=>?_⟩;cases v with
 |false=>exact⟨F1,ρ,s.ext e1,w1⟩
 |true=>exact w1 _ _ (Ext.refl e1.fh)
def PDW.t(h:PDW X Xw a τa):oP X Xw a τa:=PW.pt h
def eY(ha:oP X Xw a τa):oP X Xw (.UnaryOp .Not a pos) (fm τa):=PT.weak (K8 ha) λσ H Q ⟨F,ρ,s,w⟩=>
 ⟨F,ρ,s,WPB.mono (WPB.bindB w) λv H1 ⟨F1,e1,w1⟩=>w1 _ _ (Ext.refl e1.fh)⟩
def Fz:D->M Bool
 | .non=>aa false
 | .bl b=>aa b
 | .lst ds=>aa (!ds.isEmpty)
 | .tup ds=>aa (!ds.isEmpty)
 |_=>af
def d8(δ:DE):DT:=λρ=>δ ρ>>=Fz
def DenL.isEmpty{K:UJ}(h:DenL K F ds vs):ds.isEmpty=vs.isEmpty:=by
 have:=h.len;cases ds<;>cases vs<;>simp_all
def eZ(ha:PD X Xw a δa)(he:∀whole,isTrue a X.env whole=(do let v<-whole;standAt a.pos;holding [v] (truthy v)):=by intro _;rfl):oP X Xw a (d8 δa):=PT.weak (EV ha he) λσ H Q ⟨F,ρ,s,w⟩=>by
 refine⟨F,ρ,s,WP.mono (WPB.bind (K:=X.K) w) λv H1 ⟨F1,d,e1,q1,w1⟩=>?_⟩;cases d with
 |non=>cases (show _=_ from q1);exact⟨false,rfl,w1 _ _ (Ext.refl e1.fh)⟩
 |bl b=>cases (show _=_ from q1);exact⟨b,rfl,w1 _ _ (Ext.refl e1.fh)⟩
 |lst ds=>
  obtain⟨a,vs,rfl,h2,h3,_⟩:=q1;exact⟨!ds.isEmpty, .inl ⟨vs,SqL.of (e1.fh _ _ h2),by rw[h3.isEmpty]⟩,w1 _ _ (Ext.refl e1.fh)⟩
 |tup ds=>
  obtain⟨a,vs,rfl,h2,h3,_⟩:=q1;exact⟨!ds.isEmpty, .inr (.inl ⟨vs,SqT.of (e1.fh _ _ h2),by rw[h3.isEmpty]⟩),w1 _ _ (Ext.refl e1.fh)⟩
 |_=>exact w1.elim
def ze(h:PD X Xw a δa):PD X Xw (.BoolOp op [a] pos) δa:=KW h
def ux(ha:PD X Xw a δa)(hb:PD X Xw (.BoolOp .And (b::rest) pos) δb):PD X Xw (.BoolOp .And (a::b::rest) pos) (fk δa δb):=PE.weak (KP ha hb) λσ H Q ⟨F,ρ,s,w⟩=>by
 refine⟨F,ρ,s,WP.mono (WP.bind w) λv H1 ⟨F1,d,e1,q1,w1⟩=>?_⟩;cases d with
 |bl k=>
  refine⟨k,q1,?_⟩;cases k with
  |true=>exact⟨F1,ρ,s.ext e1,w1⟩
  |false=>exact WP.now w1 e1.fh rfl
 |_=>exact w1.elim
def KN(ha:PD X Xw a δa):PD X Xw (.UnaryOp .Not a pos) (Io δa):=PE.weak (KU ha) λσ H Q ⟨F,ρ,s,w⟩=>by
 refine⟨F,ρ,s,WP.mono (WP.bind w) λv H1 ⟨F1,d,e1,q1,w1⟩=>?_⟩;cases d with
 |bl k=>exact⟨k,q1,WP.now w1 e1.fh rfl⟩
 |_=>exact w1.elim
def FZ(p q:Int->Int->Bool)(a b c:DE):DE:=λρ=>a ρ>>=λx=>b ρ>>=λy=>match x,y with
 | .int i, .int j=>if p i j then c ρ>>=λz=>gI (λi j=> .bl (q i j)) y z else aa (.bl false)
 |_,_=>af
def Cw{p q:Int->Int->Bool}:∀σ H Q,tD X.K Xw (FZ p q δa δb δc) σ H Q->Fp (CM λi j=> .bl (p i j)) (CM λi j=> .bl (q i j)) (tD X.K Xw δa) (tD X.K Xw δb) (tD X.K Xw δc) σ H Q:=λσ H Q ⟨F,ρ,s,w⟩=>by
 refine⟨F,ρ,s,WP.mono (WP.bind w) λv H1 ⟨F1,d,e1,q1,w1⟩=>?_⟩;refine⟨F1,ρ,s.ext e1,WP.mono (WP.bind w1) λu H2 ⟨F2,d',e2,q2,w2⟩=>?_⟩;cases d with
 |int i=>
  cases d' with
  |int j=>
   refine⟨i,j,q1,q2,p i j,rfl,?_⟩;have w2:WP X.K Xw F2 H2 (if p i j then δc ρ>>=λz=>gI (λi j=> .bl (q i j)) (.int j) z else aa (.bl false)) Q:=w2;cases hp:p i j with
   |false=>
    rw[hp] at w2;exact WP.now w2 e2.fh rfl
   |true=>
    rw[hp] at w2;refine⟨F2,ρ,(s.ext e1).ext e2,WP.mono (WP.bind w2) λu' H3 ⟨F3,Si,e3,q3,w3⟩=>?_⟩;exact w6 (gd:=λi j=> .bl (q i j)) (λ_ _ _=>rfl) Xw F3 H3 u u' (.int j) Si Q e3.fh q2 q3 w3
  |_=>exact w2.elim
 |_=>exact w2.elim
def zh(ho:OpR X (VP op) (CM λi j=> .bl (p i j)))(yd:OpR X (VP LQ) (CM λi j=> .bl (q i j)))(ha:PD X Xw a δa)(hb:PD X Xw b δb)(hc:PD X Xw c δc)
 (hm:lastMarks [op,LQ] [b,c]=false:=by with_unfolding_all rfl):oP X Xw (.Compare a [op,LQ] [b,c] pos) (eO (FZ p q δa δb δc)):=PT.weak (ET ho yd ha hb hc hm) λσ H Q ⟨F,ρ,s,w⟩=>by
 refine Cw σ H _ ⟨F,ρ,s,WP.mono (WPB.bind w) λv H1 ⟨F1,d,e1,q1,w1⟩=>?_⟩;cases d with
 |bl k=>exact⟨k,q1,w1 _ _ (Ext.refl e1.fh)⟩
 |_=>exact w1.elim
def vo(K:UJ)(r:List V->Hp->VK->Prop)(g:List D->M D):Prop:=∀(Xw:Nat->Hp->Prop) (F H:Hp) (vs:List V) (ds:List D) (Q:VK),Same F H->DenL K F ds vs->WP K Xw F H (g ds) Q->r vs H Q
variable{x:Str}{p:Pos}{e:Expr}{es:List Expr}{δs:DA}{id T:String}{r:List V->Hp->VK->Prop}{g:List D->M D}
def Fo(h:vo X.K r g):∀σ H Q,tD X.K Xw (dA g δs) σ H Q->QO r (R6 X.K Xw δs) σ H Q:=λσ H Q ⟨F,ρ,s,w⟩=>
 ⟨F,ρ,s,WPL.mono (WP.bindL w) λvs H1 ⟨F1,ds,e1,q1,w1⟩=>h Xw F1 H1 vs ds Q e1.fh q1 w1⟩
def bR(hc:CallR X (.builtin id) r)(hd:vo X.K r g)(hg:Gl X x)(hm:X.mg x=none)(hv:Vh x=some (.builtin id))(ha:kA X Xw (e::es) δs)(hn:x≠"__name__":=by decide)(tI:(x==("__debug__":Str))=false:=by decide)
 (he:US (e::es) X.env=(false,eval e X.env)::US es X.env:=by rfl)(ou:(W6 pos (US es X.env)).any (·.1)=false:=by rfl):PD X Xw (.Call (.Name x p) (e::es) [] pos) (dA g δs):=
 PE.weak (EF hc hg hm hv ha hn tI he ou) (Fo hd)
def B_(hc:CallR X (.type T) r)(hd:vo X.K r g)(hg:Gl X x)(hm:X.mg x=none)(hv:Vh x=some (.type T))(ha:kA X Xw (e::es) δs)(hn:x≠"__name__":=by decide)(tI:(x==("__debug__":Str))=false:=by decide)
 (he:US (e::es) X.env=(false,eval e X.env)::US es X.env:=by rfl)(ou:(W6 pos (US es X.env)).any (·.1)=false:=by rfl):PD X Xw (.Call (.Name x p) (e::es) [] pos) (dA g δs):=
 PE.weak (Cb hc hg hm hv ha hn tI he ou) (Fo hd)
def cF:List D->M D
 |[.lst ds]=>aa (.int ds.length)
 |[.tup ds]=>aa (.int ds.length)
 |[.str x]=>aa (.int x.length)
 |[.scr ns]=>aa (.int ns.length)
 |_=>af
def BO:vo X.K (λxs H Q=>(∃p ys,xs=[.ref p]/\(SqL X.K H p ys\/SqT X.K H p ys)/\Q (.int ys.length) H)\/∃z,xs=[.str z]/\z.length<=UR/\Q (.int z.length) H) cF:=λXw F H vs ds Q s h w=>by
 unfold cF at w;split at w
 ·obtain⟨v,rfl,h1⟩:=h.one;obtain⟨a,vs,rfl,h2,h3,_⟩:=h1;exact .inl ⟨a,vs,rfl, .inl (SqL.of (s _ _ h2)),by rw[<-h3.len];exact WP.now w s rfl⟩
 ·obtain⟨v,rfl,h1⟩:=h.one;obtain⟨a,vs,rfl,h2,h3,_⟩:=h1;exact .inl ⟨a,vs,rfl, .inr (SqT.of (s _ _ h2)),by rw[<-h3.len];exact WP.now w s rfl⟩
 ·obtain⟨v,rfl,h1⟩:=h.one;cases (show _=_ from h1.1);exact .inr ⟨_,rfl,by have:=h1.2;have:=cR;omega,WP.now w s rfl⟩
 ·obtain⟨v,rfl,h1⟩:=h.one;obtain⟨a,rfl,h2,_⟩:=h1;exact .inl ⟨a,_,rfl, .inl (Same.seq s h2),by rw[Ur];exact WP.now w s rfl⟩
 ·exact w.elim
def dF(hg:Gl X "len")(hm:X.mg "len"=none)(ha:kA X Xw [e] δs)(he:US [e] X.env=[(false,eval e X.env)]:=by rfl):PD X Xw (.Call (.Name "len" p) [e] [] pos) (dA cF δs):=
 bR (tw.or tB) BO hg hm PySem.boot_len ha (by decide) (by decide) he rfl
def CP:List D->M D
 |[.int i]=>aa (.int (if i<0 then -i else i))
 |_=>af
def wx:List D->M D
 |[.int i, .int j]=>aa (.int (if j>i then j else i))
 |_=>af
def yT:List D->M D
 |[.int i, .int j]=>aa (.int (if j<i then j else i))
 |_=>af
def Ex(hg:Gl X "abs")(hm:X.mg "abs"=none)(ha:kA X Xw [e] δs)(hb:Vh "abs"=some (.builtin "abs"))(he:US [e] X.env=[(false,eval e X.env)]:=by rfl):PD X Xw (.Call (.Name "abs" p) [e] [] pos) (dA CP δs):=
 bR C0 (λXw F H vs ds Q s h w=>by
  unfold CP at w;split at w
  ·obtain⟨v,rfl,h1⟩:=h.one;cases (show _=_ from h1);exact⟨_,rfl,WP.now w s rfl⟩
  ·exact w.elim) hg hm hb ha (by decide) (by decide) he rfl
end
def WP.xw{K:UJ}(h:WP K Xw F H m Q)(k:∀n H,Xw n H->Xw' n H):WP K Xw' F H m Q:=by
 match m,h with
 |none,h=>exact h
 |some (.ok d),h=>exact h
 |some (.ex n),h=>exact λF' H' e=>k n H' (h F' H' e)
def dj{X:Cx}{st:Stmt}(h:gj X.nox (λ_ _=>False) st τ):gj X Xw st (λρ=>noex (τ ρ)):=λt0 abJ f8 s σ H D I ⟨F,ρ,S,w⟩=>by
 have w:WPS X.K Xw t0 abJ (noex (τ ρ)) D:=w;have w':tS X.K (λ_ _=>False) t0 abJ τ D σ H:=by
  refine⟨F,ρ,S,?_⟩;rcases(τ ρ).cs with e | ⟨n,e⟩ | ⟨o,e⟩
  ·rw[e] at w;exact w.elim
  ·rw[e] at w;exact w.elim
  ·rw[e] at w⊢;cases o with
   |nx ρ'=>exact w
   |rt d=>exact w
 refine VN (h t0 abJ f8 s σ H D (I.wish _) w') (λf s' q=>SP.unwish q) λ_ _ z=>z.elim
def EX(cv:Nat->Value)(Xw:Nat->Hp->Prop):XK:=λc _ H=>∃n,c=cv n/\Xw n H
def LR(K:UJ)(cv:Nat->Value)(k:Nat)(f:List D->M D):Sp:=λvs H Q E=>∃F ds,Same F H/\DenL K F ds vs/\vs.length=k/\WP K (λn H'=>E (cv n) none H') F H (f ds) Q
def cC(n:Nat)(τ:DS):List D->M D:=λds=>τ (ds.map (λd=>some (Sl.fz d))++Vu (n - ds.length) none)>>=λo=>match o with
 | .nx _=>aa .non
 | .rt d=>aa d
section
variable{P:Vf}{w:World}{K:UJ}{mg:Str->Option Value}{base:Heap}{CX:zK}{cv:Nat->Value}
def Me{x qual:Str}{st:Stmt}(Fn:Fun K x qual st f fd)(S:FnScope N ps (ah st))
 (pw:∀(b6:Value) (A:Vw) (outer:List Env) (s:Ux) (H:Hp) (E:XK),Room k (A.deeper (WO qual (ah st) s.heap.objs.size f b6))->
  PSDs (de CX P w K mg base N qual (ah st) f b6 A outer s H E) (λn H'=>E (cv n) none H') (aO st) τ):FnOk P w K mg base CX (k+1) f fd ps (LR K cv ps.length (cC N.length τ)):=by
 obtain⟨oc,od,kV,doc,pm,an,b6,ct,Ha,rfl,lk,yb⟩:=Fn.ex;refine Iv lk yb S (λvs H Q E ⟨_,_,_,_,hl,_⟩=>hl) λA outer s H vs Q E hr FP=>?_;obtain⟨F,ds,fh,hd,hl,hw⟩:=FP;refine⟨_,pw b6 A outer s H E hr F H,F,ds.map (λd=>some (Sl.fz d))++Vu (N.length - ds.length) none,⟨Ext.refl fh,⟨fh,λi sl e=>?_⟩,?_,λi c a e=>?_,λi j c c' a e=>?_⟩,?_⟩
 ·have P3:=hd.len;by_cases hi:i<ds.length
  ·rw[U6 (by simpa using hi),UG] at e;cases q:ds[i]? with
   |none=>rw[q] at e;cases e
   |some d=>
    rw[q] at e;cases e;obtain⟨v,e1,e2⟩:=hd.get q;refine⟨v,?_,e2⟩;unfold L2.start;rw[U6 (by simp;omega),UG,e1];rfl
  ·rw[Vb (by simpa using hi),Wl] at e;split at e<;>cases e
 ·have P3:=hd.len;unfold L2.start;simp[P3]
 ·exfalso
  by_cases hi:i<ds.length
  ·rw[U6 (by simpa using hi),UG] at e;cases q:ds[i]? with
   |none=>rw[q] at e;cases e
   |some d=>rw[q] at e;cases e
  ·rw[Vb (by simpa using hi),Wl] at e;split at e<;>cases e
 ·exfalso
  by_cases hi:i<ds.length
  ·rw[U6 (by simpa using hi),UG] at e;cases q:ds[i]? with
   |none=>rw[q] at e;cases e
   |some d=>rw[q] at e;cases e
  ·rw[Vb (by simpa using hi),Wl] at e;split at e<;>cases e
 ·have hw:WP K (λn H'=>E (cv n) none H') F H (τ (ds.map (λd=>some (Sl.fz d))++Vu (N.length - ds.length) none)>>=λo=>match o with | .nx _=>aa .non | .rt d=>aa d) Q:=hw;rcases(τ (ds.map (λd=>some (Sl.fz d))++Vu (N.length - ds.length) none)).cs with e | ⟨n,e⟩ | ⟨o,e⟩
  ·rw[e] at hw;exact hw.elim
  ·rw[e] at hw⊢;exact hw
  ·rw[e] at hw⊢;cases o with
   |nx ρ'=>exact λσ' F' H' s'=>hw .non H' F' s'.ext rfl
   |rt d=>exact λv F' H' e' q=>hw v H' F' e' q
end
section
variable{X:Cx}{Xw:Nat->Hp->Prop}{CX:zK}{cv:Nat->Value}{k m:Nat}{f:Addr}{fd:Xm}{ps:List Str}{g:List D->M D}{x:Str}{p pos:Pos}{e:Expr}{es:List Expr}{δs:DA}
def Hb(F:FnOk X.prog X.w X.K X.mg X.base CX k f fd ps (LR X.K cv m g))(hr:Room k X.A)(hg:Gl X x)(hm:X.mg x=some (.ref f))(hk:WJ X.K (.ref f)=true)(hb:Binds X.K fd ps [])(hx:Passes CX X (EX cv Xw))
 (ha:kA X Xw (e::es) δs)(hl:(e::es).length=m)(tI:(x==("__debug__":Str))=false:=by decide)(he:US (e::es) X.env=(false,eval e X.env)::US es X.env:=by rfl)(ou:(W6 pos (US es X.env)).any (·.1)=false:=by rfl):
 PD X Xw (.Call (.Name x p) (e::es) [] pos) (λρ=>δs ρ>>=λds=>if ds.length=m then g ds else af):=PE.weak (Hr F hr hg hm hk hb .nil hx ha tI he ou) λσ H Q ⟨F,ρ,s,w⟩=>by
 refine⟨F,ρ,s,WPL.mono (WP.bindL w) λvs H1 ⟨F1,ds,e1,q1,w1⟩=>?_⟩;split at w1
 ·rename_i FO;refine⟨F1,ds,e1.fh,by simpa using q1,by rw[V7,<-q1.len];exact FO,WP.xw w1 λn H h=>⟨n,rfl,h⟩⟩
 ·exact w1.elim
def AI{x:Str}(hg:Gl X x)(hm:X.mg x=some u)(r:RelV v u)(hd:∀F,Den X.K F d v)(tI:(x==("__debug__":Str))=false:=by decide):PD X Xw (.Name x pos) (dC d):=
 gG (Hv hg hm r tI) hd
end
def obj_some(x:ObjOk P w H h a o):∃ob,h.get? a=some ob:=by
 cases o with
 |lst xs=>obtain⟨_,_,_,_,e⟩:=x;exact⟨_,e⟩
 |tup xs=>obtain⟨_,_,_,ob,e,_⟩:=x;exact⟨_,e⟩
 |dK kvs=>obtain⟨_,_,_,_,o,_,_,e,_⟩:=x;exact⟨_,e⟩
 |dT kvs=>obtain⟨_,_,_,_,o,_,_,e,_⟩:=x;exact⟨_,e⟩
 |set S n=>obtain⟨o,_,_,_,e,_⟩:=x;exact⟨_,e⟩
 |ins C dx fs=>obtain⟨_,_,_,e,_⟩:=x;exact⟨_,e⟩
 |own y=>obtain⟨_,e⟩:=x;exact⟨_,e⟩
 |xd fs=>obtain⟨_,⟨_,_,_,e,_⟩,_⟩:=x;exact⟨_,e⟩
 |rng lo hi=>obtain⟨_,_,_,e⟩:=x;exact⟨_,e⟩
 |frz ob u=>obtain⟨e,_⟩:=x;exact⟨_,e⟩
 |tbl ps=>exact⟨_,(show h.get? a=some _ from x)⟩
 |met f y=>exact⟨_,(show h.get? a=some _ from x)⟩
 |ext φ=>obtain⟨_,⟨_,e⟩,_⟩:=x;exact⟨_,e⟩
def jJ(P:Vf)(w:World)(cv:Nat->Value):zK:=λouter H s E e s'=>∃(ea:Addr) (n:Nat) (a0:Value) (B:Heap) (H':Hp),e= .ref ea/\s'.os=s.os/\Y5 s'.gens/\HOk P w H' s'.heap/\Un (nU outer) [] H H' s.heap s'.heap/\
 Heap.FlyingW B outer ea (cv n) a0 s'.heap/\(∀b o,s'.heap.get? b=some o->(H' b≠none\/(s.heap.get? b).isSome=true)->b∉nU outer->B.get? b=some o)/\E (cv n) none H'
section
variable{P:Vf}{w:World}{fs:List Addr}{abJ H:Hp}{h₀ h h':Heap}
def Ic(u:Un fs [] abJ H h₀ h)(ka:∀b o,h.get? b=some o->b∉fs->(H b≠none\/(h₀.get? b).isSome=true)->h'.get? b=some o)(kb:∀b o,h.get? b=some o->b∈fs->∃sl,h'.get? b=some {o with slots:=sl}):Un fs [] abJ H h₀ h' where
 keep:=λb o e n hb hx=>ka b o (u.keep b o e n hb hx) hb (.inr (by rw[e];rfl))
 slot:=λb o e n hb hx=>by
  obtain⟨sl,q⟩:=u.slot b o e n hb hx;obtain⟨Lh,q'⟩:=kb b _ q hb;exact⟨Lh,q'⟩
 free:=u.free
 there:=λb o e hx=>by
  obtain⟨o',q⟩:=u.there b o e hx;by_cases hb:b∈fs
  ·obtain⟨sl,q'⟩:=kb b _ q hb;exact⟨_,q'⟩
  ·exact⟨o',ka b o' q hb (.inr (by rw[e];rfl))⟩
 tups:=u.tups
 frzs:=u.frzs
 tbls:=u.tbls
def DN(x:HOk P w H h)(hf:∀b∈fs,H b=none)(ka:∀b o,h.get? b=some o->b∉fs->H b≠none->h'.get? b=some o):HOk P w H h':=λa o e=>by
 refine(x a o e).stay (λb u hb q=>ka b u q (λz=>?_) ?_) (λ_ q=>q) λ_ _ q=>q
 ·have hz:=hf b z;rcases hb with rfl | hb
  ·rw[hz] at e;cases e
  ·rw[hz] at hb;cases hb
 ·rcases hb with rfl | hb
  ·rw[e];exact λz=>nomatch z
  ·rw[hb];exact λz=>nomatch z
end
section
variable{P:Vf}{w:World}{K:UJ}{mg:Str->Option Value}{base:Heap}{N:List Str}{qual:Str}{scope:Scope}{f:Addr}{cd:Value}{A:Vw}{outer:List Env}{abK:Ux}{abJ:Hp}{E:XK}{cv:Nat->Value}
def bh:Passes (jJ P w cv) (de (jJ P w cv) P w K mg base N qual scope f cd A outer abK abJ E) (EX cv λn H'=>E (cv n) none H'):=by
 intro f8 σ H s e s' I ⟨ea,n,a0,B,H',he,tL,hg,hok,un,Rg,hB,m,hm,hE⟩;subst he;have JV:((de (jJ P w cv) P w K mg base N qual scope f cd A outer abK abJ E)).env.locals=abK.heap.objs.size:=rfl;have Gz:nU ((de (jJ P w cv) P w K mg base N qual scope f cd A outer abK abJ E)).stack=abK.heap.objs.size::nU outer:=rfl;show wpAny (model P w) (A.deeper (WO qual scope abK.heap.objs.size f cd)) (leaving (WO qual scope abK.heap.objs.size f cd) (.ref ea)) _ _ s';refine wpAny_leaves_onW I.ok.frames rfl Rg λh' JD ups=>?_;have vk:∀b∈nU ((de (jJ P w cv) P w K mg base N qual scope f cd A outer abK abJ E)).stack,H' b=none:=λb hb=>by
  obtain⟨o,ho⟩:∃o,s.heap.get? b=some o:=by
   obtain⟨_,o,ho,_⟩:=I.stack.mem hb;exact⟨o,ho⟩
  exact un.free b o ho (I.stkFree b hb) (by simp)
 have IJ:∀b o,s'.heap.get? b=some o->b∉nU ((de (jJ P w cv) P w K mg base N qual scope f cd A outer abK abJ E)).stack->(H' b≠none\/(s.heap.get? b).isSome=true)->h'.get? b=some o:=λb o e hb hc=>JD.1 b o (hB b o e hc hb);have unA:Un (nU outer) [] abJ H' abK.heap s'.heap:=by
  have u1:Un (nU outer) [] abJ H abK.heap s.heap:=I.base;refine⟨λb o e nn hb hx=>?_,λb o e nn hb hx=>?_,λb o e nn hx=>?_,λb o e hx=>?_,λb xs q=>un.tups b xs (u1.tups b xs q),λb o u q=>un.frzs b o u (u1.frzs b o u q),λb ps q=>?_⟩
  ·refine un.keep b o (u1.keep b o e nn hb hx) (u1.free b o e nn hx) (λz=>?_) (by simp);rw[Gz] at z;rcases UD.mp z with z | z
   ·exact abE (UE e) (by rw[z];exact Vc _)
   ·exact hb z
  ·obtain⟨sl,q⟩:=u1.slot b o e nn hb hx;obtain⟨Lh,q'⟩:=un.slot b _ q (u1.free b o e nn hx) (by rw[Gz];exact Uu _ hb) (by simp);exact⟨Lh,q'⟩
  ·obtain⟨o',q⟩:=u1.there b o e hx;exact un.free b o' q (u1.free b o e nn hx) (by simp)
  ·obtain⟨o',q⟩:=u1.there b o e hx;exact un.there b o' q (by simp)
  ·obtain⟨m1,q1⟩:=u1.tbls b ps q;obtain⟨m2,q2⟩:=un.tbls b _ q1;exact⟨m1++m2,by rw[q2,Y4]⟩
 have RN:∀b,(abK.heap.get? b).isSome=true->(s.heap.get? b).isSome=true:=λb hb=>by
  obtain⟨o,ho⟩:=W_.mp hb;obtain⟨o',q⟩:=(show Un (nU outer) [] abJ H abK.heap s.heap from I.base).there b o ho (by simp);rw[q];rfl
 have QA:∀b,(abK.heap.get? b).isSome=true->b≠abK.heap.objs.size:=λb hb z=>by
  obtain⟨o,ho⟩:=W_.mp hb;exact abE (UE ho) (by rw[z];exact Vc _)
 have Nt:∀b,b∉nU outer->(H' b≠none\/(abK.heap.get? b).isSome=true)->b∉nU ((de (jJ P w cv) P w K mg base N qual scope f cd A outer abK abJ E)).stack:=λb hb hc z=>by
  rcases hc with hc | hc
  ·exact hc (vk b z)
  ·rw[Gz] at z;rcases UD.mp z with z | z
   ·exact QA b hc z
   ·exact hb z
 refine⟨ea,n,a0,B,H',rfl,tL.trans I.os,hg,DN hok vk (λb o e hb hc=>IJ b o e hb (.inl hc)),Ic unA (λb o e hb hc=>IJ b o e (Nt b hb hc) (hc.imp id (RN b))) (λb o e hb=>?_),JD,λb o e hc hb=>?_,?_⟩
 ·obtain⟨_,o',yd,hd⟩:=Rg.2.2.1.mem (show b∈nU ((de (jJ P w cv) P w K mg base N qual scope f cd A outer abK abJ E)).stack by rw[Gz];exact Uu _ hb);rw[e] at yd;cases yd;exact ups b o e hd
 ·have Ms:=Nt b hb hc;obtain⟨o',yd⟩:∃o',s'.heap.get? b=some o':=by
   rcases hc with hc | hc
   ·cases q:H' b with
    |none=>exact abE q hc
    |some u=>
     exact obj_some (hok b u q)
   ·obtain⟨o1,h1⟩:=W_.mp hc;exact unA.there b o1 h1 (by simp)
  have:=hB b o' yd (hc.imp id (RN b)) Ms;rw[JD.1 b o' this] at e;cases e;exact this
 ·rw[hm];exact hE
end
def IK:D->Option String
 | .non=>some "NoneType"
 | .bl _=>some "bool"
 | .int _=>some "int"
 | .str _=>some "str"
 | .tup _=>some "tuple"
 | .lst _=>some "list"
 |_=>none
def Kc(k T:String):Option Bool:=if T="str"\/T="int"\/T="bool"\/T="tuple"\/T="list" then some (decide (k=T)||(decide (k="bool")&&decide (T="int"))) else none
def ke:List D->M D
 |[d, .raw (.ty T)]=>match IK d with
  |some k=>match Kc k T with
   |some b=>aa (.bl b)
   |none=>af
  |none=>af
 |_=>af
def Kp{K:UJ}(hk:k="NoneType"\/k="bool"\/k="int"\/k="str"\/k="tuple"\/k="list")(h:Kc k T=some b):ZH K (.type k) (.type T)=some b:=by
 unfold Kc at h;split at h
 ·rename_i hT;cases h;rcases hk with rfl | rfl | rfl | rfl | rfl | rfl<;>rcases hT with rfl | rfl | rfl | rfl | rfl<;>with_unfolding_all rfl
 ·cases h
section
variable{X:Cx}{Xw:Nat->Hp->Prop}{a b e e2:Expr}{δs:DA}{pos p:Pos}
def NP(K:UJ):List V->Hp->VK->Prop:=λxs H Q=>∃x T t b,xs=[x, .ty T]/\TyOf K H x t/\ZH K t (.type T)=some b/\Q (.bl b) H
def C1:CallR X (.builtin "isinstance") (NP X.K):=by
 intro f8 s σ H xs us Q I r h;obtain⟨x,T,t,b,rfl,ty,e,q⟩:=h;obtain⟨u,w',rfl,r1,r2⟩:=vals2 r;cases (show w'=_ from r2);exact BH I r1 ty e λtk=>⟨.bl b,H,I.tok tk,rfl,q⟩
def FC{K:UJ}(s:Same F H)(h:Den K F d v)(hk:IK d=some k):TyOf K H v (.type k)/\(k="NoneType"\/k="bool"\/k="int"\/k="str"\/k="tuple"\/k="list"):=by
 cases d with
 |non=>cases hk;cases (show _=_ from h);exact⟨.non, .inl rfl⟩
 |bl x=>cases hk;cases (show _=_ from h);exact⟨.bl x, .inr (.inl rfl)⟩
 |int x=>cases hk;cases (show _=_ from h);exact⟨.int x, .inr (.inr (.inl rfl))⟩
 |str x=>cases hk;cases (show _=_ from h.1);exact⟨.str x, .inr (.inr (.inr (.inl rfl)))⟩
 |tup x=>cases hk;obtain⟨a,vs,rfl,h2,_⟩:=h;exact⟨.tup (s _ _ h2), .inr (.inr (.inr (.inr (.inl rfl))))⟩
 |lst x=>cases hk;obtain⟨a,vs,rfl,h2,_⟩:=h;exact⟨.lst (s _ _ h2), .inr (.inr (.inr (.inr (.inr rfl))))⟩
 |_=>cases hk
def BG{K:UJ}:vo K (NP K) ke:=λXw F H vs ds Q s h w=>by
 unfold ke at w;split at w
 ·rename_i d T;obtain⟨v,v',rfl,h1,h2⟩:=h.two;cases (show _=_ from h2);split at w
  ·rename_i k hk;split at w
   ·rename_i b hb;obtain⟨ty,q0⟩:=FC s h1 hk;exact⟨v,T, .type k,b,rfl,ty,Kp q0 hb,WP.now w s rfl⟩
   ·exact w.elim
  ·exact w.elim
 ·exact w.elim
def ql(hg:Gl X "isinstance")(hm:X.mg "isinstance"=none)(hb:Vh "isinstance"=some (.builtin "isinstance"))(ha:kA X Xw [e,e2] δs)(he:US [e,e2] X.env=(false,eval e X.env)::US [e2] X.env:=by rfl)
 (ou:(W6 pos (US [e2] X.env)).any (·.1)=false:=by rfl):PD X Xw (.Call (.Name "isinstance" p) [e,e2] [] pos) (dA ke δs):=
 bR C1 BG hg hm hb ha (by decide) (by decide) he ou
def xf{x:Str}(hg:Gl X x)(hm:X.mg x=none)(hv:Vh x=some (.type T))(hn:x≠"__name__":=by decide)(hd:(x==("__debug__":Str))=false:=by decide):PD X Xw (.Name x pos) (dC (.raw (.ty T))):=
 gG (Hq hg hm hv (show RelV (.ty T) (.type T) from rfl) hn hd) λ_=>rfl
def bools:List D->Option (List Bool)
 |[]=>some []
 | .bl b::r=>(bools r).map (b:: ·)
 |_=>none
def allM:List D->M D
 |[.lst ds]=>match bools ds with
  |some bs=>aa (.bl (bs.all id))
  |none=>af
 |_=>af
def rP{K:UJ}:∀{ds:List D}{vs:List V}{bs:List Bool},bools ds=some bs->DenL K F ds vs->vs=bs.map V.bl
 |[],_,_,e,h=>by cases e;exact h
 | .bl b::r,_,_,e,⟨v,r',h1,h2,h3⟩=>by
   unfold bools at e;cases q:bools r with
   |none=>rw[q] at e;cases e
   |some bs=>rw[q] at e;cases e;subst h1;rw[rP q h3,show v= .bl b from h2];rfl
 | .non::_,_,_,e,_=>by cases e
 | .int _::_,_,_,e,_=>by cases e
 | .str _::_,_,_,e,_=>by cases e
 | .raw _::_,_,_,e,_=>by cases e
 | .exc _::_,_,_,e,_=>by cases e
 | .scr _::_,_,_,e,_=>by cases e
 | .tup _::_,_,_,e,_=>by cases e
 | .lst _::_,_,_,e,_=>by cases e
def Ba:∀{bs:List Bool}{aD:List Value},Vals (bs.map V.bl) aD->aD=bs.map WR
 |[],_,r=>by cases r;rfl
 |b::bs,_,r=>by
  cases r with
  |cons r1 r2=>cases (show _=_ from r1);rw[Ba r2];rfl
def QG:List V->Hp->VK->Prop:=λxs H Q=>∃(a:Addr) (bs:List Bool),xs=[.ref a]/\H a=some (.lst (bs.map V.bl))/\Q (.bl (bs.all id)) H
def all_range{bs:List Bool}:(UH bs.length).all (λi=>bs.getD i false)=bs.all id:=by
 induction bs with
 |nil=>rfl
 |cons b bs ih=>
  rw[UI,aaA,XR,XD,XR];congr 1
def Bf(hc:X.calm=true):CallR X (.builtin "all") QG:=by
 intro f8 s σ H xs us Q I r h;obtain⟨a,bs,rfl,hH,q⟩:=h;obtain⟨u,rfl,r1⟩:=vals1 r;cases (show u=_ from r1);obtain⟨aD,r2,pl,hz⟩:=I.list (SqL.of hH);obtain rfl:=Ba r2;have fI:a≠s.heap.objs.size:=UW (I.hok.lt hH);refine call_all_walk (wpAny_pyIter_list pl.isList ?_);refine⟨s.heap.objs.size,_,_,_,_,_,λi=>bs.getD i false,rfl,Walks.list (show X.A.in1.handled=none from I.ok.hd hc) s.heap.objs.size a fI (bs.map WR).toArray,⟨⟨_,UO _ rfl,rfl,rfl⟩,Heap.IsList.at pl.isList λo e=>Ut _ e⟩,?_,λh' tk k=>?_⟩
 ·intro i v s' Q' E' hv hq;have hv:(bs.map WR).toArray[i]? =some v:=hv;rw[List.getElem?_toArray,UG] at hv;cases q':bs[i]? with
  |none=>rw[q'] at hv;cases hv
  |some b=>
   rw[q'] at hv;cases hv;have:bs.getD i false=b:=by rw[Uy,q'];rfl
   have hq:Q' (bs.getD i false) s':=hq;rw[this] at hq;exact Wq hq
 ·have e:(UH (bs.map WR).toArray.size).all (λi=>bs.getD i false)=bs.all id:=by
   rw[UK,Ur];exact all_range
  rw[e];refine⟨.bl (bs.all id),H,I.kept λb o e'=>k b o (λz=>?_) (Ut _ e'),rfl,q⟩;have z:b=s.heap.objs.size:=by simpa using z
  exact abE (UE e') (by rw[z];exact Vc _)
def zb(hc:X.calm=true)(hg:Gl X "all")(hm:X.mg "all"=none)(hb:Vh "all"=some (.builtin "all"))(ha:kA X Xw [e] δs)(he:US [e] X.env=[(false,eval e X.env)]:=by rfl):PD X Xw (.Call (.Name "all" p) [e] [] pos) (dA allM δs):=
 bR (Bf hc) (λXw F H vs ds Q s h w=>by
  unfold allM at w;split at w
  ·rename_i ds;obtain⟨v,rfl,h1⟩:=h.one;obtain⟨a,ws,rfl,h2,h3,_⟩:=h1;split at w
   ·rename_i bs hb;exact⟨a,bs,rfl,by rw[<-rP hb h3];exact s _ _ h2,WP.now w s rfl⟩
   ·exact w.elim
  ·exact w.elim) hg hm hb ha (by decide) (by decide) he rfl
end
section
variable{X:Cx}{Xw:Nat->Hp->Prop}{a b e e2:Expr}{es:List Expr}{δ δa δb:DE}{pos p apos aL:Pos}
def H0:∀t0 abJ D σ H,tS X.K Xw t0 abJ (uL i δ) D σ H->Ft (QN X.K "list" AX (ky i) (Fq (tD X.K Xw δ) Lq)) D σ H:=λt0 abJ D σ H ⟨F,ρ,s,w⟩=>by
 unfold uL at w;cases ho:B8 ρ i with
 |none=>rw[ho] at w;exact w.elim
 |some ds=>
  rw[ho] at w;have hi:=sD ho;obtain⟨v,hv,a,o,rfl,hH,hF,vs,rfl,hd,hl⟩:=s.st.den i _ hi;have w:WPS X.K Xw t0 abJ (δ ρ>>=λd=>if ds.length<lim then aa (.nx (ρ.set i (some (.ow (.lst (ds++[d])))))) else af) D:=w;refine⟨.ref a,hv, .inl ⟨rfl,vs,SqL.of hH⟩,F,ρ,s.st,?_⟩;rcases(δ ρ).cs with q | ⟨n,q⟩ | ⟨d,q⟩
  ·rw[q] at w;exact w.elim
  ·rw[q] at w⊢;exact λF' H' e'=>w F' H' (s.ext.trans e')
  ·rw[q] at w⊢;intro u H1 F1 e1 hq;have w:WPS X.K Xw t0 abJ (if ds.length<lim then aa (.nx (ρ.set i (some (.ow (.lst (ds++[d])))))) else af) D:=w;split at w
   ·rename_i cI;have P3:=hd.len;refine⟨a,vs,u,rfl,rfl,e1.hh _ _ hH,by have:=cR;omega,?_⟩;exact w σ F1 _ ((s.ext' e1).chg hi hv ⟨_,rfl,DenL.append (DenL.mono e1.ff hd) (.cons hq .nil),by rw[UN];exact cI⟩)
   ·exact w.elim
def H9:∀t0 abJ D σ H,tS X.K Xw t0 abJ (E6 i δ) D σ H->Ft (QN X.K "list" AY (ky i) (Fq (tD X.K Xw δ) Lq)) D σ H:=λt0 abJ D σ H ⟨F,ρ,s,w⟩=>by
 unfold E6 at w;cases ho:B8 ρ i with
 |none=>rw[ho] at w;exact w.elim
 |some ds=>
  rw[ho] at w;have hi:=sD ho;obtain⟨v,hv,a,o,rfl,hH,hF,vs,rfl,hd,hl⟩:=s.st.den i _ hi;have w:WPS X.K Xw t0 abJ (δ ρ>>=λd=>lstM d>>=λes=>if ds.length+es.length<=lim then aa (.nx (ρ.set i (some (.ow (.lst (ds++es)))))) else af) D:=w;refine⟨.ref a,hv, .inl ⟨rfl,vs,SqL.of hH⟩,F,ρ,s.st,?_⟩;rcases(δ ρ).cs with q | ⟨n,q⟩ | ⟨d,q⟩
  ·rw[q] at w;exact w.elim
  ·rw[q] at w⊢;exact λF' H' e'=>w F' H' (s.ext.trans e')
  ·rw[q] at w⊢;intro u H1 F1 e1 hq;cases d with
   |lst es=>
    obtain⟨b,ws,rfl,k2,k3,k4⟩:=hq;have w:WPS X.K Xw t0 abJ (if ds.length+es.length<=lim then aa (.nx (ρ.set i (some (.ow (.lst (ds++es)))))) else af) D:=w;split at w
    ·rename_i cI;have P3:=hd.len;have RE:=k3.len;refine⟨a,b,vs,ws,rfl,rfl,e1.hh _ _ hH,e1.fh _ _ k2,by have:=cR;omega,?_⟩;exact w σ F1 _ ((s.ext' e1).chg hi hv ⟨_,rfl,DenL.append (DenL.mono e1.ff hd) k3,by rw[UN];exact cI⟩)
    ·exact w.elim
   |_=>exact w.elim
def oG(hv:PE X (.Name x p) (ky i))(he:PD X Xw e δ)(hs:X6 (.Call (.Attribute (.Name x p) "append" apos) [e] [] aL) none pos.line X.env=pure false:=by rfl)
 (fG:WA (.Name x p) "append" X.env (eval (.Name x p) X.env)=eval (.Name x p) X.env:=by rfl)
 (pB:((W6 aL (US [e] X.env)).all (λx=>!x.1)&&(Y6 aL (XJ [] X.env)).all (λx=>x.1.isSome)&&decide ([e].length+([]:List Xz).length+(if ([]:List Xz).isEmpty then 0 else 1)<30))=true:=by rfl)
 (fH:(apos.endLine==aL.line)=true:=by rfl)(wa:US [e] X.env=[(false,eval e X.env)]:=by rfl):gj X Xw (.Expr (.Call (.Attribute (.Name x p) "append" apos) [e] [] aL) pos) (uL i δ):=λt0 abJ=>
 PS.weak (oF (EE Yc PySem.F.slot_list_append PySem.F.type_list_append mv hv (uv he uw wa) fG pB fH wa rfl) hs) λD σ H w=>H0 t0 abJ D σ H w
def HE(hv:PE X (.Name x p) (ky i))(he:PD X Xw e δ)(hs:X6 (.Call (.Attribute (.Name x p) "extend" apos) [e] [] aL) none pos.line X.env=pure false:=by rfl)
 (fG:WA (.Name x p) "extend" X.env (eval (.Name x p) X.env)=eval (.Name x p) X.env:=by rfl)
 (pB:((W6 aL (US [e] X.env)).all (λx=>!x.1)&&(Y6 aL (XJ [] X.env)).all (λx=>x.1.isSome)&&decide ([e].length+([]:List Xz).length+(if ([]:List Xz).isEmpty then 0 else 1)<30))=true:=by rfl)
 (fH:(apos.endLine==aL.line)=true:=by rfl)(wa:US [e] X.env=[(false,eval e X.env)]:=by rfl):gj X Xw (.Expr (.Call (.Attribute (.Name x p) "extend" apos) [e] [] aL) pos) (E6 i δ):=λt0 abJ=>
 PS.weak (oF (EE Yc PySem.F.slot_list_extend PySem.F.type_list_extend BX hv (uv he uw wa) fG pB fH wa rfl) hs) λD σ H w=>H9 t0 abJ D σ H w
def Er:OpR X (Yj .Add) (λx y H Q=>∃a b ys,x= .ref a/\y= .ref b/\SqT X.K H a []/\SqT X.K H b ys/\Q (.ref b) H):=by
 intro f8 s σ H x y v u Q I rx ry h;obtain⟨a,b,ys,rfl,rfl,ha,hb,q⟩:=h;cases rx;cases ry;obtain⟨aD,r1,p1,_⟩:=I.tuple ha;obtain⟨iI,r2,p2,_⟩:=I.tuple hb;cases r1;obtain⟨⟨cls,dd,data,sl⟩,ho,hc,n,hd⟩:=id p1;obtain⟨⟨Jq,rX,data2,zu⟩,CK,yB,n2,hd2⟩:=id p2;simp only at hc hd yB hd2;subst hc hd yB hd2;exact concat_meets ⟨_,ho,rfl⟩ ⟨_,CK,rfl⟩ aad aa6 Yg Yd (X1 _ _)
  (tuple_addW0 a b _ _ n n2 dd rX sl zu (by simp)) ⟨ho,CK,⟨.ref b,H,I,rfl,q⟩⟩
def Aa:D->D->M D
 | .tup x, .tup y=>if x.length+y.length<=lim then aa (.tup (x++y)) else af
 |_,_=>af
def Hc(ha:PD X Xw a δa)(hb:PD X Xw b δb):PD X Xw (.BinOp a .Add b pos) (d2 Aa δa δb):=sH (Er.or G3) (λXw F H x y dx dy Q s hx hy w=>by
 unfold Aa at w;split at w
 ·rename_i i j;obtain⟨a,vs,h1,h2,h3,h4⟩:=hx;obtain⟨a',gO,k1,k2,k3,k4⟩:=hy;split at w
  ·rename_i hl;have e1:=h3.len;have e2:=k3.len;have:=cR;by_cases hv:vs=[]
   ·subst hv;have:i=[]:=by cases i with | nil=>rfl | cons _ _=>simp at e1
    subst this;exact .inl ⟨a,a',gO,h1,k1,SqT.of (s _ _ h2),SqT.of (s _ _ k2),WP.now w s ⟨a',gO,k1▸rfl,k2,k3,k4⟩⟩
   ·refine .inr ⟨a,a',vs,gO,h1,k1,SqT.of (s _ _ h2),SqT.of (s _ _ k2),hv,by omega,λz=>?_,λz p hp=>?_⟩
    ·subst z;have:j=[]:=by cases j with | nil=>rfl | cons _ _=>simp at e2
     subst this;rw[V7] at w;exact WP.now w s ⟨a,vs,rfl,h2,h3,h4⟩
    ·exact WP.fin w (Ext.lay s hp) ⟨p,_,rfl,az,DenL.mono (Ext.lay s hp).ff (h3.append k3),by rw[UN];exact hl⟩
  ·exact w.elim
 ·exact w.elim) ha hb
end
section
variable{X:Cx}{Xw:Nat->Hp->Prop}{a b e e2 o:Expr}{es:List Expr}{δa δb δo:DE}{δs:DA}{pos p apos aL:Pos}
def dM(kd:D->Bool)(g:D->List D->M D)(o:DE)(s:DA):DE:=λρ=>o ρ>>=λd=>if kd d then s ρ>>=λds=>g d ds else af
def IT{id:String}(pa:PlainAttrs T)(slot:Slot T name id)(Qf:typeOf (.builtin id)=pure (.type "method_descriptor"))(hm:Oi X id r)
 (hk:∀(F H:Hp) (x:V) (d:D),kd d=true->Same F H->Den X.K F d x->Of X.K T x H)
 (hd:∀(Xw:Nat->Hp->Prop) (F H:Hp) (x:V) (vs:List V) (d:D) (ds:List D) (Q:VK),Same F H->Den X.K F d x->DenL X.K F ds vs->WP X.K Xw F H (g d ds) Q->r x vs H Q)
 (ho:PD X Xw o δo)(ha:kA X Xw (e::es) δs)
 (fG:WA o name X.env (eval o X.env)=eval o X.env:=by rfl)
 (pB:((W6 aL (US (e::es) X.env)).all (λx=>!x.1)&&(Y6 aL (XJ [] X.env)).all (λx=>x.1.isSome)
  &&decide ((e::es).length+([]:List Xz).length+(if ([]:List Xz).isEmpty then 0 else 1)<30))=true:=by rfl)
 (fH:(apos.endLine==aL.line)=true:=by rfl) (hs:US (e::es) X.env=(false,eval e X.env)::US es X.env:=by rfl) (yG:(W6 aL (US es X.env)).any (·.1)=false:=by rfl):
 PD X Xw (.Call (.Attribute o name apos) (e::es) [] aL) (dM kd g δo δs):=PE.weak (EE pa slot Qf hm ho ha fG pB fH hs yG) λσ H Q ⟨F,ρ,s,w⟩=>by
 refine⟨F,ρ,s,WP.mono (WP.bind w) λv H1 ⟨F1,d,e1,q1,w1⟩=>?_⟩;split at w1
 ·rename_i Gw;refine⟨hk F1 H1 v d Gw e1.fh q1,F1,ρ,s.ext e1,WPL.mono (WP.bindL w1) λvs H2 ⟨F2,ds,e2,q2,w2⟩=>?_⟩;exact hd Xw F2 H2 v vs d ds Q e2.fh (Den.mono e2.ff q1) q2 w2
 ·exact w1.elim
def OK:D->Bool
 | .str _=>true
 |_=>false
def se:D->Bool
 | .lst _=>true
 |_=>false
def Kb{K:UJ}(F H:Hp)(x:V)(d:D)(h:OK d=true)(s:Same F H)(q:Den K F d x):Of K "str" x H:=by
 cases d with
 |str z=>cases (show _=_ from q.1);exact rfl
 |_=>cases h
def DW{K:UJ}(F H:Hp)(x:V)(d:D)(h:se d=true)(s:Same F H)(q:Den K F d x):Of K "list" x H:=by
 cases d with
 |lst z=>obtain⟨a,vs,rfl,h2,_⟩:=q;exact .inl ⟨rfl,vs,SqL.of (s _ _ h2)⟩
 |_=>cases h
def u_:List D->Option (List Str)
 |[]=>some []
 | .str x::r=>(u_ r).map (x:: ·)
 |_=>none
def qK{K:UJ}:∀{ds:List D}{vs:List V}{xs:List Str},u_ ds=some xs->DenL K F ds vs->vs=xs.map V.str
 |[],_,_,e,h=>by cases e;exact h
 | .str b::r,_,_,e,⟨v,r',h1,h2,h3⟩=>by
   unfold u_ at e;cases q:u_ r with
   |none=>rw[q] at e;cases e
   |some bs=>rw[q] at e;cases e;subst h1;rw[qK q h3,show v= .str b from h2.1];rfl
 | .non::_,_,_,e,_=>by cases e
 | .int _::_,_,_,e,_=>by cases e
 | .bl _::_,_,_,e,_=>by cases e
 | .raw _::_,_,_,e,_=>by cases e
 | .exc _::_,_,_,e,_=>by cases e
 | .scr _::_,_,_,e,_=>by cases e
 | .tup _::_,_,_,e,_=>by cases e
 | .lst _::_,_,_,e,_=>by cases e
def qN:∀{xs:List Str}{aD:List Value},Vals (xs.map V.str) aD->StrsAre aD xs
 |[],_,r=>by cases r;exact .nil
 |b::bs,_,r=>by
  cases r with
  |cons r1 r2=>obtain⟨t,rfl⟩:=r1;exact .cons b t (qN r2)
def eP:List Str->Str
 |[]=>⟨#[]⟩
 |x::r=>x++eP r
def joinM:D->List D->M D
 | .str sep,[.lst ds]=>match u_ ds with
   |some xs=>if sep.length=0/\(xs.map (·.length)).sum<=lim then aa (.str (eP xs)) else af
   |none=>af
 | .str sep,[.tup ds]=>match u_ ds with
   |some xs=>if sep.length=0/\(xs.map (·.length)).sum<=lim then aa (.str (eP xs)) else af
   |none=>af
 |_,_=>af
def o5:∀xs:List Str,(eP xs).length=(xs.map (·.length)).sum
 |[]=>rfl
 |x::r=>by
  show (x++eP r).length=_;rw[ji,o5 r,Uz,Xj]
def HX{x:Str}(h:x.length=0):x=⟨#[]⟩:=by
 obtain⟨⟨l⟩⟩:=x;have:l.length=0:=h;cases l with
 |nil=>rfl
 |cons _ _=>simp at this
def nJ(x:Str):x++(⟨#[]⟩:Str)=x:=by
 obtain⟨c⟩:=x;show (⟨c++ #[]⟩:Str)=⟨c⟩
 simp
def mY(sep:Str)(h:sep.length=0):∀xs:List Str,Txt.join sep xs=eP xs:=by
 have e:=HX h;subst e;intro xs;show Builtin.Str.glued _ xs=_;rw[StrLaws.glued_eq_join];induction xs with
 |nil=>rfl
 |cons x r ih=>
  cases r with
  |nil=>show x=x++(⟨#[]⟩:Str);rw[nJ]
  |cons y r=>show x++(⟨#[]⟩:Str)++Str.join _ (y::r)=x++eP (y::r);rw[nJ,ih]
def rJoin(K:UJ):V->List V->Hp->VK->Prop:=λx vs H Q=>∃(sep:Str) (a:Addr) (xs:List Str),x= .str sep/\vs=[.ref a]/\(H a=some (.lst (xs.map V.str))\/H a=some (.tup (xs.map V.str)))/\sep.length=0/\(xs.map (·.length)).sum<=lim/\Q (.str (eP xs)) H
def GX:Oi X "str.join" (rJoin X.K):=by
 intro f8 s σ H x vs v us Q I rx rv h;obtain⟨sep,a,xs,rfl,rfl,hH,hs,hl,q⟩:=h;obtain⟨t,rfl⟩:=rx;obtain⟨u,rfl,r1⟩:=rv.one;cases (show u=_ from r1);have hok:(xs.map (·.length)).sum+xs.length*sep.length<=16777216:=by
  rw[hs,Nat.mul_zero];unfold lim at hl;omega
 rcases hH with hH | hH
 ·obtain⟨aD,r2,pl,hz⟩:=I.list (SqL.of (K:=X.K) hH);refine join_list pl.isList (by simpa using qN r2) hok λt' k=>⟨.str (eP xs),H,I.tok k,⟨t',by rw[mY sep hs]⟩,q⟩
 ·obtain⟨aD,r2,pl,hz⟩:=I.tuple (SqT.of hH);refine join_tuple pl (by simpa using qN r2) hok λt' k=>⟨.str (eP xs),H,I.tok k,⟨t',by rw[mY sep hs]⟩,q⟩
def Hg(ho:PD X Xw o δo)(ha:kA X Xw [e] δs)(fG:WA o "join" X.env (eval o X.env)=eval o X.env:=by rfl)
 (pB:((W6 aL (US [e] X.env)).all (λx=>!x.1)&&(Y6 aL (XJ [] X.env)).all (λx=>x.1.isSome)&&decide ([e].length+([]:List Xz).length+(if ([]:List Xz).isEmpty then 0 else 1)<30))=true:=by rfl)
 (fH:(apos.endLine==aL.line)=true:=by rfl)(wa:US [e] X.env=[(false,eval e X.env)]:=by rfl):PD X Xw (.Call (.Attribute o "join" apos) [e] [] aL) (dM OK joinM δo δs):=
 IT PySem.F.plainAttrs_str PySem.F.slot_str_join PySem.F.type_str_join GX Kb (λXw F H x vs d ds Q s hx hv w=>by
  unfold joinM at w;split at w
  ·rename_i sep ds;obtain⟨v,rfl,h1⟩:=hv.one;obtain⟨a,ws,rfl,h2,h3,_⟩:=h1;split at w
   ·rename_i xs M3;split at w
    ·rename_i hc;exact⟨sep,a,xs,hx.1,rfl, .inl (by rw[<-qK M3 h3];exact s _ _ h2),hc.1,hc.2,WP.now w s ⟨rfl,by rw[o5];exact hc.2⟩⟩
    ·exact w.elim
   ·exact w.elim
  ·rename_i sep ds;obtain⟨v,rfl,h1⟩:=hv.one;obtain⟨a,ws,rfl,h2,h3,_⟩:=h1;split at w
   ·rename_i xs M3;split at w
    ·rename_i hc;exact⟨sep,a,xs,hx.1,rfl, .inr (by rw[<-qK M3 h3];exact s _ _ h2),hc.1,hc.2,WP.now w s ⟨rfl,by rw[o5];exact hc.2⟩⟩
    ·exact w.elim
   ·exact w.elim
  ·exact w.elim) ho ha fG pB fH wa rfl
def FA:List D->M D
 |[.lst ds]=>aa (.tup ds)
 |[.tup ds]=>aa (.tup ds)
 |_=>af
def EA(hg:Gl X "tuple")(hm:X.mg "tuple"=none)(hb:Vh "tuple"=some (.type "tuple"))(ha:kA X Xw [e] δs)(he:US [e] X.env=[(false,eval e X.env)]:=by rfl):PD X Xw (.Call (.Name "tuple" p) [e] [] pos) (dA FA δs):=
 B_ qU (λXw F H vs ds Q s h w=>by
  unfold FA at w;split at w
  ·rename_i ds;obtain⟨v,rfl,h1⟩:=h.one;obtain⟨a,ws,rfl,h2,h3,h4⟩:=h1;exact⟨a,ws,rfl, .inl ⟨SqL.of (s _ _ h2),λl hl=>WP.fin w (Ext.lay s hl) ⟨l,ws,rfl,az,DenL.mono (Ext.lay s hl).ff h3,h4⟩⟩⟩
  ·rename_i ds;obtain⟨v,rfl,h1⟩:=h.one;obtain⟨a,ws,rfl,h2,h3,h4⟩:=h1;exact⟨a,ws,rfl, .inr ⟨SqT.of (s _ _ h2),WP.now w s ⟨a,ws,rfl,h2,h3,h4⟩⟩⟩
  ·exact w.elim) hg hm hb ha (by decide) (by decide) he rfl
def uz(hc:X.calm=true)(hg:Gl X "max")(hm:X.mg "max"=none)(hb:Vh "max"=some (.builtin "max"))(ha:kA X Xw [e,e2] δs)(he:US [e,e2] X.env=(false,eval e X.env)::US [e2] X.env:=by rfl)
 (ou:(W6 pos (US [e2] X.env)).any (·.1)=false:=by rfl):PD X Xw (.Call (.Name "max" p) [e,e2] [] pos) (dA wx δs):=
 bR (Bg hc) (λXw F H vs ds Q s h w=>by
  unfold wx at w;split at w
  ·obtain⟨v,v',rfl,h1,h2⟩:=h.two;cases (show _=_ from h1);cases (show _=_ from h2);exact⟨_,_,rfl,WP.now w s rfl⟩
  ·exact w.elim) hg hm hb ha (by decide) (by decide) he ou
def zd(hc:X.calm=true)(hg:Gl X "min")(hm:X.mg "min"=none)(hb:Vh "min"=some (.builtin "min"))(ha:kA X Xw [e,e2] δs)(he:US [e,e2] X.env=(false,eval e X.env)::US [e2] X.env:=by rfl)
 (ou:(W6 pos (US [e2] X.env)).any (·.1)=false:=by rfl):PD X Xw (.Call (.Name "min" p) [e,e2] [] pos) (dA yT δs):=
 bR (Bi hc) (λXw F H vs ds Q s h w=>by
  unfold yT at w;split at w
  ·obtain⟨v,v',rfl,h1,h2⟩:=h.two;cases (show _=_ from h1);cases (show _=_ from h2);exact⟨_,_,rfl,WP.now w s rfl⟩
  ·exact w.elim) hg hm hb ha (by decide) (by decide) he ou
def nums:List D->Option (List Int)
 |[]=>some []
 | .int x::r=>(nums r).map (x:: ·)
 |_=>none
def cQ{K:UJ}:∀{ds:List D}{vs:List V}{xs:List Int},nums ds=some xs->DenL K F ds vs->vs=xs.map V.int
 |[],_,_,e,h=>by cases e;exact h
 | .int b::r,_,_,e,⟨v,r',h1,h2,h3⟩=>by
   unfold nums at e;cases q:nums r with
   |none=>rw[q] at e;cases e
   |some bs=>rw[q] at e;cases e;subst h1;rw[cQ q h3,show v= .int b from h2];rfl
 | .non::_,_,_,e,_=>by cases e
 | .str _::_,_,_,e,_=>by cases e
 | .bl _::_,_,_,e,_=>by cases e
 | .raw _::_,_,_,e,_=>by cases e
 | .exc _::_,_,_,e,_=>by cases e
 | .scr _::_,_,_,e,_=>by cases e
 | .tup _::_,_,_,e,_=>by cases e
 | .lst _::_,_,_,e,_=>by cases e
def Gj(neg:Bool):D->D->M D
 | .int i, .tup ds=>match nums ds with | some ns=>aa (.bl (if neg then !ns.contains i else ns.contains i)) | none=>af
 |_,_=>af
def wc(i:Int)(ns:List Int):OJ (.int i) (ns.map V.int)=ns.contains i:=by
 unfold OJ;rw[List.any_map];induction ns with
 |nil=>rfl
 |cons n ns ih=>
  rw[Xl,List.contains_cons,ih];congr 1;show FI (.int n) (.int i)=(i==n)
  unfold FI;exact Bool.beq_comm
def J8{neg:Bool}{K:UJ}:vp K (OP K neg) (Gj neg):=λXw F H x y dx dy Q s hx hy w=>by
 unfold Gj at w;split at w
 ·rename_i i ds;obtain⟨a,vs,h1,h2,h3,h4⟩:=hy;split at w
  ·rename_i ns hn;have hv:=cQ hn h3;subst hv;cases (show _=_ from hx);refine⟨a,ns.map V.int,h1, .inr (SqT.of (s _ _ h2)),rfl,?_,?_⟩
   ·rw[XD];exact UT.mpr λ_ _=>rfl
   ·rw[wc];exact WP.now w s rfl
  ·exact w.elim
 ·exact w.elim
def Ce(ha:PD X Xw a δa)(hb:PD X Xw b δb)(hm:VF .NotIn b=false:=by rfl):oP X Xw (.Compare a [.NotIn] [b] pos) (eO (d2 (Gj true) δa δb)):=e7 lu J8 ha hb hm
def Dq(neg:Bool):D->D->M D
 | .str x, .str y=>aa (.bl (if neg then !(!(W8 y x 0 y.length 1).isEmpty) else !(W8 y x 0 y.length 1).isEmpty))
 |_,_=>af
def KH(ha:PD X Xw a δa)(hb:PD X Xw b δb)(hm:VF .In b=false:=by rfl):PD X Xw (.Compare a [.In] [b] pos) (d2 (Dq false) δa δb):=zc B5 (λXw F H x y dx dy Q s hx hy w=>by
 unfold Dq at w;split at w
 ·exact⟨_,_,hx.1,hy.1,WP.now w s rfl⟩
 ·exact w.elim) ha hb hm
end
end L3
namespace L3
open PySem PySem.Spec L2 SeqAt HT
open PyProof.Rows hiding St
section
variable{prog:Vf}{w:World}{A:Vw}{E:Value->Ux->Prop}{s:Ux}
def jI{t sl:Addr}{items:Array Value}{vl vu:Value}{lo hi:Option Int}{Q:Value->Ux->Prop}(ht:IsTup s.heap t items)(hs:s.heap.IsSliceOf sl vl vu .none)(pl:Z8 vl lo)(pu:Z8 vu hi)
 (hw:sIx items.size 0 lo=0/\sIx items.size items.size hi=items.size)(h:Q (.ref t) s):wpAny (model prog w) A (X8 (.ref t) (.ref sl)) Q E s:=by
 obtain⟨os,tL,JQ,BA⟩:=id hs;have Mo:s.TypeIs (.ref sl) "slice":=⟨os,tL,JQ⟩
 unfold X8
 try with_reducible refine VT ?_
 first | refine Uq (Uw ?_) | skip
 refine Uq (ZU ht.typeIs (by decide) ?_);refine Uq (VU (name:=V8 "__getitem__") ht.typeIs VI
  (Vq VI ht.typeIs Zp ?_ (ZF _ _)))
 show wpAny _ _ (XA (.ref t)>>=_) _ _ s;refine Uq (aa4 ht ?_);refine Uq (Yh Mo ?_);rw[abz (by decide)];refine Uq (sliceApplied_gen hs pl pu ?_);have tK:((((sIx items.size 0 lo:Nat):Int)==0&&(1:Int)==1&&(sIx items.size items.size hi - sIx items.size 0 lo)==items.size)=true):=by
  rw[hw.1,hw.2];simp
 show wpAny _ _ (if (((sIx items.size 0 lo:Nat):Int)==0&&(1:Int)==1&&(sIx items.size items.size hi - sIx items.size 0 lo)==items.size)=true then _ else _) _ _ s;rw[abz tK];refine Uq ?_;unfold Builtin.Tuple.tupleIsExact;refine Uq (Yh ht.typeIs (Uw ?_));rw[abz (by decide)];exact Uq (aaU (Uw ⟨_,rfl,Uw h⟩))
end
section
variable{X:Cx}{Xw:Nat->Hp->Prop}{a b e:Expr}{lo hi:Option Expr}{δ:DE}{pos p p2:Pos}
def HU:SlR X (λx lo hi H Q=>∃a xs,x= .ref a/\SqT X.K H a xs/\(sIx xs.length 0 lo=0/\sIx xs.length xs.length hi=xs.length)/\Q (.ref a) H):=by
 intro f8 s σ H x v vl vu lo hi sl Q I rx hs pl pu h;obtain⟨a,xs,rfl,hx,hw,q⟩:=h;cases rx;obtain⟨aD,r,ht,hz⟩:=I.tuple hx;have P3:aD.toArray.size=xs.length:=by rw[UK];exact r.length.symm
 exact⟨"tuple",_,PyProof.Rows.slot_tuple_getitem.lookup,ht.typeIs,jI ht hs pl pu (by rw[P3];exact hw) ⟨.ref a,H,I,rfl,q⟩⟩
def Li:SlR X (λx lo hi H Q=>∃z:Str,x= .str z/\z.length<=lim/\Q (.str (Txt.slice z lo hi)) H):=by
 intro f8 s σ H x v vl vu lo hi sl Q I rx hs pl pu h;obtain⟨z,rfl,hl,q⟩:=h;obtain⟨t,rfl⟩:=rx;have hz:z.length<=UR:=by have:=cR;omega
 cases pl with
 |none=>
  cases pu with
  |none=>exact⟨"str",_,PySem.F.slot_str_getitem.lookup,Yw _ _ _,WV (l:=none) (u:=none) (st:=none) hs rfl (YV ⟨U1 (YG z _ _) hz,λt' k=>⟨.str _,H,I.tok k,⟨t',rfl⟩,q⟩⟩)⟩
  |int j uj=>exact⟨"str",_,PySem.F.slot_str_getitem.lookup,Yw _ _ _,WV (l:=none) (u:=some (j,uj)) (st:=none) hs rfl (YV ⟨U1 (YG z _ _) hz,λt' k=>⟨.str _,H,I.tok k,⟨t',rfl⟩,q⟩⟩)⟩
 |int i ui=>
  cases pu with
  |none=>exact⟨"str",_,PySem.F.slot_str_getitem.lookup,Yw _ _ _,WV (l:=some (i,ui)) (u:=none) (st:=none) hs rfl (YV ⟨U1 (YG z _ _) hz,λt' k=>⟨.str _,H,I.tok k,⟨t',rfl⟩,q⟩⟩)⟩
  |int j uj=>exact⟨"str",_,PySem.F.slot_str_getitem.lookup,Yw _ _ _,WV (l:=some (i,ui)) (u:=some (j,uj)) (st:=none) hs rfl (YV ⟨U1 (YG z _ _) hz,λt' k=>⟨.str _,H,I.tok k,⟨t',rfl⟩,q⟩⟩)⟩
abbrev DO:=bC->M (Option Int)
def WPO(Xw:Nat->Hp->Prop)(F H:Hp)(m:M (Option Int))(Q:Option Int->Hp->Prop):Prop:=
 match m with
 |none=>False
 |some (.ok b)=>∀H' F',Ext F H F' H'->Q b H'
 |some (.ex n)=>∀F' H',Ext F H F' H'->Xw n H'
def T6(K:UJ)(Xw:Nat->Hp->Prop)(δ:DO):TO:=λσ H Q=>∃F ρ,StE K F H σ ρ/\WPO Xw F H (δ ρ) Q
def Ol(X:Cx)(Xw:Nat->Hp->Prop)(e:Option Expr)(δ:DO):Prop:=PO X e (T6 X.K Xw δ)
def oN:DO:=λ_=>aa none
def oS(δ:DE):DO:=λρ=>δ ρ>>=λd=>match d with | .int i=>aa (some i) | _=>af
def EC:Ol X Xw none oN:=λf8 s σ H Q I ⟨F,ρ,S,w⟩=>HA f8 s σ H Q I (w H F (Ext.refl S.fh))
def ED(h:PD X Xw e δ):Ol X Xw (some e) (oS δ):=λf8 s σ H Q I ⟨F,ρ,S,w⟩=>HB h f8 s σ H Q I ⟨F,ρ,S,by
 have w:WPO Xw F H (δ ρ>>=λd=>match d with | .int i=>aa (some i) | _=>af) Q:=w;rcases(δ ρ).cs with q | ⟨n,q⟩ | ⟨d,q⟩
 ·rw[q] at w;exact w.elim
 ·rw[q] at w⊢;exact w
 ·rw[q] at w⊢;intro v H' F' e' hd;cases d with
  |int i=>exact⟨i,hd,w H' F' e'⟩
  |_=>exact w.elim⟩
def WP.bindO{K:UJ}{Xw:Nat->Hp->Prop}{F H:Hp}{Q:VK}{m:M (Option Int)}{k:Option Int->M D}(h:WP K Xw F H (m>>=k) Q):WPO Xw F H m λb H1=>∃F1,Ext F H F1 H1/\WP K Xw F1 H1 (k b) Q:=by
 match m,h with
 |none,h=>exact h
 |some (.ok d),h=>exact λH2 F2 e2=>⟨F2,e2,WP.ext e2 (show WP K Xw F H (k d) Q from h)⟩
 |some (.ex n),h=>exact h
def WPO.mono{Xw:Nat->Hp->Prop}{F H:Hp}{m:M (Option Int)}{Q Q':Option Int->Hp->Prop}(h:WPO Xw F H m Q)(k:∀v H',Q v H'->Q' v H'):WPO Xw F H m Q':=by
 match m,h with
 |none,h=>exact h
 |some (.ok d),h=>exact λH2 F2 e2=>k _ _ (h H2 F2 e2)
 |some (.ex n),h=>exact h
def cutD(ds:List D)(lo hi:Option Int):List D:=(ds.drop (sIx ds.length 0 lo)).take (sIx ds.length ds.length hi - sIx ds.length 0 lo)
def T4:D->Option Int->Option Int->M D
 | .tup ds,lo,hi=>aa (.tup (cutD ds lo hi))
 | .lst ds,lo,hi=>aa (.lst (cutD ds lo hi))
 | .str x,lo,hi=>aa (.str (Txt.slice x lo hi))
 |_,_,_=>af
def Oo(a:DE)(lo hi:DO):DE:=λρ=>a ρ>>=λd=>lo ρ>>=λl=>hi ρ>>=λh=>T4 d l h
def vF(ds:List D)(lo hi:Option Int):(cutD ds lo hi).length<=ds.length:=by
 unfold cutD;rw[Xa,Zx];omega
def DenL.cut{K:UJ}{F:Hp}{ds:List D}{vs:List V}(h:DenL K F ds vs)(lo hi:Option Int):DenL K F (cutD ds lo hi) (vG vs lo hi):=by
 unfold cutD vG;rw[h.len];exact(h.drop _).take _
def NC{δo:DE}{κl κh:DO}(he:PD X Xw e δo)(hl:Ol X Xw lo κl)(hh:Ol X Xw hi κh):PD X Xw (.Subscript e (.Slice lo hi none p2) pos) (Oo δo κl κh):=
 PE.weak (EK (HU.or (Lj.or (uR.or Li))) he hl hh) λσ H Q ⟨F,ρ,s,w⟩=>by
  refine⟨F,ρ,s,WP.mono (WP.bind w) λv H1 ⟨F1,d,e1,q1,w1⟩=>?_⟩;refine⟨F1,ρ,s.ext e1,WPO.mono (WP.bindO w1) λl H2 ⟨F2,e2,w2⟩=>?_⟩;refine⟨F2,ρ,(s.ext e1).ext e2,WPO.mono (WP.bindO w2) λh H3 ⟨F3,e3,w3⟩=>?_⟩;have q3:=Den.mono (e2.ff.trans e3.ff) q1;have fh:=e3.fh;cases d with
  |tup ds=>
   obtain⟨a,vs,rfl,h2,h3,h4⟩:=q3;by_cases hw:sIx vs.length 0 l=0/\sIx vs.length vs.length h=vs.length
   ·refine .inl ⟨a,vs,rfl,SqT.of (fh _ _ h2),hw,?_⟩;have hc:cutD ds l h=ds:=by
     unfold cutD;rw[h3.len,hw.1,hw.2,Zv,YM,<-h3.len,Zw]
    have w3:WP X.K Xw F3 H3 (aa (.tup (cutD ds l h))) Q:=w3;rw[hc] at w3;exact WP.now w3 fh ⟨a,vs,rfl,h2,h3,h4⟩
   ·exact .inr (.inl ⟨a,vs,rfl,SqT.of (fh _ _ h2),hw,λp hp=>WP.fin w3 (Ext.lay fh hp) ⟨p,_,rfl,az,DenL.mono (Ext.lay fh hp).ff (h3.cut l h),U1 (vF _ _ _) h4⟩⟩)
  |lst ds=>
   obtain⟨a,vs,rfl,h2,h3,h4⟩:=q3;exact .inr (.inr (.inl ⟨a,vs,rfl,SqL.of (fh _ _ h2),λp hp=>WP.fin w3 (Ext.lay fh hp) ⟨p,_,rfl,az,DenL.mono (Ext.lay fh hp).ff (h3.cut l h),U1 (vF _ _ _) h4⟩⟩))
  |str x=>exact .inr (.inr (.inr ⟨x,q3.1,q3.2,WP.now w3 fh ⟨rfl,U1 (YG x _ _) q3.2⟩⟩))
  |_=>exact w3.elim
end
def Oh(x:Str):It:=⟨λi _=>i<x.cps.size,λi H v H'=>H'=H/\∃c,x.cps[i]? =some c/\v= .str ⟨#[c]⟩,λi _=>x.cps.size<=i⟩
def CC{P:Vf}{K:UJ}(it:Addr)(x:Str)(t:Tok):Turn P w K tg (Oh x) [it] it (λi h=>i<=x.cps.size/\h.IsStrIter it "str_ascii_iterator" x t i) where
 mem:=by simp
 obj:=λi h st b hb=>by
  have e:b=it:=by simpa using hb
  subst e;obtain⟨_,o,e,c,d⟩:=st;exact⟨o,e,λv z=>by rw[d] at z;cases z⟩
 keep:=λi h h' st k=>⟨st.1,let ⟨o,e,r⟩:=st.2;⟨o,k it (by simp) o e,r⟩⟩
 item:=by
  intro X hP hw hK hc i f8 s σ H E I hf st hg;subst hP hw hK;obtain⟨f0,f1,f2,f3,f4,f5⟩:=hf it (by simp);have hi:i<x.cps.size:=hg;refine(Walks.strAscii (I.ok.hd hc) it x t).item i s _ _ hi st.2 λv h' tk hv lQ kk=>?_;obtain⟨c,u,Px,rfl⟩:=hv;have I1:Inv X f8 σ H {s with heap:=h',toks:=tk}:=I.turned (λb o hb e=>kk b o (by simpa using hb) e) f0 f1 f3 f4 f5;obtain⟨o,e,cc,dd⟩:=id lQ;exact⟨_,rfl,r6 e cc dd (by decide) ⟨.str ⟨#[c]⟩,H,I1,⟨u,rfl⟩,⟨rfl,c,Px,rfl⟩,⟨hi,lQ⟩,λb hb=>(hf b hb).1⟩⟩
 done:=by
  intro X hP hw hK hc i f8 s σ H E I hf st hg;subst hP hw hK;obtain⟨f0,f1,f2,f3,f4,f5⟩:=hf it (by simp);have hi:i=x.cps.size:=Xo st.1 hg;subst hi;exact(Walks.strAscii (I.ok.hd hc) it x t).done s _ _ st.2 λh' tk kk=>⟨rfl,I.turned (λb o hb e=>kk b o (by simpa using hb) e) f0 f1 f3 f4 f5⟩
 self:=λ_ _ _ _ _ st h=>wpAny_pyIter_striter_ascii st.2 h
def CD{P:Vf}{K:UJ}(it:Addr)(x:Str)(t:Tok):Turn P w K tg (Oh x) [it] it (λi h=>i<=x.cps.size/\h.IsStrIter it "str_iterator" x t i) where
 mem:=by simp
 obj:=λi h st b hb=>by
  have e:b=it:=by simpa using hb
  subst e;obtain⟨_,o,e,c,d⟩:=st;exact⟨o,e,λv z=>by rw[d] at z;cases z⟩
 keep:=λi h h' st k=>⟨st.1,let ⟨o,e,r⟩:=st.2;⟨o,k it (by simp) o e,r⟩⟩
 item:=by
  intro X hP hw hK hc i f8 s σ H E I hf st hg;subst hP hw hK;obtain⟨f0,f1,f2,f3,f4,f5⟩:=hf it (by simp);have hi:i<x.cps.size:=hg;refine(Walks.strWide (I.ok.hd hc) it x t).item i s _ _ hi st.2 λv h' tk hv lQ kk=>?_;obtain⟨c,u,Px,rfl⟩:=hv;have I1:Inv X f8 σ H {s with heap:=h',toks:=tk}:=I.turned (λb o hb e=>kk b o (by simpa using hb) e) f0 f1 f3 f4 f5;obtain⟨o,e,cc,dd⟩:=id lQ;exact⟨_,rfl,r6 e cc dd (by decide) ⟨.str ⟨#[c]⟩,H,I1,⟨u,rfl⟩,⟨rfl,c,Px,rfl⟩,⟨hi,lQ⟩,λb hb=>(hf b hb).1⟩⟩
 done:=by
  intro X hP hw hK hc i f8 s σ H E I hf st hg;subst hP hw hK;obtain⟨f0,f1,f2,f3,f4,f5⟩:=hf it (by simp);have hi:i=x.cps.size:=Xo st.1 hg;subst hi;exact(Walks.strWide (I.ok.hd hc) it x t).done s _ _ st.2 λh' tk kk=>⟨rfl,I.turned (λb o hb e=>kk b o (by simpa using hb) e) f0 f1 f3 f4 f5⟩
 self:=λ_ _ _ _ _ st h=>wpAny_pyIter_striter_wide st.2 h
section
variable{X:Cx}{Xw:Nat->Hp->Prop}{tg a b e l o:Expr}{δ:DE}
def Qo(tl:TE):TI:=λσ H R=>tl σ H λx H1=>∃z,x= .str z/\R (Oh z) H1
def K5{tl:TE}(hl:PE X l tl):PI X tg l (Qo tl):=by
 intro f8 s σ H R I h;refine bx (hl f8 s σ H _ I h) λv s1 ⟨x,H1,I1,r1,q1⟩=>?_;obtain⟨z,e,q⟩:=q1;subst e;obtain⟨t,rfl⟩:=r1;have fp:∀b∈[s1.heap.objs.size],oM X f8 H1 b:=λb hb=>by
  have e:b=s1.heap.objs.size:=by simpa using hb
  subst e;exact I1.fpOk (UB _) (I1.hok.fresh (UB _))
 cases ha:z.cps.all (· <128)
 ·exact wpAny_pyIter_wide ha ⟨s1.heap.objs.size,[s1.heap.objs.size],_,_,H1,rfl,I1.kept (t':=s1.toks) λb o e=>Ut _ e,CD _ z t,⟨U3 _,_,UO _ rfl,rfl,rfl⟩,fp,q⟩
 ·exact wpAny_pyIter_ascii ha ⟨s1.heap.objs.size,[s1.heap.objs.size],_,_,H1,rfl,I1.kept λb o e=>Ut _ e,CC _ z t,⟨U3 _,_,UO _ rfl,rfl,rfl⟩,fp,q⟩
def signs(x:Str):List D:=x.cps.toList.map λc=>D.str ⟨#[c]⟩
def Lg:D->M (List D)
 | .str x=>aa (signs x)
 |_=>af
def GL{K:UJ}{F:Hp}(x:Str):ItD K F (Oh x) (signs x):=λF' H' i s1 s2=>by
 refine⟨λd e=>?_,λhl=>show x.cps.size<=i by simpa[signs] using hl⟩;unfold signs at e;rw[UG] at e;cases q:x.cps.toList[i]? with
 |none=>rw[q] at e;cases e
 |some c=>
  rw[q] at e;cases e;have hi:i<x.cps.size:=by
   have:=(UA.mp q).1;simpa using this
  refine⟨hi,λv H'' y=>?_⟩;obtain⟨e2,c',r9,rfl⟩:=y;subst e2;have:c'=c:=by
   have q':x.cps[i]? =some c:=by simpa using q
   rw[q'] at r9;exact(U9 r9).symm
  subst this;exact⟨F',Ext.refl s2,rfl,by show 1<=lim;decide⟩
def Ho(h:PD X Xw l δ):vi X Xw tg l (λρ=>δ ρ>>=Lg):=PI.weak (K5 h) λσ H R ⟨F,ρ,s,w⟩=>by
 refine⟨F,ρ,s,WP.mono (WPI.bind w) λv H1 ⟨F1,d,e1,q1,w1⟩=>?_⟩;cases d with
 |str z=>exact⟨z,q1.1,w1 _ _ _ (Ext.refl e1.fh) (GL z)⟩
 |_=>exact w1.elim
end
end L3
namespace L3
open PySem PySem.Spec L2 SeqAt HT
open PyProof.Rows hiding St
open PySem.W (Frag Looks InstAt findIn mroIn)
open PySem.Builtin PySem.Builtin.ObjectAttr PySem.Builtin.Getset_descriptor
end L3
namespace L3
open PySem PySem.Spec L2 SeqAt HT
open PyProof.Rows hiding St
structure RoomH (k:Nat) (A:Vw):Prop where
 dp:A.depth+3*k+5<aaH
 un:A.units+16*k+200<cLine
def RoomH.deeper(r:RoomH (k+1) A)(env:Env):RoomH k (A.deeper env):=
 ⟨by have:=r.dp;show A.depth+1+3*k+5<_;omega,by have:=r.un;show A.units+3+16*k+200<_;omega⟩
def RoomH.units(r:RoomH k A):A.units+64<cLine:=by have:=r.un;omega
def zR(N:List Str)(osc scope:Scope)(tn:List Str):Bool:=
 decide (scope.kind= .function)&&scope.names.all (λy=>decide (y.2≠ .cell))&&scope.names.all (λy=>decide (y.2= .local->scope.names.lookup y.1=some .local))&&
 scope.names.all (λy=>decide (y.2= .free->(osc.names.lookup y.1=some .cell\/osc.names.lookup y.1=some .free)))&&
 ((aZ tn N).zip N).all (λp=>decide (scope.names.lookup p.1=none\/(p.1=p.2/\scope.names.lookup p.1=some .free)))
def aU(hN:X.N=N)(ho:X.env.scope=osc)(h:zR N osc scope tn=true):CompSc X scope tn:=by
 unfold zR at h;simp only[UY,UT,abF] at h;obtain⟨⟨⟨⟨h1,h2⟩,h3⟩,h4⟩,h5⟩:=h;refine⟨h1,h2,h3,λy hy hf=>?_,?_⟩
 ·have:=h4 y hy hf;rw[<-ho] at this;exact this
 ·rw[hN];exact h5
def bL(hN:X.N.Nodup)(h0:X.N[0]? =some x)(JV:X.env.scope.names.lookup x=some .local):qT X (.Name x px) 0 σ:=λf8 s σ' F H d ts v u I fh hd rv q e=>by
 have e:aa [d]=aa ts:=e;have e:=b8 e;subst e;refine Yu (qH I hN h0 (.inl JV) rv (λs' I'=>⟨[v],?_, .cons q .nil⟩) (.inr JV));have hl:0<σ'.length:=by rw[I.len];exact(UA.mp h0).1
 have:σ'.set 0 (some v)=[v].map some++σ:=by
  cases σ' with
  |nil=>simp at hl
  |cons a r=>
   have hd:r=σ:=by simpa using hd
   subst hd;rfl
 rw[<-this];exact I'
def d6:Passes (jJ P w cv) X (EX cv λ_ _=>False):=λ_ _ _ _ _ _ _ ⟨_,_,_,_,_,_,_,_,_,_,_,_,_,_,z⟩=>z.elim
def bD(K:UJ)(mg:Str->Option Value)(x:Str)(st:Stmt)(f:Addr):Prop:=mg x=some (.ref f)/\∃fd,Fun K x x st f fd
def aq(P:Vf)(w:World)(K:UJ)(mg:Str->Option Value)(base:Heap)(cv:Nat->Value)(k:Nat)(x:Str)(m:Nat)(g:List D->M D):Prop:=
 ∃f fd ps,mg x=some (.ref f)/\WJ K (.ref f)=true/\Binds K fd ps []/\FnOk P w K mg base (jJ P w cv) k f fd ps (LR K cv m g)
section
variable{X:Cx}{Xw:Nat->Hp->Prop}{cv:Nat->Value}{k m:Nat}{g:List D->M D}{x:Str}{p pos:Pos}{e:Expr}{es:List Expr}{δs:DA}
def ay(m:Nat)(g:List D->M D)(δs:DA):DE:=λρ=>δs ρ>>=λds=>if ds.length=m then g ds else af
def bo(F:aq X.prog X.w X.K X.mg X.base cv k x m g)(hr:Room k X.A)(hg:Gl X x)(hx:Passes (jJ X.prog X.w cv) X (EX cv Xw))
 (ha:kA X Xw (e::es) δs)(hl:(e::es).length=m)(tI:(x==("__debug__":Str))=false:=by decide)(he:US (e::es) X.env=(false,eval e X.env)::US es X.env:=by rfl)(ou:(W6 pos (US es X.env)).any (·.1)=false:=by rfl):
 PD X Xw (.Call (.Name x p) (e::es) [] pos) (ay m g δs):=by
 obtain⟨f,fd,ps,h1,h2,h3,h4⟩:=F;exact Hb h4 hr hg h1 h2 h3 hx ha hl tI he ou
end
def aB{K:UJ}{st:Stmt}(T:bD K mg x st f)(S:FnScope N ps (ah st))
 (SF:∀(kV doc pm:Value) (an:Option Addr) (b6 ct:Value) (us:List Value),us.length=ps.length->bindArgs (Wr x x (eB st) (aO st) (ah st) .none kV doc pm an b6 ct) ⟨us,[]⟩=pure (ps.zip us))
 (pw:∀(b6:Value) (A:Vw) (outer:List Env) (s:Ux) (H:Hp) (E:XK),Room k (A.deeper (WO x (ah st) s.heap.objs.size f b6))->
  PSDs (de (jJ P w cv) P w K mg base N x (ah st) f b6 A outer s H E) (λn H'=>E (cv n) none H') (aO st) τ):aq P w K mg base cv (k+1) x ps.length (cC N.length τ):=by
 obtain⟨h1,fd,Fn⟩:=T;exact⟨f,fd,ps,h1,Fn.kp,Fn.binds SF,Me Fn S pw⟩
section
variable{X:Cx}{Xw:Nat->Hp->Prop}{a:Expr}{δ:DE}{pos:Pos}
def Kt:D->M D
 | .int i=>aa (.int (-i))
 |_=>af
def KJ(ha:PD X Xw a δ):PD X Xw (.UnaryOp .USub a pos) (d1 Kt δ):=PE.weak (NG Lx ha) λσ H Q ⟨F,ρ,s,w⟩=>by
 refine⟨F,ρ,s,WP.mono (WP.bind w) λv H1 ⟨F1,d,e1,q,w1⟩=>?_⟩;cases d with
 |int i=>
  have q:v= .int i:=q;subst q;exact⟨i,rfl,WP.now w1 e1.fh rfl⟩
 |_=>exact w1.elim
end
section
variable{X:Cx}{Xw:Nat->Hp->Prop}{pos:Pos}
def Hl{x z:Str}(hg:Gl X x)(h:∃t,X.mg x=some (.str z t))(hz:z.length<=lim)(tI:(x==("__debug__":Str))=false:=by decide):PD X Xw (.Name x pos) (dC (.str z)):=by
 obtain⟨t,h⟩:=h;exact AI (v:= .str z) hg h ⟨t,rfl⟩ (λ_=>⟨rfl,hz⟩) tI
def AJ{x:Str}{i:Int}(hg:Gl X x)(h:∃t,X.mg x=some (.int i t))(tI:(x==("__debug__":Str))=false:=by decide):PD X Xw (.Name x pos) (dC (.int i)):=by
 obtain⟨t,h⟩:=h;exact AI (v:= .int i) hg h ⟨t,rfl⟩ (λ_=>rfl) tI
end
def Ci(sc osc:Scope):Scope:={sc with names:=sc.names.map λ(n,k)=>if (k== .free&&osc.kind== .function&&osc.names.lookup n==some .cell) then(n, .cell) else(n,k)}
structure Box (p:Prop):Prop where
 out:p
section
variable{X:Cx}{Xw:Nat->Hp->Prop}
def dm{st:Stmt}{rest:List Stmt}{τ τ':DS}(h1:Box (gj X Xw st τ))(h2:Box (PSDs X Xw rest τ')):Box (PSDs X Xw (st::rest) (aG τ τ')):=⟨aj h1.out h2.out⟩
def Jp{st:Stmt}{τ:DS}(h1:Box (gj X Xw st τ)):Box (PSDs X Xw [st] τ):=⟨ar h1.out⟩
end
def Og{l:abc}{n k:Nat}{q:Vf}{loose:List Str}{XP:(Str->Option Value)->Heap->Prop}{YP:World->Heap->Prop}{d:DefRec}{K:Params->UJ}{x:Str}{g:List D->M D}
 (hn:l.most=some n)(OF:n<=lim)(My:d.params.defaults=[])(hr:Room k ZW)
 (hY:∀(w:World) (h:Heap),YP w h->(K w.params).In h)(hg:∀ns:List Int,ns.length<=n->g [.scr ns]=aa (.bl true))
 (F:∀(w:World) (mg:Str->Option Value) (fa:Addr) (h:Heap),(K w.params).In h->h.Ns U4 mg->mg d.name=some (.ref fa)->
  ∃(cv:Nat->Value) (fd:Xm),(∀(s:Ux) (u:Value),abl s fd ⟨[u],[]⟩ [(x,u)])/\
   ∀base:Heap,(K w.params).In base->base.Ns U4 mg->FnOk l.prog w (K w.params) mg base (jJ l.prog w cv) k fa fd [x] (LR (K w.params) cv 1 g)):
 PySem.W.WalkO q loose XP YP l.row.toRowW d [] (λf vs=>abb f vs):=by
 refine Att.attach_call hn My λw abK W1 mg mb fa o pm cd doc a vs ns G Y ho hd yb JW DM hints P3 SX=>?_;have KX:=hY w _ Y;obtain⟨cv,fd,hb,hF⟩:=F w mg fa _ KX G.T.g JW;refine wm KX G.T.g G.T.b G.T.builtins G.T.nolimit SX DM hints (U1 P3 (U1 OF (Vt cR))) hr hF hb (λH hO hS=>?_) λH e s' z=>?_
 ·refine⟨H,[.scr ns],λ_ _ e=>e,⟨_,_,rfl,⟨a,rfl,hS,U1 P3 OF⟩,rfl⟩,rfl,?_⟩;rw[hg ns P3];exact λv H' F' e q=>q
 ·obtain⟨_,_,_,_,_,_,_,_,_,_,_,_,_,_,y⟩:=z
def sT(n:Nat):(UH n).map (λk=>n - 1 - k)=(UH n).reverse:=by
 apply Xb
 ·simp
 ·intro i h1 h2;simp at h1;rw[List.getElem_reverse];simp
def xj{α:Type}(xs:Array α):(UH xs.size).reverse.filterMap (λk=>xs[k]?)=xs.toList.reverse:=by
 rw[List.filterMap_reverse];congr 1;have:∀n,n<=xs.size->(UH n).filterMap (λk=>xs[k]?)=xs.toList.take n:=by
  intro n;induction n with
  |zero=>intro _;rfl
  |succ n ih=>
   intro h;have e:xs[n]? =some xs[n]:=Vn (by omega);rw[List.range_succ,List.filterMap_append,ih (by omega),abv];simp[e]
 rw[this xs.size (UB _),<-UL,Zw]
def vW{α β:Type}{f g:α->Option β}:∀{l:List α},(∀x∈l,f x=g x)->l.filterMap f=l.filterMap g
 |[],_=>rfl
 |a::l,h=>by rw[Xe,Xe,h a (Uv ..),vW λx hx=>h x (Uu _ hx)]
def zk(n:Nat):sliceRange ((n:Int) - 1) (-1) (-1)=(UH n).reverse:=by
 rw[<-sT];unfold sliceRange;have e1:¬((-1:Int)>0):=by omega
 simp only[e1,if_false];by_cases h:(n:Int) - 1> -1
 ·simp only[h,if_true];have e2:((((n:Int) - 1 - -1 - -1 - 1) / (- -1)).toNat)=n:=by
   have:(n:Int) - 1 - -1 - -1 - 1=n:=by omega
   rw[this];simp
  rw[e2];refine Vp λk hk=>?_;have:=UP.mp hk;omega
 ·simp only[h,if_false];have:n=0:=by omega
  subst this;rfl
def uK(x:Str):Str:=⟨x.cps.toList.reverse.toArray⟩
def qw(x:Str):(uK x).length=x.length:=by
 show x.cps.toList.reverse.toArray.size=x.cps.size;simp
section
variable{prog:Vf}{w:World}{A:Vw}{E:Value->Ux->Prop}{s:Ux}
def D7(x:Str)(t u:Tok):sliceMade x t none none (some (-1,u))= .str (uK x):=by
 unfold sliceMade slicePicked;have h:¬((((some ((-1:Int),u)).map (·.1)).getD 1==1&&(Wj none none (-1) x.length).length==x.length)=true):=by
  intro q;rw[UY] at q;exact abE (show ((-1:Int)==1)=true from q.1) (by decide)
 have e:Wj none none (-1) x.length=(UH x.length).reverse:=by
  unfold Wj;exact zk x.length
 show (if ((((some ((-1:Int),u)).map (·.1)).getD 1==1&&(Wj none none (-1) x.length).length==x.length)=true) then Made.val (.str x t) else Made.str ⟨((Wj none none (-1) x.length).filterMap (x.cps[·]?)).toArray⟩)=_;rw[abA h,e];show Made.str ⟨((UH x.cps.size).reverse.filterMap (x.cps[·]?)).toArray⟩=_;rw[xj];rfl
def vx{sl:Addr}{u:Tok}{n:Nat}{Q:Int×Int×Nat->Ux->Prop}(hs:s.heap.IsSliceOf sl .none .none (.int (-1) u))(h:Q ((n:Int) - 1,-1,n) s):
 wpAny (model prog w) A (WT (.ref sl) (pure (n:Int))) Q E s:=by
 obtain⟨os,tL,JQ,BA⟩:=id hs;unfold WT Y3;refine Uq (Uq (WG tL BA (x:= .none) rfl (Uq (WG tL BA (x:= .none) rfl (Uq (WG tL BA (x:= .int (-1) u) rfl (Uw ?_)))))));refine Uq (slicePart_int ?_);show wpAny _ _ (if ((-1:Int)==0)=true then _ else _) _ _ s;rw[abA (by decide)];refine Uq (Zg (Uq (Zg (Uq (Uw ?_)))));show wpAny _ _ (match Wm none none (-1) (n:Int) with | (lo,hi)=>pure (lo,(-1:Int),VB lo hi (-1))) _ _ s;have e1:Wm none none (-1) (n:Int)=((n:Int) - 1,-1):=rfl;have e2:VB ((n:Int) - 1) (-1) (-1)=n:=by
  unfold VB;have e1:¬((-1:Int)>0):=by omega
  simp only[e1,if_false];have e3:(- (-1:Int))=1:=by omega
  rw[e3,Int.ediv_one];split<;>omega
 rw[e1];show wpAny _ _ (pure ((n:Int) - 1,(-1:Int),VB ((n:Int) - 1) (-1) (-1))) _ _ s;rw[e2];exact Uw h
def kO{t sl:Addr}{items:Array Value}{u:Tok}{Q:Value->Ux->Prop}(ht:IsTup s.heap t items)(hs:s.heap.IsSliceOf sl .none .none (.int (-1) u))
 (h:Q (.ref s.heap.objs.size) {s with heap:=s.heap.push {cls:= .type "tuple",data:= .seq items.toList.reverse.toArray} })(hsz:items.size<=UR):wpAny (model prog w) A (X8 (.ref t) (.ref sl)) Q E s:=by
 have hr:sizeOk (.seq items.toList.reverse.toArray):=by
  show items.toList.reverse.toArray.size<=UR;simpa using hsz
 obtain⟨os,tL,JQ,BA⟩:=id hs;have Mo:s.TypeIs (.ref sl) "slice":=⟨os,tL,JQ⟩
 unfold X8
 try with_reducible refine VT ?_
 first | refine Uq (Uw ?_) | skip
 refine Uq (ZU ht.typeIs (by decide) ?_);refine Uq (VU (name:=V8 "__getitem__") ht.typeIs VI
  (Vq VI ht.typeIs Zp ?_ (ZF _ _)))
 show wpAny _ _ (XA (.ref t)>>=_) _ _ s;refine Uq (aa4 ht ?_);refine Uq (Yh Mo ?_);rw[abz (by decide)];refine Uq (vx hs ?_);have tK:¬((((items.size:Int) - 1)==0&&(-1:Int)==1&&items.size==items.size)=true):=by
  intro q;rw[UY,UY] at q;exact abE q.1.2 (by decide)
 show wpAny _ _ (if (((items.size:Int) - 1)==0&&(-1:Int)==1&&items.size==items.size)=true then _ else _) _ _ s;rw[abA tK];have e:((UH items.size).filterMap λ(m:Nat)=>items[(((items.size:Int) - 1)+(m:Int)*(-1)).toNat]?).toArray=items.toList.reverse.toArray:=by
  rw[<-xj,<-sT,abi];congr 1;refine vW λk hk=>?_;have:=UP.mp hk;have q:(((items.size:Int) - 1)+(k:Int)*(-1)).toNat=items.size - 1 - k:=by omega
  rw[q];rfl
 rw[e]
 first
  |exact Uq (m:=VE _) (U_ (Uw ⟨_,rfl,Uw h⟩) hr)
  |exact Uq (m:=VE _) (U_ (Uq (Uw (Uw ⟨_,rfl,Uw h⟩))) hr)
  |exact Uq (Uq (m:=VE _) (U_ (Uw (Uw ⟨_,rfl,Uw h⟩)) hr))
  |exact Uq (Uq (m:=VE _) (U_ (Uw ⟨_,rfl,Uw h⟩) hr))
end
section
variable{X:Cx}{Xw:Nat->Hp->Prop}{e L_:Expr}{te ts:TE}{δ δs:DE}{pos p2:Pos}
def Q6(X:Cx)(r:V->Hp->VK->Prop):Prop:=
 ∀(f8:List (Addr×Obj)) (s:Ux) (σ:St) (H:Hp) (x:V) (v:Value) (u:Tok) (sl:Addr) (Q:VK),Inv X f8 σ H s->RelV x v->s.heap.IsSliceOf sl .none .none (.int (-1) u)->r x H Q->
  ∃T id,typeLookup (.type T) "__getitem__"=pure (some (.builtin id))/\s.TypeIs v T/\wpAny (model X.prog X.w) X.A (X8 v (.ref sl)) (EP X f8 σ Q) X.xe s
def KY{r:V->Hp->VK->Prop}(hr:Q6 X r)(he:PE X e te)(hs:PE X L_ ts):PE X (.Subscript e (.Slice none none (some L_) p2) pos) (λσ H Q=>te σ H λx H1=>ts σ H1 λy H2=>y= .int (-1)/\r x H2 Q):=by
 intro f8 s σ H Q I h;refine aaW (bx (he f8 s σ H _ I h) λv s1 ⟨x,H1,I1,r1,q1⟩=>?_);refine wpAny_Slice ?_;rw[aa8];refine Uw (Uw ?_);rw[evalPart_some];refine bx (hs f8 s1 σ H1 _ I1 q1) λvs s3 ⟨y,H3,I3,ry,q3⟩=>?_;obtain⟨rfl,q3⟩:=q3;obtain⟨u,rfl⟩:=ry;have I4:Inv X f8 σ H3 {s3 with heap:=s3.heap.push {cls:= .type "slice",data:= .fields #[.none, .none, .int (-1) u]} }:=I3.kept (t':=s3.toks) λb ob q=>Ut _ q;obtain⟨T,id,hT,ht,hg⟩:=hr f8 {s3 with heap:=s3.heap.push {cls:= .type "slice",data:= .fields #[.none, .none, .int (-1) u]} } σ H3 x v u s3.heap.objs.size Q I4 r1 (ZK ..) q3;show wpAny (model X.prog X.w) X.A (ZA e (.Slice none none (some L_) p2) v (.ref s3.heap.objs.size)) (EP X f8 σ Q) X.xe {s3 with heap:=s3.heap.push {cls:= .type "slice",data:= .fields #[.none, .none, .int (-1) u]} };exact tail_any (ops:=[v, .ref s3.heap.objs.size]) ht hT hg (by with_unfolding_all rfl)
def QH(K:UJ):V->Hp->VK->Prop:=λx H Q=>(∃z:Str,x= .str z/\z.length<=lim/\Q (.str (uK z)) H)\/∃a xs,x= .ref a/\SqT K H a xs/\∀p,H p=none->Q (.ref p) (upd H p (.tup xs.reverse))
def Ld:Q6 X (QH X.K):=by
 intro f8 s σ H x v u sl Q I rx hs h;rcases h with⟨z,rfl,hl,q⟩ | ⟨a,xs,rfl,hx,q⟩
 ·obtain⟨t,rfl⟩:=rx;refine⟨"str",_,PySem.F.slot_str_getitem.lookup,Yw _ _ _,WV (l:=none) (u:=none) (st:=some (-1,u)) hs rfl ?_⟩;rw[D7];exact⟨by rw[qw];have:=cR;omega,⟨.str _,H,I.tok _,⟨_,rfl⟩,q⟩⟩
 ·cases rx;obtain⟨aD,r,ht,hz⟩:=I.tuple hx;have P3:=r.length;refine⟨"tuple",_,PyProof.Rows.slot_tuple_getitem.lookup,ht.typeIs,kO ht hs ?_ (by rw[UK];omega)⟩;refine⟨.ref s.heap.objs.size,_,I.laid (t':=s.toks) (o:= .tup xs.reverse) (λb ob q=>Ut _ q) (UB _) ?_,rfl,q _ (I.hok.fresh (UB _))⟩;exact⟨by rw[YR];exact hz,_,r.reverse,⟨_,UO _ rfl,rfl,by simp⟩⟩
def NZ:D->M D
 | .str x=>aa (.str (uK x))
 | .tup ds=>aa (.tup ds.reverse)
 |_=>af
def Js(a st:DE):DE:=λρ=>a ρ>>=λd=>st ρ>>=λk=>match k with
 | .int i=>if i= -1 then NZ d else af
 |_=>af
def KO(he:PD X Xw e δ)(hs:PD X Xw L_ δs):PD X Xw (.Subscript e (.Slice none none (some L_) p2) pos) (Js δ δs):=
 PE.weak (KY Ld he hs) λσ H Q ⟨F,ρ,s,w⟩=>by
  refine⟨F,ρ,s,WP.mono (WP.bind w) λv H1 ⟨F1,d,e1,q1,w1⟩=>?_⟩;refine⟨F1,ρ,s.ext e1,WP.mono (WP.bind w1) λy H2 ⟨F2,k,e2,q2,w2⟩=>?_⟩;have q3:=Den.mono e2.ff q1;cases k with
  |int i=>
   have w2:WP X.K Xw F2 H2 (if i= -1 then NZ d else af) Q:=w2;split at w2
   ·rename_i hi;subst hi;refine⟨q2,?_⟩;cases d with
    |str x=>exact .inl ⟨x,q3.1,q3.2,WP.now w2 e2.fh ⟨rfl,by rw[qw];exact q3.2⟩⟩
    |tup ds=>
     obtain⟨a,vs,rfl,h2,h3,h4⟩:=q3;exact .inr ⟨a,vs,rfl,SqT.of (e2.fh _ _ h2),λp hp=>WP.fin w2 (Ext.lay e2.fh hp) ⟨p,_,rfl,az,DenL.mono (Ext.lay e2.fh hp).ff h3.reverse,by rw[YR];exact h4⟩⟩
    |_=>exact w2.elim
   ·exact w2.elim
  |_=>exact w2.elim
end
def IsTupRev(h:Heap)(it t:Addr)(i:Int):Prop:=∃o,h.get? it=some o/\o.cls= .type "reversed"/\o.data= .fields #[.ref t,XX i]
section
variable{s:Ux}
def IsTupRev.typeIs{it t:Addr}{i:Int}(x:IsTupRev s.heap it t i):s.TypeIs (.ref it) "reversed":=let ⟨o,ho,hc,_⟩:=x;⟨o,ho,hc⟩
end
section
variable{e:Expr}
end
def mj:D->Option Key
 | .int i=>some (.inl i)
 | .str x=>some (.inr x)
 |_=>none
def tX:List D->Option (List Key)
 |[]=>some []
 |d::ds=>match mj d,tX ds with
  |some k,some ks=>some (k::ks)
  |_,_=>none
def eg:D->Option (List Key)
 | .tup ds=>tX ds
 |_=>none
def gw{K:UJ}{F:Hp}(e:mj d=some k)(h:Den K F d v):v=kV k:=by
 cases d<;>first | cases e | skip
 ·exact h
 ·exact h.1
def iJ{K:UJ}{F:Hp}:∀{ds:List D}{vs:List V}{ks:List Key},tX ds=some ks->DenL K F ds vs->vs=ks.map kV
 |[],_,_,e,h=>by cases e;exact h
 |d::ds,_,_,e,⟨v,r,h1,h2,h3⟩=>by
  unfold tX at e;split at e
  ·rename_i k ks e1 e2;cases e;subst h1;rw[Uz,gw e1 h2,iJ e2 h3]
  ·cases e
section
variable{κ:Type}[DecidableEq κ]
def cZ:List κ->List D->κ->Option D
 |k'::ks,d::ds,k=>if k'=k then some d else cZ ks ds k
 |_,_,_=>none
def mI:List κ->List D->κ->D->List D
 |k'::ks,d'::ds,k,d=>(if k'=k then d else d')::mI ks ds k d
 |_,_,_,_=>[]
def lS{K:UJ}{F:Hp}:∀{ks:List κ}{ds:List D}{vs:List V}(k:κ),DenL K F ds vs->ks.length=ds.length->
 (match cZ ks ds k with | some d=>∃v,eN (ks.zip vs) k=some v/\Den K F d v | none=>eN (ks.zip vs) k=none)
 |[],[],_,_,_,_=>rfl
 |k'::ks,d::ds,_,k,⟨v,r,h1,h2,h3⟩,hl=>by
  subst h1;unfold cZ;rw[VW];by_cases e:k'=k
  ·rw[abz e,jm e];exact⟨v,rfl,h2⟩
  ·rw[abA e,jl e];exact lS k h3 (by simpa using hl)
 |[],_::_,_,_,_,hl=>by simp at hl
 |_::_,[],_,_,_,hl=>by simp at hl
def jj{K:UJ}{F:Hp}(k:κ)(h:DenL K F ds vs)(hl:ks.length=ds.length):(eN (ks.zip vs) k).isSome=(cZ ks ds k).isSome:=by
 have:=lS k h hl;split at this
 ·rename_i d e;obtain⟨v,e1,_⟩:=this;rw[e1,e];rfl
 ·rename_i e;rw[this,e];rfl
def xx{K:UJ}{F:Hp}(hd:Den K F d v):∀{ks:List κ}{ds:List D}{vs:List V}(k:κ),DenL K F ds vs->ks.length=ds.length->
 ∃ws,(ks.zip vs).map (λkv=>if kv.1=k then(kv.1,v) else kv)=ks.zip ws/\DenL K F (mI ks ds k d) ws
 |[],[],_,_,h,_=>⟨[],rfl,rfl⟩
 |k'::ks,d'::ds,_,k,⟨v',r,h1,h2,h3⟩,hl=>by
  subst h1;obtain⟨ws,e1,e2⟩:=xx hd k h3 (by simpa using hl);by_cases e:k'=k
  ·refine⟨v::ws,?_,?_⟩
   ·rw[VW,Uz,e1,abz e];rfl
   ·unfold mI;rw[abz e];exact .cons hd e2
  ·refine⟨v'::ws,?_,?_⟩
   ·rw[VW,Uz,e1,abA e];rfl
   ·unfold mI;rw[abA e];exact .cons h2 e2
 |[],_::_,_,_,_,hl=>by simp at hl
 |_::_,[],_,_,_,hl=>by simp at hl
def i9:∀(ks:List κ) (ds:List D) (k:κ) (d:D),ks.length=ds.length->(mI ks ds k d).length=ds.length
 |[],[],_,_,_=>rfl
 |_::ks,_::ds,k,d,h=>by unfold mI;rw[UI,UI,i9 ks ds k d (by simpa using h)]
 |[],_::_,_,_,h=>by simp at h
 |_::_,[],_,_,h=>by simp at h
def cN(ks:List κ)(ds:List D)(k:κ):List κ:=if (cZ ks ds k).isSome then ks else ks++[k]
def bZ(ks:List κ)(ds:List D)(k:κ)(d:D):List D:=if (cZ ks ds k).isSome then mI ks ds k d else ds++[d]
def uG{K:UJ}(hd:Den K F d v)(k:κ)(h:DenL K F ds vs)(hl:ks.length=ds.length):
 ∃ws,putK (ks.zip vs) k v=(cN ks ds k).zip ws/\DenL K F (bZ ks ds k d) ws/\(cN ks ds k).length=(bZ ks ds k d).length:=by
 have hs:=jj k h hl;unfold putK cN bZ;have ha:((ks.zip vs).any λkv=>decide (kv.1=k))=(eN (ks.zip vs) k).isSome:=jk ..;rw[ha,hs];cases e:(cZ ks ds k).isSome with
 |true=>
  rw[abz rfl,abz rfl,abz rfl];obtain⟨ws,e1,e2⟩:=xx hd k h hl;exact⟨ws,e1,e2,by rw[i9 ks ds k d hl];exact hl⟩
 |false=>
  rw[abA UU,abA UU,abA UU];refine⟨vs++[v],?_,h.append (.cons hd .nil),by simp[hl]⟩;rw[Yz (by rw[hl];exact h.len)];rfl
end
def va{κ:Type}{K:UJ}{ks:List κ}(h:DenL K F ds vs)(hl:ks.length=ds.length):(ks.zip vs).length=ds.length:=by
 rw[WE,hl,<-h.len];omega
def qE(ρ:bC)(i:Nat):Option D:=match ρ[i]? with
 |some (some (.fz d))=>some d
 |some (some (.ow c))=>some c.d
 |_=>none
def Fe{K:UJ}(s:StE K F H σ ρ)(e:qE ρ i=some (.dct ks ds)):
 ∃a vs,σ[i]? =some (some (.ref a))/\Rd H a (.dT (ks.zip vs))/\DenL K F ds vs/\ks.length=ds.length/\ds.length<=lim:=by
 unfold qE at e;split at e
 ·rename_i d e1;cases e;obtain⟨v,h1,a,ob,vs,rfl,h2,h3,h4,h5⟩:=s.den i _ e1;exact⟨a,vs,h1, .inr ⟨ob,s.fh _ _ h2⟩,h3,h4,h5⟩
 ·rename_i c e1;cases c<;>cases e
  obtain⟨v,h1,a,o,rfl,h2,_,vs,rfl,h3,h4,h5⟩:=s.den i _ e1;exact⟨a,vs,h1, .inl h2,h3,h4,h5⟩
 ·cases e
def Fd{K:UJ}(s:StE K F H σ ρ)(e:qE ρ i=some (.dci ks ds)):
 ∃a vs,σ[i]? =some (some (.ref a))/\Rd H a (.dK (ks.zip vs))/\DenL K F ds vs/\ks.length=ds.length/\ds.length<=lim:=by
 unfold qE at e;split at e
 ·rename_i d e1;cases e;obtain⟨v,h1,a,ob,vs,rfl,h2,h3,h4,h5⟩:=s.den i _ e1;exact⟨a,vs,h1, .inr ⟨ob,s.fh _ _ h2⟩,h3,h4,h5⟩
 ·rename_i c e1;cases c<;>cases e
  obtain⟨v,h1,a,o,rfl,h2,_,vs,rfl,h3,h4,h5⟩:=s.den i _ e1;exact⟨a,vs,h1, .inl h2,h3,h4,h5⟩
 ·cases e
def Bc:D->D->Option (Option D)
 | .dct ks ds,k=>(eg k).map (cZ ks ds)
 | .dci ks ds,k=>(mj k).map (cZ ks ds)
 |_,_=>none
def zO{K:UJ}(s:StE K F H σ ρ)(hi:qE ρ i=some d)(hk:Den K F k y)(e:Bc d k=some o):
 ∃a ov,σ[i]? =some (some (.ref a))/\jY H a y ov/\ov.isSome=o.isSome/\∀d',o=some d'->∃v,ov=some v/\Den K F d' v:=by
 unfold Bc at e;split at e
 ·rename_i ks ds;cases q:eg k with
  |none=>rw[q] at e;cases e
  |some kk=>
   rw[q] at e;cases e;obtain⟨a,vs,h1,h2,h3,h4,h5⟩:=Fe s hi;unfold eg at q;split at q
   ·rename_i es;obtain⟨b,ws,rfl,k2,k3,_⟩:=hk;have e1:=iJ q k3;subst e1;refine⟨a,_,h1, .inr ⟨_,kk,b,h2,rfl,s.fh _ _ k2,rfl⟩,jj kk h3 h4,λd' vj=>?_⟩;have:=lS kk h3 h4;rw[vj] at this;exact this
   ·cases q
 ·rename_i ks ds;cases q:mj k with
  |none=>rw[q] at e;cases e
  |some kk=>
   rw[q] at e;cases e;obtain⟨a,vs,h1,h2,h3,h4,h5⟩:=Fd s hi;have e1:=gw q hk;subst e1;refine⟨a,_,h1, .inl ⟨_,kk,h2,rfl,rfl⟩,jj kk h3 h4,λd' vj=>?_⟩;have:=lS kk h3 h4;rw[vj] at this;exact this
 ·cases e
section
variable{X:Cx}{Xw:Nat->Hp->Prop}{a e:Expr}{δ δk δv:DE}{pos p pos' HC:Pos}{x:Str}{i:Nat}
def L4(neg:Bool)(i:Nat)(δ:DE):DE:=λρ=>δ ρ>>=λk=>match qE ρ i with
 |some d=>match Bc d k with
  |some o=>aa (.bl (if neg then !o.isSome else o.isSome))
  |none=>af
 |none=>af
def J_{neg:Bool}{σ:St}(h:tD X.K Xw (L4 neg i δ) σ H Q):(λσ H Q=>tD X.K Xw δ σ H λy H1=>ky i σ H1 λx H2=>∃a o,x= .ref a/\jY H2 a y o/\Q (.bl (if neg then !o.isSome else o.isSome)) H2) σ H Q:=by
 obtain⟨F,ρ,s,w⟩:=h;refine⟨F,ρ,s,WP.mono (WP.bind w) λy H1 ⟨F1,k,e1,q1,w1⟩=>?_⟩;have s1:=s.ext e1;cases hi:qE ρ i with
 |none=>rw[hi] at w1;exact w1.elim
 |some d=>
  rw[hi] at w1;have w1:WP X.K Xw F1 H1 (match Bc d k with | some o=>aa (.bl (if neg then !o.isSome else o.isSome)) | none=>af) Q:=w1;cases he:Bc d k with
  |none=>rw[he] at w1;exact w1.elim
  |some o=>
   rw[he] at w1;obtain⟨a,ov,h1,h2,h3,_⟩:=zO s1 hi q1 he;refine⟨.ref a,h1,a,ov,rfl,h2,?_⟩;rw[h3];exact WP.now w1 e1.fh rfl
def QF(hu:X.A.units+64<cLine)(ha:PD X Xw a δ)(hv:PE X (.Name x p) (ky i))(hm:VF .In (.Name x p)=false:=by rfl):PD X Xw (.Compare a [.In] [.Name x p] pos) (L4 false i δ):=
 PE.weak (KQ (KG (by omega) ha hv) hm) λσ H Q h=>J_ (neg:=false) h
def xB(i:Nat):DS:=λρ=>aa (.nx (ρ.set i (some (.ow (.dct [] [])))))
def Ja(i:Nat):DS:=λρ=>aa (.nx (ρ.set i (some (.ow (.dci [] [])))))
def lI(hN:X.N.Nodup)(hi:X.N[i]? =some x)(hx:Loc X.env.scope x)(hf:X.fn x=true\/X.env.scope.names.lookup x=some .local:=by first | exact .inl rfl | exact .inr rfl):
 gj X Xw (.Assign [.Name x pos'] (.Dict [] [] HC) pos) (xB i):=λt0 abJ=>PS.weak (mD EI (aQ hN hi hx hf) rfl) λD σ H ⟨F,ρ,s,w⟩=>λq hq=>
 w _ F _ (s.setNew (c₀:= .dct [] []) hq ⟨[],rfl,rfl,rfl,U3 _⟩)
def ES(hN:X.N.Nodup)(hi:X.N[i]? =some x)(hx:Loc X.env.scope x)(hf:X.fn x=true\/X.env.scope.names.lookup x=some .local:=by first | exact .inl rfl | exact .inr rfl):
 gj X Xw (.Assign [.Name x pos'] (.Dict [] [] HC) pos) (Ja i):=λt0 abJ=>PS.weak (mD xh (aQ hN hi hx hf) rfl) λD σ H ⟨F,ρ,s,w⟩=>λq hq=>
 w _ F _ (s.setNew (c₀:= .dci [] []) hq ⟨[],rfl,rfl,rfl,U3 _⟩)
def i7:C->D->D->Option C
 | .dct ks ds,k,d=>match eg k with
   |some kk=>if ds.length<lim then some (.dct (cN ks ds kk) (bZ ks ds kk d)) else none
   |none=>none
 | .dci ks ds,k,d=>match mj k with
   |some kk=>if ds.length<lim then some (.dci (cN ks ds kk) (bZ ks ds kk d)) else none
   |none=>none
 |_,_,_=>none
def rl(ρ:bC)(i:Nat):Option C:=match ρ[i]? with
 |some (some (.ow c))=>some c
 |_=>none
def mx{ρ:bC}{i:Nat}(h:rl ρ i=some c):ρ[i]? =some (some (.ow c)):=by
 unfold rl at h;split at h
 ·rename_i c' e;cases h;exact e
 ·cases h
def gN(i:Nat)(δk δv:DE):DS:=λρ=>match rl ρ i with
 |some c=>δv ρ>>=λv=>δk ρ>>=λk=>match i7 c k v with
  |some c'=>aa (.nx (ρ.set i (some (.ow c'))))
  |none=>af
 |none=>af
def sL{κ:Type}[DecidableEq κ]{ks:List κ}{k:κ}(hl:ks.length=ds.length)(h:ds.length<lim):(bZ ks ds k d).length<=lim:=by
 unfold bZ;split
 ·rw[i9 ks ds k d hl];omega
 ·rw[UN];exact h
def EW{K:UJ}{F H:Hp}(hs:Same F H)(hb:H b=some o)(hc:DenC K F c o)(hk:Den K F k y)(hd:Den K F d v)(e:i7 c k d=some c'):∃o',DPut H b y v (upd H b o')/\DenC K F c' o':=by
 have JU:=cR;unfold i7 at e;split at e
 ·rename_i ks ds k d;obtain⟨vs,rfl,h3,h4,h5⟩:=hc;split at e
  ·rename_i kk q;split at e
   ·rename_i cI;cases e;unfold eg at q;split at q
    ·rename_i es;obtain⟨b2,ws,rfl,k2,k3,_⟩:=hk;have e1:=iJ q k3;subst e1;obtain⟨us,e2,e3,e4⟩:=uG hd kk h3 h4;refine⟨_,DPut.t hb (hs _ _ k2) (by rw[va h3 h4];omega),us,?_,e3,e4,sL h4 cI⟩;rw[e2]
    ·cases q
   ·cases e
  ·cases e
 ·rename_i ks ds k d;obtain⟨vs,rfl,h3,h4,h5⟩:=hc;split at e
  ·rename_i kk q;split at e
   ·rename_i cI;cases e;have e1:=gw q hk;subst e1;obtain⟨us,e2,e3,e4⟩:=uG hd kk h3 h4;refine⟨_,DPut.k hb (by rw[va h3 h4];omega),us,?_,e3,e4,sL h4 cI⟩;rw[e2]
   ·cases e
  ·cases e
 ·cases e
def i3(hu:X.A.units+64<cLine)(hv:PE X (.Name x p) (ky i))(hk:PD X Xw a δk)(he:PD X Xw e δv)(hs:X6 e (some (.Subscript (.Name x p) a pos')) pos.line X.env=pure false:=by rfl):
 gj X Xw (.Assign [.Subscript (.Name x p) a pos'] e pos) (gN i δk δv):=λt0 abJ=>PS.weak (AR (by omega) hv hk he hs) λD σ H ⟨F,ρ,s,w⟩=>by
 unfold gN at w;cases ho:rl ρ i with
 |none=>rw[ho] at w;exact w.elim
 |some c=>
  rw[ho] at w;have hi:=mx ho;have w:WPS X.K Xw t0 abJ (δv ρ>>=λv=>δk ρ>>=λk=>match i7 c k v with | some c'=>aa (.nx (ρ.set i (some (.ow c')))) | none=>af) D:=w;refine⟨F,ρ,s.st,?_⟩;rcases(δv ρ).cs with q | ⟨n,q⟩ | ⟨dv,q⟩
  ·rw[q] at w;exact w.elim
  ·rw[q] at w⊢;exact λF' H' e'=>w F' H' (s.ext.trans e')
  ·rw[q] at w⊢;intro v H1 F1 e1 hq;have s1:=s.ext' e1;obtain⟨u,h1,b,o,rfl,h2,h3,h4⟩:=s1.st.den i _ hi;have w:WPS X.K Xw t0 abJ (δk ρ>>=λk=>match i7 c k dv with | some c'=>aa (.nx (ρ.set i (some (.ow c')))) | none=>af) D:=w;refine⟨.ref b,h1,F1,ρ,s1.st,?_⟩;rcases(δk ρ).cs with q2 | ⟨n,q2⟩ | ⟨dk,q2⟩
   ·rw[q2] at w;exact w.elim
   ·rw[q2] at w⊢;exact λF' H' e'=>w F' H' (s1.ext.trans e')
   ·rw[q2] at w⊢;intro y H2 F2 e2 hy;have w:WPS X.K Xw t0 abJ (match i7 c dk dv with | some c'=>aa (.nx (ρ.set i (some (.ow c')))) | none=>af) D:=w;cases hp:i7 c dk dv with
    |none=>rw[hp] at w;exact w.elim
    |some c'=>
     rw[hp] at w;have s2:=s1.ext' e2;obtain⟨u2,k1,b2,o2,Pp,k2,k3,k4⟩:=s2.st.den i _ hi;rw[h1] at k1;cases k1;cases Pp;obtain⟨o',g,hc⟩:=EW s2.st.fh k2 k4 hy (Den.mono e2.ff hq) hp;exact⟨b,_,rfl,g,w σ F2 _ (s2.chg hi h1 hc)⟩
end
def ez(c:DT)(body:DS):Nat->DS
 |0,_=>af
 |n+1,ρ=>c ρ>>=λb=>if b then body ρ>>=λo=>match o with | .nx ρ'=>ez c body n ρ' | .rt d=>aa (.rt d) else aa (.nx ρ)
def zp(c:DT)(body:DS):DS:=λρ=>ez c body lim ρ
section
variable{X:Cx}{Xw:Nat->Hp->Prop}{τ:DS}{tc:DT}{pos:Pos}
def sJ(hp:aaz (model X.prog X.w) X.A X.env X.xe)(hc:oP X Xw c tc)(hb:PSDs X Xw body τ):gj X Xw (.While c body [] pos) (zp tc τ):=λt0 abJ=>PS.weak (EO hp hc hb.ex) λD σ H ⟨F,ρ,s,w⟩=>by
 refine⟨λm σ H=>∃F ρ,StOk X.K t0 abJ F H σ ρ/\WPS X.K Xw t0 abJ (ez tc τ m ρ) D,⟨lim,F,ρ,s,w⟩,?_⟩;rintro m σ H ⟨F,ρ,s,w⟩;cases m with
 |zero=>exact w.elim
 |succ m=>
  refine⟨F,ρ,s.st,?_⟩;unfold ez at w
  match tc ρ,w with
  |none,w=>exact w
  |some (.ex n),w=>exact λF' H' e'=>w F' H' (s.ext.trans e')
  |some (.ok false),w=>exact λH' F' e'=>w σ F' H' (s.ext' e')
  |some (.ok true),w=>
   intro H' F' e';have w:WPS X.K Xw t0 abJ (τ ρ>>=λo=>match o with | .nx ρ'=>ez tc τ m ρ' | .rt d=>aa (.rt d)) D:=w;refine⟨λσ' H'=>∃F' ρ',StOk X.K t0 abJ F' H' σ' ρ'/\WPS X.K Xw t0 abJ (ez tc τ m ρ') D,λσ' H' h=>⟨m,XM m,h⟩,t0,abJ,F',ρ,s.ext' e',?_⟩
   match τ ρ,w with
   |none,w=>exact w
   |some (.ok (.nx ρ')),w=>exact λσ' F' H' s'=>⟨F',ρ',s',w⟩
   |some (.ok (.rt d)),w=>exact w
   |some (.ex n),w=>exact w
end
def kX:List D->Option (List (List Key))
 |[]=>some []
 |d::ds=>match eg d,kX ds with
  |some k,some ks=>some (k::ks)
  |_,_=>none
def JA:∀{x y:D}{k k':Key}{n:Nat},mj x=some k->mj y=some k'->jH n x y=some (decide (k=k'))
 | .int i, .int j,_,_,n,e1,e2=>by
   cases e1;cases e2;have:jH n (.int i) (.int j)=some (i==j):=by cases n<;>rfl
   rw[this];congr 1;by_cases h:i=j
   ·subst h;simp
   ·simp[h]
 | .str x, .str y,_,_,n,e1,e2=>by
   cases e1;cases e2;have:jH n (.str x) (.str y)=some (x==y):=by cases n<;>rfl
   rw[this];congr 1;by_cases h:x=y
   ·subst h;simp
   ·simp[h]
 | .int i, .str y,_,_,n,e1,e2=>by
   cases e1;cases e2;have:jH n (.int i) (.str y)=some false:=by cases n<;>rfl
   rw[this];simp
 | .str x, .int j,_,_,n,e1,e2=>by
   cases e1;cases e2;have:jH n (.str x) (.int j)=some false:=by cases n<;>rfl
   rw[this];simp
 | .non,_,_,_,_,e1,_=>by cases e1
 | .bl _,_,_,_,_,e1,_=>by cases e1
 | .raw _,_,_,_,_,e1,_=>by cases e1
 | .exc _,_,_,_,_,e1,_=>by cases e1
 | .scr _,_,_,_,_,e1,_=>by cases e1
 | .tup _,_,_,_,_,e1,_=>by cases e1
 | .lst _,_,_,_,_,e1,_=>by cases e1
 | .dct _ _,_,_,_,_,e1,_=>by cases e1
 | .dci _ _,_,_,_,_,e1,_=>by cases e1
 |_, .non,_,_,_,_,e2=>by cases e2
 |_, .bl _,_,_,_,_,e2=>by cases e2
 |_, .raw _,_,_,_,_,e2=>by cases e2
 |_, .exc _,_,_,_,_,e2=>by cases e2
 |_, .scr _,_,_,_,_,e2=>by cases e2
 |_, .tup _,_,_,_,_,e2=>by cases e2
 |_, .lst _,_,_,_,_,e2=>by cases e2
 |_, .dct _ _,_,_,_,_,e2=>by cases e2
 |_, .dci _ _,_,_,_,_,e2=>by cases e2
def z5:∀{xs ys:List D}{k k':List Key},tX xs=some k->tX ys=some k'->nT (jH n) xs ys=some (decide (k=k'))
 |[],[],_,_,e1,e2=>by cases e1;cases e2;rfl
 |x::xs,[],_,_,e1,e2=>by
  cases e2;unfold tX at e1;split at e1
  ·cases e1;simp[nT]
  ·cases e1
 |[],y::ys,_,_,e1,e2=>by
  cases e1;unfold tX at e2;split at e2
  ·cases e2;simp[nT]
  ·cases e2
 |x::xs,y::ys,_,_,e1,e2=>by
  unfold tX at e1 e2;split at e1
  ·rename_i k ks q1 q2;cases e1;split at e2
   ·rename_i k' ks' q3 q4;cases e2;unfold nT;rw[JA q1 q3,z5 q2 q4];simp
   ·cases e2
  ·cases e1
def Gg(e1:eg x=some k)(e2:eg y=some k'):jH (n+1) x y=some (decide (k=k')):=by
 cases x with
 |tup xs=>
  cases y with
  |tup ys=>exact z5 e1 e2
  |_=>cases e2
 |_=>cases e1
def D3{K:UJ}(e:eg d=some k)(h:Den K F d v):∃a,v= .ref a/\F a=some (.tup (k.map kV)):=by
 cases d with
 |tup ds=>
  obtain⟨a,vs,rfl,h2,h3,_⟩:=h;have:=iJ e h3;subst this;exact⟨a,rfl,h2⟩
 |_=>cases e
def mn(k:List Key)(ks:List (List Key)):Bool:=ks.any λk'=>decide (k'=k)
open Classical in
noncomputable def isKey(H:Hp)(k:List Key)(u:Value):Bool:=decide (∃a,u= .ref a/\H a=some (.tup (k.map kV)))
def BF{K:UJ}(hs:Same F H)(e:eg d=some k')(h:Den K F d v)(r:RelV v u):isKey H k u=decide (k'=k):=by
 obtain⟨a,rfl,h2⟩:=D3 e h;cases (show u=_ from r);unfold isKey;by_cases hk:k'=k
 ·subst hk;rw[abB rfl];exact @abB _ (ZL _) ⟨a,rfl,hs _ _ h2⟩
 ·rw[abD hk];refine @abD _ (ZL _) λ⟨b,e1,e2⟩=>hk ?_;cases e1;rw[hs _ _ h2] at e2;injection e2 with e2
  injection e2 with e2
  exact Ar e2
def gy(I:Inv X f8 σ H s)(hs:Same F H)(hu:A.units+6<cLine)(ex:eg x=some k)(hx:Den X.K F x v)(rx:RelV v u):
 ∀{ys:List D}{vs:List V}{aD:List Value}{ks:List (List Key)},kX ys=some ks->DenL X.K F ys vs->Vals vs aD->aD.any (isKey H k)=mn k ks/\∀t∈aD,EqAt A s t u (isKey H k t)
 |[],_,_,_,e,h,r=>by
  cases e;cases (show _=_ from h);cases r;exact⟨rfl,λt ht=>by cases ht⟩
 |y::ys,_,_,_,e,⟨w,ws,h1,h2,h3⟩,r=>by
  subst h1;unfold kX at e;split at e
  ·rename_i k' ks e1 e2;cases e;cases r with
   |cons r1 r2=>
    obtain⟨Qq,Qr⟩:=gy I hs hu ex hx rx e2 h3 r2;have hk:=BF (k:=k) hs e1 h2 r1;refine⟨?_,λt ht=>?_⟩
    ·rw[Xl,Qq,hk];rfl
    ·rcases UD.mp ht with rfl | ht
     ·rw[hk];exact(pe I hs 6 A y x w v t u _ hu h2 hx r1 rx (Gg e1 ex)).eq
     ·exact Qr t ht
  ·cases e
def Dt(neg:Bool):D->D->M D
 |x, .lst ys=>match eg x,kX ys with
  |some k,some ks=>aa (.bl (if neg then !mn k ks else mn k ks))
  |_,_=>af
 |x, .tup ys=>match eg x,kX ys with
  |some k,some ks=>aa (.bl (if neg then !mn k ks else mn k ks))
  |_,_=>af
 |_,_=>af
def La(K:UJ)(neg:Bool):R2:=λx y H Q=>∃F dx ys vs p k ks,Same F H/\Den K F dx x/\eg dx=some k/\kX ys=some ks/\DenL K F ys vs/\y= .ref p/\(SqL K H p vs\/SqT K H p vs)/\Q (.bl (if neg then !mn k ks else mn k ks)) H
section
variable{X:Cx}{Xw:Nat->Hp->Prop}{a b:Expr}{δa δb:DE}{pos:Pos}
def QD(hu:X.A.units+64<cLine):OpR X (VP .In) (La X.K false):=by
 intro f8 s σ H x y v u Q I rx ry h;obtain⟨F,dx,ys,vs,p,k,ks,hs,hx,ex,ek,hd,rfl,hq,q⟩:=h;cases (show u=_ from ry);have MX:X.A.in1.units+6<cLine:=by show X.A.units+1+6<cLine;omega
 rcases hq with hq | hq
 ·obtain⟨aD,r,pl,hz⟩:=I.list hq;obtain⟨e1,e2⟩:=gy I hs MX ex hx rx ek hd r;refine SeqAt.in_listAt (isKey H k) pl.isList (λw hw=>e2 w (by simpa using hw)) ⟨.bl _,H,I,rfl,?_⟩;rw[show aD.toArray.any (isKey H k)=aD.any (isKey H k) by simp,e1];exact q
 ·obtain⟨aD,r,pl,hz⟩:=I.tuple hq;obtain⟨e1,e2⟩:=gy I hs MX ex hx rx ek hd r;refine abp (isKey H k) pl (λw hw=>e2 w (by simpa using hw)) ⟨.bl _,H,I,rfl,?_⟩;rw[show aD.toArray.any (isKey H k)=aD.any (isKey H k) by simp,e1];exact q
def B7(hu:X.A.units+64<cLine):OpR X (VP .NotIn) (La X.K true):=by
 intro f8 s σ H x y v u Q I rx ry h;obtain⟨F,dx,ys,vs,p,k,ks,hs,hx,ex,ek,hd,rfl,hq,q⟩:=h;cases (show u=_ from ry);have MX:X.A.in1.units+6<cLine:=by show X.A.units+1+6<cLine;omega
 rcases hq with hq | hq
 ·obtain⟨aD,r,pl,hz⟩:=I.list hq;obtain⟨e1,e2⟩:=gy I hs MX ex hx rx ek hd r;refine aaX (isKey H k) pl.isList (λw hw=>e2 w (by simpa using hw)) ⟨.bl _,H,I,rfl,?_⟩;rw[show aD.toArray.any (isKey H k)=aD.any (isKey H k) by simp,e1];exact q
 ·obtain⟨aD,r,pl,hz⟩:=I.tuple hq;obtain⟨e1,e2⟩:=gy I hs MX ex hx rx ek hd r;refine aaJ (isKey H k) pl (λw hw=>e2 w (by simpa using hw)) ⟨.bl _,H,I,rfl,?_⟩;rw[show aD.toArray.any (isKey H k)=aD.any (isKey H k) by simp,e1];exact q
def Ka{K:UJ}:vp K (La K neg) (Dt neg):=λXw F H x y dx dy Q s hx hy w=>by
 unfold Dt at w;split at w
 ·rename_i ys;split at w
  ·rename_i k ks e1 e2;obtain⟨p,vs,h1,h2,h3,_⟩:=hy;exact⟨F,dx,ys,vs,p,k,ks,s,hx,e1,e2,h3,h1, .inl (SqL.of (s _ _ h2)),WP.now w s rfl⟩
  ·exact w.elim
 ·rename_i ys;split at w
  ·rename_i k ks e1 e2;obtain⟨p,vs,h1,h2,h3,_⟩:=hy;exact⟨F,dx,ys,vs,p,k,ks,s,hx,e1,e2,h3,h1, .inr (SqT.of (s _ _ h2)),WP.now w s rfl⟩
  ·exact w.elim
 ·exact w.elim
def Cf(hu:X.A.units+64<cLine)(ha:PD X Xw a δa)(hb:PD X Xw b δb)(hm:VF .NotIn b=false:=by rfl):oP X Xw (.Compare a [.NotIn] [b] pos) (eO (d2 (Dt true) δa δb)):=e7 (B7 hu) Ka ha hb hm
end
end L3
namespace L3
open PySem PySem.W PyProof.Rows
def a6(b:Nat->Nat->Bool):KasT α->α
 | .ret a=>a
 | .ask i j k=>a6 b (k (b i j))
def cb(b:Nat->Nat->Bool)(f:α->KasT β):∀t:KasT α,a6 b (t.bind f)=a6 b (f (a6 b t))
 | .ret _=>rfl
 | .ask i j k=>cb b f (k (b i j))
structure Lt (n:Nat) (b:Nat->Nat->Bool):Prop where
 tr:∀i j k,b i j=true->b j k=true->b i k=true
 Uh:∀i j,b i j=true->b j i=false
 tot:∀i j,i<n->j<n->i≠j->b i j=true\/b j i=true
abbrev at'(p:Array Nat)(i:Nat):Nat:=p.getD i 0
def Ri(b:Nat->Nat->Bool)(p:Array Nat)(k:Nat):Prop:=∀i j,i<j->j<k->b (at' p i) (at' p j)=true
def Fa(b:Nat->Nat->Bool)(p:Array Nat)(k:Nat):Prop:=∀i j,i<j->j<k->b (at' p j) (at' p i)=true
structure PN (n:Nat) (p:Array Nat):Prop where
 sz:p.size=n
 lt:∀i,i<n->at' p i<n
 inj:∀i j,i<n->j<n->at' p i=at' p j->i=j
section
variable{n:Nat}{b:Nat->Nat->Bool}(L:Lt n b)
include L
theorem Ri.more(h:Ri b p k)(h1:1<=k)(e:b (at' p (k - 1)) (at' p k)=true):Ri b p (k+1):=λi j iu hj=>by
 by_cases hk:j<k
 ·exact h i j iu hk
 ·have:j=k:=by omega
  subst this;by_cases hi:i=j - 1
  ·subst hi;exact e
  ·exact L.tr _ _ _ (h i (j - 1) (by omega) (by omega)) e
theorem Fa.more(h:Fa b p k)(h1:1<=k)(e:b (at' p k) (at' p (k - 1))=true):Fa b p (k+1):=λi j iu hj=>by
 by_cases hk:j<k
 ·exact h i j iu hk
 ·have:j=k:=by omega
  subst this;by_cases hi:i=j - 1
  ·subst hi;exact e
  ·exact L.tr _ _ _ e (h i (j - 1) (by omega) (by omega))
theorem s_(P:PN n p):∀(f k:Nat),1<=k->k+f<=n->Ri b p k->k<=a6 b (kas_asc p f k)/\a6 b (kas_asc p f k)<=k+f/\Ri b p (a6 b (kas_asc p f k))/\(a6 b (kas_asc p f k)<k+f->b (at' p (a6 b (kas_asc p f k))) (at' p (a6 b (kas_asc p f k) - 1))=true)
 |0,k,h1,hn,h=>⟨UB _,UB _,h,λz=>abE z (Vc _)⟩
 |f+1,k,h1,hn,h=>by
  have e:a6 b (kas_asc p (f+1) k)=a6 b (if b (at' p k) (at' p (k - 1))=true then KasT.ret k else kas_asc p f (k+1)):=rfl;rw[e];by_cases hb:b (at' p k) (at' p (k - 1))=true
  ·rw[abz hb];exact⟨UB _,by show k<=_;omega,h,λ_=>hb⟩
  ·rw[abA hb];have hr:b (at' p (k - 1)) (at' p k)=true:=by
    rcases L.tot (at' p (k - 1)) (at' p k) (P.lt _ (by omega)) (P.lt _ (by omega)) (λz=>by have:=P.inj _ _ (by omega) (by omega) z;omega) with q | q
    ·exact q
    ·exact abE q hb
   obtain⟨a1,a2,a3,a4⟩:=s_ P f (k+1) (by omega) (by omega) (Ri.more L h h1 hr);exact⟨by omega,by omega,a3,λz=>a4 (by omega)⟩
theorem vK(P:PN n p):∀(f k:Nat),1<=k->k+f<=n->Fa b p k->∃m,a6 b (kas_desc f p k 0)=(p,m,0)/\k<=m/\m<=k+f/\Fa b p m
 |0,k,h1,hn,h=>⟨k,rfl,UB _,UB _,h⟩
 |f+1,k,h1,hn,h=>by
  have e:a6 b (kas_desc (f+1) p k 0)=a6 b (if b (at' p k) (at' p (k - 1))=true then(if 0>0 then kas_desc f (kas_rev p (k - (0+1)) k) (k+1) 0 else kas_desc f p (k+1) 0)
   else .ask (p.getD (k - 1) 0) (p.getD k 0) λd=>if d=true then .ret (p,k,0) else kas_desc f p (k+1) (0+1)):=rfl
  rw[e];by_cases hb:b (at' p k) (at' p (k - 1))=true
  ·rw[abz hb,abA (by omega)];obtain⟨m,e1,e2,e3,e4⟩:=vK P f (k+1) (by omega) (by omega) (Fa.more L h h1 hb);exact⟨m,e1,by omega,by omega,e4⟩
  ·rw[abA hb];have hr:b (at' p (k - 1)) (at' p k)=true:=by
    rcases L.tot (at' p (k - 1)) (at' p k) (P.lt _ (by omega)) (P.lt _ (by omega)) (λz=>by have:=P.inj _ _ (by omega) (by omega) z;omega) with q | q
    ·exact q
    ·exact abE q hb
   refine⟨k,?_,UB _,by omega,h⟩;show a6 b (if b (at' p (k - 1)) (at' p k)=true then KasT.ret (p,k,0) else kas_desc f p (k+1) (0+1))=_;rw[abz hr];rfl
end
def bU(p:Array Nat)(k:Nat):at' p k=(p[k]?).getD 0:=by
 unfold at';rw[Array.getD_eq_getD_getElem?]
def zl(hm:m<=p.size)(k:Nat):at' (kas_rev p 0 m) k=if k<m then at' p (m - 1 - k) else at' p k:=by
 have e:=getElem?_mirror_all (i:=0) hm k;rw[bU];show (((mirror p 0 m ((m - 0) / 2))[k]?).getD 0)=_;rw[e];by_cases h:k<m
 ·rw[abz ⟨U3 _,h⟩,abz h,bU,Zu]
 ·rw[abA (λz=>h z.2),abA h,bU]
def yj(hk:k<p.size)(hl:l<=k)(j:Nat):at' (bubble p k (k - l)) j=if j=l then at' p k else if l<j/\j<=k then at' p (j - 1) else at' p j:=by
 have e:=getElem?_bubble hk (k - l) (by omega) j;have e2:k - (k - l)=l:=by omega
 rw[e2] at e;rw[bU (bubble p k (k - l)),e,bU p k,bU p (j - 1),bU p j];by_cases c1:j=l
 ·rw[abz c1,abz c1]
 ·rw[abA c1,abA c1];by_cases c2:l<j/\j<=k
  ·rw[abz c2,abz c2]
  ·rw[abA c2,abA c2]
section
variable{n:Nat}{b:Nat->Nat->Bool}
def PN.rev(P:PN n p)(hm:m<=n):PN n (kas_rev p 0 m):=by
 have ha:=zl (by rw[P.sz];exact hm);refine⟨(mirror_size ..).trans P.sz,λi hi=>?_,λi j hi hj e=>?_⟩
 ·rw[ha];split
  ·exact P.lt _ (by omega)
  ·exact P.lt _ hi
 ·rw[ha,ha] at e;split at e<;>split at e
  ·have:=P.inj _ _ (by omega) (by omega) e;omega
  ·have:=P.inj _ _ (by omega) hj e;omega
  ·have:=P.inj _ _ hi (by omega) e;omega
  ·exact P.inj _ _ hi hj e
def PN.bub(P:PN n p)(hk:k<n)(hl:l<=k):PN n (bubble p k (k - l)):=by
 have ha:=yj (by rw[P.sz];exact hk) hl;refine⟨(bubble_size ..).trans P.sz,λi hi=>?_,λi j hi hj e=>?_⟩
 ·rw[ha];split
  ·exact P.lt _ hk
  ·split
   ·exact P.lt _ (by omega)
   ·exact P.lt _ hi
 ·rw[ha,ha] at e;split at e
  ·split at e
   ·omega
   ·split at e
    ·have:=P.inj _ _ hk (by omega) e;omega
    ·have:=P.inj _ _ hk hj e;omega
  ·split at e
   ·split at e
    ·have:=P.inj _ _ (by omega) hk e;omega
    ·split at e
     ·have:=P.inj _ _ (by omega) (by omega) e;omega
     ·have:=P.inj _ _ (by omega) hj e;omega
   ·split at e
    ·have:=P.inj _ _ hi hk e;omega
    ·split at e
     ·have:=P.inj _ _ hi (by omega) e;omega
     ·exact P.inj _ _ hi hj e
def Fa.rev(P:PN n p)(hm:m<=n)(h:Fa b p m):Ri b (kas_rev p 0 m) m:=λi j iu hj=>by
 have ha:=zl (by rw[P.sz];exact hm);rw[ha,ha,abz (by omega),abz hj];exact h _ _ (by omega) (by omega)
variable(L:Lt n b)
include L
theorem Fx(P:PN n p)(h1:1<=m)(hm:m<=n)(h:Fa b p m):∃k q,a6 b (kas_tail3 m n p)=(k,q)/\PN n q/\1<=k/\k<=n/\Ri b q k:=by
 unfold kas_tail3;rw[cb];obtain⟨a1,a2,a3,_⟩:=s_ L (P.rev hm) (n - m) m h1 (by omega) (Fa.rev P hm h);exact⟨_,_,rfl,P.rev hm,by omega,by omega,a3⟩
theorem Bs(P:PN n p)(h2:2<=n):∃k q,a6 b (kas_count n p)=(k,q)/\PN n q/\1<=k/\k<=n/\Ri b q k:=by
 unfold kas_count;rw[cb];obtain⟨a1,a2,a3,a4⟩:=s_ L P (n - 1) 1 (UB _) (by omega) (λi j iu hj=>by omega);generalize a6 b (kas_asc p (n - 1) 1)=m at a1 a2 a3 a4;by_cases he:m=n
 ·subst he;rw[abz (by simp)];exact⟨m,p,rfl,P,by omega,UB _,a3⟩
 ·rw[abA (by simpa using he)];by_cases hg:m>1
  ·rw[abz hg];have hb:b (p.getD 0 0) (p.getD (m - 1) 0)=true:=a3 0 (m - 1) (by omega) (by omega);show∃k q,a6 b (if b (p.getD 0 0) (p.getD (m - 1) 0)=true then KasT.ret (m,p) else kas_descPart m n (kas_rev p 0 m))=(k,q)/\_;rw[abz hb];exact⟨m,p,rfl,P,by omega,by omega,a3⟩
  ·rw[abA hg];have hm:m=1:=by omega
   subst hm;have hb:=a4 (by omega);unfold kas_descPart;rw[cb];obtain⟨m,e1,e2,e3,e4⟩:=vK L P (n - (1+1)) (1+1) (by omega) (by omega) (λi j iu hj=>by
    have hi:i=0:=by omega
    have hj:j=1:=by omega
    subst hi hj;exact hb)
   rw[e1]
   dsimp only
   rw[abA (by omega)];exact Fx L P (by omega) (by omega) e4
theorem mC(P:PN n p)(hk:k<n)(h:Ri b p k):∀(f l r:Nat),l<=r->r<=k->r - l<=f->(∀i,i<l->b (at' p i) (at' p k)=true)->(∀i,r<=i->i<k->b (at' p k) (at' p i)=true)->
 a6 b (kas_place p k f l r)<=k/\(∀i,i<a6 b (kas_place p k f l r)->b (at' p i) (at' p k)=true)/\∀i,a6 b (kas_place p k f l r)<=i->i<k->b (at' p k) (at' p i)=true
 |0,l,r,h1,h2,h3,h4,h5=>by
  have:r=l:=by omega
  subst this;exact⟨h2,h4,h5⟩
 |f+1,l,r,h1,h2,h3,h4,h5=>by
  unfold kas_place;by_cases ME:l>=r
  ·rw[abz ME];have:r=l:=by omega
   subst this;exact⟨h2,h4,h5⟩
  ·rw[abA ME];have hm:(l+r) / 2<r:=by omega
   have IC:l<=(l+r) / 2:=by omega
   show a6 b (if b (at' p k) (at' p ((l+r) / 2))=true then kas_place p k f l ((l+r) / 2) else kas_place p k f ((l+r) / 2+1) r)<=k/\(∀i,i<a6 b (if b (at' p k) (at' p ((l+r) / 2))=true then kas_place p k f l ((l+r) / 2) else kas_place p k f ((l+r) / 2+1) r)->_)/\∀i,a6 b (if b (at' p k) (at' p ((l+r) / 2))=true then kas_place p k f l ((l+r) / 2) else kas_place p k f ((l+r) / 2+1) r)<=i->_;by_cases hb:b (at' p k) (at' p ((l+r) / 2))=true
   ·rw[abz hb];refine mC P hk h f l ((l+r) / 2) IC (by omega) (by omega) h4 λi hi PU=>?_;by_cases e:i=(l+r) / 2
    ·rw[e];exact hb
    ·exact L.tr _ _ _ hb (h _ _ (by omega) PU)
   ·rw[abA hb];have hr:b (at' p ((l+r) / 2)) (at' p k)=true:=by
     rcases L.tot (at' p ((l+r) / 2)) (at' p k) (P.lt _ (by omega)) (P.lt _ hk) (λz=>by have:=P.inj _ _ (by omega) hk z;omega) with q | q
     ·exact q
     ·exact abE q hb
    refine mC P hk h f ((l+r) / 2+1) r (by omega) h2 (by omega) (λi hi=>?_) h5;by_cases e:i=(l+r) / 2
    ·rw[e];exact hr
    ·exact L.tr _ _ _ (h i ((l+r) / 2) (by omega) (by omega)) hr
theorem zQ:∀(f:Nat) {p:Array Nat}{k:Nat},PN n p->k+f<=n->Ri b p k->PN n (a6 b (kas_bin f p k))/\Ri b (a6 b (kas_bin f p k)) (k+f)
 |0,p,k,P,_,h=>⟨P,h⟩
 |f+1,p,k,P,hn,h=>by
  have hk:k<n:=by omega
  unfold kas_bin;rw[cb];obtain⟨a1,a2,a3⟩:=mC L P hk h k 0 k (U3 _) (UB _) (by omega) (λi hi=>by omega) (λi h1 h2=>by omega);generalize a6 b (kas_place p k k 0 k)=l at a1 a2 a3;have ha:=yj (by rw[P.sz];exact hk) a1;have hR:Ri b (bubble p k (k - l)) (k+1):=λi j iu hj=>by
   rw[ha,ha];by_cases c1:i=l
   ·rw[abz c1,abA (by omega),abz ⟨by omega,by omega⟩];exact a3 _ (by omega) (by omega)
   ·rw[abA c1];by_cases c2:j=l
    ·rw[abz c2,abA (by omega)];exact a2 _ (by omega)
    ·rw[abA c2];by_cases c3:l<i/\i<=k
     ·rw[abz c3,abz ⟨by omega,by omega⟩];exact h _ _ (by omega) (by omega)
     ·rw[abA c3];by_cases c4:l<j/\j<=k
      ·rw[abz c4];exact h _ _ (by omega) (by omega)
      ·rw[abA c4];exact h _ _ iu (by omega)
  have:=zQ f (P.bub hk a1) (by omega) hR;rw[show k+(f+1)=k+1+f by omega];exact this
theorem xK(h2:2<=n):PN n (a6 b (kas_sort n))/\Ri b (a6 b (kas_sort n)) n:=by
 have P0:PN n (Vr (UH n)):=by
  have e:∀i,i<n->at' (Vr (UH n)) i=i:=λi hi=>by rw[bU];simp[hi]
  exact⟨by simp,λi hi=>by rw[e i hi];exact hi,λi j hi hj z=>by rw[e i hi,e j hj] at z;exact z⟩
 unfold kas_sort;rw[cb];obtain⟨k,q,e,P,k1,kn,hR⟩:=Bs L P0 h2;rw[e]
 dsimp only
 by_cases cI:k<n
 ·rw[abz cI];have:=zQ L (n - max k 1) (k:=max k 1) P (by omega) (by rw[show max k 1=k by omega];exact hR);rw[show max k 1+(n - max k 1)=n by omega] at this;exact this
 ·rw[abA cI];have:k=n:=by omega
  subst this;exact⟨P,hR⟩
end
def Asks{α:Type}(n:Nat)(P:α->Prop):KasT α->Prop
 | .ret a=>P a
 | .ask i j k=>i<n/\j<n/\∀c,Asks n P (k c)
def Asks.bind{α β:Type}{n:Nat}{P:α->Prop}{Q:β->Prop}{f:α->KasT β}:∀{t:KasT α},Asks n P t->(∀a,P a->Asks n Q (f a))->Asks n Q (t.bind f)
 | .ret a,h,hf=>hf a h
 | .ask i j k,h,hf=>⟨h.1,h.2.1,λc=>Asks.bind (h.2.2 c) hf⟩
def wp_run{α:Type}{n:Nat}{P:α->Prop}{b:Nat->Nat->Bool}{cmp:Nat->Nat->(Bool->Ux->Prop)->Ux->Prop}{Q:α->Ux->Prop}{s:Ux}(hc:∀i j C,i<n->j<n->C (b i j) s->cmp i j C s):∀{t:KasT α},Asks n P t->Q (a6 b t) s->t.kasWp cmp Q s
 | .ret a,_,h=>h
 | .ask i j k,ha,h=>hc i j _ ha.1 ha.2.1 (wp_run hc (ha.2.2 _) h)
def Below(n:Nat)(p:Array Nat):Prop:=∀x∈p,x<n
section
variable{n:Nat}(hn:0<n)
include hn
theorem Below.at{p:Array Nat}(h:Below n p)(i:Nat):at' p i<n:=by
 rw[bU];cases e:p[i]? with
 |none=>exact hn
 |some x=>exact h x (Array.mem_of_getElem? e)
theorem Below.rev{p:Array Nat}(h:Below n p)(i j:Nat):Below n (kas_rev p i j):=λx hx=>h x ((mirror_perm p i j ((j - i) / 2)).mem_iff.mp hx)
theorem Below.bub{p:Array Nat}(h:Below n p)(k d:Nat):Below n (bubble p k d):=λx hx=>h x ((bubble_perm p k d).mem_iff.mp hx)
theorem oV{p:Array Nat}(h:Below n p):∀f k,Asks n (λ_=>True) (kas_asc p f k)
 |0,k=>trivial
 |f+1,k=>⟨Below.at hn h _,Below.at hn h _,λc=>by
  show Asks n _ (if c=true then KasT.ret k else kas_asc p f (k+1));cases c
  ·exact oV h f (k+1)
  ·exact trivial⟩
theorem jt:∀f {p:Array Nat} k q,Below n p->Asks n (λr=>Below n r.1) (kas_desc f p k q)
 |0,p,k,q,h=>h
 |f+1,p,k,q,h=>⟨Below.at hn h _,Below.at hn h _,λc=>by
  cases c
  ·refine⟨Below.at hn h _,Below.at hn h _,λd=>?_⟩;cases d
   ·exact jt f _ _ h
   ·exact h
  ·show Asks n _ (if q>0 then kas_desc f (kas_rev p (k - (q+1)) k) (k+1) 0 else kas_desc f p (k+1) 0);split
   ·exact jt f _ _ (Below.rev hn h _ _)
   ·exact jt f _ _ h⟩
theorem rJ{p:Array Nat}(h:Below n p)(m r:Nat):Asks n (λx=>Below n x.2) (kas_tail3 m r p):=Asks.bind (oV hn (Below.rev hn h 0 m) _ _) λ_ _=>Below.rev hn h 0 m
theorem oW{p:Array Nat}(h:Below n p)(m r:Nat):Asks n (λx=>Below n x.2) (kas_descPart m r p):=Asks.bind (jt hn _ _ _ h) λx hx=>by
 split
 ·exact rJ hn (Below.rev hn hx _ _) _ _
 ·exact rJ hn hx _ _
theorem yf{p:Array Nat}(h:Below n p)(r:Nat):Asks n (λx=>Below n x.2) (kas_count r p):=Asks.bind (oV hn h _ _) λm _=>by
 split
 ·exact h
 ·split
  ·refine⟨Below.at hn h _,Below.at hn h _,λc=>?_⟩;cases c
   ·exact oW hn (Below.rev hn h _ _) _ _
   ·exact h
  ·exact oW hn h _ _
theorem jZ{p:Array Nat}(h:Below n p)(k:Nat):∀f l r,Asks n (λ_=>True) (kas_place p k f l r)
 |0,l,r=>trivial
 |f+1,l,r=>by
  unfold kas_place;split
  ·exact trivial
  ·refine⟨Below.at hn h _,Below.at hn h _,λc=>?_⟩;cases c
   ·exact jZ h k f _ _
   ·exact jZ h k f _ _
theorem vy:∀f {p:Array Nat} k,Below n p->Asks n (λ_=>True) (kas_bin f p k)
 |0,p,k,h=>trivial
 |f+1,p,k,h=>Asks.bind (jZ hn h k _ _ _) λl _=>vy f _ (Below.bub hn h _ _)
theorem rH:Asks n (λ_=>True) (kas_sort n):=by
 have h0:Below n (Vr (UH n)):=λx hx=>by simpa using hx
 refine Asks.bind (yf hn h0 n) λx hx=>?_;split
 ·exact vy hn _ _ hx
 ·exact trivial
end
def cj:List Int->List Int->Bool
 |[],[]=>false
 |[],_::_=>true
 |_::_,[]=>false
 |x::xs,y::ys=>if x=y then cj xs ys else decide (x<y)
def jC:∀a b c:List Int,cj a b=true->cj b c=true->cj a c=true
 |[],[],_,h,_=>by cases h
 |[],_::_,[],_,h=>by cases h
 |[],_::_,_::_,_,_=>rfl
 |_::_,[],_,h,_=>by cases h
 |_::_,_::_,[],_,h=>by cases h
 |x::a,y::b,z::c,h1,h2=>by
  unfold cj at h1 h2⊢;by_cases e1:x=y
  ·subst e1;rw[abz rfl] at h1;by_cases e2:x=z
   ·subst e2;rw[abz rfl] at h2⊢;exact jC a b c h1 h2
   ·rw[abA e2] at h2⊢;exact h2
  ·rw[abA e1] at h1;have h1:=abC h1;by_cases e2:y=z
   ·subst e2;rw[abA e1];exact abB h1
   ·rw[abA e2] at h2;have h2:=abC h2;rw[abA (by omega)];exact abB (by omega)
def eJ:∀a b:List Int,cj a b=true->cj b a=false
 |[],[],h=>by cases h
 |[],_::_,_=>rfl
 |_::_,[],h=>by cases h
 |x::a,y::b,h=>by
  unfold cj at h⊢;by_cases e:x=y
  ·subst e;rw[abz rfl] at h⊢;exact eJ a b h
  ·rw[abA e] at h;have h:=abC h;rw[abA (λz=>e z.symm)];exact abD (by omega)
def gz:∀a b:List Int,a≠b->cj a b=true\/cj b a=true
 |[],[],h=>abE rfl h
 |[],_::_,_=> .inl rfl
 |_::_,[],_=> .inr rfl
 |x::a,y::b,h=>by
  unfold cj;by_cases e:x=y
  ·subst e;rw[abz rfl,abz rfl];exact gz a b λz=>h (by rw[z])
  ·rw[abA e,abA (λz=>e z.symm)];by_cases q:x<y
   ·exact .inl (abB q)
   ·exact .inr (abB (by omega))
section
variable{prog:Vf}{w:World}{A:Vw}{E:Value->Ux->Prop}{s:Ux}
def wt{Q:Bool->Ux->Prop}:∀{us vs:List Value}{xs ys:List Int}(i:Nat) {fin:Bool},V0 us xs->V0 vs ys->fin=decide (xs.length<ys.length)->Q (cj xs ys) s->KatLex prog w A true fin Q (us.zip vs) i s
 |_,_,_,_,i,_, .nil, .nil,e,h=>by subst e;exact kat_nil h
 |_,_,_,_,i,_, .nil, .cons y t r,e,h=>by subst e;exact kat_nil h
 |_,_,_,_,i,_, .cons x t r, .nil,e,h=>by subst e;exact kat_nil h
 |_,_,_,_,i,_, .cons (vs:=us) (ns:=xs) x t r, .cons (vs:=vs) (ns:=ys) y u r',e,h=>by
  refine kat_cons (aac ?_);by_cases q:x=y
  ·subst q;rw[show (x==x)=true by simp];refine kat_yes (wt (i+1) r r' (by rw[e];simp) ?_);unfold cj at h;rw[abz rfl] at h;exact h
  ·rw[show (x==y)=false by simpa using q];unfold cj at h;rw[abA q] at h;refine kat_no ?_;by_cases hi:(i==0)=true
   ·rw[hi];exact oneLt_int h
   ·rw[show (i==0)=false by simpa using hi];exact kat_one _ _ (Yk h)
def TupsAt(h:Heap):List Value->List (List Int)->Prop
 |[],[]=>True
 |v::vs,k::ks=>(∃a o us m,v= .ref a/\h.get? a=some o/\o.cls= .type "tuple"/\o.data= .seq (Vr us) m/\V0 us k/\k≠[])/\TupsAt h vs ks
 |_,_=>False
def TupsAt.len{h:Heap}:∀{vs:List Value}{ks:List (List Int)},TupsAt h vs ks->vs.length=ks.length
 |[],[],_=>rfl
 |v::vs,k::ks,t=>by rw[UI,UI,TupsAt.len t.2]
 |[],_::_,t=>t.elim
 |_::_,[],t=>t.elim
def TupsAt.get{h:Heap}:∀{vs:List Value}{ks:List (List Int)}{i:Nat},TupsAt h vs ks->i<vs.length->∃a o us m,vs.getD i U7= .ref a/\h.get? a=some o/\o.cls= .type "tuple"/\o.data= .seq (Vr us) m/\V0 us (ks.getD i [])/\ks.getD i []≠[]
 |v::vs,k::ks,0,t,_=>t.1
 |v::vs,k::ks,i+1,t,hi=>TupsAt.get (i:=i) t.2 (by simpa using hi)
 |[],_,_,_,hi=>by simp at hi
 |_::_,[],_,t,_=>t.elim
def TupsAt.keep{h h':Heap}{a:Addr}(k:∀b o,b≠a->h.get? b=some o->h'.get? b=some o)(ha:∀o,h.get? a=some o->o.cls≠ .type "tuple"):∀{vs:List Value}{ks:List (List Int)},TupsAt h vs ks->TupsAt h' vs ks
 |[],[],_=>trivial
 |v::vs,x::ks,⟨⟨b,o,us,m,e1,e2,e3,e4⟩,t⟩=>⟨⟨b,o,us,m,e1,k b o (λz=>ha o (by rw[<-z];exact e2) e3) e2,e3,e4⟩,TupsAt.keep k ha t⟩
 |[],_::_,t=>t.elim
 |_::_,[],t=>t.elim
def pF:∀{us:List Value}{xs:List Int},V0 us xs->us.length=xs.length
 |_,_, .nil=>rfl
 |_,_, .cons x t r=>by rw[UI,UI,pF r]
def TupsAt.firsts{M:Model}{h:Heap}:∀{vs:List Value}{ks:List (List Int)},TupsAt h vs ks->∃fs,KatTups h vs fs/\fs.length=vs.length/\∀v∈fs,Looks M h (typeOf v) (.type "int")
 |[],[],_=>⟨[],KatTups.nil,rfl,λ_ z=>by cases z⟩
 |v::vs,k::ks,⟨⟨a,o,us,m,e1,e2,e3,e4,e5,e6⟩,t⟩=>by
  obtain⟨fs,q1,q2,q3⟩:=TupsAt.firsts (M:=M) t;subst e1;cases e5 with
  |nil=>exact abE rfl e6
  |cons x t r=>
   refine⟨.int x t::fs,KatTups.cons e2 e3 e4 (by simp) q1,by simp[q2],λv hv=>?_⟩;rcases UD.mp hv with rfl | hv
   ·exact show Looks M h (pure (X_ "int")) (X_ "int") from .now
   ·exact q3 v hv
 |[],_::_,t=>t.elim
 |_::_,[],t=>t.elim
def asked{vs:List Value}{ks:List (List Int)}(t:TupsAt s.heap vs ks)(i j:Nat)(C:Bool->Ux->Prop)(hi:i<vs.length)(hj:j<vs.length)(h:C (cj (ks.getD i []) (ks.getD j [])) s):kas_ask prog w A (tuples' true) vs i j C s:=by
 obtain⟨a,o,us,m,e1,e2,_,e4,e5,_⟩:=t.get hi;obtain⟨a',o',Uc,m',zY,Iu,_,Sk,Rc,_⟩:=t.get hj;unfold kas_ask;rw[e1,zY];refine kat_lt e2 e4 Iu Sk (wt 0 e5 Rc ?_ h);rw[UK,UK,pF e5,pF Rc]
def wF{α:Type}{l:List α}(h:l.Nodup){i j:Nat}(hi:i<l.length)(hj:j<l.length)(e:l[i]=l[j]):i=j:=by
 rcases Nat.lt_trichotomy i j with q | q | q
 ·exact abE e (Wa.mp h i j hi hj q)
 ·exact q
 ·exact abE e.symm (Wa.mp h j i hj hi q)
def Ct{a:Addr}{c:Nat}{vs:List Value}{ks:List (List Int)}{P:PySem.Fin->Ux->Prop}(ho:s.heap.get? a=some (Vz "list" vs.toArray c))(ht:TupsAt s.heap vs ks)(hd:ks.Nodup)(jM:vs.length<64)
 (h:∀(p:Array Nat) (h':Heap) (c':Nat),PN vs.length p->Ri (λi j=>cj (ks.getD i []) (ks.getD j [])) p vs.length->h'.get? a=some (Vz "list" (Vr (p.toList.map λi=>vs.getD i U7)) c')->
  (∀b o,b≠a->s.heap.get? b=some o->h'.get? b=some o)->P (.done (.ret .none)) {s with heap:=h'}):wpAny (model prog w) A (XW.«list.sort» ⟨[.ref a],[]⟩) P E s:=by
 have nX:UR=16777216:=Wg;have s1:=Vg s.heap a (Vm λ_=>(#[]:Array Value));obtain⟨e1,ML⟩:∃e1,(s.heap.update a (Vm λ_=>(#[]:Array Value))).get? a=some (Vz "list" #[] e1):=⟨_,YX ho λ_=> #[]⟩
 have k1:∀b o,b≠a->s.heap.get? b=some o->(((s.heap.update a (Vm λ_=>(#[]:Array Value))).push (Vz "tuple" vs.toArray 0)).push (Vz "list" #[] 0)).get? b=some o:=λb o hb e=>
  Ut _ (Ut _ ((s1.2 b hb).trans e))
 have JY:=Ut (Vz "list" #[] 0) (Ut (Vz "tuple" vs.toArray 0) ML);have t3:=ht.keep k1 (λo e z=>by rw[ho] at e;cases e;exact abE (Value.type.inj z) (by decide));have fin:∀(st:SortSt) (p:Array Nat),PN vs.length p->Ri (λi j=>cj (ks.getD i []) (ks.getD j [])) p vs.length->(arrOf st).map (·.2)=Vr (p.toList.map λi=>vs.getD i U7)->aal st=none->
  wpAny (model prog w) A (do
   let touched:=(<-seqEpoch a) !=e1
   Zn (.ref a) λ_=>(arrOf st).map (·.2)
   if let some e:=aal st then rule "list.sort.comparison-raised";throw e
   if touched then rule "list.sort.modified";raiseError "ValueError" "list modified during sort"
   ret .none) P E {s with heap:=((s.heap.update a (Vm λ_=>(#[]:Array Value))).push (Vz "tuple" vs.toArray 0)).push (Vz "list" #[] 0)}:=λst p hp hr he hf=>by
  have hz:(Vr (p.toList.map λi=>vs.getD i U7)).size=vs.length:=by rw[UK,Ur,UL,hp.sz]
  rw[he,hf];refine Uq (aau JY rfl (Uq (ZC JY rfl ?_ (U3 _) (by rw[hz,nX];omega))));simp only[bne_self_eq_false,Vj,if_false];have s2:=Vg (((s.heap.update a (Vm λ_=>(#[]:Array Value))).push (Vz "tuple" vs.toArray 0)).push (Vz "list" #[] 0)) a (Vm λ_=>Vr (p.toList.map λi=>vs.getD i U7));exact Uw (h p _ _ hp hr (YX JY λ_=>Vr (p.toList.map λi=>vs.getD i U7)) λb o hb e=>(s2.2 b hb).trans (k1 b o hb e))
 rw[list_sort_plain];refine Uq (listItems_at ho rfl (Uq (ZC ho rfl (Uq (aau ML rfl ?_)) (by rw[UK,nX];omega) (U3 _))));refine Uq (Ze (Uq (XZ (VT ?_) (U3 _))) (by show vs.length<=_;rw[nX];omega));show wpAny (model prog w) A _ P E {s with heap:=((s.heap.update a (Vm λ_=>(#[]:Array Value))).push (Vz "tuple" vs.toArray 0)).push (Vz "list" #[] 0)}
 dsimp only
 by_cases hs:vs.toArray.size<2
 ·rw[abz hs,abz hs];have v_:vs.length<2:=by simpa using hs
  refine Uq (Uw (Uq (Uw ?_)));refine fin (SortSt.mk' general' (vs.toArray.zip vs.toArray) #[] 7 none) (Vr (UH vs.length)) ⟨by simp,λi hi=>?_,λi j hi hj _=>by omega⟩ (λi j iu hj=>by omega) ?_ rfl
  ·rw[bU];simp[hi]
  ·show (vs.toArray.zip vs.toArray).map (·.2)=_;apply aby.mp;refine Xb (by simp) λi a1 a2=>?_;simp at a1;simp[a1]
 ·rw[abA hs,abA hs];have v_:2<=vs.length:=by
   have:¬vs.length<2:=by simpa using hs
   omega
  obtain⟨fs,q1,q2,q3⟩:=t3.firsts (M:=model prog w);refine Uq (kat_kind q1 (by omega) q3 rfl ?_);have hb:Lt vs.length (λi j=>cj (ks.getD i []) (ks.getD j [])):=⟨λi j k=>jC _ _ _,λi j=>eJ _ _,λi j hi hj iu=>gz _ _ λz=>iu (by
   rw[ht.len] at hi hj;rw[Uy,Uy,Us hi,Us hj] at z;exact wF hd hi hj (by simpa using z))⟩
  obtain⟨r1,r2⟩:=xK hb v_;have run:=kat_run (prog:=prog) (w:=w) (A:=A) (E:=E) (ks:=vs) (vs:=vs) (κ:=tuples' true) (Q:=λst s'=>s'={s with heap:=((s.heap.update a (Vm λ_=>(#[]:Array Value))).push (Vz "tuple" vs.toArray 0)).push (Vz "list" #[] 0)}/\∃p,PN vs.length p/\Ri (λi j=>cj (ks.getD i []) (ks.getD j [])) p vs.length/\(arrOf st).map (·.2)=Vr (p.toList.map λi=>vs.getD i U7)/\aal st=none)
   (G:=λp s'=>s'={s with heap:=((s.heap.update a (Vm λ_=>(#[]:Array Value))).push (Vz "tuple" vs.toArray 0)).push (Vz "list" #[] 0)}/\PN vs.length p/\Ri (λi j=>cj (ks.getD i []) (ks.getD j [])) p vs.length) rfl v_ jM
   (λp lQ s' a1 a2 a3 a4=>⟨a4.1,p,a4.2.1,a4.2.2,kat_snds rfl a2,a3⟩)
   (wp_run (s:={s with heap:=((s.heap.update a (Vm λ_=>(#[]:Array Value))).push (Vz "tuple" vs.toArray 0)).push (Vz "list" #[] 0)}) (λi j C hi hj hC=>asked t3 i j C hi hj hC) (rH (by omega)) ⟨rfl,r1,r2⟩)
  refine Uq (VN run ?_ λ_ _ e=>e);rintro⟨⟨⟩,lQ⟩ s' ⟨rfl,p,a1,a2,a3,a4⟩;exact fin lQ p a1 a2 a3 a4
end
section
variable{prog:Vf}{w:World}{A:Vw}{E:Value->Ux->Prop}{s:Ux}
def sj(lo:(d==V4)=false)(ho:s.heap.get? d=some od)(hx:od.ExactDict)(hd:od.data= .dict es ep)
 (hQ:Q (.ref s.heap.objs.size) {s with heap:=s.heap.push {cls:= .type "dict_keyiterator",data:= .fields #[.ref d, .int 0 0, .int es.size 0, .int ep 0]} }):wpAny (model prog w) A (pyIter (.ref d)) Q E s:=by
 have hT:s.TypeIs (.ref d) "dict":=⟨od,ho,hx.1⟩
 refine wpAny_pyIter_slot hT F.slot_dict_iter (Vq F.slot_dict_iter hT F.entry_dict_iter ?_ (F.args_dict_iter_1 _));unfold XW.«dict.__iter__» Builtin.Dict.dictSlotNone;refine Uq (Uq (YT hT ?_));show wpAny _ _ (pure (UX d)) _ _ s;refine Uw ?_;show wpAny _ _ (WL d>>=_) _ _ s;unfold WL;rw[abA (by rw[lo];exact UU)];refine Uq (Uw (Uq (VH ho hd (Uq (Wu ho hd ?_)))));refine Uq (U_ (Uw ⟨_,rfl,"dict_keyiterator",_,⟨_,UO _ rfl,rfl⟩,F.slot_dict_keyiterator_next.lookup,?_⟩));simpa[XX] using hQ
def wD(hit:s.heap.IsKeyIter it d i es.size ep)(kR:s.heap.get? d=some od)(fV:od.data= .dict es ep)(hx:es[i]? =some e)
 (hQ:∀h',h'.IsKeyIter it d (i+1) es.size ep->V2 it s.heap h'->Q (some e.key) {s with heap:=h'}):wpAny (model prog w) A (Yi (.ref it)) Q E s:=by
 obtain⟨o,ho,hc,hd⟩:=id hit;have cI:i<es.size:=(Array.getElem?_eq_some_iff.mp hx).1;have pC:VQ "dict_keyiterator"=false:=by decide
 unfold Yi;refine Uq (YE (VU hit.typeIs WZ
  (Vq WZ hit.typeIs Z2 ?_ (ZR _))))
 refine Uq (Uw (Uq (Uq ?_)))
 first | refine Uq (WW hit.typeIs (Uw ?_)) | refine Uq (Xq hit.typeIs (Uw ?_))
 refine Uq (Yo ho hd ?_);simp only[pC,Vj,if_false];show wpAny _ _ (if (UX d==U7)=true then _ else _) _ _ s;rw[abA (show¬((UX d==U7)=true) from UU)];refine Uq (Uw (Uq (VH kR fV ?_)));rw[abA (by simp)];refine Uq (Uw (Uq (Wu kR fV ?_)));rw[abA (by simp)];refine Uw ?_;simp only[show¬((i:Int)<0) from by omega,if_false,WI,hx];refine Uq ?_
 first | refine Uq (WW hit.typeIs (Uw ?_)) | refine Uq (Xq hit.typeIs (Uw ?_))
 refine Uq (wpAny_isOneOf_keyiter hit.typeIs ?_);show wpAny _ _ (aa5 (.ref it) 1 (XX ((i:Int)+1))>>=_) _ _ s;refine Uq (aaG ho hd (by simp) ?_);have Gv:(s.heap.update it (Obj.mapFields (·.setIfInBounds 1 (XX ((i:Int)+1))))).IsKeyIter it d (i+1) es.size ep:=
  ⟨_,Wf _ ho (Obj.isFreed_of_fields (abr hd _)),(Obj.cls_mapFields ..).trans hc,by rw[abr hd];simp[XX]⟩
 refine Uq (VT (Uq (wpAny_isOneOf_keyiter Gv.typeIs ?_)));show wpAny _ _ (pure e.key) _ _ _;exact Uw (Uw ⟨_,rfl,Uw (hQ _ Gv (Vg ..))⟩)
def rY(hh:A.handled=none)(hit:s.heap.IsKeyIter it d i es.size ep)(hi:es.size<=i)(kR:s.heap.get? d=some od)(fV:od.data= .dict es ep)
 (hQ:∀h',ZQ it s.heap h'->Q none {s with heap:=h'}):wpAny (model prog w) A (Yi (.ref it)) Q E s:=by
 obtain⟨o,ho,hc,hd⟩:=id hit;have pC:VQ "dict_keyiterator"=false:=by decide
 unfold Yi;refine Uq (YE (VU hit.typeIs WZ
  (Vq WZ hit.typeIs Z2 ?_ (ZR _))))
 refine Uq (Uw (Uq (Uq ?_)))
 first | refine Uq (WW hit.typeIs (Uw ?_)) | refine Uq (Xq hit.typeIs (Uw ?_))
 refine Uq (Yo ho hd ?_);simp only[pC,Vj,if_false];show wpAny _ _ (if (UX d==U7)=true then _ else _) _ _ s;rw[abA (show¬((UX d==U7)=true) from UU)];refine Uq (Uw (Uq (VH kR fV ?_)));rw[abA (by simp)];refine Uq (Uw (Uq (Wu kR fV ?_)));rw[abA (by simp)];refine Uw ?_;simp only[show¬((i:Int)<0) from by omega,if_false,WI,aap hi];refine Uq ?_
 first | refine Uq (WW hit.typeIs (Uw ?_)) | refine Uq (Xq hit.typeIs (Uw ?_))
 show wpAny _ _ (aa5 (.ref it) 0 .none>>=_) _ _ s;refine Uq (aaG ho hd (by simp) ?_);show wpAny _ _ (newExc (.type "StopIteration") []>>=_) _ _ _;refine Uq ?_;simp only[newExc,newTuple];refine Uq (U_ ?_ (by size_fits));refine Uq (wpAny_of_eq (by first | rfl | (simp only[aaI];rfl)) ?_);refine U_ ?_ (by size_fits);simp only[raiseNew];refine Uq (wpAny_handled ?_);rw[show A.in1.handled=none from hh];refine Uq (Uw (wpAny_throw ?_));refine Uq (aaa ⟨_,UO _ rfl,rfl⟩ isSubtype_stop ?_);exact Uw (hQ _ (((Vg ..).extBut.push _).push _))
def Dj(hh:A.handled=none)(hit:s.heap.IsKeyIter it d es.size es.size ep)(kR:s.heap.get? d=some od)(fV:od.data= .dict es ep)
 (hQ:∀h',ZQ it s.heap h'->Q none {s with heap:=h'}):wpAny (model prog w) A (Yi (.ref it)) Q E s:=rY hh hit (UB _) kR fV hQ
def Ih(es:Array V9):Nat->Value->Prop:=λi v=>∃e,es[i]? =some e/\v=e.key
def zD(hh:A.handled=none)(I d:Addr)(fI:d≠I)(fV:od.data= .dict es ep):
 Walks prog w A I [I,d] [I] es.size (Ih es) (λi h=>h.IsKeyIter I d i es.size ep/\h.get? d=some od) where
 sub:=λb hb=>by simp at hb;simp[hb]
 frame:=λ_ _ _ st hk=>⟨st.1.at λo e=>hk I (by simp) o e,hk d (by simp) _ st.2⟩
 item:=λi s Q E hi st hQ=>by
  have hx:es[i]? =some es[i]:=Vn hi;exact wD st.1 st.2 fV hx λh' Gv yH=>hQ _ h' s.toks ⟨_,hx,rfl⟩ ⟨Gv,(yH.2 d fI).trans st.2⟩ λb o hb e=>yH.extBut b o (λh=>hb (by simp[h])) e
 done:=λs Q E st hQ=>Dj hh st.1 st.2 fV λh' SM=>hQ h' s.toks λb o hb e=>SM b o (λh=>hb (by simp[h])) e
 self:=λ_ _ _ _ st hQ=>wpAny_pyIter_keyiter st.1 hQ
def Fg(lo:(d==V4)=false)(hx:od.ExactDict)(fV:od.data= .dict es ep):KdlSrc prog w "dict" d d es.size (Ih es) (λh=>h.get? d=some od) where
 type:=λ_ hm=>⟨od,hm,hx.1⟩
 there:=λ_ hm=>⟨UE hm,UE hm⟩
 keep:=λ_ _ hm hk=>hk d (.inl rfl) od hm
 notList:=by decide
 notTuple:=by decide
 hint:=λ_ _ s _ hm hq=>kdl_hint_dict ⟨od,hm,hx.1⟩ hq
 iter:=λ_ _ hh hm=>⟨_,_,(λ_ _ hq=>sj lo hm hx fV hq),zD hh _ d (UW (UE hm)) fV,⟨⟨_,UO _ rfl,rfl,rfl⟩,Ut _ hm⟩⟩
end
end L3
namespace L3
open PySem
def insI(k:List Int):List (List Int)->List (List Int)
 |[]=>[k]
 |x::r=>if cj k x then k::x::r else x::insI k r
def sortI:List (List Int)->List (List Int)
 |[]=>[]
 |k::r=>insI k (sortI r)
def vq(l:List (List Int)):Prop:=l.Pairwise λa b=>cj a b=true
def kT:∀{l:List (List Int)},x∈insI k l↔x=k\/x∈l
 |[]=>by simp[insI]
 |y::r=>by
  unfold insI;split
  ·simp
  ·rw[UD,kT,UD];constructor
   ·rintro(h | h | h)<;>simp[h]
   ·rintro(h | h | h)<;>simp[h]
def r_:∀{l:List (List Int)},vq l->k∉l->vq (insI k l)
 |[],_,_=>aao _ _
 |x::r,h,hk=>by
  have h:=U2.mp h;unfold insI;split
  ·rename_i q;refine U2.mpr ⟨λy hy=>?_,U2.mpr h⟩;rcases UD.mp hy with rfl | hy
   ·exact q
   ·exact jC _ _ _ q (h.1 y hy)
  ·rename_i q;have hx:cj x k=true:=by
    rcases gz k x (λz=>hk (by rw[z];exact Uv ..)) with z | z
    ·exact abE z q
    ·exact z
   refine U2.mpr ⟨λy hy=>?_,r_ h.2 λz=>hk (Uu _ z)⟩;rcases kT.mp hy with rfl | hy
   ·exact hx
   ·exact h.1 y hy
def eu:∀{l:List (List Int)},x∈sortI l↔x∈l
 |[]=>Yq
 |k::r=>by unfold sortI;rw[kT,eu,UD]
def ib:∀{l:List (List Int)},l.Nodup->vq (sortI l)
 |[],_=>Yy
 |k::r,h=>by
  have h:=Vk.mp h;exact r_ (ib h.2) λz=>h.1 (eu.mp z)
def lL:∀{a b:List (List Int)},vq a->vq b->(∀x,x∈a↔x∈b)->a=b
 |[],[],_,_,_=>rfl
 |[],y::b,_,_,h=>by have:=(h y).mpr (Uv ..);cases this
 |x::a,[],_,_,h=>by have:=(h x).mp (Uv ..);cases this
 |x::a,y::b,ha,hb,h=>by
  have ha:=U2.mp ha;have hb:=U2.mp hb;have e:x=y:=by
   rcases UD.mp ((h x).mp (Uv ..)) with q | q
   ·exact q
   ·rcases UD.mp ((h y).mpr (Uv ..)) with p | p
    ·exact p.symm
    ·have z1:=hb.1 x q;have z2:=ha.1 y p;rw[eJ _ _ z1] at z2;cases z2
  subst e;have RO:∀k,cj k k≠true:=λk z=>by have:=eJ _ _ z;rw[z] at this;cases this
  rw[lL ha.2 hb.2 λz=>?_];constructor
  ·intro hz;rcases UD.mp ((h z).mp (Uu _ hz)) with q | q
   ·subst q;exact abE (ha.1 z hz) (RO z)
   ·exact q
  ·intro hz;rcases UD.mp ((h z).mpr (Uu _ hz)) with q | q
   ·subst q;exact abE (hb.1 z hz) (RO z)
   ·exact q
def uD:∀(n:Nat) (l:List Nat),l.Nodup->(∀x∈l,x<n)->l.length=n->∀k,k<n->k∈l
 |0,_,_,_,_,k,hk=>by omega
 |n+1,l,hd,hl,hn,k,hk=>by
  by_cases h:n∈l
  ·by_cases e:k=n
   ·subst e;exact h
   ·refine List.mem_of_mem_erase (uD n (l.erase n) (hd.erase n) (λx hx=>?_) (by rw[aaj h,hn];rfl) k (by omega));have hx:=hd.mem_erase_iff.mp hx;have:=hl x hx.2;have:=hx.1;omega
  ·cases l with
   |nil=>simp at hn
   |cons x r=>
    have hd:=Vk.mp hd;have lt:∀y∈x::r,y<n:=λy hy=>by
     have:=hl y hy;have:y≠n:=λz=>h (by rw[<-z];exact hy);omega
    exact abE (uD n r hd.2 (λy hy=>lt y (Uu _ hy)) (by simpa using hn) x (lt x (Uv ..))) hd.1
def sX(hd:ks.Nodup)(P:PN ks.length p)(R:Ri (λi j=>cj (ks.getD i []) (ks.getD j [])) p ks.length):(p.toList.map λi=>ks.getD i [])=sortI ks:=by
 have hsz:p.toList.length=ks.length:=by rw[UL];exact P.sz
 have l6:∀i (h:i<p.toList.length),p.toList[i]=at' p i:=λi h=>by
  have h':i<p.size:=by rw[UL] at h;exact h
  rw[bU,Vn h'];simp
 refine lL ?_ (ib hd) λx=>?_
 ·refine Wa.mpr λi j hi hj iu=>?_;rw[Ur] at hi hj;rw[Wv,Wv,l6 i hi,l6 j hj];exact R i j iu (by omega)
 ·rw[eu];constructor
  ·intro hx;obtain⟨i,hi,rfl⟩:=UC.mp hx;obtain⟨j,hj,rfl⟩:=VS.mp hi;have:=P.lt j (by omega);rw[l6 j hj,Uy,Us this];exact VM this
  ·intro hx;obtain⟨k,hk,rfl⟩:=VS.mp hx;have MP:k∈p.toList:=by
    have hn:p.toList.Nodup:=Wa.mpr λi j hi hj iu z=>by
     rw[l6 i hi,l6 j hj] at z;have:=P.inj i j (by omega) (by omega) z;omega
    exact uD ks.length p.toList hn (λx hx=>by
     obtain⟨j,hj,rfl⟩:=VS.mp hx;rw[l6 j hj];exact P.lt j (by omega)) hsz k hk
   refine UC.mpr ⟨k,MP,?_⟩;rw[Uy,Us hk];rfl
end L3
namespace L3
open PySem PySem.Spec L2 SeqAt HT
open PyProof.Rows hiding St
def tupI(k:List Int):D:= .tup (k.map D.int)
def eS(ks:List (List Int)):Bool:=decide ks.Nodup&&decide (ks.length<64)&&ks.all λk=>!k.isEmpty
def dI(H:Hp):List V->List (List Int)->Prop:=Zk λv k=>∃a,v= .ref a/\H a=some (.tup (k.map V.int))
def xr{K:UJ}:∀{ws:List V}{ks:List (List Int)},dI F ws ks->(∀k∈ks,k.length<=lim)->DenL K F (ks.map tupI) ws
 |_,_, .nil,_=>rfl
 |_,_, .cons (b:=k) h t,hl=>by
  obtain⟨a,rfl,h⟩:=h;exact .cons ⟨a,_,rfl,h,DenL.ints k,by rw[Ur];exact hl k (Uv ..)⟩ (xr t λk hk=>hl k (Uu _ hk))
def sR(I:Inv X f8 σ H s):∀{vs:List V}{aD:List Value}{ks:List (List Int)},dI H vs ks->Vals vs aD->(∀k∈ks,k≠[])->TupsAt s.heap aD ks
 |_,_,_, .nil,r,_=>by cases r;exact trivial
 |_,_,_, .cons (b:=k) h t,r,hn=>by
  obtain⟨a,rfl,h⟩:=h;cases r with
  |cons r1 r2=>
   cases (show _=_ from r1);obtain⟨us,ru,pt,_⟩:=I.tuple (SqT.of h);obtain⟨o,q1,q2,m,q3⟩:=pt;exact⟨⟨a,o,us,m,rfl,q1,q2,q3,intsAre_of ru,hn k (Uv ..)⟩,sR I t r2 λk hk=>hn k (Uu _ hk)⟩
def xt:∀{vs:List V}{ks:List (List Int)}{i:Nat},dI H vs ks->i<vs.length->∃a,vs.getD i .non= .ref a/\H a=some (.tup ((ks.getD i []).map V.int))
 |_,_,i, .nil,hi=>by simp at hi
 |_,_,0, .cons h t,_=>h
 |_,_,i+1, .cons h t,hi=>xt (i:=i) t (by simpa using hi)
def xu:∀{vs:List V}{ks:List (List Int)},dI H vs ks->vs.length=ks.length
 |_,_, .nil=>rfl
 |_,_, .cons h t=>by rw[UI,UI,xu t]
def sQ(h:dI H vs ks):∀{is:List Nat},(∀i∈is,i<vs.length)->dI H (is.map λi=>vs.getD i .non) (is.map λi=>ks.getD i [])
 |[],_=> .nil
 |i::is,hi=> .cons (xt h (hi i (Uv ..))) (sQ h λj hj=>hi j (Uu _ hj))
def jG:∀{vs:List V}{us:List Value}(i:Nat),Vals vs us->i<vs.length->RelV (vs.getD i .non) (us.getD i U7)
 |_,_,i, .nil,hi=>by simp at hi
 |_,_,0, .cons h t,_=>h
 |_,_,i+1, .cons h t,hi=>jG i t (by simpa using hi)
def mP(h:Vals vs us):∀{is:List Nat},(∀i∈is,i<vs.length)->Vals (is.map λi=>vs.getD i .non) (is.map λi=>us.getD i U7)
 |[],_=> .nil
 |i::is,hi=> .cons (jG i h (hi i (Uv ..))) (mP h λj hj=>hi j (Uu _ hj))
def jE:∀l:List (List Int),(sortI l).length=l.length
 |[]=>rfl
 |k::r=>by
  have ins:∀(k:List Int) (l:List (List Int)),(insI k l).length=l.length+1:=by
   intro k l;induction l with
   |nil=>rfl
   |cons x l ih=>
    unfold insI;split
    ·rfl
    ·rw[UI,ih,UI]
  unfold sortI;rw[ins,jE r,UI]
def ip(k:List Int):List Key:=k.map Zq
def NU:List V->Hp->VK->Prop:=λxs H Q=>∃p kvs ks,xs=[.ref p]/\Rd H p (.dT kvs)/\kvs.map (·.1)=ks.map ip/\eS ks=true/\∀(q:Addr) (ws:List V),H q=none->dI H ws (sortI ks)->Q (.ref q) (upd H q (.lst ws))
def sq:∀{kvs:List (List Key×V)}{xs:List (List Key×Addr×Value)}{ks:List (List Int)},Zk (λ(p:List Key×V) (q:List Key×Addr×Value)=>p.1=q.1/\H q.2.1=some (.tup (p.1.map kV))/\RelV p.2 q.2.2) kvs xs->
 kvs.map (·.1)=ks.map ip->dI H (xs.map λx=>V.ref x.2.1) ks
 |_,_,[], .nil,_=> .nil
 |_,_,_::_, .nil,e=>by simp at e
 |_,_,[], .cons h t,e=>by simp at e
 |_,_,k::ks, .cons h t,e=>by
  rw[Uz,Uz] at e;injection e with e1 e2
  refine .cons ⟨_,rfl,?_⟩ (sq t e2);have hk:(ip k).map kV=k.map V.int:=by unfold ip;rw[U0];rfl
  rw[h.2.1,e1,hk]
section
variable{X:Cx}{Xw:Nat->Hp->Prop}{e:Expr}{δs:DA}{pos p:Pos}
def Bm(hc:X.calm=true):CallR X (.builtin "sorted") NU:=by
 intro f8 s σ H xs us Q I r h;obtain⟨a,kvs,ks,rfl,hH,yc,hk,q⟩:=h;obtain⟨u,rfl,r1⟩:=r.one;cases (show u=_ from r1);obtain⟨z,lo,xs,rel,o,es,ep,g1,g2,g3,g4,g5⟩:=(show ObjOk X.prog X.w H s.heap a (.dT kvs) from hH.ok I.hok)
 unfold eS at hk;rw[UY,UY] at hk;have hd:ks.Nodup:=abC hk.1.1;have jM:ks.length<64:=abC hk.1.2;have fI:∀k∈ks,k≠[]:=λk q0 z=>by have:=UT.mp hk.2 k q0;rw[z] at this;cases this
 have hr:=sq rel yc;have FO:=xu hr;rw[Ur] at FO;have JR:es.size=xs.length:=by rw[<-UL,g4,Ur]
 have nX:UR=16777216:=Wg;refine W7 aav Z3 Z4 (Z6 _) ?_;unfold XW.«sorted»;refine Uq (Uw (Uq (aay (Fg lo g2 g3) (I.ok.hd hc) g1 (by rw[JR,nX];omega) λh1 tk T0 wj gb=>?_)));have Dy:T0.toList.length=xs.length:=by rw[UL,<-JR];exact gb.1
 have I1:Inv X f8 σ H {s with heap:=h1,toks:=tk}:=I.kept λb ob e=>wj b ob e;have rv:Vals (xs.map λx=>V.ref x.2.1) T0.toList:=by
  have ext:∀{vs:List V}{us:List Value},vs.length=us.length->(∀(i:Nat) (v:V) (u:Value),vs[i]? =some v->us[i]? =some u->RelV v u)->Vals vs us:=by
   intro vs;induction vs with
   |nil=>intro us h _;cases us with | nil=>exact .nil | cons _ _=>simp at h
   |cons v vs ih=>
    intro us h hh;cases us with
    |nil=>simp at h
    |cons u us=>exact .cons (hh 0 v u rfl rfl) (ih (by simpa using h) λi v u h1 h2=>hh (i+1) v u h1 h2)
  refine ext (by rw[Ur,Dy]) λi v u e1 e2=>?_;rw[We] at e2;obtain⟨en,q1,q2⟩:=gb.2 i u e2;rw[<-We,g4,UG] at q1;rw[UG] at e1;cases w:xs[i]? with
  |none=>rw[w] at e1;cases e1
  |some x=>
   rw[w] at e1 q1;cases e1;cases q1;exact q2
 have ht:=sR I1 hr rv fI;refine Uq (XZ ?_ (by rw[nX];omega));have Af:(h1.push (Vz "list" T0.toList.toArray 0)).get? h1.objs.size=some (Vz "list" T0.toList.toArray 0):=UO _ rfl;refine Uq (VT (Vq Zf ⟨_,Af,rfl⟩ YY (Ct Af
  (ht.keep (λb o _ e=>Ut _ e) (λo e=>abE (UE e) (Vc _))) hd (by omega) λP h' c' hP hR DH kQ=>?_) (Zi _)))
 have Gp:∀i∈P.toList,i<(xs.map λx=>V.ref x.2.1).length:=λi hi=>by
  obtain⟨j,hj,rfl⟩:=VS.mp hi;have h':j<P.size:=by rw[UL] at hj;exact hj
  have:=hP.lt j (by rw[hP.sz] at h';exact h');rw[bU,Vn h'] at this;have e:P.toList[j]=P[j]:=by simp
  rw[e,Ur];have:P[j]<T0.toList.length:=this;omega
 have Pl:PN ks.length P:=by rw[<-FO,<-Dy];exact hP
 have Pm:Ri (λi j=>cj (ks.getD i []) (ks.getD j [])) P ks.length:=by rw[<-FO,<-Dy];exact hR
 have IF:=sX hd Pl Pm;have RM:=sQ hr Gp;rw[IF] at RM;refine⟨_,rfl,Uw ⟨_,rfl,⟨.ref h1.objs.size,_,I1.laid (λb ob e=>kQ b ob (UW (UE e)) (Ut _ e)) (UB _) ?_,rfl,q _ _ (I1.hok.fresh (UB _)) RM⟩⟩⟩;exact⟨by rw[Ur,UL,hP.sz,nX];omega,_,c',mP rv Gp,DH⟩
def sP(e:Same F F'):∀{ws:List V}{ks:List (List Int)},dI F ws ks->dI F' ws ks
 |_,_, .nil=> .nil
 |_,_, .cons ⟨b,q1,q2⟩ t=> .cons ⟨b,q1,e _ _ q2⟩ (sP e t)
def qu(hs:Same F H):∀{ws:List V}{ks:List (List Int)},dI H ws ks->∃F',Ext F H F' H/\dI F' ws ks
 |_,_, .nil=>⟨F,Ext.refl hs, .nil⟩
 |_,_, .cons h t=>by
  obtain⟨a,rfl,h⟩:=h;obtain⟨F1,e1,r1⟩:=qu hs t;have e2:=Ext.tup e1.fh h;refine⟨_,e1.trans e2, .cons ⟨a,rfl,az⟩ ?_⟩;exact sP e2.ff r1
def jO:List Key->Option (List Int)
 |[]=>some []
 | .inl i::r=>(jO r).map (i:: ·)
 |_=>none
def d_:List (List Key)->Option (List (List Int))
 |[]=>some []
 |k::r=>match jO k,d_ r with
  |some x,some xs=>some (x::xs)
  |_,_=>none
def pE:∀{k:List Key}{x:List Int},jO k=some x->k=ip x
 |[],_,e=>by cases e;rfl
 | .inl i::r,_,e=>by
   unfold jO at e;cases q:jO r with
   |none=>rw[q] at e;cases e
   |some y=>rw[q] at e;cases e;rw[pE q];rfl
 | .inr _::r,_,e=>by cases e
def jz:∀{kk:List (List Key)}{ks:List (List Int)},d_ kk=some ks->kk=ks.map ip
 |[],_,e=>by cases e;rfl
 |k::r,_,e=>by
  unfold d_ at e;split at e
  ·rename_i x xs e1 e2;cases e;rw[Uz,<-pE e1,<-jz e2]
  ·cases e
def xN:List D->M D
 |[.dct kk ds]=>match d_ kk with
  |some ks=>if eS ks&&ks.all (λk=>decide (k.length<=lim)) then aa (.lst ((sortI ks).map tupI)) else af
  |none=>af
 |_=>af
def ie:∀{a:List α}{b:List β},a.length=b.length->(a.zip b).map (·.1)=a
 |[],[],_=>rfl
 |x::a,y::b,h=>by rw[VW,Uz,ie (by simpa using h)]
 |[],_::_,h=>by simp at h
 |_::_,[],h=>by simp at h
def Hj(hc:X.calm=true)(hg:Gl X "sorted")(hm:X.mg "sorted"=none)(hb:Vh "sorted"=some (.builtin "sorted"))(ha:kA X Xw [e] δs)(he:US [e] X.env=[(false,eval e X.env)]:=by rfl):PD X Xw (.Call (.Name "sorted" p) [e] [] pos) (dA xN δs):=
 bR (Bm hc) (λXw F H vs ds Q s h w=>by
  unfold xN at w;split at w
  ·rename_i kk ds;obtain⟨v,rfl,h1⟩:=h.one;obtain⟨a,ob,ws,rfl,h2,h3,h4,h5⟩:=h1;split at w
   ·rename_i ks CJ;split at w
    ·rename_i hok;rw[UY] at hok;have hl:∀k∈ks,k.length<=lim:=λk hk=>abC (UT.mp hok.2 k hk);have jM:ks.length<64:=by
      have:=hok.1;unfold eS at this;rw[UY,UY] at this;exact abC this.1.2
     refine⟨a,_,ks,rfl, .inr ⟨ob,s _ _ h2⟩,by rw[ie (by rw[h4];exact h3.len),jz CJ],hok.1,λq us hq hr=>?_⟩;obtain⟨F1,e1,r1⟩:=qu s hr;have e2:=Ext.lay (o:= .lst us) e1.fh hq;exact WP.fin w (e1.trans e2) ⟨q,_,rfl,az,DenL.mono e2.ff (xr r1 λk hk=>hl k (eu.mp hk)),by rw[Ur,jE];unfold lim;omega⟩
    ·exact w.elim
   ·exact w.elim
  ·exact w.elim) hg hm hb ha (by decide) (by decide) he rfl
end
end L3
namespace L3
open PySem PySem.Spec L2
open PyProof.Rows hiding St
def orM(a b:M α):M α:=match a with
 |none=>b
 |some r=>some r
def GG(a b:DA):DA:=λρ=>orM (a ρ) (b ρ)
section
variable{X:Cx}{Xw:Nat->Hp->Prop}{e tg:Expr}{δi δi':DA}
def AM(h:vi X Xw tg e δi)(h':vi X Xw tg e δi'):vi X Xw tg e (GG δi δi'):=λf8 s σ H Q I ⟨F,ρ,S,w⟩=>by
 unfold GG orM at w;cases q:δi ρ with
 |none=>rw[q] at w;exact h' f8 s σ H Q I ⟨F,ρ,S,w⟩
 |some r=>rw[q] at w;exact h f8 s σ H Q I ⟨F,ρ,S,by rw[q];exact w⟩
def mE{st:Stmt}:gj X Xw st (λ_=>af):=λt0 abJ f8 s σ H D I ⟨F,ρ,S,w⟩=>w.elim
end
def fgt:List Nat->bC->bC
 |[],ρ=>ρ
 |i::is,ρ=>fgt is (ρ.set i none)
def NA(f:bC->bC):Out->M Out
 | .nx ρ=>aa (.nx (f ρ))
 | .rt d=>aa (.rt d)
def c_(is:List Nat)(τ:DS):DS:=λρ=>τ ρ>>=NA (fgt is)
def StOk.fgt1{K:UJ}(s:StOk K t0 abJ F H σ ρ)(i:Nat):StOk K t0 abJ F H σ (ρ.set i none):=by
 have get:∀(j:Nat) (sl:Sl),(ρ.set i none)[j]? =some (some sl)->ρ[j]? =some (some sl):=λj sl e=>by
  by_cases hj:j=i
  ·subst hj;by_cases hl:j<ρ.length
   ·rw[UQ hl] at e;cases e
   ·rw[XC (by simpa using hl)] at e;cases e
  ·rw[UM (Vv hj)] at e;exact e
 exact⟨s.ext,⟨s.st.fh,λj sl e=>s.st.den j sl (get j sl e)⟩,by simp[s.len],λj c a e e'=>s.own j c a (get j _ e) e',λj k c c' a e1 e2 e3 e4=>s.sep j k c c' a (get j _ e1) (get k _ e2) e3 e4⟩
def StOk.fgt{K:UJ}:∀(is:List Nat) {ρ:bC},StOk K t0 abJ F H σ ρ->StOk K t0 abJ F H σ (L3.fgt is ρ)
 |[],_,s=>s
 |i::is,_,s=>StOk.fgt is (s.fgt1 i)
def WPS.fgt{K:UJ}(w:WPS K Xw t0 abJ (m>>=NA (L3.fgt is)) Dn):WPS K Xw t0 abJ m Dn:=by
 match m,w with
 |none,w=>exact w
 |some (.ok (.nx ρ)),w=>exact λσ F H s=>w σ F H (s.fgt is)
 |some (.ok (.rt d)),w=>exact w
 |some (.ex n),w=>exact w
section
variable{X:Cx}{Xw:Nat->Hp->Prop}{R4:List Stmt}{τ:DS}{is:List Nat}
def bf(h:PSDs X Xw R4 τ):PSDs X Xw R4 (c_ is τ):=λt0 abJ=>PSs.weak (h t0 abJ) λD σ H ⟨F,ρ,s,w⟩=>⟨F,ρ,s,WPS.fgt w⟩
end
def Sr:Option Sl->Option Sl
 |some (.ow c)=>some (.fz c.d)
 |x=>x
def yy(ρ:bC):bC:=ρ.map Sr
def refA(h:Heap)(P:Addr->Prop)[DecidablePred P](H:Hp):Hp:=λb=>if P b then(H b).map (nV ((h.get? b).getD {cls:= .none,data:= .fields #[]})) else H b
def yz(ob:Obj)(o:HO):nV ob o=o\/((∃k,o= .dT k)\/∃k,o= .dK k)/\nV ob o= .frz ob o:=by
 cases o<;>first | exact .inl rfl | exact .inr ⟨.inl ⟨_,rfl⟩,rfl⟩ | exact .inr ⟨.inr ⟨_,rfl⟩,rfl⟩
section
variable{X:Cx}{f8:List (Addr×Obj)}{σ:St}{H:Hp}{s:Ux}{P:Addr->Prop}[DecidablePred P]
def gK(e:H b=none):refA h P H b=none:=by
 unfold refA;split
 ·rw[e];rfl
 ·exact e
def sM(e:H b=some o):refA h P H b=some o\/((∃k,o= .dT k)\/∃k,o= .dK k)/\P b/\refA h P H b=some (.frz ((h.get? b).getD {cls:= .none,data:= .fields #[]}) o):=by
 unfold refA;split
 ·rename_i hp;rw[e];rcases yz ((h.get? b).getD {cls:= .none,data:= .fields #[]}) o with q | ⟨q1,q2⟩
  ·exact .inl (by show some _=_;rw[q])
  ·exact .inr ⟨q1,hp,by show some _=_;rw[q2]⟩
 ·exact .inl e
def gJ(e:H b=some o)(n1:∀k,o≠ .dT k)(n2:∀k,o≠ .dK k):refA h P H b=some o:=by
 rcases sM (P:=P) e with q | ⟨⟨k,q⟩ | ⟨k,q⟩,_⟩
 ·exact q
 ·exact abE q (n1 k)
 ·exact abE q (n2 k)
def Inv.refA(I:Inv X f8 σ H s):Inv X f8 σ (L3.refA s.heap P H) s:=by
 have obj:∀b o,H b=some o->((∃k,o=HO.dT k)\/∃k,o= .dK k)->∃ob,s.heap.get? b=some ob:=λb o e hu=>by
  have hk:=I.hok b o e;rcases hu with⟨k,h1⟩ | ⟨k,h1⟩
  ·subst h1;obtain⟨_,_,_,_,ob,_,_,q,_⟩:=hk;exact⟨ob,q⟩
  ·subst h1;obtain⟨_,_,_,_,ob,_,_,q,_⟩:=hk;exact⟨ob,q⟩
 refine⟨I.ok,I.os,I.bare,⟨I.base.keep,I.base.slot,λb q h1 h2 h3=>gK (I.base.free b q h1 h2 h3),I.base.there,λb xs q=>gJ (I.base.tups b xs q) (λ_ z=>nomatch z) (λ_ z=>nomatch z),
  λb q1 v q=>gJ (I.base.frzs b q1 v q) (λ_ z=>nomatch z) (λ_ z=>nomatch z),λb ps q=>?_⟩,I.loc,I.cell,gK I.free,λx c q=>gK (I.freeC x c q),λp hp=>?_,λb v q=>?_,I.len⟩
 ·obtain⟨m,this⟩:=I.base.tbls b ps q;exact⟨m,gJ this (λ_ z=>nomatch z) (λ_ z=>nomatch z)⟩
 ·obtain⟨h1,h2,h3⟩:=I.pin p hp;exact⟨h1,gK h2,h3⟩
 ·have st:∀{c:Addr}{v:HO},ObjOk X.prog X.w H s.heap c v->ObjOk X.prog X.w (L3.refA s.heap P H) s.heap c v:=λ{c v} k=>k.stay (λ_ _ _ q=>q)
   (λc' q=>gJ q (λ_ z=>nomatch z) (λ_ z=>nomatch z)) λc' xs q=>gJ q (λ_ z=>nomatch z) (λ_ z=>nomatch z)
  cases e:H b with
  |none=>rw[gK e] at q;cases q
  |some o=>
   rcases sM (P:=P) e with z | ⟨hu,hp,z⟩
   ·rw[z] at q;cases q;exact st (I.hok b _ e)
   ·rw[z] at q;cases q;obtain⟨ob,JZ⟩:=obj b o e hu;rw[JZ];exact⟨JZ,st (I.hok b o e)⟩
def unA(P:Addr->Prop)[DecidablePred P](H:Hp):Hp:=λb=>if P b then(match H b with | some (.frz _ u)=>some u | x=>x) else H b
def Inv.unA(I:Inv X f8 σ H s)(hP:∀b,P b->∀o u,X.abJ b≠some (.frz o u))(hQ:∀b,P b->∀o u,H b=some (.frz o u)->(∃k,u= .dT k)\/∃k,u= .dK k):Inv X f8 σ (L3.unA P H) s:=by
 have non:∀b,H b=none->L3.unA P H b=none:=λb e=>by unfold L3.unA;rw[e];split<;>rfl
 have keep:∀b o,H b=some o->(∀q u,o≠ .frz q u)->L3.unA P H b=some o:=λb o e n=>by
  unfold L3.unA;split
  ·rw[e];cases o<;>first | rfl | exact abE rfl (n _ _)
  ·exact e
 refine⟨I.ok,I.os,I.bare,⟨I.base.keep,I.base.slot,λb q h1 h2 h3=>non b (I.base.free b q h1 h2 h3),I.base.there,λb xs q=>keep b _ (I.base.tups b xs q) (λ_ _ z=>nomatch z),
  λb q1 v q=>?_,λb ps q=>?_⟩,I.loc,I.cell,non _ I.free,λx c q=>non _ (I.freeC x c q),λp hp=>?_,λb v q=>?_,I.len⟩
 ·have:=I.base.frzs b q1 v q;unfold L3.unA;rw[abA (λhp=>hP b hp q1 v q)];exact this
 ·obtain⟨m,this⟩:=I.base.tbls b ps q;exact⟨m,keep b _ this (λ_ _ z=>nomatch z)⟩
 ·obtain⟨h1,h2,h3⟩:=I.pin p hp;exact⟨h1,non _ h2,h3⟩
 ·have st:∀{c:Addr}{v:HO},ObjOk X.prog X.w H s.heap c v->ObjOk X.prog X.w (L3.unA P H) s.heap c v:=λ{c v} k=>k.stay (λ_ _ _ q=>q)
   (λc' q=>keep c' _ q (λ_ _ z=>nomatch z)) λc' xs q=>keep c' _ q (λ_ _ z=>nomatch z)
  cases e:H b with
  |none=>rw[non b e] at q;cases q
  |some o=>
   have ko:=I.hok b o e;by_cases hf:∃ob u,o= .frz ob u
   ·obtain⟨ob,u,rfl⟩:=hf;unfold L3.unA at q;split at q
    ·rw[e] at q;cases q;obtain⟨_,k2⟩:=ko;exact st k2
    ·rw[e] at q;cases q;exact st ko
   ·rw[keep b o e (λq u z=>hf ⟨q,u,z⟩)] at q;cases q;exact st ko
end
mutual
def z8:D->Bool
 | .non=>true
 | .bl _=>true
 | .int _=>true
 | .str _=>true
 | .tup ds=>z9 ds
 | .raw _=>false
 | .exc _=>false
 | .scr _=>false
 | .lst _=>false
 | .dct _ _=>false
 | .dci _ _=>false
def z9:List D->Bool
 |[]=>true
 |d::ds=>z8 d&&z9 ds
end
def ph(d:D):M D:=if z8 d then aa d else af
def OwnAt(σ:St)(ρ:bC)(b:Addr):Prop:=∃(i:Nat) (c:C),ρ[i]? =some (some (Sl.ow c))/\σ[i]? =some (some (V.ref b))
section
variable{K:UJ}{F H F' H':Hp}{σ:St}{ρ:bC}{h:Heap}{b:Addr}
def OwnAt.obj(S:StE K F H σ ρ)(p:OwnAt σ ρ b):F b=none/\∃o,H b=some o/\((∃x,o= .lst x)\/(∃x,o= .dT x)\/∃x,o= .dK x):=by
 obtain⟨i,c,h1,h2⟩:=p;obtain⟨v,h3,a,o,rfl,h4,h5,h6⟩:=S.den i _ h1;rw[h3] at h2;cases h2;refine⟨h5,o,h4,?_⟩;cases c with
 |lst ds=>obtain⟨vs,rfl,_⟩:=h6;exact .inl ⟨_,rfl⟩
 |dct ks ds=>obtain⟨vs,rfl,_⟩:=h6;exact .inr (.inl ⟨_,rfl⟩)
 |dci ks ds=>obtain⟨vs,rfl,_⟩:=h6;exact .inr (.inr ⟨_,rfl⟩)
open Classical in
noncomputable def fA(σ:St)(ρ:bC)(H1 F:Hp):Hp:=λb=>if OwnAt σ ρ b then H1 b else F b
open Classical in
def z7(S:StE K F H σ ρ):Same F (fA σ ρ H1 F):=λb u e=>by
 unfold fA;rw[abA (λp=>by rw[(OwnAt.obj S p).1] at e;cases e)];exact e
open Classical in
def Dm(S:StE K F H σ ρ):StE K (fA σ ρ (refA h (OwnAt σ ρ) H) F) (refA h (OwnAt σ ρ) H) σ (yy ρ):=by
 refine⟨λb u e=>?_,λj sl e=>?_⟩
 ·unfold fA at e;split at e
  ·exact e
  ·rename_i hp;unfold refA;rw[abA hp];exact S.fh b u e
 ·unfold yy at e;rw[UG] at e;cases q:ρ[j]? with
  |none=>rw[q] at e;cases e
  |some x=>
   rw[q] at e;cases x with
   |none=>cases e
   |some y=>
    cases y with
    |fz d=>
     cases e;obtain⟨v,h1,h2⟩:=S.den j _ q;exact⟨v,h1,Den.mono (z7 S) h2⟩
    |ow c=>
     cases e;obtain⟨v,h1,a,o,rfl,h4,h5,h6⟩:=S.den j _ q;refine⟨_,h1,DenC.den (ob:=(h.get? a).getD {cls:= .none,data:= .fields #[]}) h6 (z7 S) ?_⟩;have hp:OwnAt σ ρ a:=⟨j,c,q,h1⟩
     unfold fA refA;rw[abz hp,abz hp,h4];rfl
open Classical in
def vZ(S:StE K F H σ ρ)(E:Ext (fA σ ρ (refA h (OwnAt σ ρ) H) F) (refA h (OwnAt σ ρ) H) F' H'):
 Ext F H (λb=>if OwnAt σ ρ b then none else F' b) (unA (OwnAt σ ρ) H')/\∀b,OwnAt σ ρ b->∀o u,H' b=some (.frz o u)->(∃k,u= .dT k)\/∃k,u= .dK k:=by
 have Q9:∀b,OwnAt σ ρ b->∃o,H b=some o/\H' b=some (nV ((h.get? b).getD {cls:= .none,data:= .fields #[]}) o)/\((∃x,o= .lst x)\/(∃x,o= .dT x)\/∃x,o= .dK x):=λb hp=>by
  obtain⟨_,o,h1,h2⟩:=OwnAt.obj S hp;refine⟨o,h1,E.hh b _ ?_,h2⟩;unfold refA;rw[abz hp,h1];rfl
 refine⟨⟨λb o e=>?_,λb u e=>?_,λb u e=>?_,λb hb=>?_⟩,λb hp o u e=>?_⟩
 ·unfold unA;by_cases hp:OwnAt σ ρ b
  ·obtain⟨o',h1,h2,h3⟩:=Q9 b hp;rw[e] at h1;cases h1;rw[abz hp,h2];rcases h3 with⟨x,rfl⟩ | ⟨x,rfl⟩ | ⟨x,rfl⟩<;>rfl
  ·rw[abA hp];refine E.hh b o ?_;unfold refA;rw[abA hp];exact e
 ·have hp:¬OwnAt σ ρ b:=λp=>by rw[(OwnAt.obj S p).1] at e;cases e
  show (if OwnAt σ ρ b then none else F' b)=_;rw[abA hp];refine E.ff b u ?_;unfold fA;rw[abA hp];exact e
 ·have e:(if OwnAt σ ρ b then none else F' b)=some u:=e;split at e
  ·cases e
  ·rename_i hp;unfold unA;rw[abA hp];exact E.fh b u e
 ·show (if OwnAt σ ρ b then none else F' b)=F b\/_;by_cases hp:OwnAt σ ρ b
  ·rw[abz hp];exact .inl (OwnAt.obj S hp).1.symm
  ·rw[abA hp];have e1:refA h (OwnAt σ ρ) H b=H b:=by unfold refA;rw[abA hp]
   have e2:fA σ ρ (refA h (OwnAt σ ρ) H) F b=F b:=by unfold fA;rw[abA hp]
   rcases E.new b (by rw[e1];exact hb) with q | q
   ·exact .inl (q.trans e2)
   ·rw[e1] at q;exact .inr q
 ·obtain⟨o',h1,h2,h3⟩:=Q9 b hp;rw[e] at h2;rcases h3 with⟨x,rfl⟩ | ⟨x,rfl⟩ | ⟨x,rfl⟩
  ·cases h2
  ·cases h2;exact .inl ⟨_,rfl⟩
  ·cases h2;exact .inr ⟨_,rfl⟩
open Classical in
mutual
def vV(S:StE K F H σ ρ)(E:Ext (fA σ ρ (refA h (OwnAt σ ρ) H) F) (refA h (OwnAt σ ρ) H) F' H'):∀{d:D}{v:V},z8 d=true->Den K F' d v->Den K (λb=>if OwnAt σ ρ b then none else F' b) d v
 | .non,_,_,q=>q
 | .bl _,_,_,q=>q
 | .int _,_,_,q=>q
 | .str _,_,_,q=>q
 | .tup ds,_,f,⟨a,vs,h1,h2,h3,h4⟩=>by
   refine⟨a,vs,h1,?_,rZ S E ?_ h3,h4⟩
   ·show (if OwnAt σ ρ a then none else F' a)=_;rw[abA,h2];intro hp;obtain⟨_,o,k1,k2⟩:=OwnAt.obj S hp;have k3:fA σ ρ (refA h (OwnAt σ ρ) H) F a=some (nV ((h.get? a).getD {cls:= .none,data:= .fields #[]}) o):=by
     unfold fA refA;rw[abz hp,abz hp,k1];rfl
    have k4:=E.ff a _ k3;rw[h2] at k4;rcases k2 with⟨x,rfl⟩ | ⟨x,rfl⟩ | ⟨x,rfl⟩<;>cases k4
   ·exact f
 | .raw _,_,f,_=>by cases f
 | .exc _,_,f,_=>by cases f
 | .scr _,_,f,_=>by cases f
 | .lst _,_,f,_=>by cases f
 | .dct _ _,_,f,_=>by cases f
 | .dci _ _,_,f,_=>by cases f
def rZ(S:StE K F H σ ρ)(E:Ext (fA σ ρ (refA h (OwnAt σ ρ) H) F) (refA h (OwnAt σ ρ) H) F' H'):∀{ds:List D}{vs:List V},z9 ds=true->DenL K F' ds vs->DenL K (λb=>if OwnAt σ ρ b then none else F' b) ds vs
 |[],_,_,q=>q
 |d::ds,_,f,⟨v,r,h1,h2,h3⟩=>by
  unfold z9 at f;rw[UY] at f;exact⟨v,r,h1,vV S E f.1 h2,rZ S E f.2 h3⟩
end
end
def oB(h:noex m=aa a):m=aa a:=by
 match m,h with
 |some (.ok b),h=>exact h
section
variable{X:Cx}{Xw:Nat->Hp->Prop}{e:Expr}{δ:DE}{τ:DT}
def sE(I:Inv X f8 σ H s)(S:StE X.K F H σ ρ)(b:Addr)(p:OwnAt σ ρ b)(o:Obj)(u:HO):X.abJ b≠some (.frz o u):=λz=>by
 obtain⟨_,o',k1,k2⟩:=OwnAt.obj S p;have:=I.base.frzs b o u z;rw[k1] at this;rcases k2 with⟨x,rfl⟩ | ⟨x,rfl⟩ | ⟨x,rfl⟩<;>cases this
def gW(m:M α):noex m=af\/∃a,m=aa a/\noex m=aa a:=by
 rcases m.cs with h | ⟨n,h⟩ | ⟨a,h⟩
 ·subst h;exact .inl rfl
 ·subst h;exact .inl rfl
 ·subst h;exact .inr ⟨a,rfl,rfl⟩
def zf(h:oP X Xw e τ):oP X Xw e (λρ=>noex (τ (yy ρ))):=λf8 s σ H Q I ⟨F,ρ,S,w⟩=>by
 classical
 rcases gW (τ (yy ρ)) with q | ⟨b,q,q2⟩
 ·have w:WPB Xw F H (noex (τ (yy ρ))) Q:=w;rw[q] at w;exact w.elim
 ·have w:WPB Xw F H (noex (τ (yy ρ))) Q:=w;rw[q2] at w;refine bx (h f8 s σ _ (λb' H'=>Q b' (unA (OwnAt σ ρ) H')/\∀c,OwnAt σ ρ c->∀o u,H' c=some (.frz o u)->(∃k,u= .dT k)\/∃k,u= .dK k) (Inv.refA I) ⟨_,_,Dm S,?_⟩) λb' s' ⟨H',I',q1,q3⟩=>⟨_,Inv.unA I' (sE I S) q3,q1⟩
  rw[q];intro H' F' E;obtain⟨E1,q3⟩:=vZ S E;exact⟨w _ _ E1,q3⟩
def IU(h:PD X Xw e δ):PD X Xw e (λρ=>noex (δ (yy ρ))>>=ph):=λf8 s σ H Q I ⟨F,ρ,S,w⟩=>by
 classical
 rcases gW (δ (yy ρ)) with q | ⟨d,q,q2⟩
 ·have w:WP X.K Xw F H (noex (δ (yy ρ))>>=ph) Q:=w;rw[q] at w;exact w.elim
 ·have w:WP X.K Xw F H (noex (δ (yy ρ))>>=ph) Q:=w;rw[q2,au] at w;unfold ph at w;split at w
  ·rename_i hf;refine bx (h f8 s σ _ (λv H'=>Q v (unA (OwnAt σ ρ) H')/\∀c,OwnAt σ ρ c->∀o u,H' c=some (.frz o u)->(∃k,u= .dT k)\/∃k,u= .dK k) (Inv.refA I) ⟨_,_,Dm S,?_⟩) λb' s' ⟨v,H',I',rv,q1,q3⟩=>⟨v,_,Inv.unA I' (sE I S) q3,rv,q1⟩
   rw[q];intro v H' F' E dn;obtain⟨E1,q3⟩:=vZ S E;exact⟨w _ _ _ E1 (vV S E hf dn),q3⟩
  ·exact w.elim
end
abbrev DF:=bC->M C
def WPF(K:UJ)(Xw:Nat->Hp->Prop)(F H:Hp)(m:M C)(Q:VK):Prop:=
 match m with
 |none=>False
 |some (.ok c)=>∀a o H' F',Ext F H F' H'->H' a=some o->F' a=none->H a=none->DenC K F' c o->Q (.ref a) H'
 |some (.ex n)=>∀F' H',Ext F H F' H'->Xw n H'
def T5(K:UJ)(Xw:Nat->Hp->Prop)(δ:DF):TE:=λσ H Q=>∃F ρ,StE K F H σ ρ/\WPF K Xw F H (δ ρ) Q
def LB(X:Cx)(Xw:Nat->Hp->Prop)(e:Expr)(δ:DF):Prop:=PE X e (T5 X.K Xw δ)
def A4(i:Nat)(δ:DF):DS:=λρ=>δ ρ>>=λc=>aa (.nx (ρ.set i (some (.ow c))))
def StOk.setFresh{K:UJ}(s:StOk K t0 abJ F H σ ρ)(E:Ext F H F' H')(ho:H' a=some o)(nF:F' a=none)(n:H a=none)(h:DenC K F' c₀ o):
 StOk K t0 abJ F' H' (σ.set i (some (.ref a))) (ρ.set i (some (.ow c₀))):=by
 have hle:=s.len;have get:∀(j:Nat) (sl:Sl),(ρ.set i (some (.ow c₀)))[j]? =some (some sl)->(j=i/\i<ρ.length/\sl= .ow c₀)\/(j≠i/\ρ[j]? =some (some sl)):=λj sl e=>by
  by_cases hj:j=i
  ·subst hj;have hi:j<ρ.length:=by
    have:=(UA.mp e).1;simpa using this
   rw[UQ hi] at e;cases e;exact .inl ⟨rfl,hi,rfl⟩
  ·rw[UM (Vv hj)] at e;exact .inr ⟨hj,e⟩
 have old:∀(j:Nat) (c:C) (b:Addr),ρ[j]? =some (some (.ow c))->σ[j]? =some (some (.ref b))->b≠a:=λj c b e e' z=>by
  obtain⟨u,h1,b',o,h2,h3,_⟩:=s.st.den j _ e;rw[h1] at e';cases e';cases h2;rw[z,n] at h3;cases h3
 refine⟨s.ext.trans E,⟨E.fh,λj sl e=>?_⟩,by simp[hle],λj c b e e'=>?_,λj k c c' b e1 e2 e3 e4=>?_⟩
 ·rcases get j sl e with⟨rfl,hi,rfl⟩ | ⟨hj,e⟩
  ·exact⟨.ref a,by rw[UQ (by omega)],a,_,rfl,ho,nF,h⟩
  ·obtain⟨u,h1,h2⟩:=s.st.den j sl e;exact⟨u,by rw[UM (Vv hj)];exact h1,h2.ext E⟩
 ·rcases get j _ e with⟨rfl,hi,_⟩ | ⟨hj,e⟩
  ·rw[UQ (by omega)] at e';cases e';exact Same.free s.ext.hh n
  ·rw[UM (Vv hj)] at e';exact s.own j c b e e'
 ·rcases get j _ e1 with⟨rfl,hi,_⟩ | ⟨hj,e1⟩
  ·rw[UQ (by omega)] at e3;cases e3;rcases get k _ e2 with⟨rfl,_,_⟩ | ⟨hk,e2⟩
   ·rfl
   ·rw[UM (Vv hk)] at e4;exact abE rfl (old k c' a e2 e4)
  ·rcases get k _ e2 with⟨PZ,hi,_⟩ | ⟨hk,e2⟩
   ·rw[PZ,UQ (by omega)] at e4;cases e4;rw[UM (Vv hj)] at e3;exact abE rfl (old j c a (by assumption) e3)
   ·rw[UM (Vv hj)] at e3;rw[UM (Vv hk)] at e4;exact s.sep j k c c' b e1 e2 e3 e4
def WPF.mono{K:UJ}(h:WPF K Xw F H m Q)(k:∀v H',Q v H'->Q' v H'):WPF K Xw F H m Q':=by
 match m,h with
 |none,h=>exact h
 |some (.ok d),h=>exact λa o H' F' e h1 h2 h3 h4=>k _ _ (h a o H' F' e h1 h2 h3 h4)
 |some (.ex n),h=>exact h
def WPF.ext{K:UJ}(e:Ext F H F1 H1)(h:WPF K Xw F H m Q):WPF K Xw F1 H1 m Q:=by
 match m,h with
 |none,h=>exact h
 |some (.ok d),h=>exact λa o H' F' e' h1 h2 h3 h4=>h a o H' F' (e.trans e') h1 h2 (Same.free e.hh h3) h4
 |some (.ex n),h=>exact λF2 H2 e2=>h F2 H2 (e.trans e2)
def WPF.bind{K:UJ}(h:WPF K Xw F H (m>>=k) Q):WP K Xw F H m λv H1=>∃F1 d,Ext F H F1 H1/\Den K F1 d v/\WPF K Xw F1 H1 (k d) Q:=by
 match m,h with
 |none,h=>exact h
 |some (.ok d),h=>exact λv H2 F2 e2 q=>⟨F2,d,e2,q,WPF.ext e2 (show WPF K Xw F H (k d) Q from h)⟩
 |some (.ex n),h=>exact h
def JB(a b:DF):DF:=λρ=>orM (a ρ) (b ρ)
section
variable{X:Cx}{Xw:Nat->Hp->Prop}{e k v a b:Expr}{es:List Expr}{δ δ':DF}{pos pos':Pos}{x:Str}{i:Nat}
def Hn(h:LB X Xw e δ)(h':LB X Xw e δ'):LB X Xw e (JB δ δ'):=λf8 s σ H Q I ⟨F,ρ,S,w⟩=>by
 unfold JB orM at w;cases q:δ ρ with
 |none=>rw[q] at w;exact h' f8 s σ H Q I ⟨F,ρ,S,w⟩
 |some r=>rw[q] at w;exact h f8 s σ H Q I ⟨F,ρ,S,by rw[q];exact w⟩
def xk(hN:X.N.Nodup)(hi:X.N[i]? =some x)(hx:Loc X.env.scope x)(he:LB X Xw e δ)(hf:X.fn x=true\/X.env.scope.names.lookup x=some .local:=by first | exact .inl rfl | exact .inr rfl)
 (hs:Zz [.Name x pos'] e pos.line X.env=pure false:=by rfl):
 gj X Xw (.Assign [.Name x pos'] e pos) (A4 i δ):=λt0 abJ=>PS.weak (mD he (aQ hN hi hx hf) hs) λD σ H ⟨F,ρ,s,w⟩=>by
 refine⟨F,ρ,s.st,?_⟩;unfold A4 at w
 match δ ρ,w with
 |none,w=>exact w
 |some (.ok c),w=>exact λa o H' F' E h1 h2 h3 h4=>w _ F' H' (s.setFresh E h1 h2 h3 h4)
 |some (.ex n),w=>exact λF' H' e'=>w F' H' (s.ext.trans e')
def L7{a:Addr}{y v:V}(hu:A.units+1<cLine)(I:Inv X f8 σ H s)(g:DPut H a y v H')(ry:RelV y u)(rv:RelV v r)(h:∀s',Inv X f8 σ H' s'->Q () s'):
 wpAny (model X.prog X.w) A (dictSet a u r) Q E s:=by
 rcases g with⟨kvs,k,e,ey,l,eH⟩ | ⟨kvs,k,b,e,ey,eb,l,eH⟩
 ·subst ey eH;obtain⟨z,hd,vs,rel,dd⟩:=Dd I.hok e;have hz:vs.length<=UR:=by rw[<-rel.length];exact z
  have hl:(putK kvs k v).length<=UR:=by have:=dH kvs k v;omega
  refine wpAny_dictSet_pairs (kU ry) dd λh' zU hs=>h _ ?_;have he:∃q,h'.get? a=some q:=let ⟨q,_,_,hq,_⟩:=zU;⟨q,hq⟩
  exact ju I (by rw[e];exact WD) hs he (yq hl hd (rel.put k rv) zU)
 ·subst ey eH;cases (show u=UX b from ry);obtain⟨z,hd,xs,rel,dd⟩:=Dh I.hok e;have hz:xs.length<=UR:=by rw[<-Wt rel];exact z
  have hl:(putK kvs k v).length<=UR:=by have:=dH kvs k v;omega
  refine wpAny_dictSet_heap (by exact(show A.units<cLine by omega)) (iL I.hok eb) dd λh' zU hs=>h _ ?_;obtain⟨q,es,ep,hq,h2,h3,h4,_,h5⟩:=zU;refine ju I (by rw[e];exact WD) hs ⟨q,hq⟩ ⟨hl,hd,_,(rel.put k eb rv).keeps λc ys ec=>?_,q,es,ep,hq,h2,h3,h4,h5⟩;rw[ao (Ec ec e (λz=>nomatch z))];exact ec
end
section
variable{X:Cx}{Xw:Nat->Hp->Prop}{e k v a b:Expr}{es:List Expr}{δk δv δa δb:DE}{pos p:Pos}{x:Str}{i:Nat}
def vP(hu:X.A.units+1<cLine)(h0:∀(H:Hp) (h:Heap),V4<h.objs.size->ObjOk X.prog X.w H (h.push {cls:= .type "dict",data:= .dict #[]}) h.objs.size o0)(hk:PE X k tk)(hv:PE X v tv):
 PE X (.Dict [some k] [v] pos) (λσ H Q=>∀p,H p=none->tk σ (upd H p o0) λy H1=>tv σ H1 λz H2=>∃H3,DPut H2 p y z H3/\Q (.ref p) H3):=by
 intro f8 s σ H Q I q;have hn:=I.hok.fresh (UB s.heap.objs.size);have I1:=I.laid (t':=s.toks) (λ_ _ q=>Ut _ q) (UB _) (h0 _ s.heap I.big);refine wpAny_Dict_any rfl rfl (by simp) (by simp) (bx (EN hk hv HD f8 _ σ _ (λps H2=>∃y z H3,ps=[(y,z)]/\DPut H2 s.heap.objs.size y z H3/\Q (.ref s.heap.objs.size) H3) I1 ?_) λws s2 ⟨ps,H2,I2,rel,y,z,H3,ep,g,q2⟩=>?_)
 ·refine ?_;have:=q _ hn;show tk σ _ λy H1=>tv σ H1 λz H2=>∃y' z' H3,[(y,z)]=[(y',z')]/\DPut H2 s.heap.objs.size y' z' H3/\Q (.ref s.heap.objs.size) H3;have e:(λ(y:V) (H1:Hp)=>tv σ H1 λz H2=>∃y' z' H3,[(y,z)]=[(y',z')]/\DPut H2 s.heap.objs.size y' z' H3/\Q (.ref s.heap.objs.size) H3)=(λy H1=>tv σ H1 λz H2=>∃H3,DPut H2 s.heap.objs.size y z H3/\Q (.ref s.heap.objs.size) H3):=by
   funext y H1;congr 1;funext z H2;refine propext ⟨λ⟨y',z',H3,ee,r⟩=>?_,λ⟨H3,r⟩=>⟨y,z,H3,rfl,r⟩⟩;cases ee;exact⟨H3,r⟩
  rw[e];exact this
 ·subst ep;cases rel with
  | @cons a b as bs h t=>
    cases t;obtain⟨r1,r2⟩:=h;unfold storeAll;rw[ZO];refine Uq (Uq (L7 hu I2 g r1 r2 λs3 I3=>?_));refine Uw ?_;show wpAny _ _ (forIn ([]:List (Value×Value)) Xs _) _ _ _;rw[List.forIn_nil];exact Uw ⟨V.ref s.heap.objs.size,_,I3,rfl,q2⟩
def kF(k v:D):M C:=match eg k with
 |some kk=>aa (.dct [kk] [v])
 |none=>af
def mU(k v:D):M C:=match mj k with
 |some kk=>aa (.dci [kk] [v])
 |none=>af
def sI(hu:X.A.units+64<cLine)(hk:PD X Xw k δk)(hv:PD X Xw v δv):LB X Xw (.Dict [some k] [v] pos) (λρ=>δk ρ>>=λx=>δv ρ>>=λy=>kF x y):=
 PE.weak (vP (o0:= .dT []) (by omega) (λH h hb=>vR h hb) hk hv) λσ H Q ⟨F,ρ,s,w⟩ q hq=>by
  have e0:=Ext.free (o:= .dT []) s.fh hq;refine⟨F,ρ,s.ext e0,?_⟩;have w:WPF X.K Xw F H (δk ρ>>=λx=>δv ρ>>=λy=>kF x y) Q:=w
  match q0:δk ρ,w with
  |none,w=>exact w
  |some (.ex n),w=>exact λF' H' e'=>w F' H' (e0.trans e')
  |some (.ok kd),w=>
   intro y H1 F1 e1 q1;refine⟨F1,ρ,(s.ext e0).ext e1,?_⟩;have w:WPF X.K Xw F H (δv ρ>>=λy=>kF kd y) Q:=w
   match LO:δv ρ,w with
   |none,w=>exact w
   |some (.ex n),w=>exact λF' H' e'=>w F' H' (e0.trans (e1.trans e'))
   |some (.ok vd),w=>
    intro z H2 F2 e2 q2;have w3:WPF X.K Xw F H (kF kd vd) Q:=w;clear w;unfold kF at w3;cases yc:eg kd with
    |none=>rw[yc] at w3;exact w3.elim
    |some kk=>
     rw[yc] at w3;have E:=e1.trans e2;have MO:H2 q=some (.dT []):=E.hh _ _ az;have Mj:F2 q=none:=by
      have:=E.old az (λ_ z=>nomatch z);rw[this];exact Same.free s.fh hq
     unfold eg at yc;split at yc
     ·rename_i es;obtain⟨b,ws,rfl,k2,k3,_⟩:=Den.mono e2.ff q1;have e5:=iJ yc k3;subst e5;refine⟨_,DPut.t MO (e2.fh _ _ k2) (by rw[Wg];decide),?_⟩;refine w3 q (.dT (putK [] kk z)) _ F2 ⟨λc u hc=>?_,(e0.trans E).ff,λc u hc=>?_,(e0.trans E).new⟩ az Mj hq ⟨[z],rfl, .cons q2 .nil,rfl,show 1<=lim by decide⟩
      ·rw[ao (λzz=>by rw[zz,hq] at hc;cases hc)];exact(e0.trans E).hh c u hc
      ·rw[ao (λzz=>by rw[zz,Mj] at hc;cases hc)];exact e2.fh c u hc
     ·cases yc
def Ca(hu:X.A.units+64<cLine)(hk:PD X Xw k δk)(hv:PD X Xw v δv):LB X Xw (.Dict [some k] [v] pos) (λρ=>δk ρ>>=λx=>δv ρ>>=λy=>mU x y):=
 PE.weak (vP (o0:= .dK []) (by omega) (λH h hb=>vQ h hb) hk hv) λσ H Q ⟨F,ρ,s,w⟩ q hq=>by
  have e0:=Ext.free (o:= .dK []) s.fh hq;refine⟨F,ρ,s.ext e0,?_⟩;have w:WPF X.K Xw F H (δk ρ>>=λx=>δv ρ>>=λy=>mU x y) Q:=w
  match q0:δk ρ,w with
  |none,w=>exact w
  |some (.ex n),w=>exact λF' H' e'=>w F' H' (e0.trans e')
  |some (.ok kd),w=>
   intro y H1 F1 e1 q1;refine⟨F1,ρ,(s.ext e0).ext e1,?_⟩;have w:WPF X.K Xw F H (δv ρ>>=λy=>mU kd y) Q:=w
   match LO:δv ρ,w with
   |none,w=>exact w
   |some (.ex n),w=>exact λF' H' e'=>w F' H' (e0.trans (e1.trans e'))
   |some (.ok vd),w=>
    intro z H2 F2 e2 q2;have w3:WPF X.K Xw F H (mU kd vd) Q:=w;clear w;unfold mU at w3;cases yc:mj kd with
    |none=>rw[yc] at w3;exact w3.elim
    |some kk=>
     rw[yc] at w3;have E:=e1.trans e2;have MO:H2 q=some (.dK []):=E.hh _ _ az;have Mj:F2 q=none:=by
      have:=E.old az (λ_ z=>nomatch z);rw[this];exact Same.free s.fh hq
     have e5:=gw yc (Den.mono e2.ff q1);subst e5;refine⟨_,DPut.k MO (by rw[Wg];decide),?_⟩;refine w3 q (.dK (putK [] kk z)) _ F2 ⟨λc u hc=>?_,(e0.trans E).ff,λc u hc=>?_,(e0.trans E).new⟩ az Mj hq ⟨[z],rfl, .cons q2 .nil,rfl,show 1<=lim by decide⟩
     ·rw[ao (λzz=>by rw[zz,hq] at hc;cases hc)];exact(e0.trans E).hh c u hc
     ·rw[ao (λzz=>by rw[zz,Mj] at hc;cases hc)];exact e2.fh c u hc
def tf{K:UJ}{d k:D}{x y:V}(s:Same F H)(hd:Den K F d x)(hk:Den K F k y)(e:Bc d k=some o):
 ∃a ov,x= .ref a/\jY H a y ov/\ov.isSome=o.isSome/\∀d',o=some d'->∃v,ov=some v/\Den K F d' v:=by
 obtain⟨a,ov,h1,h2,h3,h4⟩:=zO (σ:=[some x]) (ρ:=[some (.fz d)]) (i:=0) ⟨s,λi sl q=>by
  match i,q with
  |0,q=>cases q;exact⟨x,rfl,hd⟩
  |i+1,q=>simp at q⟩ rfl hk e
 cases h1;exact⟨a,ov,rfl,h2,h3,h4⟩
def nW(neg:Bool)(k d:D):M D:=match Bc d k with
 |some o=>aa (.bl (if neg then !o.isSome else o.isSome))
 |none=>af
def NO(neg:Bool):R2:=λy x H Q=>∃a o,x= .ref a/\jY H a y o/\Q (.bl (if neg then !o.isSome else o.isSome)) H
def B6(hu:X.A.units+64<cLine):OpR X (VP .NotIn) (NO true):=λf8 s σ H y x v u Q I ry rx ⟨a,o,ex,g,q⟩=>by
 subst ex;obtain rfl:u=UX a:=rx;exact F7 (by omega) I g ry λs' I'=>⟨.bl (!o.isSome),_,I',rfl,q⟩
def G5{K:UJ}:vp K (NO neg) (nW neg):=λXw F H y x dk dd Q s hk hd w=>by
 unfold nW at w;cases he:Bc dd dk with
 |none=>rw[he] at w;exact w.elim
 |some o=>
  rw[he] at w;obtain⟨a,ov,h1,h2,h3,_⟩:=tf s hd hk he;refine⟨a,ov,h1,h2,?_⟩;rw[h3];exact WP.now w s rfl
def mF(hu:X.A.units+64<cLine)(ha:PD X Xw a δa)(hb:PD X Xw b δb)(hm:VF .NotIn b=false:=by rfl):oP X Xw (.Compare a [.NotIn] [b] pos) (eO (d2 (nW true) δa δb)):=e7 (B6 hu) G5 ha hb hm
def df(d k:D):M D:=match Bc d k with
 |some (some v)=>aa v
 |_=>af
def eo(hu:X.A.units+64<cLine)(ha:PD X Xw a δa)(hb:PD X Xw b δb)(hs:Jg b:=by intro _ _;rfl):PD X Xw (.Subscript a b pos) (d2 df δa δb):=
 PE.weak (Ht (by omega) ha hb hs) λσ H Q ⟨F,ρ,s,w⟩=>by
  refine⟨F,ρ,s,WP.mono (WP.bind w) λx H1 ⟨F1,d,e1,q1,w1⟩=>?_⟩;refine⟨F1,ρ,s.ext e1,WP.mono (WP.bind w1) λy H2 ⟨F2,k,e2,q2,w2⟩=>?_⟩;unfold df at w2;cases he:Bc d k with
  |none=>rw[he] at w2;exact w2.elim
  |some o=>
   cases o with
   |none=>rw[he] at w2;exact w2.elim
   |some d'=>
    rw[he] at w2;obtain⟨a,ov,h1,h2,h3,h4⟩:=tf e2.fh (Den.mono e2.ff q1) q2 he;obtain⟨v,rfl,hd⟩:=h4 d' rfl;exact⟨a,v,h1,h2,WP.now w2 e2.fh hd⟩
end
section
variable{X:Cx}{f8:List (Addr×Obj)}{σ:St}{H:Hp}{s:Ux}{h':Heap}
def Inv.turnedLaid{ch:List Addr}(I:Inv X f8 σ H s)(k:∀b q,b∉ch->s.heap.get? b=some q->h'.get? b=some q)(hf:∀b∈ch,oM X f8 H b)(hp:s.heap.objs.size<=a)(new:ObjOk X.prog X.w (upd H a o) h' a o):
 Inv X f8 σ (upd H a o) {s with heap:=h',toks:=t'}:=by
 have hn:=I.hok.fresh hp;have IP:∀b u,H b=some u->b∉ch:=λb u e z=>by rw[(hf b z).1] at e;cases e
 refine I.step (λb hb=>?_) (λb q _ _ hc e _=>k b q hc e) (λb q _ _ hc e _=>⟨q.slots,k b q hc e⟩) (λb q hc e n=>?_)
  (λb q hc e=>⟨q,k b q hc e⟩) (λb xs e=>?_) (λb q u e=>?_) (λb ps e=>⟨#[],?_⟩) (λm hm=>?_) (λb u e=>?_) I.bare
 ·obtain⟨f0,f1,f2,f3,f4,f5⟩:=hf b hb;exact⟨f3,f1,f4,f5⟩
 ·rw[ao (λz=>by rw[z] at e;exact abE (UE e) (Nat.not_lt.mpr hp))];exact n
 ·rw[ao (aW e hn)];exact e
 ·rw[ao (aW e hn)];exact e
 ·rw[ao (aW e hn),e];simp
 ·obtain⟨q,es,ep,ho,r⟩:=hm;exact⟨q,es,ep,k _ q (λz=>(hf _ z).2.1 rfl) ho,r⟩
 ·by_cases hb:b=a
  ·subst hb;rw[az] at e;cases e;exact new
  ·rw[ao hb] at e;refine(I.hok b u e).stay (λc v hc q=>k c v ?_ q) (λc q=>by rw[ao (aW q hn)];exact q) λc xs q=>by rw[ao (aW q hn)];exact q
   rcases hc with z | z
   ·rw[z];exact IP b u e
   ·exact IP c _ z
def Inv.turnedL{ch:List Addr}(I:Inv X f8 σ H s)(k:∀b q,b∉ch->s.heap.get? b=some q->h'.get? b=some q)(hf:∀b∈ch,oM X f8 H b):Inv X f8 σ H {s with heap:=h',toks:=t'}:=by
 have IP:∀b u,H b=some u->b∉ch:=λb u e z=>by rw[(hf b z).1] at e;cases e
 refine I.step (λb hb=>?_) (λb q _ _ hc e _=>k b q hc e) (λb q _ _ hc e _=>⟨q.slots,k b q hc e⟩) (λb q hc e n=>n)
  (λb q hc e=>⟨q,k b q hc e⟩) (λb xs e=>e) (λb q u e=>e) (λb ps e=>⟨#[],by rw[e];simp⟩) (λm hm=>?_) (λb u e=>?_) I.bare
 ·obtain⟨f0,f1,f2,f3,f4,f5⟩:=hf b hb;exact⟨f3,f1,f4,f5⟩
 ·obtain⟨q,es,ep,ho,r⟩:=hm;exact⟨q,es,ep,k _ q (λz=>(hf _ z).2.1 rfl) ho,r⟩
 ·refine(I.hok b u e).stay (λc v hc q=>k c v ?_ q) (λc q=>q) λc xs q=>q;rcases hc with z | z
  ·rw[z];exact IP b u e
  ·exact IP c _ z
end
def Q3(K:UJ)(a:Addr):It:=
 ⟨λi H=>∃xs x,SqL K H a xs/\xs[i]? =some x,λi H x H'=>∃p,x= .ref p/\H p=none/\∃v,(∀xs,SqL K H a xs->xs[i]? =some v)/\H'=upd H p (.tup [.int (i:Int),v]),λi H=>∃xs,SqL K H a xs/\xs.length<=i⟩
def Cz{K:UJ}(l e it:Addr)(RA:e≠it):
 Turn P w K (.Tuple es x1 tp) (Q3 K l) [e,it] e (λi h=>∃old,IsEnum h e it (i:Int) old/\h.IsListIter it l i) where
 mem:=by simp
 obj:=λi h ⟨old,Fm,uT⟩ b hb=>by
  rcases UD.mp hb with z | z
  ·subst z;exact⟨_,Fm,λv z=>nomatch z⟩
  ·have z:b=it:=by simpa using z
   subst z;obtain⟨o,e1,c,d⟩:=uT;exact⟨o,e1,λv z=>by rw[d] at z;cases z⟩
 keep:=λi h h' ⟨old,Fm,uT⟩ k=>⟨old,k e (by simp) _ Fm,uT.at λo q=>k it (by simp) o q⟩
 item:=by
  intro X hP hw hK hc i f8 s σ H E I hf st hg;subst hP hw hK;obtain⟨old,Fm,uT⟩:=st;obtain⟨xs,x,hq,hx⟩:=hg;obtain⟨aD,rv,p,hz⟩:=I.list hq;obtain⟨u,hu,ru⟩:=rv.get hx;refine wpAny_pyNext_enum_item Fm uT p.isList (by simpa using hu) RA λh1 k1 k2 k3 k4 k5=>?_;refine⟨_,rfl,wpAny_letOwnedTupleGo_enum k1 λh2 m1 m2=>?_⟩;have fI:s.heap.objs.size≠e:=Vs (UE Fm);have QX:h2.get? s.heap.objs.size=some {cls:= .type "tuple",data:= .seq #[.int i s.toks,u]}:=(m2.2 _ fI).trans k3;have keep:∀b q,b∉[e,it]->s.heap.get? b=some q->h2.get? b=some q:=λb q hb e1=>by
   have Rt:b≠e:=λz=>hb (by simp[z]);have Pp:b≠it:=λz=>hb (by simp[z]);exact(m2.2 b Rt).trans (k5 b q Rt Pp e1)
  have I2:Inv X f8 σ (upd H s.heap.objs.size (.tup [.int (i:Int),x])) {s with heap:=h2,toks:=s.toks+1}:=by
   refine Inv.turnedLaid I keep hf (UB _) ⟨?_,[.int i s.toks,u], .cons ⟨_,rfl⟩ (.cons ru .nil),_,QX,rfl,_,rfl⟩;rw[Wg];show 2<=_;decide
  refine⟨.ref s.heap.objs.size,_,I2,rfl,⟨_,rfl,I.hok.fresh (UB _),x,λys hy=>by rw[I.list_inj hy hq];exact hx,rfl⟩,⟨u,?_,?_⟩,λb hb=>?_⟩
  ·have:((i+1:Nat):Int)=(i:Int)+1:=by push_cast;rfl
   rw[this];exact m1
  ·exact k2.at λo q=>(m2.2 it (Vv RA)).trans q
  ·rw[ao (λz=>by
    rcases UD.mp hb with y | y
    ·exact abE (UE Fm) (by rw[<-y,z];exact Vc _)
    ·have y:b=it:=by simpa using y
     obtain⟨o,q1,_⟩:=id uT;exact abE (UE q1) (by rw[<-y,z];exact Vc _))]
   exact(hf b hb).1
 done:=by
  intro X hP hw hK hc i f8 s σ H E I hf st hg;subst hP hw hK;obtain⟨old,Fm,uT⟩:=st;obtain⟨xs,hq,hx⟩:=hg;obtain⟨aD,rv,p,hz⟩:=I.list hq;have hl:=rv.length;exact wpAny_pyNext_enum_end (I.ok.hd hc) Fm uT p.isList (by simp;omega) λh' eb=>⟨rfl,Inv.turnedL I (λb q hb e1=>eb b q (λz=>hb (by simp[z])) e1) λb hb=>hf b (Uu _ hb)⟩
 self:=λA i s Q E st h=>by
  obtain⟨old,Fm,uT⟩:=st;exact wpAny_pyIter_enum Fm h
def DX{K:UJ}{F:Hp}(h:SqL K F a vs)(hd:DenL K F ds vs):ItD K F (Q3 K a) (ds.mapIdx λi d=> .tup [.int (i:Int),d]):=λF' H' i s1 s2=>by
 have hs:=Same.seq s2 (Same.seq s1 h);refine⟨λd e=>?_,λhl=>⟨vs,hs,by rw[List.length_mapIdx,hd.len] at hl;exact hl⟩⟩;rw[aaS] at e;cases q:ds[i]? with
 |none=>rw[q] at e;cases e
 |some d0=>
  rw[q] at e;cases e;obtain⟨v,e1,q1⟩:=hd.get q;refine⟨⟨vs,v,hs,e1⟩,λx H'' ⟨p,y1,y2,u,y3,y4⟩=>?_⟩;subst y1 y4;have:=y3 vs hs;rw[e1] at this;cases this;have E:=Ext.lay (o:= .tup [.int (i:Int),v]) s2 y2;exact⟨_,E,p,_,rfl,az, .cons rfl (.cons (Den.mono E.ff (Den.mono s1 q1)) .nil),by show 2<=lim;decide⟩
section
variable{X:Cx}{Xw:Nat->Hp->Prop}{e:Expr}{es:List Expr}{δs:DA}{pos p tp:Pos}{x1:Nat}
def z0:List D->M (List D)
 |[.lst ds]=>aa (ds.mapIdx λi d=> .tup [.int (i:Int),d])
 |_=>af
def EB(hg:Gl X "enumerate")(hm:X.mg "enumerate"=none)(ha:kA X Xw [e] δs)(hs:US [e] X.env=[(false,eval e X.env)]:=by rfl):vi X Xw (.Tuple es x1 tp) (.Call (.Name "enumerate" p) [e] [] pos) (λρ=>δs ρ>>=z0):=by
 intro f8 s σ H R I ⟨F,ρ,S,w⟩;refine Call_ (iM I hg hm (show Vh "enumerate"=some (.type "enumerate") from rfl) (WK (bx (ha pos f8 s σ H (λvs H1=>∃F1 ds,Ext F H F1 H1/\DenL X.K F1 ds vs/\WPI X.K Xw F1 H1 (z0 ds) R) I ⟨F,ρ,S,WPI.bindL w⟩) λus s1 ⟨vs,H1,I1,r1,F1,ds,e1,q1,w1⟩=>?_) hs rfl));unfold z0 at w1;split at w1
 ·rename_i ds;obtain⟨v,rfl,h1⟩:=q1.one;obtain⟨a,xs,rfl,h2,h3,h4⟩:=h1;obtain⟨u,rfl,r2⟩:=r1.one;cases (show u=_ from r2);obtain⟨aD,rv,pl,hz⟩:=I1.list (SqL.of (K:=X.K) (e1.fh _ _ h2));refine call_enumerate_list pl.isList λh' k1 k2 k3 k4=>?_;refine wpAny_pyIter_enum k1 ?_;refine⟨s1.heap.objs.size+1,[s1.heap.objs.size+1,s1.heap.objs.size],_,_,H1,rfl,I1.kept λb o e=>k4 b o e,Cz a _ _ (Vs (XM _)),⟨.none,k1,k2⟩,λb hb=>?_,w1 _ _ _ (Ext.refl e1.fh) (DX (SqL.of h2) h3)⟩;have e:s1.heap.objs.size<=b:=by
   rcases UD.mp hb with z | z
   ·rw[z];exact XU _
   ·have z:b=s1.heap.objs.size:=by simpa using z
    rw[z];exact UB _
  exact I1.fpOk e (I1.hok.fresh e)
 ·exact w1.elim
end
def D2:Key->D
 | .inl i=> .int i
 | .inr x=> .str x
def Ig(H:Hp)(d:Addr)(od:Obj)(i:Nat)(x:V):Prop:=
 (∃kvs k b,H d=some (.frz od (.dT kvs))/\(kvs.map (·.1))[i]? =some k/\x= .ref b/\H b=some (.tup (k.map kV)))\/
 ∃kvs k,H d=some (.frz od (.dK kvs))/\(kvs.map (·.1))[i]? =some k/\x=kV k
def Q2(d:Addr)(od:Obj):It:=
 ⟨λi H=>(∃kvs,H d=some (.frz od (.dT kvs))/\i<kvs.length)\/∃kvs,H d=some (.frz od (.dK kvs))/\i<kvs.length,λi H x H'=>H'=H/\Ig H d od i x,
  λi H=>(∃kvs,H d=some (.frz od (.dT kvs))/\kvs.length<=i)\/∃kvs,H d=some (.frz od (.dK kvs))/\kvs.length<=i⟩
def nH{R:α->β->Prop}(h:∀a b,R a b->f a=g b):∀{l:List α}{m:List β},Zk R l m->l.map f=m.map g
 |_,_, .nil=>rfl
 |_,_, .cons r t=>by rw[Uz,Uz,h _ _ r,nH h t]
def gY:∀{l:List α}{m:List β}{i:Nat}{a:α},Zk R l m->l[i]? =some a->∃b,m[i]? =some b/\R a b
 |_,_,i,_, .nil,e=>by simp at e
 |_,_,0,_, .cons r t,e=>by simp at e;subst e;exact⟨_,rfl,r⟩
 |_,_,i+1,_, .cons r t,e=>by
  obtain⟨b,e1,e2⟩:=gY t (by simpa using e);exact⟨b,by simpa using e1,e2⟩
def B9{w:World}{κ:Type}[DecidableEq κ]{knd:KeyKind prog w κ}:∀{es:List V9}{kvs:List (κ×Value)}{i:Nat}{kv:κ×Value},Pairs knd es kvs->kvs[i]? =some kv->∃e,es[i]? =some e/\knd.is kv.1 e.key=true:=by
 intro es kvs i kv h e;induction h generalizing i with
 |nil=>simp at e
 | @cons en Um LF Nd h1 h2 h3 ih=>
   cases i with
   |zero=>simp at e;subst e;exact⟨en,rfl,h1⟩
   |succ i=>
    obtain⟨q,e1,e2⟩:=ih (by simpa using e);exact⟨q,by simpa using e1,e2⟩
def Kk(h:mZ k u=true):RelV (kV k) u:=by
 rcases br h with⟨i,t,rfl,rfl⟩ | ⟨x,t,rfl,rfl⟩
 ·exact⟨t,rfl⟩
 ·exact⟨t,rfl⟩
def o_{σ:St}{H:Hp}(I:Inv X f8 σ H s)
 (h:(∃kvs,H d=some (.frz od (.dT kvs))/\n=kvs.length)\/∃kvs,H d=some (.frz od (.dK kvs))/\n=kvs.length):
 ∃es ep,(d==V4)=false/\s.heap.get? d=some od/\od.ExactDict/\od.data= .dict es ep/\es.size=n/\∀i,i<n->∃e x,es[i]? =some e/\RelV x e.key/\Ig H d od i x:=by
 rcases h with⟨kvs,e,rfl⟩ | ⟨kvs,e,rfl⟩
 ·obtain⟨ho,z,lo,xs,rel,o,es,ep,h1,h2,h3,h4,h5⟩:=(show ObjOk X.prog X.w H s.heap d (.frz od (.dT kvs)) from I.hok d _ e)
  rw[ho] at h1;cases h1;have hl:es.size=kvs.length:=by
   rw[<-UL,h4,Ur];exact(Wt rel).symm
  refine⟨es,ep,lo,ho,h2,h3,hl,λi hi=>?_⟩;obtain⟨q,e1,e2,e3,e4⟩:=gY rel (Us hi);refine⟨ZV (WM (aM X.prog X.w)) q, .ref q.2.1,?_,rfl, .inl ⟨kvs,kvs[i].1,q.2.1,e,?_,rfl,e3⟩⟩
  ·rw[<-We,h4,UG,e1];rfl
  ·rw[UG,Us hi];rfl
 ·obtain⟨ho,z,lo,vs,rel,o,es,ep,h1,h2,h3,h4,h5,h6⟩:=(show ObjOk X.prog X.w H s.heap d (.frz od (.dK kvs)) from I.hok d _ e)
  rw[ho] at h1;cases h1;have hl:es.size=kvs.length:=by
   rw[<-UL,h5.length];exact(Wt rel).symm
  refine⟨es,ep,lo,ho,h2,h3,hl,λi hi=>?_⟩;obtain⟨q,e1,e2,e3⟩:=gY rel (Us hi);obtain⟨en,e4,e5⟩:=B9 h5 e1;refine⟨en,kV kvs[i].1,by rw[<-We];exact e4,?_, .inr ⟨kvs,kvs[i].1,e,by rw[UG,Us hi];rfl,rfl⟩⟩;rw[e2];exact Kk e5
def CA{K:UJ}(d it:Addr)(od:Obj)(es:Array V9)(ep:Nat)(fV:od.data= .dict es ep):
 Turn P w K tg (Q2 d od) [it] it (λi h=>h.IsKeyIter it d i es.size ep) where
 mem:=by simp
 obj:=λi h st b hb=>by
  have e:b=it:=by simpa using hb
  subst e;obtain⟨o,e,c,dd⟩:=st;exact⟨o,e,λv z=>by rw[dd] at z;cases z⟩
 keep:=λi h h' st k=>st.at λo e=>k it (by simp) o e
 item:=by
  intro X hP hw hK hc i f8 s σ H E I hf st hg;subst hP hw hK;obtain⟨n,hn,hi⟩:∃n,((∃kvs,H d=some (.frz od (.dT kvs))/\n=kvs.length)\/∃kvs,H d=some (.frz od (.dK kvs))/\n=kvs.length)/\i<n:=by
   rcases hg with⟨kvs,e,hi⟩ | ⟨kvs,e,hi⟩
   ·exact⟨_, .inl ⟨kvs,e,rfl⟩,hi⟩
   ·exact⟨_, .inr ⟨kvs,e,rfl⟩,hi⟩
  obtain⟨LF,Ge,lo,ho,hx,vj,hsz,hk⟩:=o_ I hn;rw[fV] at vj;cases vj;obtain⟨en,x,e1,rx,ka⟩:=hk i hi;obtain⟨f0,f1,f2,f3,f4,f5⟩:=hf it (by simp);refine wD st ho fV e1 λh' lQ sb=>?_;have I1:Inv X f8 σ H {s with heap:=h'}:=I.turned (λb o hb e=>(sb.2 b hb).trans e) f0 f1 f3 f4 f5;obtain⟨o,e2,c,dd⟩:=id lQ;exact⟨_,rfl,r6 e2 c dd (by decide) ⟨x,H,I1,rx,⟨rfl,ka⟩,lQ,λb hb=>(hf b hb).1⟩⟩
 done:=by
  intro X hP hw hK hc i f8 s σ H E I hf st hg;subst hP hw hK;obtain⟨n,hn,hi⟩:∃n,((∃kvs,H d=some (.frz od (.dT kvs))/\n=kvs.length)\/∃kvs,H d=some (.frz od (.dK kvs))/\n=kvs.length)/\n<=i:=by
   rcases hg with⟨kvs,e,hi⟩ | ⟨kvs,e,hi⟩
   ·exact⟨_, .inl ⟨kvs,e,rfl⟩,hi⟩
   ·exact⟨_, .inr ⟨kvs,e,rfl⟩,hi⟩
  obtain⟨LF,Ge,lo,ho,hx,vj,hsz,hk⟩:=o_ I hn;rw[fV] at vj;cases vj;obtain⟨f0,f1,f2,f3,f4,f5⟩:=hf it (by simp);exact rY (I.ok.hd hc) st (by omega) ho fV λh' eb=>⟨rfl,I.turned (λb o hb e=>eb b o hb e) f0 f1 f3 f4 f5⟩
 self:=λ_ _ _ _ _ st h=>wpAny_pyIter_keyiter st h
def tupK(k:List Key):D:= .tup (k.map D2)
def wO:Key->Bool
 | .inl _=>true
 | .inr x=>decide (x.length<=lim)
def ij:D->M (List D)
 | .dct ks _=>if ks.all (λk=>decide (k.length<=lim)&&k.all wO) then aa (ks.map tupK) else af
 | .dci ks _=>if ks.all wO then aa (ks.map D2) else af
 |_=>af
def wk{K:UJ}(h:wO k=true):Den K F (D2 k) (kV k):=by
 cases k with
 |inl i=>exact rfl
 |inr x=>exact⟨rfl,abC h⟩
def sk{K:UJ}:∀{k:List Key},k.all wO=true->DenL K F (k.map D2) (k.map kV)
 |[],_=>rfl
 |x::k,h=>by
  rw[XR,UY] at h;exact .cons (wk h.1) (sk h.2)
def DY{K:UJ}(hd:Den K F d (.ref a))(hF:∃u,F a=some (.frz ob u))(e:ij d=aa ds):ItD K F (Q2 a ob) ds:=λF' H' i s1 s2=>by
 unfold ij at e;split at e
 ·rename_i ks es;split at e
  ·rename_i hok;obtain rfl:=b8 e;obtain⟨a',TV,vs,z,h2,h3,h4,h5⟩:=hd;cases z;obtain⟨u,hu⟩:=hF;rw[h2] at hu;cases hu;have hh:=s2 _ _ (s1 _ _ h2);have hz:=ie (b:=vs) (by rw[h4];exact h3.len);have hl:(ks.zip vs).length=ks.length:=by rw[<-Ur,hz]
   refine⟨λd e=>?_,λhle=> .inl ⟨_,hh,by rw[hl];simpa using hle⟩⟩;rw[UG] at e;cases q:ks[i]? with
   |none=>rw[q] at e;cases e
   |some k=>
    rw[q] at e;cases e;have hi:=(UA.mp q).1;refine⟨.inl ⟨_,hh,by rw[hl];exact hi⟩,λx H'' ⟨y1,y2⟩=>?_⟩;subst y1;have hk:=UT.mp hok k (UZ q);rw[UY] at hk;rcases y2 with⟨kvs,k',b,q1,q2,rfl,q3⟩ | ⟨kvs,k',q1,q2,rfl⟩
    ·rw[hh] at q1;cases q1;rw[hz,q] at q2;cases q2;have E:=Ext.tup s2 q3;exact⟨_,E,b,_,rfl,az,sk hk.2,by rw[Ur];exact abC hk.1⟩
    ·rw[hh] at q1;cases q1
  ·exact(cV e).elim
 ·rename_i ks es;split at e
  ·rename_i hok;obtain rfl:=b8 e;obtain⟨a',TV,vs,z,h2,h3,h4,h5⟩:=hd;cases z;obtain⟨u,hu⟩:=hF;rw[h2] at hu;cases hu;have hh:=s2 _ _ (s1 _ _ h2);have hz:=ie (b:=vs) (by rw[h4];exact h3.len);have hl:(ks.zip vs).length=ks.length:=by rw[<-Ur,hz]
   refine⟨λd e=>?_,λhle=> .inr ⟨_,hh,by rw[hl];simpa using hle⟩⟩;rw[UG] at e;cases q:ks[i]? with
   |none=>rw[q] at e;cases e
   |some k=>
    rw[q] at e;cases e;have hi:=(UA.mp q).1;refine⟨.inr ⟨_,hh,by rw[hl];exact hi⟩,λx H'' ⟨y1,y2⟩=>?_⟩;subst y1;have hk:=UT.mp hok k (UZ q);rcases y2 with⟨kvs,k',b,q1,q2,rfl,q3⟩ | ⟨kvs,k',q1,q2,rfl⟩
    ·rw[hh] at q1;cases q1
    ·rw[hh] at q1;cases q1;rw[hz,q] at q2;cases q2;exact⟨F',Ext.refl s2,wk hk⟩
  ·exact(cV e).elim
 ·exact(cV e).elim
section
variable{X:Cx}{Xw:Nat->Hp->Prop}{tg l:Expr}{δ:DE}
def xg(h:PD X Xw l δ):vi X Xw tg l (λρ=>δ ρ>>=ij):=by
 intro f8 s σ H R I ⟨F,ρ,S,w⟩;refine bx (h f8 s σ H (λv H1=>∃F1 d,Ext F H F1 H1/\Den X.K F1 d v/\WPI X.K Xw F1 H1 (ij d) R) I ⟨F,ρ,S,WPI.bind w⟩) λu s1 ⟨v,H1,I1,r1,F1,d,e1,q1,w1⟩=>?_;rcases(ij d).cs with z | ⟨n,z⟩ | ⟨ds,z⟩
 ·rw[z] at w1;exact w1.elim
 ·exfalso
  unfold ij at z;split at z
  ·split at z<;>cases z
  ·split at z<;>cases z
  ·cases z
 ·rw[z] at w1;obtain⟨a,ob,u',rfl,hF,hn⟩:∃a ob u',v= .ref a/\F1 a=some (.frz ob u')/\∃n,((∃kvs,H1 a=some (.frz ob (.dT kvs))/\n=kvs.length)\/∃kvs,H1 a=some (.frz ob (.dK kvs))/\n=kvs.length):=by
   unfold ij at z;split at z
   ·obtain⟨a,ob,vs,e,h2,_⟩:=q1;exact⟨a,ob,_,e,h2,_, .inl ⟨_,e1.fh _ _ h2,rfl⟩⟩
   ·obtain⟨a,ob,vs,e,h2,_⟩:=q1;exact⟨a,ob,_,e,h2,_, .inr ⟨_,e1.fh _ _ h2,rfl⟩⟩
   ·exact(cV z).elim
  obtain⟨n,hn⟩:=hn;cases (show u=_ from r1);obtain⟨es,ep,lo,ho,hx,hd,hsz,hk⟩:=o_ I1 hn;refine sj lo ho hx hd ?_;refine⟨s1.heap.objs.size,[s1.heap.objs.size],_,_,H1,rfl,I1.kept (t':=s1.toks) λb o e=>Ut _ e,CA a _ ob es ep hd,⟨_,UO _ rfl,rfl,rfl⟩,λb hb=>?_,w1 _ _ _ (Ext.refl e1.fh) (DY q1 ⟨_,hF⟩ z)⟩;have e:b=s1.heap.objs.size:=by simpa using hb
  subst e;exact I1.fpOk (UB _) (I1.hok.fresh (UB _))
end
end L3
namespace L3
open PySem
section
variable{prog:Vf}{w:World}{K:Type}[DecidableEq K]{knd:HeapKind prog w K}{A:Vw}{E:Value->Ux->Prop}{s:Ux}
def qD(hu:knd.room A)(yD:knd.is s.heap k a)(hm:s.heap.DictOfH knd d xs)(hsz:xs.length<=UR)
 (hQ:∀h',h'.DictOfH knd d (YF xs k a v)->V2 d s.heap h'->Q () {s with heap:=h'}):wpAny (model prog w) A (ZD d (.ref a) (knd.hash k) v) Q E s:=by
 obtain⟨o,es,ep,ho,hc,hd,he,PX,hn⟩:=hm;unfold ZD;refine VT (Uq (wpAny_dictFind_heap hu yD ho hd he PX hn (λtK=>?_) λj p hj=>?_))
 ·have e0:=atKey_none_of_get tK;have hz:es.size<=UR:=by rw[aat he];exact hsz
  refine Uq (aaU (wpAny_updateDictKeys ho hd (hQ _ ?_ (Vg ..))));rw[storedH_new e0];refine⟨_,_,ep+1,Wf _ ho (Y1 (XQ hd _)),hc.mapDictKeys _,XQ hd _,by simp[he,ZV],λx hx=>?_,?_⟩
  ·rcases Vd.mp hx with hx | hx
   ·exact knd.keeps (PX x hx) ho hd (Vg ..)
   ·obtain rfl:x=(k,a,v):=by simpa using hx
    exact knd.keeps yD ho hd (Vg ..)
  ·rw[Vl];refine VA.mpr ⟨hn,by simp,λx hx y hy z=>?_⟩;have hy:y=k:=by simpa using hy
   exact not_mem_keys_of_get tK (by rw[<-hy,<-z];exact hx)
 ·have e0:=atKey_of_get hn hj;refine Uq (aaU (Uq (wpAny_updateDict ho hd (wpAny_point (hQ _ ?_ (Vg ..))))));rw[storedH_old e0];refine⟨_,_,ep,Wf _ ho (Y1 (Obj.data_mapDict hd _)),hc.mapDict _,Obj.data_mapDict hd _,?_,λx hx=>?_,by rw[keys_map_putAt];exact hn⟩
  ·have:=modify_map_putAt (ZV knd) (λe:V9=>{e with val:=v}) k v (λ_ _=>rfl) hn hj;rw[<-he] at this;obtain⟨l⟩:=es;simpa using this
  ·obtain⟨y,hy,rfl⟩:=UC.mp hx;unfold putAt;split<;>exact knd.keeps (PX y hy) ho hd (Vg ..)
def cM(xs ys:List (K×Addr×Value)):List (K×Addr×Value):=ys.foldl (λT0 y=>YF T0 y.1 y.2.1 y.2.2) xs
def xP(xs:List (K×Addr×Value))(k:K)(a:Addr)(v:Value):(YF xs k a v).length<=xs.length+1:=by
 unfold YF;split<;>simp
def m6:∀(ys xs:List (K×Addr×Value)),(cM xs ys).length<=xs.length+ys.length
 |[],xs=>UB _
 |y::ys,xs=>by
  have h1:=m6 ys (YF xs y.1 y.2.1 y.2.2);have h2:=xP xs y.1 y.2.1 y.2.2;show (cM (YF xs y.1 y.2.1 y.2.2) ys).length<=_;rw[UI];omega
def t_{xs ys:List (K×Addr×Value)}(h:ys[i]? =some y):cM xs (ys.take (i+1))=YF (cM xs (ys.take i)) y.1 y.2.1 y.2.2:=by
 rw[abv,h];unfold cM;rw[List.foldl_append];rfl
def m7:∀(ys T0:List (K×Addr×Value)),((T0++ys).map (·.1)).Nodup->cM T0 ys=T0++ys
 |[],T0,_=>by simp[cM]
 |y::ys,T0,hn=>by
  show cM (YF T0 y.1 y.2.1 y.2.2) ys=_;have P4:y.1∉T0.map (·.1):=λh=>by
   rw[Vl] at hn;exact(VA.mp hn).2.2 _ h _ (by simp) rfl
  have e0:atKey T0 y.1=none:=atKey_none_of_get λj p hj=>P4 (UC.mpr ⟨_,UZ hj,rfl⟩);rw[storedH_new e0,m7 ys (T0++[(y.1,y.2.1,y.2.2)]) (by simpa using hn)];simp
def tF{id:String}(ho:s.heap.get? o=some ob)(hd:ob.data= .dict es ep)
 (hq:∀e∈es.toList,∃a,e.key= .ref a/\s.TypeIs (.ref a) "tuple")(hh:∀e∈es.toList,(es.filter (·.hash==e.hash)).size<=1)(h:Q es s):wpAny (model prog w) A (YN id o) Q E s:=by
 unfold YN;refine Uq (VH ho hd ?_);rw[<-Array.forIn_toList];refine Uq (aab _ (λrest _ s'=>s'=s/\∀e∈rest,e∈es.toList) _ ?_ ?_ _ _ ⟨rfl,λ_ h=>h⟩)
 ·rintro e rest b s' ⟨rfl,hr⟩;obtain⟨a,ea,ta⟩:=hq e (hr e (Uv ..));have hf:=hh e (hr e (Uv ..));have cI:¬((es.filter (·.hash==e.hash)).size>1):=by omega
  rw[ea];unfold Builtin.Dict.quietEq;refine Uq (Uq (aar ta F.slot_tuple_eq.lookup (Uw ?_)));simp only[cI,if_false];have:(some (Value.builtin "tuple.__eq__")==some (Value.builtin "object.__eq__"))=false:=by decide
  simp only[this,Z_,if_true];exact Uw ⟨rfl,λx hx=>hr x (Uu _ hx)⟩
 ·rintro b s' ⟨rfl,_⟩;exact Uw h
def pR(hu:knd.room A)(Rz:d≠o)(Td:(o==V4)=false)(hd:s.heap.DictOfH knd d xs)(ho:s.heap.DictOfH knd o ys)
 (S3:∀{h:Heap}{k:K}{a:Addr},knd.is h k a->∃ob,h.get? a=some ob/\ob.cls= .type "tuple")(hh:xs=[]->(ys.map λy=>knd.hash y.1).Nodup)(hsz:xs.length+ys.length<=UR)
 (hQ:∀h',h'.DictOfH knd d (cM xs ys)->V2 d s.heap h'->Q () {s with heap:=h'}):wpAny (model prog w) A (Zt nm d o) Q E s:=by
 obtain⟨od,So,Sm,kR,yb,fV,SN,Uk,JX⟩:=id hd;obtain⟨oo,yu,Sn,MN,Rv,Bz,CI,PV,tK⟩:=id ho;have P3:=aat CI;unfold Zt;rw[abA (by simpa using Rz)];unfold WL;rw[abA (by rw[Td];exact UU)];refine Uq (Uw (Uq (VH MN Bz ?_)));have loop:∀(body:Nat->PUnit->Sem (ForInStep PUnit)),body=(λi (_:PUnit)=>(do
       let l'<-dictEntries o
       match l'[i]? with
        |some e=>do
         holding [e.key,e.val] (ZD d e.key e.hash e.val)
         let Ge<-dictEpoch o
         if (Ge !=Sn)=true then do (unsupported (toString nm++toString ":source-changed-during-callback"):Sem PUnit);pure (VR Xs) else pure (VR Xs)
        |_=>do
         (unsupported "internal:dict-merge":Sem PUnit)
         pure (VR Xs):Sem (ForInStep PUnit)))->wpAny (model prog w) A (forIn [:yu.size] Xs body) (λ_ s'=>Q () s') E s:=by
  rintro _ rfl;rw[Std.Legacy.Range.forIn_eq_forIn_range'];simp only[Std.Legacy.Range.size,Zv,Nat.add_sub_cancel,Nat.div_one];refine aab _ (λrest _ s'=>∃h' i,s'={s with heap:=h'}/\rest=VJ i (yu.size - i)/\i<=yu.size/\h'.DictOfH knd d (cM xs (ys.take i))/\h'.get? o=some oo/\V2 d s.heap h') _ ?_ ?_ _ _
   ⟨s.heap,0,rfl,by simp,U3 _,by simpa[cM] using hd,MN,YC _ _⟩
  ·rintro x rest b s' ⟨h',i,rfl,hr,hi,vj,J2,yH⟩;have cI:i<yu.size:=by
    by_cases h:i<yu.size
    ·exact h
    ·rw[show yu.size - i=0 by omega] at hr;simp at hr
   rw[show yu.size - i=(yu.size - (i+1))+1 by omega,Yp] at hr;injection hr with h1 h2
   subst h1;refine Uq (VH J2 Bz ?_);obtain⟨y,hy⟩:∃y,ys[x]? =some y:=⟨_,Us (by omega)⟩
   rw[entry_at CI x,hy];have Ta:(cM xs (ys.take x)).length<=UR:=by
    have e1:=m6 (ys.take x) xs;rw[Xa] at e1;omega
   have S5:knd.is h' y.1 y.2.1:=knd.keeps (PV y (UZ hy)) kR fV yH;refine Uq (VT (qD hu S5 vj Ta λLH Py MS=>?_));have ID:LH.get? o=some oo:=(MS.2 o (Vv Rz)).trans J2;refine Uq (Wu ID Bz ?_);rw[abA (by simp)];exact Uw ⟨LH,x+1,rfl,h2,cI,by rw[t_ hy];exact Py,ID,yH.trans MS⟩
  ·rintro b s' ⟨h',i,rfl,hr,hi,vj,J2,yH⟩;have mf:i=yu.size:=by
    by_cases h:i<yu.size
    ·rw[show yu.size - i=(yu.size - (i+1))+1 by omega,Yp] at hr;exact nomatch hr
    ·omega
   refine hQ h' ?_ yH;rw[mf,P3,Zw] at vj;exact vj
 have go:wpAny (model prog w) A (do
  let L8<-dictEpoch o
  let l<-dictEntries o
  forIn [:l.size] Xs λi (_:PUnit)=>(do
   let l'<-dictEntries o
   match l'[i]? with
    |some e=>do
     holding [e.key,e.val] (ZD d e.key e.hash e.val)
     let Ge<-dictEpoch o
     if (Ge !=L8)=true then do (unsupported (toString nm++toString ":source-changed-during-callback"):Sem PUnit);pure (VR Xs) else pure (VR Xs)
    |_=>do
     (unsupported "internal:dict-merge":Sem PUnit)
     pure (VR Xs):Sem (ForInStep PUnit))
  pure ()) Q E s:=by
  refine Uq (Wu MN Bz (Uq (VH MN Bz (Uq ?_))));exact VN (loop _ rfl) (λ_ _ h=>Uw h) λ_ _ h=>h
 dsimp only
 split
 ·refine Uq (VH kR fV ?_);split
  ·rename_i PB;have M3:xs=[]:=by
    have h0:So= #[]:=abm.mp PB;have:=aat SN;rw[h0] at this;exact Yn.mp (by simpa using this.symm)
   subst M3;have Tb:=hh rfl;refine Uq (tF MN Bz (λe he=>?_) (λe he=>?_) ?_)
   ·rw[CI] at he;obtain⟨y,hy,rfl⟩:=UC.mp he;obtain⟨ob,h1,h2⟩:=S3 (PV y hy);exact⟨y.2.1,rfl,ob,h1,h2⟩
   ·have:(yu.filter (·.hash==e.hash)).size=((ys.map λy=>knd.hash y.1).filter (· ==e.hash)).length:=by
     rw[<-UL,Array.toList_filter,CI,List.filter_map,List.filter_map,Ur,Ur];rfl
    rw[this];have hc:=List.nodup_iff_count.mp Tb e.hash;rw[List.count_eq_countP,List.countP_eq_length_filter] at hc;exact hc
   ·have hm:cM ([]:List (K×Addr×Value)) ys=ys:=by
     rw[m7 ys [] (by simpa using tK)];rfl
    rw[hm] at hQ;split
    ·have Tt:yu.size<=UR+1:=by simp at hsz;omega
     refine Uq (wpAny_updateDictKeysTo kR fV (Uw (hQ _ ⟨_,_,Sm+1,Wf _ kR (Y1 (XQ fV _)),yb.mapDictKeys _,XQ fV _,CI,λx hx=>?_,tK⟩ (Vg ..))) Tt);exact knd.keeps (PV x hx) kR fV (Vg ..)
    ·rename_i fI;have h0:yu= #[]:=abm.mp (by simpa using fI);have S8:ys=[]:=Yn.mp (by rw[<-P3,h0];rfl);subst S8;exact Uw (hQ _ hd (YC _ _))
  ·exact go
 ·exact go
end
end L3
namespace L3
open PySem PySem.Spec L2
open PyProof.Rows hiding St
def Ib(h1:(WM (aM P w)).is h k a):∃ob,h.get? a=some ob/\ob.cls= .type "tuple":=by
 obtain⟨ob,aD,n,q1,q2,_⟩:=h1;exact⟨ob,q1,q2⟩
def iO(kvs more:List (List Key×V)):List (List Key×V):=more.foldl (λT0 kv=>putK T0 kv.1 kv.2) kvs
def Av:∀{more:List (List Key×V)}{ys:List (List Key×Addr×Value)},KT H more ys->∀{kvs:List (List Key×V)}{xs:List (List Key×Addr×Value)},KT H kvs xs->KT H (iO kvs more) (cM xs ys)
 |_,_, .nil,_,_,q=>q
 |_,_, .cons h t,kvs,xs,r=>by
  refine Av t ?_;have:=KT.put r _ h.2.1 h.2.2;rw[h.1] at this;show KT H (putK kvs _ _) (YF xs _ _ _);rw[h.1];exact this
def pL:∀(more kvs:List (List Key×V)),(iO kvs more).length<=kvs.length+more.length
 |[],kvs=>UB _
 |p::r,kvs=>by
  have h1:=pL r (putK kvs p.1 p.2);have h2:=dH kvs p.1 p.2;show (iO (putK kvs p.1 p.2) r).length<=_;rw[UI];omega
def fU(k:List Int):Int:=reduceHash (Y2 (k.map hashInt))
def Dz(k:List Int):(WM (aM P w)).hash (ip k)=fU k:=by
 show reduceHash (Y2 ((ip k).map (Nb w)))=_;unfold fU ip;rw[U0];rfl
section
variable{X:Cx}{f8:List (Addr×Obj)}{σ:St}{H:Hp}{s:Ux}{a b:Addr}{A:Vw}{E:Value->Ux->Prop}
def C9{ks:List (List Int)}(hu:A.units+2<cLine)(I:Inv X f8 σ H s)(ha:H a=some (.dT kvs))(hb:Rd H b (.dT more))(Ow:a≠b)(hk:more.map (·.1)=ks.map ip)
 (hh:kvs=[]->(ks.map fU).Nodup)(hz:kvs.length+more.length<=UR)(h:∀s',Inv X f8 σ (upd H a (.dT (iO kvs more))) s'->Q .none s'):
 wpAny (model X.prog X.w) A (call (.builtin "dict.update") [.ref a, .ref b]) Q E s:=by
 obtain⟨z1,lo1,xs,NY,Ra⟩:=Dh I.hok ha;obtain⟨z2,TN,ys,Ci,rX⟩:=kG I.hok hb;have l1:=Wt NY;have l2:=Wt Ci;have hT:=Ra.typeIs;refine Vq ZN hT PySem.F.entry_dict_update ?_ (PySem.F.args_dict_update_2 _ _);unfold XW.«dict.update»;refine Uq ?_;unfold Builtin.Dict.selfAndRest;refine Uq (YT hT ?_);show wpAny _ _ (pure (a,[UX b])) _ _ s;refine Uw ?_;show wpAny _ _ (Zo "dict.update" a (.ref b) [] .none) _ _ s;unfold Zo;refine Uq (Yh rX.typeIs ?_);rw[abA (by decide)];refine Uq ?_;unfold Builtin.Dict.merge;refine Uq ?_;unfold Builtin.Dict.readDirectly;refine Uq (aaa rX.typeIs isSubtype_dict_dict ?_);simp only[Bool.not_true,Vj,if_false];refine Uq (aar rX.typeIs PySem.F.slot_dict_iter.lookup (Uw ?_));simp only[beq_self_eq_true,if_true];refine Uq (Uw ?_);refine pR (show A.in1.units<cLine by show A.units+1<cLine;omega) Ow TN Ra rX Ib (λe0=>?_) (by omega) λh' zU yH=>?_
 ·have e1:kvs=[]:=Yn.mp (by rw[l1,e0];rfl);have:=hh e1;have e2:(ys.map λy=>(WM (aM X.prog X.w)).hash y.1)=ks.map fU:=by
   have e3:more.map (·.1)=ys.map (·.1):=nH (λ_ _ r=>r.1) Ci;rw[show (λy:List Key×Addr×Value=>(WM (aM X.prog X.w)).hash y.1)=(WM (aM X.prog X.w)).hash∘(·.1) from rfl,<-U0,<-e3,hk,U0];exact Vp λk _=>Dz k
  rw[e2];exact this
 ·show wpAny _ _ (Builtin.Dict.addKeywords a []>>=_) _ _ _;refine Uq (Uw (Uw ⟨.none,rfl,h _ ?_⟩));obtain⟨q,es,ep,hq,h2,h3,h4,_,h5⟩:=zU;have hl:(iO kvs more).length<=UR:=by have:=pL more kvs;omega
  refine ju I (by rw[ha];exact WD) yH ⟨q,hq⟩ ⟨hl,lo1,_,(Av Ci NY).keeps λc ys ec=>?_,q,es,ep,hq,h2,h3,h4,h5⟩;rw[ao (Ec ec ha (λz=>nomatch z))];exact ec
end
def cB(ks:List (List Key))(ds:List D):List (List Key)->List D->List (List Key)×List D
 |k::ks',d::ds'=>cB (cN ks ds k) (bZ ks ds k d) ks' ds'
 |_,_=>(ks,ds)
def FD(ks:List (List Key))(ds:List D):D->Option C
 | .dct ks' ds'=>match d_ ks' with
   |some ns=>if ds.length+ds'.length<=lim/\(ks.isEmpty=true->(ns.map fU).Nodup) then some (.dct (cB ks ds ks' ds').1 (cB ks ds ks' ds').2) else none
   |none=>none
 |_=>none
def pP{K:UJ}:∀{ks':List (List Key)}{ds':List D}{gO:List V}{ks:List (List Key)}{ds:List D}{vs:List V},DenL K F ds' gO->ks'.length=ds'.length->DenL K F ds vs->ks.length=ds.length->
 ∃ws,iO (ks.zip vs) (ks'.zip gO)=(cB ks ds ks' ds').1.zip ws/\DenL K F (cB ks ds ks' ds').2 ws/\(cB ks ds ks' ds').1.length=(cB ks ds ks' ds').2.length
 |[],[],gO,ks,ds,vs,h',_,h,hl=>⟨vs,rfl,h,hl⟩
 |k::ks',d::ds',gO,ks,ds,vs,⟨v,r,e,h1,h2⟩,FN,h,hl=>by
  subst e;obtain⟨ws,e1,e2,e3⟩:=uG h1 k h hl;obtain⟨us,q1,q2,q3⟩:=pP h2 (by simpa using FN) e2 e3;refine⟨us,?_,q2,q3⟩;show iO (putK (ks.zip vs) k v) (ks'.zip r)=_;rw[e1];exact q1
 |[],_::_,_,_,_,_,_,FN,_,_=>by simp at FN
 |_::_,[],_,_,_,_,_,FN,_,_=>by simp at FN
def EZ[DecidableEq κ]{k:κ}(hl:ks.length=ds.length):(bZ ks ds k d).length<=ds.length+1:=by
 unfold bZ;split
 ·rw[i9 ks ds k d hl];omega
 ·simp
def E0[DecidableEq κ]{k:κ}(hl:ks.length=ds.length):(cN ks ds k).length=(bZ ks ds k d).length:=by
 unfold bZ cN;split
 ·rw[i9 ks ds k d hl];exact hl
 ·simp[hl]
def pQ:∀{ks':List (List Key)}{ds':List D}{ks:List (List Key)}{ds:List D},ks.length=ds.length->(cB ks ds ks' ds').2.length<=ds.length+ds'.length
 |[],ds',ks,ds,_=>by show ds.length<=_;omega
 |_::_,[],ks,ds,_=>by show ds.length<=_;simp
 |k::ks',d::ds',ks,ds,hl=>by
  have h1:=pQ (ks':=ks') (ds':=ds') (ks:=cN ks ds k) (ds:=bZ ks ds k d) (E0 hl);have h2:=EZ (k:=k) (d:=d) hl;show (cB (cN ks ds k) (bZ ks ds k d) ks' ds').2.length<=_;rw[UI];omega
section
variable{X:Cx}{Xw:Nat->Hp->Prop}{o e:Expr}{δ:DE}{pos p apos aL:Pos}{x:Str}{i:Nat}
def E8(i:Nat)(δ:DE):DS:=λρ=>match rl ρ i with
 |some (.dct ks ds)=>δ ρ>>=λd=>match FD ks ds d with
  |some c'=>aa (.nx (ρ.set i (some (.ow c'))))
  |none=>af
 |_=>af
def K2(hu:X.A.units+2<cLine)(ho:PE X o td)(he:PE X e ty)(m:M1 X o "update" apos e aL):
 PE X (.Call (.Attribute o "update" apos) [e] [] aL) (λσ H Q=>td σ H λx H1=>∃a,x= .ref a/\LA H1 a/\ty σ H1 λy H2=>∃(b:Addr) (kvs more:List (List Key×V)) (ks:List (List Int)),y= .ref b/\H2 a=some (.dT kvs)/\Rd H2 b (.dT more)/\a≠b/\more.map (·.1)=ks.map ip/\(kvs=[]->(ks.map fU).Nodup)/\kvs.length+more.length<=UR/\Q .non (upd H2 a (.dT (iO kvs more)))):=by
 intro f8 s σ H Q I h;refine Yv m.base m.few m.line Wi ZN (by rfl) (bx (ho f8 s σ H _ I h) λu s1 ⟨x,H1,I1,rx,a,ex,d,q1⟩=>?_);subst ex;obtain rfl:u=UX a:=rx;obtain⟨t1,t2,_⟩:=tQ I1 d;refine⟨t1,t2,?_⟩;rw[m.trees];refine Wo rfl (W4 (V5 (bx (he f8 s1 σ H1 _ I1 q1) λiv s2 ⟨y,H2,I2,ry,b,kvs,more,ks,ey,k1,k2,k3,k4,k5,k6,q2⟩=>WB ?_)));subst ey;obtain rfl:iv=UX b:=ry;exact C9 hu I2 k1 k2 k3 k4 k5 k6 λs3 I3=>⟨.non,_,I3,rfl,q2⟩
def HF(hu:X.A.units+64<cLine)(hv:PE X (.Name x p) (ky i))(he:PD X Xw e δ)(m:M1 X (.Name x p) "update" apos e aL)(hs:X6 (.Call (.Attribute (.Name x p) "update" apos) [e] [] aL) none pos.line X.env=pure false:=by rfl):
 gj X Xw (.Expr (.Call (.Attribute (.Name x p) "update" apos) [e] [] aL) pos) (E8 i δ):=λt0 abJ=>PS.weak (oF (K2 (by omega) hv he m) hs) λD σ H ⟨F,ρ,s,w⟩=>by
 unfold E8 at w;split at w
 ·rename_i ks ds J0;have hi:=mx J0;obtain⟨v,LO,a,oh,rfl,hH,hF,vs,rfl,hd,hl,hz⟩:=s.st.den i _ hi;refine⟨.ref a,LO,a,rfl, .inr ⟨_, .inl hH⟩,F,ρ,s.st,?_⟩;rcases(δ ρ).cs with q | ⟨n,q⟩ | ⟨d,q⟩
  ·rw[q] at w;exact w.elim
  ·rw[q] at w⊢;exact λF' H' e'=>w F' H' (s.ext.trans e')
  ·rw[q] at w⊢;intro u H1 F1 e1 hq;have w:WPS X.K Xw t0 abJ (match FD ks ds d with | some c'=>aa (.nx (ρ.set i (some (.ow c')))) | none=>af) D:=w;cases d with
   |dct ks' ds'=>
    obtain⟨b,ob,gO,rfl,k2,k3,k4,k5⟩:=hq;cases hc:FD ks ds (.dct ks' ds') with
    |none=>rw[hc] at w;exact w.elim
    |some c'=>
     rw[hc] at w;have hc:(match d_ ks' with | some ns=>if ds.length+ds'.length<=lim/\(ks.isEmpty=true->(ns.map fU).Nodup) then some (C.dct (cB ks ds ks' ds').1 (cB ks ds ks' ds').2) else none | none=>none)=some c':=hc;cases hn:d_ ks' with
     |none=>rw[hn] at hc;cases hc
     |some ns=>
      rw[hn] at hc;have hc:(if ds.length+ds'.length<=lim/\(ks.isEmpty=true->(ns.map fU).Nodup) then some (C.dct (cB ks ds ks' ds').1 (cB ks ds ks' ds').2) else none)=some c':=hc;split at hc
      ·rename_i Mw;cases hc;have Rx:=DenL.mono e1.ff hd;have l1:=Rx.len;have l2:=k3.len;have Ow:a≠b:=λz=>by
        have:=e1.old hH (λ_ z=>nomatch z);rw[hF,z,k2] at this;cases this
       obtain⟨ws,m1,m2,m3⟩:=pP k3 k4 Rx hl;refine⟨b,ks.zip vs,ks'.zip gO,ns,rfl,e1.hh _ _ hH, .inr ⟨ob,e1.fh _ _ k2⟩,Ow,by rw[ie (by rw[k4];exact l2),jz hn],λz=>Mw.2 ?_,?_,?_⟩
       ·have:=ie (a:=ks) (b:=vs) (by rw[hl];exact l1);rw[z] at this;rw[<-this];rfl
       ·rw[WE,WE];have:=cR;omega
       ·rw[m1];exact w σ F1 _ ((s.ext' e1).chg hi LO ⟨ws,rfl,m2,m3,by have:=pQ (ks':=ks') (ds':=ds') hl;omega⟩)
      ·cases hc
   |_=>exact w.elim
 ·exact w.elim
end
section
variable{X:Cx}{Xw:Nat->Hp->Prop}{o e f:Expr}{δo δe δf:DE}{δs:DA}{pos p apos aL:Pos}{x:Str}
def DV:D->Bool
 | .dct _ _=>true
 | .dci _ _=>true
 |_=>false
def Ao{K:UJ}{F H:Hp}{d:D}{x:V}(s:Same F H)(hd:Den K F d x)(e:DV d=true):∃a,x= .ref a/\LA H a:=by
 cases d with
 |dct ks ds=>obtain⟨a,ob,vs,rfl,h2,_⟩:=hd;exact⟨a,rfl, .inr ⟨_, .inr ⟨ob,s _ _ h2⟩⟩⟩
 |dci ks ds=>obtain⟨a,ob,vs,rfl,h2,_⟩:=hd;exact⟨a,rfl, .inl ⟨_, .inr ⟨ob,s _ _ h2⟩⟩⟩
 |_=>cases e
def getM(d k v:D):M D:=match Bc d k with
 |some (some x)=>aa x
 |some none=>aa v
 |none=>af
def L1(δo δe:DE):DE:=λρ=>δo ρ>>=λd=>if DV d then δe ρ>>=λk=>getM d k .non else af
def zS(δo δe δf:DE):DE:=λρ=>δo ρ>>=λd=>if DV d then δe ρ>>=λk=>δf ρ>>=λv=>getM d k v else af
def v5{F H:Hp}{d k v:D}{a:Addr}{y z:V}{Q:VK}(s:Same F H)(q1:Den X.K F d (.ref a))(q2:Den X.K F k y)(q3:Den X.K F v z)(w:WP X.K Xw F H (getM d k v) Q):∃ov,jY H a y ov/\Q (ov.getD z) H:=by
 unfold getM at w;cases l6:Bc d k with
 |none=>rw[l6] at w;exact w.elim
 |some o'=>
  rw[l6] at w;obtain⟨a',ov,zz,h2,h3,h4⟩:=tf s q1 q2 l6;cases zz;refine⟨ov,h2,?_⟩;cases o' with
  |none=>
   cases ov with
   |none=>exact WP.now w s q3
   |some _=>cases h3
  |some d'=>
   obtain⟨v,rfl,hv⟩:=h4 d' rfl;exact WP.now w s hv
def OO(hu:X.A.units+64<cLine)(ho:PD X Xw o δo)(he:PD X Xw e δe)(m:M1 X o "get" apos e aL):PD X Xw (.Call (.Attribute o "get" apos) [e] [] aL) (L1 δo δe):=
 PE.weak (EG (by omega) ho he m) λσ H Q ⟨F,ρ,s,w⟩=>by
  refine⟨F,ρ,s,WP.mono (WP.bind w) λx H1 ⟨F1,d,e1,q1,w1⟩=>?_⟩;split at w1
  ·rename_i hd;obtain⟨a,rfl,Qt⟩:=Ao e1.fh q1 hd;refine⟨a,rfl,Qt,F1,ρ,s.ext e1,WP.mono (WP.bind w1) λy H2 ⟨F2,k,e2,q2,w2⟩=>?_⟩;exact v5 (v:= .non) (z:= .non) e2.fh (Den.mono e2.ff q1) q2 (show V.non=V.non from rfl) w2
  ·exact w1.elim
def Hd(hu:X.A.units+64<cLine)(ho:PD X Xw o δo)(he:PD X Xw e δe)(hf:PD X Xw f δf)(m:M2 X o "get" apos e f aL):PD X Xw (.Call (.Attribute o "get" apos) [e,f] [] aL) (zS δo δe δf):=
 PE.weak (EH (by omega) ho he hf m) λσ H Q ⟨F,ρ,s,w⟩=>by
  refine⟨F,ρ,s,WP.mono (WP.bind w) λx H1 ⟨F1,d,e1,q1,w1⟩=>?_⟩;split at w1
  ·rename_i hd;obtain⟨a,rfl,Qt⟩:=Ao e1.fh q1 hd;refine⟨a,rfl,Qt,F1,ρ,s.ext e1,WP.mono (WP.bind w1) λy H2 ⟨F2,k,e2,q2,w2⟩=>?_⟩;refine⟨F2,ρ,(s.ext e1).ext e2,WP.mono (WP.bind w2) λz H3 ⟨F3,v,e3,q3,w3⟩=>?_⟩;exact v5 e3.fh (Den.mono e3.ff (Den.mono e2.ff q1)) (Den.mono e3.ff q2) q3 w3
  ·exact w1.elim
def kZ:List D->M D
 |[.dci ks _]=>aa (.int ks.length)
 |_=>af
def yn:CallR X (.builtin "len") (λxs H Q=>∃a kvs,xs=[.ref a]/\Rd H a (.dK kvs)/\Q (.int kvs.length) H):=by
 intro f8 s σ H xs us Q I r ⟨a,kvs,e,h,q⟩;subst e;obtain⟨u,rfl,ru⟩:=r.one;cases (show u=_ from ru);exact L6 I h λt s' I'=>⟨.int kvs.length,H,I',⟨_,rfl⟩,q⟩
def oD(hg:Gl X "len")(hm:X.mg "len"=none)(ha:kA X Xw [e] δs)(he:US [e] X.env=[(false,eval e X.env)]:=by rfl):PD X Xw (.Call (.Name "len" p) [e] [] pos) (dA kZ δs):=
 bR yn (λXw F H vs ds Q s h w=>by
  unfold kZ at w;split at w
  ·rename_i ks es;obtain⟨v,rfl,h1⟩:=h.one;obtain⟨a,ob,ws,rfl,h2,h3,h4,h5⟩:=h1;refine⟨a,_,rfl, .inr ⟨ob,s _ _ h2⟩,?_⟩;rw[va h3 h4,<-h4];exact WP.now w s rfl
  ·exact w.elim) hg hm PySem.boot_len ha (by decide) (by decide) he rfl
end
section
variable{a:Expr}
end
def tH:List Nat->Ii
 |[]=>Mh
 |i::is=>Iy (jL i) (tH is)
def zq:List Nat->List D->bC->bC
 |i::is,d::ds,ρ=>zq is ds (ρ.set i (some (.fz d)))
 |_,_,ρ=>ρ
def AW(is:List Nat):D->bC->Option bC
 | .tup ds,ρ=>if ds.length=is.length then some (zq is ds ρ) else none
 |_,_=>none
def sV{K:UJ}{t0 abJ F H:Hp}{Q:St->Hp->Prop}:∀(is:List Nat) (ds:List D) (vs:List V) (σ:St) (ρ:bC),ds.length=is.length->StOk K t0 abJ F H σ ρ->DenL K F ds vs->(∀σ',StOk K t0 abJ F H σ' (zq is ds ρ)->Q σ' H)->tH is vs σ H Q
 |[],[],vs,σ,ρ,_,s,h,k=>⟨h,k σ s⟩
 |i::is,d::ds,vs,σ,ρ,hl,s,⟨v,r,e,h1,h2⟩,k=>by
  subst e;exact⟨v,r,rfl,sV is ds r _ _ (by simpa using hl) (s.set h1) h2 k⟩
 |[],_::_,_,_,_,hl,_,_,_=>by simp at hl
 |_::_,[],_,_,_,hl,_,_,_=>by simp at hl
def HJ{K:UJ}{is:List Nat}:CO K (JE K is.length (tH is)) (AW is):=λt0 abJ F H σ ρ ρ' d v Q s q e k=>by
 unfold AW at e;split at e
 ·rename_i ds;split at e
  ·rename_i hl;cases e;obtain⟨a,vs,rfl,hs,hd,_⟩:=q;exact⟨a,vs,rfl,SqT.of (s.st.fh _ _ hs),by rw[<-hd.len];exact hl,sV is ds vs σ ρ hl s hd k⟩
  ·cases e
 ·cases e
def HR:∀{σ' σ:St},1<σ'.length->σ'.drop 2=σ->∀v1 v2:V,(σ'.set 0 (some v1)).set 1 (some v2)=[v1,v2].map some++σ
 |x1::x2::r,_,_,hd,v1,v2=>by subst hd;rfl
 |[],_,h,_,_,_=>by simp at h
 |[_],_,h,_,_,_=>by simp at h
def GQ:∀{ds:List D},ds.length=2->∃a b,ds=[a,b]
 |[a,b],_=>⟨a,b,rfl⟩
 |[],h=>by simp at h
 |[_],h=>by simp at h
 |_::_::_::_,h=>by simp at h
def Lu{X:Cx}{x y:Str}{px py pt:Pos}{x1:Nat}{σ:St}(hN:X.N.Nodup)(h0:X.N[0]? =some x)(h1:X.N[1]? =some y)(hx:X.env.scope.names.lookup x=some .local)(hy:X.env.scope.names.lookup y=some .local)(hc:X.calm=true)
 (hn:(WQ [ZS x px, .Name y py] X.env).length=2:=by rfl)(wa:(WQ [ZS x px, .Name y py] X.env).findIdx? (·.1)=none:=by rfl)
 (hs:(WQ [ZS x px, .Name y py] X.env).map (·.2)=assign (.Name x px) X.env::(WQ [ZS y py] X.env).map (·.2):=by rfl)(BD:(WQ [ZS y py] X.env).map (·.2)=assign (.Name y py) X.env::(WQ [] X.env).map (·.2):=by rfl):qT X (.Tuple [.Name x px, .Name y py] x1 pt) 2 σ:=λf8 s σ' F H d ts v u I fh hd rv q e=>by
 cases d with
 |tup ds=>
  have e:(if ds.length=2 then aa ds else af)=aa ts:=e;split at e
  ·rename_i hl;obtain rfl:=b8 e;obtain⟨d1,d2,rfl⟩:=GQ hl
   ·obtain⟨a,vs,rfl,yH,vj,_⟩:=q;obtain⟨v1,v2,rfl,q1,q2⟩:=vj.two;have G:PG X (.Tuple [.Name x px, .Name y py] x1 pt) (JE X.K 2 (tH [0,1])):=EL hc (lG (aQ hN h0 (.inl hx) (.inr hx)) (lG (aQ hN h1 (.inl hy) (.inr hy)) AN BD) hs) hn wa;refine bx (G f8 s σ' H (.ref a) u (λσ2 H2=>H2=H/\σ2=(σ'.set 0 (some v1)).set 1 (some v2)) I rv ⟨a,[v1,v2],rfl,SqT.of (fh _ _ yH),rfl,v1,[v2],rfl,v2,[],rfl,rfl,rfl,rfl⟩) λ_ s2 ⟨σ2,H2,I2,e1,e2⟩=>?_;subst e1 e2;refine⟨[v1,v2],?_, .cons q1 (.cons q2 .nil)⟩;have hl:1<σ'.length:=by rw[I.len];exact(UA.mp h1).1
    have:=HR hl (show σ'.drop 2=σ from hd) v1 v2;rw[<-this];exact I2
  ·exact(cV e).elim
 |_=>exact(cV e).elim
section
variable{prog:Vf}{w:World}
abbrev RT(prog:Vf)(w:World):HeapKind prog w (List Key):=WM (aM prog w)
def DictOfH.at'{h h':Heap}{xs:List (List Key×Addr×Value)}(x:h.DictOfH (RT prog w) d xs)(k:∀c o,h.get? c=some o->(c=d\/∃y∈xs,y.2.1=c)->h'.get? c=some o):h'.DictOfH (RT prog w) d xs:=by
 obtain⟨o,es,ep,h1,h2,h3,h4,h5,h6⟩:=x;refine⟨o,es,ep,k _ _ h1 (.inl rfl),h2,h3,h4,λy hy=>?_,h6⟩;obtain⟨oa,items,n,a1,a2⟩:=h5 y hy;exact⟨oa,items,n,k _ _ a1 (.inr ⟨y,hy,rfl⟩),a2⟩
end
mutual
def Iq:D->Bool
 | .non=>true
 | .bl _=>true
 | .int _=>true
 | .str _=>true
 | .tup ds=>vI ds
 | .lst ds=>vI ds
 | .raw _=>false
 | .exc _=>false
 | .scr _=>false
 | .dct _ _=>false
 | .dci _ _=>false
def vI:List D->Bool
 |[]=>true
 |d::ds=>Iq d&&vI ds
end
def w9(ρ:bC):Bool:=ρ.all λx=>match x with
 |some (.ow (.lst _))=>false
 |_=>true
def Eu{i:Nat}(h:w9 ρ=true)(e:ρ[i]? =some (some (.ow (.lst ds)))):False:=by
 have:=UT.mp h _ (UZ e);cases this
section
variable{K:UJ}{F H F' H':Hp}{σ:St}{ρ:bC}{h:Heap}{b:Addr}
def OwnAt.dict(S:StE K F H σ ρ)(hd:w9 ρ=true)(p:OwnAt σ ρ b):∃o,H b=some o/\((∃x,o= .dT x)\/∃x,o= .dK x):=by
 obtain⟨i,c,h1,h2⟩:=p;obtain⟨v,h3,a,o,rfl,h4,h5,h6⟩:=S.den i _ h1;rw[h3] at h2;cases h2;refine⟨o,h4,?_⟩;cases c with
 |lst ds=>exact(Eu hd h1).elim
 |dct ks ds=>obtain⟨vs,rfl,_⟩:=h6;exact .inl ⟨_,rfl⟩
 |dci ks ds=>obtain⟨vs,rfl,_⟩:=h6;exact .inr ⟨_,rfl⟩
open Classical in
def AD(S:StE K F H σ ρ)(hd:w9 ρ=true)(E:Ext (fA σ ρ (refA h (OwnAt σ ρ) H) F) (refA h (OwnAt σ ρ) H) F' H'){o:HO}(e:F' a=some o)(fI:∀q u,o≠ .frz q u):(if OwnAt σ ρ a then none else F' a)=some o:=by
 rw[abA,e];intro hp;obtain⟨o',k1,k2⟩:=OwnAt.dict S hd hp;have k3:fA σ ρ (refA h (OwnAt σ ρ) H) F a=some (nV ((h.get? a).getD {cls:= .none,data:= .fields #[]}) o'):=by
  unfold fA refA;rw[abz hp,abz hp,k1];rfl
 have k4:=E.ff a _ k3;rw[e] at k4;rcases k2 with⟨x,rfl⟩ | ⟨x,rfl⟩<;>cases k4<;>exact fI _ _ rfl
open Classical in
mutual
def C_(S:StE K F H σ ρ)(hd:w9 ρ=true)(E:Ext (fA σ ρ (refA h (OwnAt σ ρ) H) F) (refA h (OwnAt σ ρ) H) F' H'):∀{d:D}{v:V},Iq d=true->Den K F' d v->Den K (λb=>if OwnAt σ ρ b then none else F' b) d v
 | .non,_,_,q=>q
 | .bl _,_,_,q=>q
 | .int _,_,_,q=>q
 | .str _,_,_,q=>q
 | .tup ds,_,f,⟨a,vs,h1,h2,h3,h4⟩=>⟨a,vs,h1,AD S hd E h2 (λ_ _ z=>nomatch z),l_ S hd E f h3,h4⟩
 | .lst ds,_,f,⟨a,vs,h1,h2,h3,h4⟩=>⟨a,vs,h1,AD S hd E h2 (λ_ _ z=>nomatch z),l_ S hd E f h3,h4⟩
 | .raw _,_,f,_=>by cases f
 | .exc _,_,f,_=>by cases f
 | .scr _,_,f,_=>by cases f
 | .dct _ _,_,f,_=>by cases f
 | .dci _ _,_,f,_=>by cases f
def l_(S:StE K F H σ ρ)(hd:w9 ρ=true)(E:Ext (fA σ ρ (refA h (OwnAt σ ρ) H) F) (refA h (OwnAt σ ρ) H) F' H'):∀{ds:List D}{vs:List V},vI ds=true->DenL K F' ds vs->DenL K (λb=>if OwnAt σ ρ b then none else F' b) ds vs
 |[],_,_,q=>q
 |d::ds,_,f,⟨v,r,h1,h2,h3⟩=>by
  unfold vI at f;rw[UY] at f;exact⟨v,r,h1,C_ S hd E f.1 h2,l_ S hd E f.2 h3⟩
end
end
def L5(δ:DE):DE:=λρ=>noex (δ (yy ρ))>>=ph
def Jf(τ:DT):DT:=λρ=>noex (τ (yy ρ))
def yJ(x:Int):List Int->List Int
 |[]=>[x]
 |y::r=>if x<=y then x::y::r else y::yJ x r
def cg:List Int->List Int
 |[]=>[]
 |x::r=>yJ x (cg r)
def mh(x:Int):∀l,(yJ x l).Perm (x::l)
 |[]=>Zs _
 |y::r=>by
  unfold yJ;split
  ·exact Zs _
  ·exact((mh x r).cons y).trans (List.Perm.swap ..)
def bJ:∀l,(cg l).Perm l
 |[]=>Zs _
 |x::r=>(mh x (cg r)).trans ((bJ r).cons x)
def we{x:Int}:∀{l:List Int},l.Pairwise (· <= ·)->(yJ x l).Pairwise (· <= ·)
 |[],_=>by simp[yJ]
 |y::r,h=>by
  rw[U2] at h;unfold yJ;split
  ·rename_i hx;refine U2.mpr ⟨λz hz=>?_,U2.mpr h⟩;rcases UD.mp hz with rfl | hz
   ·exact hx
   ·exact aaT hx (h.1 z hz)
  ·rename_i hx;refine U2.mpr ⟨λz hz=>?_,we h.2⟩;rcases UD.mp ((mh x r).mem_iff.mp hz) with rfl | hz
   ·omega
   ·exact h.1 z hz
def fi:∀l,(cg l).Pairwise (· <= ·)
 |[]=>Yy
 |x::r=>we (fi r)
def lx:∀{a b:List Int},a.Perm b->a.Pairwise (· <= ·)->b.Pairwise (· <= ·)->a=b
 |[],b,h,_,_=>(List.nil_perm.mp h).symm
 |x::a,[],h,_,_=>abE (List.perm_nil.mp h) (by simp)
 |x::a,y::b,h,h1,h2=>by
  rw[U2] at h1 h2;have e:x=y:=by
   have m1:x∈y::b:=h.mem_iff.mp (Uv ..);have m2:y∈x::a:=h.mem_iff.mpr (Uv ..);rcases UD.mp m1 with z | z
   ·exact z
   ·rcases UD.mp m2 with z' | z'
    ·exact z'.symm
    ·have:=h1.1 y z';have:=h2.1 x z;omega
  subst e;rw[lx (List.Perm.cons_inv h) h1.2 h2.2]
def lP:List D->M D
 |[.lst ds]=>match nums ds with
  |some ns=>if ns.length<64 then aa (.lst ((cg ns).map D.int)) else af
  |none=>af
 |_=>af
def jo:∀{us:List Value}{ns:List Int},V0 us ns->Vals (ns.map V.int) us
 |_,_, .nil=> .nil
 |_,_, .cons n t h=> .cons ⟨t,rfl⟩ (jo h)
def NV(K:UJ):List V->Hp->VK->Prop:=λxs H Q=>∃p ns,xs=[.ref p]/\SqL K H p (ns.map V.int)/\ns.length<64/\∀q:Addr,H q=none->Q (.ref q) (upd H q (.lst ((cg ns).map V.int)))
section
variable{X:Cx}{Xw:Nat->Hp->Prop}{e:Expr}{δs:DA}{pos p:Pos}
def Bn:CallR X (.builtin "sorted") (NV X.K):=by
 intro f8 s σ H xs us Q I r h;obtain⟨a,ns,rfl,hq,hn,q⟩:=h;obtain⟨u,rfl,r1⟩:=r.one;cases (show u=_ from r1);obtain⟨aD,rv,pl,hz⟩:=I.list hq;have hl:=rv.length;rw[Ur] at hl;have hi:V0 aD ns:=by simpa using intsAre_of rv
 refine sorted_ints pl.isList hi (by omega) λout FR h1 h2 h3=>?_;have e:FR=cg ns:=lx (h2.trans (bJ ns).symm) h3 (fi ns);subst e;obtain⟨c,hc⟩:=sortedAll_at s.heap aD out;have yC:H (s.heap.objs.size+1)=none:=I.hok.fresh (XU _);refine⟨.ref (s.heap.objs.size+1),_,I.laid (a:=s.heap.objs.size+1) (t':=s.toks) (o:= .lst ((cg ns).map V.int)) (λb ob e=>sortedAll_old e) (XU _) ?_,rfl,q _ yC⟩;exact⟨by rw[Ur,(bJ ns).length_eq];have:=cR;unfold lim at this;omega,out.toList,c,jo h1,by simpa using hc⟩
def jv{K:UJ}{F:Hp}:∀{xs:List Int},DenL K F (xs.map D.int) (xs.map V.int)
 |[]=> .nil
 |x::r=> .cons rfl jv
def uA(hg:Gl X "sorted")(hm:X.mg "sorted"=none)(hb:Vh "sorted"=some (.builtin "sorted"))(ha:kA X Xw [e] δs)(he:US [e] X.env=[(false,eval e X.env)]:=by rfl):PD X Xw (.Call (.Name "sorted" p) [e] [] pos) (dA lP δs):=
 bR Bn (λXw F H vs ds Q s h w=>by
  unfold lP at w;split at w
  ·rename_i ds;obtain⟨v,rfl,h1⟩:=h.one;obtain⟨a,ws,rfl,h2,h3,h4⟩:=h1;split at w
   ·rename_i ns Ae;split at w
    ·rename_i hok;have e:=cQ Ae h3;subst e;exact⟨a,ns,rfl,SqL.of (s _ _ h2),hok,λq hq=>WP.fin w (Ext.lay s hq) ⟨q,_,rfl,az,jv,by rw[Ur,(bJ ns).length_eq];unfold lim;omega⟩⟩
    ·exact w.elim
   ·exact w.elim
  ·exact w.elim) hg hm hb ha (by decide) (by decide) he rfl
end
section
variable{a:Expr}
end
end L3
namespace L3
open PySem PySem.SetTable
def iK(m b:Nat):Nat->Nat×Nat
 |0=>(b % (m+1),b)
 |k+1=>leap m (iK m b k).1 (iK m b k).2
def LS(m i:Nat):Nat:=(i*5+1) % (m+1)
def it(m:Nat):Nat->Nat->Nat
 |0,x=>x
 |n+1,x=>LS m (it m n x)
def pH(m:Nat):∀a b x,it m (a+b) x=it m a (it m b x)
 |0,b,x=>by rw[Zu];rfl
 |a+1,b,x=>by rw[abt];show LS m _=LS m _;rw[pH m a b x]
def M7(m b:Nat):∀k,(iK m b k).2=b / 32 ^ k
 |0=>by simp[iK]
 |k+1=>by
  show (iK m b k).2 / 32=_;rw[M7 m b k,aaD,Nat.pow_succ]
def Ai{m b:Nat}(hb:b<2 ^ 64):∀k,(iK m b (k+13)).1=it m k (iK m b 13).1
 |0=>by rw[Zu];rfl
 |k+1=>by
  rw[abt];have hq:(iK m b (k+13)).2 / 32=0:=by
   rw[M7];refine Nat.div_eq_of_lt ?_;refine X3 (m:=b / 32 ^ 13) ?_ ?_
   ·rw[Nat.pow_add,Nat.mul_comm,<-aaD];exact Nat.div_le_self ..
   ·have:b / 32 ^ 13<1:=Nat.div_lt_of_lt_mul (by omega);omega
  show ((iK m b (k+13)).1*5+1+(iK m b (k+13)).2 / 32) % (m+1)=LS m _;rw[hq,Ai hb k];rfl
def OY(m:Nat):Prop:=m=7\/m=31\/m=127
def QE(m:Nat):Nat->Nat->List Nat
 |0,_=>[]
 |n+1,x=>x::QE m n (LS m x)
def za(m:Nat):∀(n x j:Nat),j∈QE m n x->∃a,a<n/\it m a x=j
 |0,x,j,h=>by cases h
 |n+1,x,j,h=>by
  rcases UD.mp h with rfl | h
  ·exact⟨0,by omega,rfl⟩
  ·obtain⟨a,ha,e⟩:=za m n (LS m x) j h;exact⟨a+1,by omega,by rw[pH m a 1 x];exact e⟩
def G_(hm:OY m):(∀j,j<m+1->j∈QE m (m+1) 0)/\it m (m+1) 0=0:=by
 rcases hm with rfl | rfl | rfl
 ·exact⟨by decide+kernel,by decide+kernel⟩
 ·exact⟨by decide+kernel,by decide+kernel⟩
 ·exact⟨by decide+kernel,by decide+kernel⟩
def Sh(hm:OY m)(hi:i<m+1)(hj:j<m+1):∃n,n<=m/\it m n i=j:=by
 obtain⟨h1,h2⟩:=G_ hm;obtain⟨a,ha,rfl⟩:=za m _ 0 i (h1 i hi);obtain⟨b,hb,rfl⟩:=za m _ 0 j (h1 j hj);by_cases h:a<=b
 ·exact⟨b - a,by omega,by rw[<-pH,Nat.sub_add_cancel h]⟩
 ·refine⟨m+1 - a+b,by omega,?_⟩;rw[<-pH,show m+1 - a+b+a=b+(m+1) by omega,pH,h2]
def M6(m b k:Nat):(iK m b k).1<m+1:=by
 cases k with
 |zero=>exact aan _ (by omega)
 |succ k=>exact aan _ (by omega)
def reach(hm:OY m)(hb:b<2 ^ 64)(hj:j<m+1):∃k,k<=m+13/\(iK m b k).1=j:=by
 obtain⟨n,hn,e⟩:=Sh hm (M6 m b 13) hj;exact⟨n+13,by omega,by rw[Ai hb,e]⟩
def Q7(t:SetTable):Nat->Probe->Probe
 |0,p=>p
 |n+1,p=>Q7 t n (t.advance p)
def vals(o:Array (Option Nat))(n:Nat):List Nat:=(UH n).filterMap λj=>o.getD j none
end L3
namespace L3
open PySem PySem.Spec L2 HT
open PyProof.Rows hiding St
def items_int{P:Vf}{w:World}:∀{us:List Value}{ns:List Int},V0 us ns->ItemsAre (intKind P w) ns us
 |_,_, .nil=> .nil
 |_,_, .cons n t h=> .cons (intKind_is _ _ _ _) (items_int h)
end L3
namespace L3
open PySem PySem.SetTable PySem.W PyProof.Rows
def IsSI(h:Heap)(it a:Addr)(sl k n ep:Nat):Prop:=∃o,h.get? it=some o/\o.cls= .type "set_iterator"/\o.data= .fields #[XX sl,XX k, .ref a,XX n,XX ep]
def IsSI.typeIs{s:Ux}{it a:Addr}{sl k n ep:Nat}(x:IsSI s.heap it a sl k n ep):s.TypeIs (.ref it) "set_iterator":=let ⟨o,ho,hc,_⟩:=x;⟨o,ho,hc⟩
end L3
namespace L3
open PySem PySem.Spec L2 HT
open PyProof.Rows hiding St
section
variable{X:Cx}{Xw:Nat->Hp->Prop}{e:Expr}{δs:DA}{pos p:Pos}
def A7:List D->M D
 |[.lst ds]=>match nums ds with
  |some ns=>aa (.int ns.sum)
  |none=>af
 |_=>af
def Bq(hc:X.calm=true):CallR X (.builtin "sum") (λxs H Q=>∃(p:Addr) (ns:List Int),xs=[.ref p]/\SqL X.K H p (ns.map V.int)/\Q (.int ns.sum) H):=by
 intro f8 s σ H xs us Q I r h;obtain⟨a,ns,rfl,hq,q⟩:=h;obtain⟨u,rfl,r1⟩:=r.one;cases (show u=_ from r1);obtain⟨aD,rv,pl,hz⟩:=I.list hq;have hi:V0 aD ns:=by simpa using intsAre_of rv
 obtain⟨xs,hx⟩:=hi.allInts.items;refine sum_intListG (I.ok.hd hc) (show s.heap.IsList a (intItems xs) from hx▸pl.isList) λh' tk t' hk=>?_;have e1:ns=xs.toList.map (·.1):=by
  rw[<-nums_intItems,<-hx];exact(show numsOf aD.toArray.toList=ns from hi.numsOf).symm
 rw[show preSum (numAt xs) xs.size=ns.sum by rw[preSum_eq,List.take_of_length_le (by simp),e1]];exact⟨.int ns.sum,H,I.kept hk,⟨_,rfl⟩,q⟩
def Hm(hc:X.calm=true)(hg:Gl X "sum")(hm:X.mg "sum"=none)(hb:Vh "sum"=some (.builtin "sum"))(ha:kA X Xw [e] δs)(he:US [e] X.env=[(false,eval e X.env)]:=by rfl):PD X Xw (.Call (.Name "sum" p) [e] [] pos) (dA A7 δs):=
 bR (Bq hc) (λXw F H vs ds Q s h w=>by
  unfold A7 at w;split at w
  ·rename_i ds;obtain⟨v,rfl,h1⟩:=h.one;obtain⟨a,ws,rfl,h2,h3,h4⟩:=h1;split at w
   ·rename_i ns Ae;have e:=cQ Ae h3;subst e;exact⟨a,ns,rfl,SqL.of (s _ _ h2),WP.now w s rfl⟩
   ·exact w.elim
  ·exact w.elim) hg hm hb ha (by decide) (by decide) he rfl
end
section
variable{X:Cx}{Xw:Nat->Hp->Prop}{a b:Expr}{δa δb:DE}{pos:Pos}
def jK(neg:Bool):D->D->M D
 | .int i, .lst ds=>match nums ds with | some ns=>aa (.bl (if neg then !ns.contains i else ns.contains i)) | none=>af
 |_,_=>af
def tP{neg:Bool}{K:UJ}:vp K (OP K neg) (jK neg):=λXw F H x y dx dy Q s hx hy w=>by
 unfold jK at w;split at w
 ·rename_i i ds;obtain⟨a,vs,h1,h2,h3,h4⟩:=hy;split at w
  ·rename_i ns hn;have hv:=cQ hn h3;subst hv;cases (show _=_ from hx);refine⟨a,ns.map V.int,h1, .inl (SqL.of (s _ _ h2)),rfl,?_,?_⟩
   ·rw[XD];exact UT.mpr λ_ _=>rfl
   ·rw[wc];exact WP.now w s rfl
  ·exact w.elim
 ·exact w.elim
def zi(ha:PD X Xw a δa)(hb:PD X Xw b δb)(hm:VF .NotIn b=false:=by rfl):oP X Xw (.Compare a [.NotIn] [b] pos) (eO (d2 (jK true) δa δb)):=e7 lu tP ha hb hm
end
def eQ:List Int->Int
 |[]=>0
 |[x]=>x
 |x::r=>max x (eQ r)
def eR:List Int->Int
 |[]=>0
 |[x]=>x
 |x::r=>min x (eR r)
def gB:∀{l:List Int},0<l.length->eQ l∈l/\∀a∈l,a<=eQ l
 |[x],_=>⟨by simp[eQ],λa h=>by rw[Ve.mp h];exact Int.le_refl _⟩
 |x::y::r,_=>by
  obtain⟨h1,h2⟩:=gB (l:=y::r) (aaO _);have e:eQ (x::y::r)=max x (eQ (y::r)):=rfl;rw[e];refine⟨?_,λa ha=>?_⟩
  ·rcases Int.le_total x (eQ (y::r)) with q | q
   ·rw[Int.max_eq_right q];exact Uu _ h1
   ·rw[Int.max_eq_left q];exact Uv ..
  ·rcases UD.mp ha with q | q
   ·rw[q];exact Int.le_max_left ..
   ·exact aaT (h2 a q) (Int.le_max_right ..)
def gE:∀{l:List Int},0<l.length->eR l∈l/\∀a∈l,eR l<=a
 |[x],_=>⟨by simp[eR],λa h=>by rw[Ve.mp h];exact Int.le_refl _⟩
 |x::y::r,_=>by
  obtain⟨h1,h2⟩:=gE (l:=y::r) (aaO _);have e:eR (x::y::r)=min x (eR (y::r)):=rfl;rw[e];refine⟨?_,λa ha=>?_⟩
  ·rcases Int.le_total x (eR (y::r)) with q | q
   ·rw[Int.min_eq_left q];exact Uv ..
   ·rw[Int.min_eq_right q];exact Uu _ h1
  ·rcases UD.mp ha with q | q
   ·rw[q];exact Int.min_le_left ..
   ·exact aaT (Int.min_le_right ..) (h2 a q)
section
variable{X:Cx}{Xw:Nat->Hp->Prop}{e:Expr}{δs:DA}{pos p:Pos}
def wu:List D->M D
 |[.lst ds]=>match nums ds with
  |some ns=>if 0<ns.length then aa (.int (eQ ns)) else af
  |none=>af
 |_=>af
def k7:List D->M D
 |[.lst ds]=>match nums ds with
  |some ns=>if 0<ns.length then aa (.int (eR ns)) else af
  |none=>af
 |_=>af
def pI{aD:List Value}{ns:List Int}(hi:V0 aD ns):∃xs:Array (Int×Tok),aD.toArray=intItems xs/\xs.size=ns.length/\∀i,i<xs.size->numAt xs i∈ns/\ns[i]? =some (numAt xs i):=by
 obtain⟨xs,hx⟩:=hi.allInts.items;have e1:ns=xs.toList.map (·.1):=by
  rw[<-nums_intItems,<-hx];exact(show numsOf aD.toArray.toList=ns from hi.numsOf).symm
 refine⟨xs,hx,by rw[e1];simp,λi h=>?_⟩;have:ns[i]? =some (numAt xs i):=by
  rw[e1,UG,We];unfold numAt;rw[Vn h];rfl
 exact⟨UZ this,this⟩
def Bh(hc:X.calm=true):CallR X (.builtin "max") (λxs H Q=>∃(p:Addr) (ns:List Int),xs=[.ref p]/\SqL X.K H p (ns.map V.int)/\0<ns.length/\Q (.int (eQ ns)) H):=by
 intro f8 s σ H xs us Q I r h;obtain⟨a,ns,rfl,hq,h0,q⟩:=h;obtain⟨u,rfl,r1⟩:=r.one;cases (show u=_ from r1);obtain⟨aD,rv,pl,hz⟩:=I.list hq;have hi:V0 aD ns:=by simpa using intsAre_of rv
 obtain⟨xs,hx,hsz,l6⟩:=pI hi;obtain⟨g1,g2⟩:=argBest_gt (numAt xs) (xs.size - 1);refine max_intList (I.ok.hd hc) (show s.heap.IsList a (intItems xs) from hx▸pl.isList) (by omega) λv h' tk hv hk=>?_;obtain⟨t,rfl⟩:=intItems_at hv;have hM:=l6 (aa_ (λi j=>decide (numAt xs i>numAt xs j)) (xs.size - 1)) (by omega);obtain⟨m1,m2⟩:=gB h0;have e:numAt xs (aa_ (λi j=>decide (numAt xs i>numAt xs j)) (xs.size - 1))=eQ ns:=by
  refine YJ (m2 _ hM.1) ?_;obtain⟨j,hj,e⟩:=VL m1;have h2:=(l6 j (by omega)).2;rw[Us hj,e] at h2;rw[U9 h2];exact g2 j (by omega)
 rw[e];exact⟨.int (eQ ns),H,I.kept hk,⟨_,rfl⟩,q⟩
def Bj(hc:X.calm=true):CallR X (.builtin "min") (λxs H Q=>∃(p:Addr) (ns:List Int),xs=[.ref p]/\SqL X.K H p (ns.map V.int)/\0<ns.length/\Q (.int (eR ns)) H):=by
 intro f8 s σ H xs us Q I r h;obtain⟨a,ns,rfl,hq,h0,q⟩:=h;obtain⟨u,rfl,r1⟩:=r.one;cases (show u=_ from r1);obtain⟨aD,rv,pl,hz⟩:=I.list hq;have hi:V0 aD ns:=by simpa using intsAre_of rv
 obtain⟨xs,hx,hsz,l6⟩:=pI hi;obtain⟨g1,g2⟩:=argBest_lt (numAt xs) (xs.size - 1);refine min_intList (I.ok.hd hc) (show s.heap.IsList a (intItems xs) from hx▸pl.isList) (by omega) λv h' tk hv hk=>?_;obtain⟨t,rfl⟩:=intItems_at hv;have hM:=l6 (aa_ (λi j=>decide (numAt xs i<numAt xs j)) (xs.size - 1)) (by omega);obtain⟨m1,m2⟩:=gE h0;have e:numAt xs (aa_ (λi j=>decide (numAt xs i<numAt xs j)) (xs.size - 1))=eR ns:=by
  refine YJ ?_ (m2 _ hM.1);obtain⟨j,hj,e⟩:=VL m1;have h2:=(l6 j (by omega)).2;rw[Us hj,e] at h2;rw[U9 h2];exact g2 j (by omega)
 rw[e];exact⟨.int (eR ns),H,I.kept hk,⟨_,rfl⟩,q⟩
def Hh(hc:X.calm=true)(hg:Gl X "max")(hm:X.mg "max"=none)(hb:Vh "max"=some (.builtin "max"))(ha:kA X Xw [e] δs)(he:US [e] X.env=[(false,eval e X.env)]:=by rfl):PD X Xw (.Call (.Name "max" p) [e] [] pos) (dA wu δs):=
 bR (Bh hc) (λXw F H vs ds Q s h w=>by
  unfold wu at w;split at w
  ·rename_i ds;obtain⟨v,rfl,h1⟩:=h.one;obtain⟨a,ws,rfl,h2,h3,h4⟩:=h1;split at w
   ·rename_i ns Ae;split at w
    ·rename_i h0;have e:=cQ Ae h3;subst e;exact⟨a,ns,rfl,SqL.of (s _ _ h2),h0,WP.now w s rfl⟩
    ·exact w.elim
   ·exact w.elim
  ·exact w.elim) hg hm hb ha (by decide) (by decide) he rfl
def oE(hc:X.calm=true)(hg:Gl X "min")(hm:X.mg "min"=none)(hb:Vh "min"=some (.builtin "min"))(ha:kA X Xw [e] δs)(he:US [e] X.env=[(false,eval e X.env)]:=by rfl):PD X Xw (.Call (.Name "min" p) [e] [] pos) (dA k7 δs):=
 bR (Bj hc) (λXw F H vs ds Q s h w=>by
  unfold k7 at w;split at w
  ·rename_i ds;obtain⟨v,rfl,h1⟩:=h.one;obtain⟨a,ws,rfl,h2,h3,h4⟩:=h1;split at w
   ·rename_i ns Ae;split at w
    ·rename_i h0;have e:=cQ Ae h3;subst e;exact⟨a,ns,rfl,SqL.of (s _ _ h2),h0,WP.now w s rfl⟩
    ·exact w.elim
   ·exact w.elim
  ·exact w.elim) hg hm hb ha (by decide) (by decide) he rfl
end
end L3
namespace L3
open PySem PySem.Spec L2
open PyProof.Rows hiding St
end L3
namespace L3
open PySem PySem.Spec L2 SeqAt HT
open PyProof.Rows hiding St
section
variable{X:Cx}{Xw:Nat->Hp->Prop}{a e o:Expr}{δo:DE}{δs:DA}{p apos aL:Pos}
def Qs(n:Int):Value->Bool
 | .int i _=>i==n
 |_=>false
def wb:D->List D->M D
 | .lst ds,[.int n]=>match nums ds with
   |some ns=>if ns.contains n then aa (.int (ns.idxOf n)) else af
   |none=>af
 |_,_=>af
def NN(K:UJ):V->List V->Hp->VK->Prop:=λx vs H Q=>∃(a:Addr) (ns:List Int) (n:Int),x= .ref a/\vs=[.int n]/\H a=some (.lst (ns.map V.int))/\ns.contains n=true/\Q (.int (ns.idxOf n)) H
def GW:Oi X "list.index" (NN X.K):=by
 intro f8 s σ H x vs v us Q I rx rv h;obtain⟨a,ns,n,rfl,rfl,hH,hc,q⟩:=h;cases rx;obtain⟨u,rfl,r1⟩:=rv.one;obtain⟨t,rfl⟩:=r1;obtain⟨z,aD,m,r,hl,e⟩:=I.lstM hH;have P3:=r.length;rw[Ur] at P3;have at':∀i (h:i<aD.length),∃t,aD[i]= .int (ns[i]'(by omega)) t:=λi h=>by
  have q:=jG i r (by rw[Ur];omega);rw[Uy,UG,Us (by omega:i<ns.length),Uy,Us h] at q;exact q
 have hm:n∈ns:=by simpa using hc
 have cI:ns.idxOf n<ns.length:=aak.mpr hm;have hz:ns.length<=UR:=by simpa using z
 have hs:UR=16777216:=Wg;refine aaV F.slot_list_index ⟨_,e,rfl⟩ F.entry_list_index (F.args_list_index_2 _ _) (list_indexAt a _ m none #[] (.int n t) (Qs n) (ns.idxOf n) (by simp;omega) (by omega) ?_ ?_) ⟨e,λy hy=>?_,?_⟩
 ·obtain⟨t',e1⟩:=at' (ns.idxOf n) (by omega);have:ns[ns.idxOf n]=n:=abh cI;simp[Qs,e1,this]
 ·intro k q0 yE;have LK:k<aD.length:=by simpa using q0
  obtain⟨t',e1⟩:=at' k LK;have:ns[k]'(by omega)≠n:=λz=>by
   have:=List.not_of_lt_findIdx (p:=(· ==n)) (xs:=ns) (i:=k) yE;rw[z] at this;simp at this
  simp[Qs,e1,this]
 ·have hy:y∈aD:=by simpa using hy
  obtain⟨i,hi,rfl⟩:=VL hy;obtain⟨t',e1⟩:=at' i hi;rw[e1];exact EqAt.int_int _ _ _ _
 ·exact⟨.int (ns.idxOf n),H,I.tok _,⟨_,rfl⟩,q⟩
def He(ho:PD X Xw o δo)(ha:kA X Xw [e] δs)(fG:WA o "index" X.env (eval o X.env)=eval o X.env:=by rfl)
 (pB:((W6 aL (US [e] X.env)).all (λx=>!x.1)&&(Y6 aL (XJ [] X.env)).all (λx=>x.1.isSome)&&decide ([e].length+([]:List Xz).length+(if ([]:List Xz).isEmpty then 0 else 1)<30))=true:=by rfl)
 (fH:(apos.endLine==aL.line)=true:=by rfl)(wa:US [e] X.env=[(false,eval e X.env)]:=by rfl):PD X Xw (.Call (.Attribute o "index" apos) [e] [] aL) (dM se wb δo δs):=
 IT Yc PySem.F.slot_list_index PySem.F.type_list_index GW DW (λXw F H x vs d ds Q s hx hv w=>by
  unfold wb at w;split at w
  ·rename_i ds n;obtain⟨v,rfl,h1⟩:=hv.one;cases (show _=_ from h1);obtain⟨a,ws,rfl,h2,h3,_⟩:=hx;split at w
   ·rename_i ns hb;split at w
    ·rename_i hc;exact⟨a,ns,n,rfl,rfl,by rw[<-cQ hb h3];exact s _ _ h2,hc,WP.now w s rfl⟩
    ·exact w.elim
   ·exact w.elim
  ·exact w.elim) ho ha fG pB fH wa rfl
end
section
variable{a:Expr}
end
end L3
namespace L3
open PySem PySem.Spec L2
open PyProof.Rows hiding St
section
variable{prog:Vf}{w:World}{A:Vw}{E:Value->Ux->Prop}{s:Ux}
def zC{d:Addr}{od:Obj}{es:Array V9}{ep:Nat}{Q:Value->Ux->Prop}(lo:(d==V4)=false)(ho:s.heap.get? d=some od)(hx:od.ExactDict)(hd:od.data= .dict es ep)
 (hQ:Q (.ref s.heap.objs.size) {s with heap:=s.heap.push {cls:= .type "dict_items",data:= .fields #[.ref d]} }):wpAny (model prog w) A (call (.builtin "dict.items") [.ref d]) Q E s:=by
 have hT:s.TypeIs (.ref d) "dict":=⟨od,ho,hx.1⟩
 refine Vq F.slot_dict_items hT F.entry_dict_items ?_ (F.args_dict_items_1 _);unfold XW.«dict.items»;refine Uq ?_;unfold Builtin.Dict.noArgs;refine Uq (YT hT ?_);show wpAny _ _ (pure d) _ _ s;refine Uw ?_;show wpAny _ _ (WL d>>=_) _ _ s;unfold WL;rw[abA (by rw[lo];exact UU)];refine Uq (Uw ?_);exact Uq (U_ (Uw ⟨_,rfl,hQ⟩))
def yN{v d:Addr}{od:Obj}{es:Array V9}{ep:Nat}{Q:Value->Ux->Prop}(hv:s.heap.IsItemsView v d)(ho:s.heap.get? d=some od)(Mx:od.data= .dict es ep)
 (hQ:Q (.ref s.heap.objs.size) {s with heap:=s.heap.push {cls:= .type "dict_itemiterator",data:= .fields #[.none, .bool false, .ref d, .int 0 0, .int es.size 0, .int ep 0, .none, .none]} }):
 wpAny (model prog w) A (pyIter (.ref v)) Q E s:=by
 obtain⟨ov,Tf,Uj,SK⟩:=id hv;refine wpAny_pyIter_slot hv.typeIs aa1 (Vq aa1 hv.typeIs F.entry_dict_items_iter ?_ (F.args_dict_items_iter_1 _));unfold XW.«dict_items.__iter__»;refine Uq (Uw ?_);refine Uq ?_;unfold Builtin.Dict_items.dictOf;refine Uq (WG Tf SK (x:= .ref d) rfl (Uw ?_));refine Uq ?_;unfold Builtin.Dict_items.newIterator;refine Uq (VH ho Mx ?_);refine Uq (Wu ho Mx ?_);have pC:VQ "dict_itemiterator"=true:=by decide
 simp only[pC,if_true];refine U_ (Uw ⟨_,rfl,"dict_itemiterator",_,⟨_,UO _ rfl,rfl⟩,F.slot_dict_itemiterator_next.lookup,?_⟩)
  (by simp only[sizeOk,XY,UK,UN,UI,VX,Wg];omega)
 simpa[XX,XY] using hQ
def next_item{it d:Addr}{od:Obj}{es:Array V9}{i ep:Nat}{e:V9}{ok ov:Value}{Q:Option Value->Ux->Prop}(hit:Zb s.heap it d i es.size ep ok ov)(kR:s.heap.get? d=some od)(fV:od.data= .dict es ep)(hx:es[i]? =some e)
 (hQ:∀h',abk h' it d (i+1) es.size ep e.key e.val s.heap.objs.size->h'.get? s.heap.objs.size=some {cls:= .type "tuple",data:= .seq #[e.key,e.val]}->h'.objs.size=s.heap.objs.size+1->
  (∀b o,b≠it->s.heap.get? b=some o->h'.get? b=some o)->Q (some (.ref s.heap.objs.size)) {s with heap:=h'}):
 wpAny (model prog w) A (Yi (.ref it)) Q E s:=by
 obtain⟨hp,g,dr,tk,os⟩:=s;have hT:YO ⟨hp,g,dr,tk,os⟩ (.ref it) "dict_itemiterator":=⟨_,hit,rfl⟩
 unfold Yi;refine Uq (YE (VU (name:=V8 "__next__") hT V1
  (Vq V1 hT XO ?_ (XE _))))
 refine Uq (Uw ?_);refine Uq ?_;refine Uq ?_
 first | refine Uq (VY hT (Uw ?_)) | refine Uq (Wh hT (Uw ?_))
 refine Uq (Yo hit rfl ?_);have pC:VQ "dict_itemiterator"=true:=by decide
 simp only[pC,if_true];show wpAny _ _ (if (UX d==U7)=true then _ else _) _ _ _;rw[abA (show¬((UX d==U7)=true) from UU)];refine Uq (Uw ?_);refine Uq (VH kR fV ?_);rw[abA (by simp)];refine Uq (Uw ?_);refine Uq (Wu kR fV ?_);rw[abA (by simp)];refine Uw ?_;simp only[show¬((i:Int)<0) from by omega,if_false,WI,hx];refine Uq ?_
 first | refine Uq (VY hT (Uw ?_)) | refine Uq (Wh hT (Uw ?_))
 refine Uq (Ww hT ?_);show wpAny _ _ (aa5 (.ref it) 3 (XX ((i:Int)+1))>>=_) _ _ ⟨hp,g,dr,tk,os⟩;refine Uq (Wz hit (by simp) λh₁ DC DQ=>?_)
 replace DQ:V2 it hp h₁:=DQ
 replace DC:Zb h₁ it d (i+1) es.size ep ok ov:=by
  have e:((i+1:Nat):Int)=(i:Int)+1:=by omega
  unfold Zb;rw[e];simpa[XX] using DC
 have JM:YO ⟨h₁,g,dr,tk,os⟩ (.ref it) "dict_itemiterator":=⟨_,DC,rfl⟩
 refine Uq (VT ?_);refine Uq (Ww JM ?_);refine Uq (Ww JM ?_);show wpAny _ _ (Wk (.ref it) 6 e.key e.val) _ _ ⟨h₁,g,dr,tk,os⟩;unfold Wk;refine Uq (Ze ?_);have DD:Zb (h₁.push {cls:= .type "tuple",data:= .seq #[e.key,e.val]}) it d (i+1) es.size ep ok ov:=Ut _ DC;generalize Gu:h₁.push {cls:= .type "tuple",data:= .seq #[e.key,e.val]}=h₂ at DD;have GF:h₁.objs.size=hp.objs.size:=DQ.1;have FK:it<hp.objs.size:=UE hit;have Qg:h₂.get? hp.objs.size=some {cls:= .type "tuple",data:= .seq #[e.key,e.val]}:=by rw[<-Gu,<-GF];exact UO _ rfl
 have Qm:h₂.objs.size=hp.objs.size+1:=by rw[<-Gu,Wb,GF]
 have OC:∀b o,b≠it->hp.get? b=some o->h₂.get? b=some o:=λb o hb e=>by rw[<-Gu];exact Ut _ (DQ.extBut b o hb e)
 show wpAny _ _ (Wc (.ref it)>>=_) _ _ ⟨h₂,g,dr,tk,os⟩;rw[GF];clear Gu DC DQ JM GF h₁;refine Uq ?_;unfold Wc;refine Uq (WG DD rfl (x:= .none) rfl (Uw ?_));simp only[if_true];refine Uq (WG DD rfl (x:=ok) rfl ?_);refine Uq (WG DD rfl (x:=ov) rfl ?_);refine Uq (Wz DD (by simp) λh₃ JS yI=>?_)
 replace yI:V2 it h₂ h₃:=yI
 replace JS:Zb h₃ it d (i+1) es.size ep e.key ov:=JS
 refine Uq (Wz JS (by simp) λh₄ PF MU=>?_)
 replace MU:V2 it h₃ h₄:=MU
 replace PF:Zb h₄ it d (i+1) es.size ep e.key e.val:=PF
 refine Uq (Wz PF (by simp) λh₅ PH MV=>?_)
 replace MV:V2 it h₄ h₅:=MV
 replace PH:abk h₅ it d (i+1) es.size ep e.key e.val hp.objs.size:=PH
 refine Uq (Wz PH (by simp) λh₆ PJ MW=>?_)
 replace MW:V2 it h₅ h₆:=MW
 replace PJ:abk h₆ it d (i+1) es.size ep e.key e.val hp.objs.size:=PJ
 refine Uq (wpAny_letGo (Uw (Uw ⟨_,rfl,Uw (hQ h₆ PJ ?_ ?_ ?_)⟩)))
 ·exact MW.extBut _ _ (Vs FK) (MV.extBut _ _ (Vs FK) (MU.extBut _ _ (Vs FK) (yI.extBut _ _ (Vs FK) Qg)))
 ·show h₆.objs.size=hp.objs.size+1;rw[MW.1,MV.1,MU.1,yI.1,Qm]
 ·exact λb o hb e=>MW.extBut b o hb (MV.extBut b o hb (MU.extBut b o hb (yI.extBut b o hb (OC b o hb e))))
end
def Bv{X:Cx}{f8:List (Addr×Obj)}{σ:St}{H:Hp}{s:Ux}{d:Addr}{od:Obj}{kvs:List (List Key×V)}(I:Inv X f8 σ H s)(h:H d=some (.frz od (.dT kvs))):
 ∃es ep,(d==V4)=false/\s.heap.get? d=some od/\od.ExactDict/\od.data= .dict es ep/\es.size=kvs.length/\∀(i:Nat) (k:List Key) (v:V),kvs[i]? =some (k,v)->∃(e:V9) (b:Addr),es[i]? =some e/\e.key= .ref b/\H b=some (.tup (k.map kV))/\RelV v e.val:=by
 obtain⟨ho,z,lo,xs,rel,o,es,ep,h1,h2,h3,h4,h5⟩:=(show ObjOk X.prog X.w H s.heap d (.frz od (.dT kvs)) from I.hok d _ h)
 rw[ho] at h1;cases h1;have hl:es.size=kvs.length:=by
  rw[<-UL,h4,Ur];exact(Wt rel).symm
 refine⟨es,ep,lo,ho,h2,h3,hl,λi k v hi=>?_⟩;obtain⟨q,e1,e2,e3,e4⟩:=gY rel hi;refine⟨ZV (WM (aM X.prog X.w)) q,q.2.1,?_,rfl,e3,e4⟩;rw[<-We,h4,UG,e1];rfl
end L3
namespace L3
open PySem PySem.Spec L2 HT
open PyProof.Rows hiding St
end L3
namespace L3
open PySem PySem.Spec L2 SeqAt HT
open PyProof.Rows hiding St
section
variable{X:Cx}{f8:List (Addr×Obj)}{σ:St}{H:Hp}{s:Ux}{a:Addr}{kvs:List (Key×V)}{k:Key}{z:V}{u r:Value}{A:Vw}{E:Value->Ux->Prop}
def C8{Q:Value->Ux->Prop}(I:Inv X f8 σ H s)(e:H a=some (.dK kvs))(ry:RelV (kV k) u)(rz:RelV z r)(hl:kvs.length<UR)
 (h1:∀v w' s',eN kvs k=some v->Inv X f8 σ H s'->RelV v w'->Q w' s')
 (h2:∀s',eN kvs k=none->Inv X f8 σ (upd H a (.dK (putK kvs k z))) s'->Q r s'):
 wpAny (model X.prog X.w) A (call (.builtin "dict.setdefault") [.ref a,u,r]) Q E s:=by
 obtain⟨zz,hd,vs,rel,dd⟩:=Dd I.hok e;have hz:vs.length<=UR:=by rw[<-rel.length];exact zz
 have FN:(putK kvs k z).length<=UR:=by have:=dH kvs k z;omega
 have rv:=rel.val k;refine YZ Zj dd.typeIs PySem.F.entry_dict_setdefault (PySem.F.args_dict_setdefault_3 _ _ _) (kt_meets_setdefault (aM X.prog X.w) a (kU ry) hd r) ⟨vs,dd,hz,λv hv=>?_,λhn h' zU hs=>?_⟩
 ·cases q:eN kvs k with
  |none=>rw[q] at rv;rw[RelO.none_of rv] at hv;cases hv
  |some v0=>
   rw[q] at rv;obtain⟨w',hw,vn⟩:=RelO.some_of rv;rw[hw] at hv;cases hv;exact h1 v0 _ _ q (I.tok _) vn
 ·cases q:eN kvs k with
  |some v0=>rw[q] at rv;obtain⟨w',hw,_⟩:=RelO.some_of rv;rw[hw] at hn;cases hn
  |none=>
   have he:∃q,h'.get? a=some q:=let ⟨q,_,_,hq,_⟩:=zU;⟨q,hq⟩
   exact h2 _ q (ju I (by rw[e];exact WD) hs he (yq FN hd (rel.put k rz) zU))
end
section
variable{X:Cx}{o e f:Expr}{apos aL:Pos}{td ty tx:TE}
def Jc(td ty tx:TE):TE:=λσ H Q=>td σ H λx H1=>∃a,x= .ref a/\LA H1 a/\ty σ H1 λy H2=>tx σ H2 λz H3=>∃kvs k,H3 a=some (.dK kvs)/\y=kV k/\kvs.length<UR/\
 (∀v,eN kvs k=some v->Q v H3)/\(eN kvs k=none->Q z (upd H3 a (.dK (putK kvs k z))))
def Hu(ho:PE X o td)(he:PE X e ty)(hf:PE X f tx)(m:M2 X o "setdefault" apos e f aL):PE X (.Call (.Attribute o "setdefault" apos) [e,f] [] aL) (Jc td ty tx):=by
 intro f8 s σ H Q I h;refine Yv m.base m.few m.line Wi Zj PySem.F.type_dict_setdefault (bx (ho f8 s σ H _ I h) λu s1 ⟨x,H1,I1,rx,a,ex,d,q1⟩=>?_);subst ex;obtain rfl:u=UX a:=rx;obtain⟨t1,t2,_⟩:=tQ I1 d;refine⟨t1,t2,?_⟩;rw[m.trees];refine Wo rfl (W4 (V5 (bx (he f8 s1 σ H1 _ I1 q1) λiv s2 ⟨y,H2,I2,ry,q2⟩=>
  V5 (bx (hf f8 s2 σ H2 _ I2 q2) λfv s3 ⟨z,H3,I3,rz,kvs,k,e1,ey,hl,g1,g2⟩=>WB ?_))))
 subst ey;exact C8 I3 e1 ry rz hl (λv w' s' q I4 r4=>⟨v,H3,I4,r4,g1 v q⟩) λs' q I4=>⟨z,_,I4,rz,g2 q⟩
end
abbrev oQ:=List (Key×List Key)
def qY(ks:List Key)(k:Key):Bool:=ks.any λx=>decide (x=k)
def kP{ks:List Key}{k:Key}:qY ks k=true↔k∈ks:=by
 unfold qY;rw[List.any_eq_true];exact⟨λ⟨x,h1,h2⟩=>(abC h2)▸h1,λh=>⟨k,h,abB rfl⟩⟩
def uQ(ps:oQ)(k:Key):oQ:=if qY (ps.map (·.1)) k then ps else ps++[(k,[])]
def oR(ps:oQ)(k j:Key):oQ:=ps.map λp=>if p.1=k then(p.1,if qY p.2 j then p.2 else p.2++[j]) else p
def vm(ps:oQ):Bool:=decide (ps.length<lim)&&ps.all λp=>decide (p.2.length<lim)
def inD(ks:List Key):D:= .dci ks (ks.map λ_=> .bl true)
def kB(ps:oQ):D:= .dci (ps.map (·.1)) (ps.map λp=>inD p.2)
def kg(oi:Nat)(tc:DT)(δk:DE)(k:Key)(ρ:bC):List D->oQ->M oQ
 |[],ps=>aa ps
 |d::ds,ps=>noex (tc (ρ.set oi (some (.fz d))))>>=λb=>if b then noex (δk (ρ.set oi (some (.fz d))))>>=λkd=>match mj kd with
   |some j=>if vm ps then kg oi tc δk k ρ ds (oR ps k j) else af
   |none=>af
  else kg oi tc δk k ρ ds ps
def fN(ci oi:Nat)(δk:DE)(δj:DA)(tc:DT)(δk2:DE)(ρ:bC):List D->oQ->M oQ
 |[],ps=>aa ps
 |d::ds,ps=>noex (δk (ρ.set ci (some (.fz d))))>>=λkd=>match mj kd with
   |some k=>if vm ps then noex (δj (ρ.set ci (some (.fz d))))>>=λes=>kg oi tc δk2 k (ρ.set ci (some (.fz d))) es (uQ ps k)>>=λir=>fN ci oi δk δj tc δk2 ρ ds ir else af
   |none=>af
def oT(ρ:bC):Bool:=ρ.all λx=>match x with | some (.ow _)=>false | _=>true
def xA(ni ci mi oi:Nat)(δi:DA)(δk:DE)(δj:DA)(tc:DT)(δk2:DE):DS:=λρ=>match rl ρ ni with
 |some (.dci [] [])=>if oT (fgt [ni,ci,mi,oi] ρ) then noex (δi (fgt [ni,ci,mi,oi] ρ))>>=λds=>noex (fN ci oi δk δj tc δk2 (fgt [ni,ci,mi,oi] ρ) ds [])>>=λps=>
   if vm ps then aa (.nx ((fgt [ni,ci,mi,oi] ρ).set ni (some (.fz (kB ps))))) else af else af
 |_=>af
def Ext.of_chg{t0 abJ F H:Hp}{b:Addr}{o:HO}(e:Ext t0 abJ F H)(h1:F b=none)(h2:abJ b=none):Ext t0 abJ F (upd H b o):=
 ⟨λc u q=>by rw[ao (λz=>by rw[z,h2] at q;cases q)];exact e.hh c u q,e.ff,λc u q=>by rw[ao (λz=>by rw[z,h1] at q;cases q)];exact e.fh c u q,e.new⟩
def StE.fzH{K:UJ}{F H H':Hp}{σ:St}{ρ:bC}(s:StE K F H σ ρ)(h:oT ρ=true)(e:Same F H'):StE K F H' σ ρ:=
 ⟨e,λi sl q=>by
  obtain⟨v,h1,h2⟩:=s.den i sl q;refine⟨v,h1,?_⟩;cases sl with
  |fz d=>exact h2
  |ow c=>have:=UT.mp h _ (UZ q);cases this⟩
def get_set{α:Type}{l:List (Option α)}{i j:Nat}{x:Option α}{y:α}(h:(l.set i x)[j]? =some (some y)):(j=i/\x=some y)\/(j≠i/\l[j]? =some (some y)):=by
 by_cases hj:j=i
 ·subst hj;have hi:j<l.length:=by have:=(UA.mp h).1;simpa using this
  rw[UQ hi] at h;exact .inl ⟨rfl,U9 h⟩
 ·rw[UM (Vv hj)] at h;exact .inr ⟨hj,h⟩
def l8{ρ:bC}(h:oT ρ=true)(i:Nat){x:Option Sl}(hx:∀c,x≠some (.ow c)):oT (ρ.set i x)=true:=UT.mpr λy hy=>by
 rcases List.mem_or_eq_of_mem_set hy with q | q
 ·exact UT.mp h y q
 ·subst q
  match y,hx with
  |none,_=>rfl
  |some (.fz d),_=>rfl
  |some (.ow c),hx=>exact abE rfl (hx c)
structure Nr (K:UJ) (t0 abJ G F H:Hp) (σ:St) (ρ:bC) (ni:Nat) (a:Addr) (bs:List Addr) (ps:oQ):Prop where
 ext:Ext t0 abJ F H
 gf:Same G F
 st:StE K F H σ ρ
 len:ρ.length=σ.length
 near:σ[ni]? =some (some (.ref a))
 ha:H a=some (.dK ((ps.map (·.1)).zip (bs.map V.ref)))
 hb:∀(i:Nat) (b:Addr) (p:Key×List Key),bs[i]? =some b->ps[i]? =some p->H b=some (.dK (p.2.map λk=>(k,V.bl true)))
 sz:bs.length=ps.length
 nd:(a::bs).Nodup
 fr:∀b∈a::bs,F b=none/\abJ b=none
 fz:oT ρ=true
section
variable{K:UJ}{t0 abJ G G' F H F' H':Hp}{σ:St}{ρ:bC}{ni:Nat}{a:Addr}{bs:List Addr}{ps:oQ}
def Nr.at(n:Nr K t0 abJ G F H σ ρ ni a bs ps){b:Addr}(hb:b∈a::bs):∃kvs,H b=some (.dK kvs):=by
 rcases UD.mp hb with rfl | hb
 ·exact⟨_,n.ha⟩
 ·obtain⟨i,hi,rfl⟩:=VL hb;exact⟨_,n.hb i _ (ps[i]'(by rw[<-n.sz];exact hi)) (Us hi) (Us _)⟩
def Nr.ext'(n:Nr K t0 abJ G F H σ ρ ni a bs ps)(e:Ext F H F' H'):Nr K t0 abJ G F' H' σ ρ ni a bs ps:=
 ⟨n.ext.trans e,n.gf.trans e.ff,n.st.ext e,n.len,n.near,e.hh _ _ n.ha,λi b p h1 h2=>e.hh _ _ (n.hb i b p h1 h2),n.sz,n.nd,λb hb=>by
  obtain⟨kvs,hk⟩:=n.at hb;exact⟨by rw[e.old hk λts z=>nomatch z];exact(n.fr b hb).1,(n.fr b hb).2⟩,n.fz⟩
def Nr.rg(n:Nr K t0 abJ G F H σ ρ ni a bs ps)(e:Same G' F):Nr K t0 abJ G' F H σ ρ ni a bs ps:=⟨n.ext,e,n.st,n.len,n.near,n.ha,n.hb,n.sz,n.nd,n.fr,n.fz⟩
def Nr.put(n:Nr K t0 abJ G F H σ ρ ni a bs ps){j:Nat}(hj:j≠ni){d:D}{v:V}(h:Den K F d v):Nr K t0 abJ G F H (σ.set j (some v)) (ρ.set j (some (.fz d))) ni a bs ps:=
 ⟨n.ext,n.gf,⟨n.st.fh,λi sl q=>by
  rcases get_set q with⟨rfl,e⟩ | ⟨fI,q⟩
  ·cases e;have hi:i<ρ.length:=by have:=(UA.mp q).1;simpa using this
   exact⟨v,by rw[UQ (by rw[<-n.len];exact hi)],h⟩
  ·obtain⟨u,h1,h2⟩:=n.st.den i sl q;exact⟨u,by rw[UM (Vv fI)];exact h1,h2⟩⟩,by simp[n.len],by rw[UM hj];exact n.near,n.ha,n.hb,n.sz,n.nd,n.fr,l8 n.fz _ (λc z=>nomatch z)⟩
def Nr.put0(n:Nr K t0 abJ G F H σ ρ ni a bs ps){j:Nat}(hj:j≠ni)(v:V):Nr K t0 abJ G F H (σ.set j (some v)) (ρ.set j none) ni a bs ps:=
 ⟨n.ext,n.gf,⟨n.st.fh,λi sl q=>by
  rcases get_set q with⟨rfl,e⟩ | ⟨fI,q⟩
  ·cases e
  ·obtain⟨u,h1,h2⟩:=n.st.den i sl q;exact⟨u,by rw[UM (Vv fI)];exact h1,h2⟩⟩,by simp[n.len],by rw[UM hj];exact n.near,n.ha,n.hb,n.sz,n.nd,n.fr,l8 n.fz _ (λc z=>nomatch z)⟩
def Nr.fgt0(n:Nr K t0 abJ G F H σ ρ ni a bs ps)(j:Nat):Nr K t0 abJ G F H σ (ρ.set j none) ni a bs ps:=
 ⟨n.ext,n.gf,⟨n.st.fh,λi sl q=>by
  rcases get_set q with⟨rfl,e⟩ | ⟨fI,q⟩
  ·cases e
  ·exact n.st.den i sl q⟩,by simp[n.len],n.near,n.ha,n.hb,n.sz,n.nd,n.fr,l8 n.fz _ (λc z=>nomatch z)⟩
def t8{α β:Type}{l:List α}{i:Nat}{f:α->β}{y:β}(h:(l.map f)[i]? =some y):∃x,l[i]? =some x/\f x=y:=by
 rw[UG] at h;exact aai.mp h
def Cg(ks:List Key)(j:Key):putK (ks.map λk=>(k,V.bl true)) j (V.bl true)=(if qY ks j then ks else ks++[j]).map λk=>(k,V.bl true):=by
 unfold putK;have e:((ks.map λk=>(k,V.bl true)).any λkv=>decide (kv.1=j))=qY ks j:=by
  rw[XT,List.any_eq_true,kP];constructor
  ·rintro⟨kv,h1,h2⟩;obtain⟨k,hk,rfl⟩:=UC.mp h1;exact(abC h2:k=j)▸hk
  ·exact λh=>⟨(j,V.bl true),UC.mpr ⟨j,h,rfl⟩,by simp⟩
 rw[e];by_cases hj:qY ks j=true
 ·rw[abz hj,abz hj,U0];refine Vp λk _=>?_;show (if k=j then(k,V.bl true) else(k,V.bl true))=_;split<;>rfl
 ·rw[abA hj,abA hj,Vl];rfl
def vw(ps:oQ)(k j:Key):(oR ps k j).map (·.1)=ps.map (·.1):=by
 unfold oR;rw[U0];refine Vp λp _=>?_;show (if p.1=k then(p.1,_) else p).1=p.1;split<;>rfl
def Nr.add(n:Nr K t0 abJ G F H σ ρ ni a bs ps)(kn:(ps.map (·.1)).Nodup){i:Nat}{b:Addr}{p:Key×List Key}(hi:bs[i]? =some b)(hp:ps[i]? =some p)(j:Key):
 Nr K t0 abJ G F (upd H b (.dK (putK (p.2.map λk=>(k,V.bl true)) j (V.bl true)))) σ ρ ni a bs (oR ps p.1 j):=by
 have hm:b∈a::bs:=Uu _ (UZ hi);have fI:a≠b:=λz=>(Vk.mp n.nd).1 (z▸UZ hi);have e:=n.ext.of_chg (o:= .dK (putK (p.2.map λk=>(k,V.bl true)) j (V.bl true))) (n.fr b hm).1 (n.fr b hm).2;refine⟨e,n.gf,n.st.fzH n.fz e.fh,n.len,n.near,?_,λi' b' p' h1 h2=>?_,by rw[n.sz];simp[oR],n.nd,n.fr,n.fz⟩
 ·rw[ao fI,vw];exact n.ha
 ·obtain⟨q,hq,rfl⟩:=t8 (show (ps.map _)[i']? =_ from h2);by_cases PR:i'=i
  ·subst PR;rw[hi] at h1;cases h1;rw[hp] at hq;cases hq;rw[az,abz rfl,Cg]
  ·have Pq:b'≠b:=λz=>by
    subst z;exact PR ((Zl (UA.mp h1).1 (Vk.mp n.nd).2).mp (h1.trans hi.symm))
   have To:q.1≠p.1:=λz=>by
    exact PR ((Zl (by simpa using (UA.mp hq).1) kn).mp (by rw[UG,UG,hq,hp];exact abG some z))
   rw[ao Pq,abA To];exact n.hb i' b' q h1 hq
def qM{κ:Type}[DecidableEq κ]:∀{ks:List κ}{vs:List V}(k:κ),ks.length=vs.length->
 (match eN (ks.zip vs) k with | some v=>∃i:Nat,ks[i]? =some k/\vs[i]? =some v | none=>k∉ks)
 |[],[],k,_=>by simp[eN]
 |k'::ks,v::vs,k,hl=>by
  rw[VW];by_cases e:k'=k
  ·rw[jm (p:=(k',v)) e];exact⟨0,by simp[e],rfl⟩
  ·rw[jl (p:=(k',v)) e];have:=qM (ks:=ks) (vs:=vs) k (by simpa using hl);cases q:eN (ks.zip vs) k with
   |none=>rw[q] at this;exact λz=>(UD.mp z).elim (λz=>e z.symm) this
   |some u=>rw[q] at this;obtain⟨i,h1,h2⟩:=this;exact⟨i+1,by simpa using h1,by simpa using h2⟩
 |[],_::_,_,hl=>by simp at hl
 |_::_,[],_,hl=>by simp at hl
def xn{κ:Type}[DecidableEq κ]{kvs:List (κ×V)}{k:κ}{v:V}(h:eN kvs k=none):putK kvs k v=kvs++[(k,v)]:=by
 unfold putK;rw[jk,h];rfl
def Nr.new(n:Nr K t0 abJ G F H σ ρ ni a bs ps){p:Addr}(hp:H p=none){k:Key}(hk:eN ((ps.map (·.1)).zip (bs.map V.ref)) k=none):
 Nr K t0 abJ G F (upd (upd H p (.dK [])) a (.dK (putK ((ps.map (·.1)).zip (bs.map V.ref)) k (.ref p)))) σ ρ ni a (bs++[p]) (ps++[(k,[])]):=by
 have fI:∀b∈a::bs,b≠p:=λb hb z=>by
  obtain⟨kvs,h⟩:=n.at hb;rw[z,hp] at h;cases h
 have ha:=fI a Uv;have e0:=n.ext.trans (Ext.free (o:= .dK []) n.st.fh hp);have hF:F p=none:=Same.free n.st.fh hp;have hH:abJ p=none:=Same.free n.ext.hh hp;have e:=e0.of_chg (o:= .dK (putK ((ps.map (·.1)).zip (bs.map V.ref)) k (.ref p))) (n.fr a Uv).1 (n.fr a Uv).2;have nd:=Vk.mp n.nd;refine⟨e,n.gf,n.st.fzH n.fz e.fh,n.len,n.near,?_,λi b q h1 h2=>?_,by simp[n.sz],?_,λb hb=>?_,n.fz⟩
 ·rw[az,xn hk,Vl,Vl,Yz (by simp[n.sz])];rfl
 ·by_cases hi:i<bs.length
  ·rw[U6 hi] at h1;rw[U6 (by rw[<-n.sz];exact hi)] at h2;have hm:=UZ h1;rw[ao (λz:b=a=>nd.1 (z▸hm)),ao (fI b (Uu _ hm))];exact n.hb i b q h1 h2
  ·have qZ:i=bs.length:=by
    have:=(UA.mp h1).1;simp at this;omega
   subst qZ;rw[WY] at h1;cases h1;rw[n.sz,WY] at h2;cases h2;rw[ao (Vv ha),az];rfl
 ·rw[Vk,Vd];refine⟨λz=>z.elim nd.1 λz=>ha (Ve.mp z),?_⟩;rw[VA];exact⟨nd.2,by simp,λx hx y hy z=>fI x (Uu _ hx) (by rw[z];exact Ve.mp hy)⟩
 ·rcases UD.mp hb with rfl | hb
  ·exact n.fr _ Uv
  ·rcases Vd.mp hb with hb | hb
   ·exact n.fr b (Uu _ hb)
   ·cases Ve.mp hb;exact⟨hF,hH⟩
def Nr.gar(n:Nr K t0 abJ G F H σ ρ ni a bs ps){p:Addr}(hp:H p=none):Nr K t0 abJ G F (upd H p (.dK [])) σ ρ ni a bs ps:=n.ext' (Ext.free n.st.fh hp)
end
def sN{X:Cx}{f8:List (Addr×Obj)}{σ:St}{s:Ux}:∀{bs:List Addr}{H:Hp},Inv X f8 σ H s->bs.Nodup->(∀b∈bs,∃kvs,H b=some (.dK kvs))->
 ∃H',Inv X f8 σ H' s/\(∀b∈bs,∀kvs,H b=some (.dK kvs)->∃ob,H' b=some (.frz ob (.dK kvs)))/\∀c,c∉bs->H' c=H c
 |[],H,I,_,_=>⟨H,I,λb hb=>(nomatch hb),λ_ _=>rfl⟩
 |b::bs,H,I,nd,h=>by
  obtain⟨kvs,e⟩:=h b Uv;have nd:=Vk.mp nd;obtain⟨H',I',h1,h2⟩:=sN (bs:=bs) (L3.Inv.refrz I e (o':= .frz _ (.dK kvs)) (.inr ⟨_,rfl, .inr ⟨_,rfl,rfl⟩⟩)) nd.2 λc hc=>by
   rw[ao (λz:c=b=>nd.1 (z▸hc))];exact h c (Uu _ hc)
  refine⟨H',I',λc hc Nd e'=>?_,λc hc=>?_⟩
  ·rcases UD.mp hc with rfl | hc
   ·rw[e] at e';cases e';exact⟨_,by rw[h2 _ nd.1,az]⟩
   ·exact h1 c hc Nd (by rw[ao (λz:c=b=>nd.1 (z▸hc))];exact e')
  ·rw[h2 c λz=>hc (Uu _ z),ao λz:c=b=>hc (z▸Uv)]
def FF(ks:List Key):ks.map (λk=>(k,V.bl true))=ks.zip (ks.map λ_=>V.bl true):=by
 induction ks with
 |nil=>rfl
 |cons k ks ih=>rw[Uz,Uz,VW,ih]
def DenL.trues{K:UJ}{F:Hp}:∀(ks:List Key),DenL K F (ks.map λ_=>D.bl true) (ks.map λ_=>V.bl true)
 |[]=>rfl
 |_::ks=> .cons rfl (DenL.trues ks)
def DenL.ins{K:UJ}{F:Hp}:∀{ps:oQ}{bs:List Addr},bs.length=ps.length->(∀(i:Nat) (b:Addr) (p:Key×List Key),bs[i]? =some b->ps[i]? =some p->Den K F (inD p.2) (.ref b))->DenL K F (ps.map λp=>inD p.2) (bs.map V.ref)
 |[],[],_,_=>rfl
 |p::ps,b::bs,hl,h=> .cons (h 0 b p rfl rfl) (DenL.ins (by simpa using hl) λi b' p' h1 h2=>h (i+1) b' p' (by simpa using h1) (by simpa using h2))
 |[],_::_,hl,_=>by simp at hl
 |_::_,[],hl,_=>by simp at hl
def Nr.fin{X:Cx}{f8:List (Addr×Obj)}{s:Ux}{t0 abJ G F H:Hp}{σ:St}{ρ:bC}{ni:Nat}{a:Addr}{bs:List Addr}{ps:oQ}(n:Nr X.K t0 abJ G F H σ ρ ni a bs ps)(I:Inv X f8 σ H s)(ok:vm ps=true):
 ∃F' H',Inv X f8 σ H' s/\StOk X.K t0 abJ F' H' σ (ρ.set ni (some (.fz (kB ps)))):=by
 obtain⟨R0,TY⟩:=WC.mp ok;have R0:=abC R0;obtain⟨H',I',h1,h2⟩:=sN I n.nd λb hb=>n.at hb
 let F':Hp:=λc=>if c∈a::bs then H' c else F c
 have f1:∀c,c∈a::bs->F' c=H' c:=λc hc=>abz hc;have f2:∀c,c∉a::bs->F' c=F c:=λc hc=>abA hc;have ff:Same F F':=λc u q=>by rw[f2 c λz=>by rw[(n.fr c z).1] at q;cases q];exact q
 have fh:Same F' H':=λc u q=>by
  by_cases z:c∈a::bs
  ·rw[f1 c z] at q;exact q
  ·rw[f2 c z] at q;rw[h2 c z];exact n.st.fh c u q
 have e:Ext t0 abJ F' H':=⟨λc u q=>by rw[h2 c λz=>by rw[(n.fr c z).2] at q;cases q];exact n.ext.hh c u q,n.ext.ff.trans ff,fh,λc hc=>by
  have z:c∉a::bs:=λz=>hc (n.fr c z).2;rw[f2 c z];exact n.ext.new c hc⟩
 have hd:Den X.K F' (kB ps) (.ref a):=by
  obtain⟨ob,JZ⟩:=h1 a Uv _ n.ha;refine⟨a,ob,bs.map V.ref,rfl,by rw[f1 a Uv];exact JZ,DenL.ins n.sz λi b p q1 q2=>?_,by simp,by simp;omega⟩;have hm:b∈a::bs:=Uu _ (UZ q1);obtain⟨TX,P5⟩:=h1 b hm _ (n.hb i b p q1 q2);have:=abC (UT.mp TY p (UZ q2));exact⟨b,TX,p.2.map λ_=>V.bl true,rfl,by rw[f1 b hm,P5,FF],DenL.trues _,by simp,by simp;omega⟩
 have Np:∀(i:Nat) (c:C),(ρ.set ni (some (.fz (kB ps))))[i]? ≠some (some (.ow c)):=λi c q=>by
  rcases get_set q with⟨_,z⟩ | ⟨_,q⟩
  ·cases z
  ·have:=UT.mp n.fz _ (UZ q);cases this
 refine⟨F',H',I',e,⟨fh,λi sl q=>?_⟩,by simp[n.len],λi c b q=>abE q (Np i c),λi j c c' b q=>abE q (Np i c)⟩;rcases get_set q with⟨rfl,z⟩ | ⟨_,q⟩
 ·cases z;exact⟨.ref a,n.near,hd⟩
 ·obtain⟨v,q1,q2⟩:=n.st.den i sl q;refine⟨v,q1,?_⟩;cases sl with
  |fz d=>exact Den.mono ff q2
  |ow c=>have:=UT.mp n.fz _ (UZ q);cases this
def zr{ps:oQ}{k:Key}(h:k∈ps.map (·.1)):uQ ps k=ps:=by
 unfold uQ;rw[abz (kP.mpr h)]
def Fc{ps:oQ}{k:Key}(h:k∉ps.map (·.1)):uQ ps k=ps++[(k,[])]:=by
 unfold uQ;rw[abA (λz=>h (kP.mp z))]
def E_{ρ:bC}{j:Nat}(h:∀sl,ρ[j]? ≠some (some sl)):ρ.set j none=ρ:=by
 refine abw λi=>?_;by_cases hi:i=j
 ·subst hi;by_cases hl:i<ρ.length
  ·rw[UQ hl];cases q:ρ[i]? with
   |none=>rw[X4] at q;omega
   |some x=>
    cases x with
    |none=>rfl
    |some sl=>exact abE q (h sl)
  ·rw[X4.mpr (by simp;omega),X4.mpr (by omega)]
 ·rw[UM (Vv hi)]
def zX{α:Type}{l:List α}{i:Nat}{d:α}(hd:l[i]? =some d):l.drop i=d::l.drop (i+1):=by
 obtain⟨hi,e⟩:=UA.mp hd;rw[Wx hi,e]
def Kv{ps:oQ}{i:Nat}{p:Key×List Key}(ok:vm ps=true)(h:ps[i]? =some p):p.2.length<lim:=abC (UT.mp (WC.mp ok).2 p (UZ h))
def G2{ps:oQ}(ok:vm ps=true):ps.length<lim:=abC (WC.mp ok).1
section
variable{X:Cx}{Xw:Nat->Hp->Prop}{D':Ends}{tc:DT}{δk δk2:DE}{δj:DA}{t0 abJ G:Hp}{ρ:bC}{ni ci mi oi:Nat}{a b:Addr}{bs:List Addr}{AQ ps:oQ}{J:It}{es ds:List D}{σ:St}{F H:Hp}
abbrev N_(X:Cx)(Xw:Nat->Hp->Prop)(tc:DT)(mi:Nat)(δk:DE):TS:=N8 (OR X.K Xw tc) (I_ (ky mi) (tD X.K Xw δk) (tC (.bl true))) Jd
def AB{i:Nat}{k:Key}(jN:oi≠ni)(OG:oi≠mi)(TJ:ρ.set oi none=ρ)(hi:bs[i]? =some b)(it:ItD X.K G J es)
 (fin:∀σ F H,Nr X.K t0 abJ G F H σ ρ ni a bs AQ->(AQ.map (·.1)).Nodup->D'.nx σ H)
 (n:Nr X.K t0 abJ G F H σ ρ ni a bs ps)(kn:(ps.map (·.1)).Nodup)(hm:σ[mi]? =some (some (.ref b)))(hk:∃p,ps[i]? =some p/\p.1=k)(w:kg oi tc δk k ρ es ps=aa AQ):
 ∃W:Nat->Nat->St->Hp->Prop,(∃m,W 0 m σ H)/\∀i m σ H,W i m σ H->(J.stop i H/\D'.nx σ H)\/(J.go i H/\∃N:St->Hp->Prop,(∀σ' H',N σ' H'->∃m',m'<m/\W (i+1) m' σ' H')/\∀x H',J.yld i H x H'->jL oi x σ H' λσ2 H2=>N_ X Xw tc mi δk {D' with nx:=N,ct:=N,bk:=D'.nx} σ2 H2):=by
 refine⟨λt m σ H=>m=es.length - t/\t<=es.length/\∃F ps,Nr X.K t0 abJ G F H σ ρ ni a bs ps/\(ps.map (·.1)).Nodup/\σ[mi]? =some (some (.ref b))/\(∃p,ps[i]? =some p/\p.1=k)/\kg oi tc δk k ρ (es.drop t) ps=aa AQ,⟨es.length,by simp,U3 _,F,ps,n,kn,hm,hk,by simpa using w⟩,?_⟩;rintro t m σ2 H2 ⟨rfl,J6,F2,CL,n2,Kq,IC,LK,w2⟩;by_cases cI:t<es.length
 ·obtain⟨d,hd⟩:∃d,es[t]? =some d:=⟨_,Us cI⟩
  obtain⟨Gs,tN⟩:=(it F2 H2 t n2.gf n2.st.fh).1 d hd;rw[zX hd] at w2;unfold kg at w2;obtain⟨bv,hb,w3⟩:=b0 w2;have hb:=oB hb;refine .inr ⟨Gs,λσ' H'=>∃F' ir,Nr X.K t0 abJ G F' H' σ' ρ ni a bs ir/\(ir.map (·.1)).Nodup/\σ'[mi]? =some (some (.ref b))/\(∃p,ir[i]? =some p/\p.1=k)/\kg oi tc δk k ρ (es.drop (t+1)) ir=aa AQ,
   λσ' H' ⟨F',ir,h⟩=>⟨es.length - (t+1),by omega,rfl,cI,F',ir,h⟩,λx H3 y3=>?_⟩
  obtain⟨F3,pf,q3⟩:=tN x H3 y3;have n4:=(n2.ext' pf).put jN q3;have P1:(σ2.set oi (some x))[mi]? =some (some (.ref b)):=by rw[UM OG];exact IC
  have back:∀{σ':St}{F' H':Hp}{ir:oQ},Nr X.K t0 abJ G F' H' σ' (ρ.set oi (some (.fz d))) ni a bs ir->Nr X.K t0 abJ G F' H' σ' ρ ni a bs ir:=λ{σ' F' H' ir} n=>by
   have:=n.fgt0 oi;rw[List.set_set,TJ] at this;exact this
  refine⟨F3,ρ.set oi (some (.fz d)),n4.st,?_⟩;rw[hb];intro H5 F5 e5;have n5:=n4.ext' e5;cases bv with
  |false=>exact⟨F5,CL,back n5,Kq,P1,LK,w3⟩
  |true=>
   obtain⟨kd,Gw,w4⟩:=b0 (show (noex (δk (ρ.set oi (some (.fz d))))>>=_)=aa AQ from w3);have Gw:=oB Gw;refine⟨.ref b,P1,F5,ρ.set oi (some (.fz d)),n5.st,?_⟩;rw[Gw];intro v H6 F6 e6 q6;cases hj:mj kd with
   |none=>rw[hj] at w4;exact(cV w4).elim
   |some j=>
    rw[hj] at w4;have w4:(if vm CL then kg oi tc δk k ρ (es.drop (t+1)) (oR CL k j) else af)=aa AQ:=w4;split at w4
    ·rename_i ok;obtain⟨p,hp,rfl⟩:=LK;have n6:=n5.ext' e6;have e1:=gw hj q6;subst e1;have hl:=Kv ok hp;have:=cR;refine⟨b,_,rfl,DPut.k (n6.hb i b p hi hp) (by rw[Ur];omega),F6,oR CL p.1 j,back (n6.add Kq hi hp j),by rw[vw];exact Kq,P1,?_,w4⟩;refine⟨(if p.1=p.1 then(p.1,if qY p.2 j then p.2 else p.2++[j]) else p),?_,by rw[abz rfl]⟩;unfold oR;rw[UG,hp];rfl
    ·exact(cV w4).elim
 ·have ht:t=es.length:=by omega
  subst ht;rw[XH] at w2;have:=b8 (show aa CL=aa AQ from w2);subst this;exact .inl ⟨(it F2 H2 es.length n2.gf n2.st.fh).2 (UB _),fin σ2 F2 H2 n2 Kq⟩
abbrev QS(X:Cx)(Xw:Nat->Hp->Prop)(tc:DT)(ni mi oi:Nat)(δk:DE)(δj:DA)(δk2:DE):TS:=Oc (N4 (Jc (ky ni) (tD X.K Xw δk) Fs) (jL mi)) (N7 (R7 X.K Xw δj) (jL oi) (N_ X Xw tc mi δk2))
def Ed(SI:ci≠ni)(RG:mi≠ni)(jN:oi≠ni)(SH:ci≠mi)(Rv:ci≠oi)(OG:oi≠mi)(ρc:ρ.set ci none=ρ)(ρm:ρ.set mi none=ρ)(ρo:ρ.set oi none=ρ)(BC:mi<ρ.length)(it:ItD X.K G J ds)
 (fin:∀σ F H bs,Nr X.K t0 abJ G F H σ ρ ni a bs AQ->D'.nx σ H)
 (n:Nr X.K t0 abJ G F H σ ρ ni a bs ps)(kn:(ps.map (·.1)).Nodup)(w:fN ci oi δk δj tc δk2 ρ ds ps=aa AQ):
 ∃W:Nat->Nat->St->Hp->Prop,(∃m,W 0 m σ H)/\∀i m σ H,W i m σ H->(J.stop i H/\D'.nx σ H)\/(J.go i H/\∃N:St->Hp->Prop,(∀σ' H',N σ' H'->∃m',m'<m/\W (i+1) m' σ' H')/\∀x H',J.yld i H x H'->jL ci x σ H' λσ2 H2=>QS X Xw tc ni mi oi δk δj δk2 {D' with nx:=N,ct:=N,bk:=D'.nx} σ2 H2):=by
 refine⟨λt m σ H=>m=ds.length - t/\t<=ds.length/\∃F ps bs,Nr X.K t0 abJ G F H σ ρ ni a bs ps/\(ps.map (·.1)).Nodup/\fN ci oi δk δj tc δk2 ρ (ds.drop t) ps=aa AQ,⟨ds.length,by simp,U3 _,F,ps,bs,n,kn,by simpa using w⟩,?_⟩;rintro t m σ2 H2 ⟨rfl,J6,F2,CL,L0,n2,Kq,w2⟩;by_cases cI:t<ds.length
 ·obtain⟨d,hd⟩:∃d,ds[t]? =some d:=⟨_,Us cI⟩
  obtain⟨Gs,tN⟩:=(it F2 H2 t n2.gf n2.st.fh).1 d hd;rw[zX hd] at w2;unfold fN at w2;obtain⟨kd,Gw,w3⟩:=b0 w2;have Gw:=oB Gw;cases hj:mj kd with
  |none=>rw[hj] at w3;exact(cV w3).elim
  |some k=>
  rw[hj] at w3;have w3:(if vm CL then noex (δj (ρ.set ci (some (.fz d))))>>=λes=>kg oi tc δk2 k (ρ.set ci (some (.fz d))) es (uQ CL k)>>=λir=>fN ci oi δk δj tc δk2 ρ (ds.drop (t+1)) ir else af)=aa AQ:=w3;by_cases ok:vm CL=true
  ·rw[abz ok] at w3;obtain⟨es,JR,w4⟩:=b0 w3;have JR:=oB JR;obtain⟨R1,h3,w5⟩:=b0 w4;refine .inr ⟨Gs,λσ' H'=>∃F' ir Jo,Nr X.K t0 abJ G F' H' σ' ρ ni a Jo ir/\(ir.map (·.1)).Nodup/\fN ci oi δk δj tc δk2 ρ (ds.drop (t+1)) ir=aa AQ,
    λσ' H' ⟨F',ir,Jo,h⟩=>⟨ds.length - (t+1),by omega,rfl,cI,F',ir,Jo,h⟩,λx H3 y3=>?_⟩
   obtain⟨F3,pf,q3⟩:=tN x H3 y3;have n4:=(n2.ext' pf).put SI q3;generalize M5:ρ.set ci (some (.fz d))=ρ1 at*;have ρ1m:ρ1.set mi none=ρ1:=by rw[<-M5,List.set_comm _ _ SH,ρm]
   have ρ1o:ρ1.set oi none=ρ1:=by rw[<-M5,List.set_comm _ _ Rv,ρo]
   have back:∀{σ':St}{G' F' H':Hp}{Jo:List Addr}{ir:oQ},Nr X.K t0 abJ G' F' H' σ' ρ1 ni a Jo ir->Nr X.K t0 abJ G' F' H' σ' ρ ni a Jo ir:=λ{σ' G' F' H' Jo ir} n=>by
    have:=n.fgt0 ci;rw[<-M5,List.set_set,ρc] at this;exact this
   refine⟨.ref a,n4.near,a,rfl, .inl ⟨_, .inl n4.ha⟩,F3,ρ1,n4.st,?_⟩;rw[Gw];intro v H5 F5 e5 q5;have e1:=gw hj q5;subst e1;have n5:=n4.ext' e5;intro p hp;have hsz:=G2 ok;have JU:=cR;refine⟨_,k,(n5.gar hp).ha,rfl,by rw[WE,Ur,Ur,n5.sz,aaP];omega,λv hv=>?_,λhn=>?_⟩
   ·have hz:=qM (ks:=CL.map (·.1)) (vs:=L0.map V.ref) k (by simp[n5.sz]);rw[hv] at hz;obtain⟨i,z1,z2⟩:=hz;obtain⟨pr,Tj,Ti⟩:=t8 z1;obtain⟨b,hb,rfl⟩:=t8 z2;rw[zr (UZ z1)] at h3;have n7:=(n5.gar hp).put0 RG (.ref b);rw[ρ1m] at n7;refine⟨F5,ρ1,n7.st,?_⟩;rw[JR];intro J' H8 F8 e8 Qu;have n8:=(n7.ext' e8).rg (Same.refl _);have hG:Same G F8:=(n7.ext' e8).gf;exact AB jN OG ρ1o hb Qu (λσ' F' H' n' Qv=>⟨F',R1,L0,back (n'.rg (hG.trans n'.gf)),Qv,w5⟩) n8 Kq (UQ (by rw[<-n4.len,<-M5];simpa using BC)) ⟨pr,Tj,Ti⟩ h3
   ·have hz:=qM (ks:=CL.map (·.1)) (vs:=L0.map V.ref) k (by simp[n5.sz]);rw[hn] at hz;rw[Fc hz] at h3;have n7:=(n5.new hp hn).put0 RG (.ref p);rw[ρ1m] at n7;refine⟨F5,ρ1,n7.st,?_⟩;rw[JR];intro J' H8 F8 e8 Qu;have n8:=(n7.ext' e8).rg (Same.refl _);have hG:Same G F8:=(n7.ext' e8).gf;refine AB (i:=L0.length) jN OG ρ1o WY Qu (λσ' F' H' n' Qv=>⟨F',R1,_,back (n'.rg (hG.trans n'.gf)),Qv,w5⟩) n8 ?_ (UQ (by rw[<-n4.len,<-M5];simpa using BC)) ⟨(k,[]),by rw[n5.sz];exact WY,rfl⟩ h3;rw[Vl,VA];exact⟨Kq,by simp,λx hx y hy z=>hz (by rw[z] at hx;cases Ve.mp hy;exact hx)⟩
  ·rw[abA ok] at w3;exact(cV w3).elim
 ·have ht:t=ds.length:=by omega
  subst ht;rw[XH] at w2;have:=b8 (show aa CL=aa AQ from w2);subst this;exact .inl ⟨(it F2 H2 ds.length n2.gf n2.st.fh).2 (UB _),fin σ2 F2 H2 L0 n2⟩
def ER{δi:DA}{QV QW iter D0 k1 k2 test:Expr}{x y:Str}{p q q2 apos De aL p1 p2 p3 p4 p5 p6 p7:Pos}{j0:Nat}(hp:aaz (model X.prog X.w) X.A X.env X.xe)(hc:X.calm=true)(hu:X.A.units+64<cLine)
 (hi:vi X Xw QV iter δi)(SR:PG X QV (jL ci))(hv:PE X (.Name x p) (ky ni))(hk:PD X Xw k1 δk)(m:M2 X (.Name x p) "setdefault" apos k1 (.Dict [] [] De) aL)(SW:PG X (.Name y q) (jL mi))
 (hj:vi X Xw QW D0 δj)(SS:PG X QW (jL oi))(ht:oP X Xw test tc)(Tw:PE X (.Name y q2) (ky mi))(LK:PD X Xw k2 δk2)
 (BC:X.N[mi]? =some y:=by rfl)
 (fI:[ni,ci,mi,oi].Nodup:=by decide)
 (hs:∀x,WN iter X.env x=pure x:=by intro _;rfl)(BD:∀x,WN D0 X.env x=pure x:=by intro _;rfl)
 (Tx:Zz [.Name y q] (.Call (.Attribute (.Name x p) "setdefault" apos) [k1, .Dict [] [] De] [] aL) p1.line X.env=pure false:=by rfl)
 (Tz:swappedStores [.Name y q] (.Call (.Attribute (.Name x p) "setdefault" apos) [k1, .Dict [] [] De] [] aL) X.env=pure none:=by rfl)
 (TB:(WQ [.Name y q] X.env).map (·.2)=[assign (.Name y q) X.env]:=by rfl)
 (M0:X6 (.Constant (.bool true) j0 p3) (some (.Subscript (.Name y q2) k2 p2)) p4.line X.env=pure false:=by rfl):
 gj X Xw (.For QV iter [.Assign [.Name y q] (.Call (.Attribute (.Name x p) "setdefault" apos) [k1, .Dict [] [] De] [] aL) p1,
  .For QW D0 [.If test [.Assign [.Subscript (.Name y q2) k2 p2] (.Constant (.bool true) j0 p3) p4] [] p5] [] p6] [] p7) (xA ni ci mi oi δi δk δj tc δk2):=λt0 abJ f8 sh σ H D I ⟨F,ρ,s,w⟩=>by
 have Tn:=zg (pos:=p7) hp hc hi SR (xl (mD (pos:=p1) (Hu hv hk (xh (pos:=De)) m) SW Tx Tz TB) (oH (zg (pos:=p6) hp hc hj SS (oH (I8 (pos:=p5) ht (oH (AR (by omega) Tw LK (IV (b:=true) (j:=j0) (pos:=p3)) M0)) AS)) BD))) hs;have MJ:=fI;simp only[Vk,UD,List.not_mem_nil,or_false,not_or] at MJ;obtain⟨⟨n1,n2,n3⟩,⟨n4,n5⟩,n6,_⟩:=MJ;unfold xA at w;split at w
 ·rename_i ho;have J0:=mx ho;obtain⟨u,Rq,a,o,rfl,SA,SD,vs,rfl,MZ,_,_⟩:=s.st.den ni _ J0;cases (show vs=[] from MZ);have h0:=s.own ni _ a J0 Rq;have s0:=s.fgt [ni,ci,mi,oi];have P3:(fgt [ni,ci,mi,oi] ρ).length=ρ.length:=by simp[fgt]
  have gn:∀j∈[ni,ci,mi,oi],(fgt [ni,ci,mi,oi] ρ).set j none=fgt [ni,ci,mi,oi] ρ:=λj hj=>E_ λsl q=>by
   have hj:j=ni\/j=ci\/j=mi\/j=oi:=by simpa using hj
   rcases get_set q with⟨_,z⟩ | ⟨h4,q⟩
   ·cases z
   rcases get_set q with⟨_,z⟩ | ⟨h3,q⟩
   ·cases z
   rcases get_set q with⟨_,z⟩ | ⟨h2,q⟩
   ·cases z
   rcases get_set q with⟨_,z⟩ | ⟨h1,q⟩
   ·cases z
   rcases hj with z | z | z | z
   ·exact h1 z
   ·exact h2 z
   ·exact h3 z
   ·exact h4 z
  generalize fgt [ni,ci,mi,oi] ρ=ρ0 at*;split at w
  ·rename_i SQ;rcases gW (δi ρ0) with q | ⟨ds,q,q'⟩
   ·rw[q] at w;exact w.elim
   rw[q'] at w;have w:WPS X.K Xw t0 abJ (noex (fN ci oi δk δj tc δk2 ρ0 ds [])>>=λps=>if vm ps then aa (.nx (ρ0.set ni (some (.fz (kB ps))))) else af) D:=w;rcases gW (fN ci oi δk δj tc δk2 ρ0 ds []) with q2 | ⟨ps,q2,T2⟩
   ·rw[q2] at w;exact w.elim
   rw[T2] at w;have w:WPS X.K Xw t0 abJ (if vm ps then aa (.nx (ρ0.set ni (some (.fz (kB ps))))) else af) D:=w;by_cases ok:vm ps=true
   ·rw[abz ok] at w;have TU:Nr X.K t0 abJ F F H σ ρ0 ni a [] []:=⟨s0.ext,Same.refl _,s0.st,s0.len,Rq,SA,λi b p z=>by simp at z,rfl,by simp,λb hb=>by
     cases Ve.mp hb;exact⟨SD,h0⟩,SQ⟩
    have hD:=Tn f8 sh σ H {D with nx:=λσ H=>∃F bs G,Nr X.K t0 abJ G F H σ ρ0 ni a bs ps} I ⟨F,ρ0,s0.st,by
     rw[q];intro J H1 F1 e1 it;have TQ:=(TU.ext' e1).rg (Same.refl _);exact Ed (Vv n1) (Vv n2) (Vv n3) n4 n5 (Vv n6) (gn ci (by simp)) (gn mi (by simp)) (gn oi (by simp)) (by rw[P3,s.len,I.len];exact(UA.mp BC).1) it (λσ F H bs n=>⟨F,bs,F1,n⟩) TQ (by simp) q2⟩
    refine bx hD λf s' hq=>?_;cases f with
    |next=>
     obtain⟨σ',H',I',F',bs,G,n⟩:=hq;obtain⟨F2,H2,I2,so⟩:=n.fin I' ok;exact⟨σ',H2,I2,w σ' F2 H2 so⟩
    |brk=>exact hq
    |cont=>exact hq
    |ret u=>exact hq
   ·rw[abA ok] at w;exact w.elim
  ·exact w.elim
 ·exact w.elim
end
def An:∀{us:List Value}{ns:List Int},us.length=ns.length->(∀(i:Nat) (u:Value) (n:Int),us[i]? =some u->ns[i]? =some n->∃t,u= .int n t)->V0 us ns
 |[],[],_,_=> .nil
 |u::us,n::ns,hl,h=>by
  obtain⟨t,rfl⟩:=h 0 u n rfl rfl;exact .cons n t (An (by simpa using hl) λi u n h1 h2=>h (i+1) u n (by simpa using h1) (by simpa using h2))
 |[],_::_,hl,_=>by simp at hl
 |_::_,[],hl,_=>by simp at hl
def NW:List V->Hp->VK->Prop:=λxs H Q=>∃p kvs ns,xs=[.ref p]/\Rd H p (.dK kvs)/\kvs.map (·.1)=ip ns/\ns.length<64/\∀q:Addr,H q=none->Q (.ref q) (upd H q (.lst ((cg ns).map V.int)))
section
variable{X:Cx}{Xw:Nat->Hp->Prop}{e:Expr}{δs:DA}{pos p:Pos}
def Bo(hc:X.calm=true):CallR X (.builtin "sorted") NW:=by
 intro f8 s σ H xs us Q I r h;obtain⟨a,kvs,ns,rfl,hH,yc,jM,q⟩:=h;obtain⟨u,rfl,r1⟩:=r.one;cases (show u=_ from r1);obtain⟨z,lo,vs,rel,dd⟩:=iD I.hok hH;obtain⟨ep,l6⟩:=dd.dictAt;have RL:vs.map (·.1)=ip ns:=rel.keys.symm.trans yc;have IG:vs.length=ns.length:=by
  have:=abG aa0 RL;simpa[ip] using this
 have nX:UR=16777216:=Wg;refine W7 aav Z3 Z4 (Z6 _) ?_;unfold XW.«sorted»;refine Uq (m:=checkCount "sorted" 1 1 _) (Uw (Uq (aay (A:=X.A.in1) (PySem.W.kdl_dict (knd:=aM X.prog X.w) (kvs:=vs) (ep:=ep) lo) (I.ok.hd hc) l6 (by rw[nX];omega) λh1 tk T0 wj gb=>?_)));have I1:Inv X f8 σ H {s with heap:=h1,toks:=tk}:=I.kept (t':=tk) λb ob e=>wj b ob e;have Dy:T0.toList.length=ns.length:=by rw[UL,<-IG];exact gb.1
 have hi:V0 T0.toList ns:=An Dy λi u n h1 h2=>by
  obtain⟨k,x,q1,q2⟩:=gb.2 i u (by rw[<-We];exact h1);have q3:(vs.map (·.1))[i]? =some k:=by rw[UG,q1];rfl
  rw[RL] at q3;have q4:(ip ns)[i]? =some (.inl n):=by unfold ip;rw[UG,h2];rfl
  rw[q4] at q3;cases q3;rcases br (show mZ (.inl n) u=true from q2) with⟨j,t,e1,e2⟩ | ⟨y,t,e1,_⟩
  ·cases e1;exact⟨t,e2⟩
  ·cases e1
 refine Uq (XZ ?_ (by rw[nX,Dy];omega));have Af:(h1.push (Vz "list" T0.toList.toArray 0)).get? h1.objs.size=some (Vz "list" T0.toList.toArray 0):=UO _ rfl;refine Uq (VT (Vq Zf ⟨_,Af,rfl⟩ YY (list_sort_tree (s:={s with heap:=h1.push (Vz "list" T0.toList.toArray 0),toks:=tk}) Af hi (by omega) λout FR a1 a2 a3=>⟨_,rfl,?_⟩) (Zi _)));have e:FR=cg ns:=lx (a2.trans (bJ ns).symm) a3 (fi ns);subst e;obtain⟨c,LI⟩:=sortedHeap_at (out:=out) Af;refine Uw ⟨_,rfl,⟨.ref h1.objs.size,_,I1.laid (a:=h1.objs.size) (t':=tk) (o:= .lst ((cg ns).map V.int)) (λb ob e=>?_) (UB _) ?_,rfl,q _ (I1.hok.fresh (UB _))⟩⟩
 ·have cI:=UE e;show (sortedHeap (h1.push (Vz "list" T0.toList.toArray 0)) h1.objs.size T0.toList out).get? b=some ob;rw[sortedHeap_old (UW cI) (by rw[Wb];exact WH cI)];exact Ut _ e
 ·exact⟨by rw[Ur,(bJ ns).length_eq,nX];omega,out.toList,c,jo a1,by simpa using LI⟩
def Fj:List D->M D
 |[.dci kk ds]=>match jO kk with
  |some ns=>if ns.length<64 then aa (.lst ((cg ns).map D.int)) else af
  |none=>af
 |_=>af
def Hk(hc:X.calm=true)(hg:Gl X "sorted")(hm:X.mg "sorted"=none)(hb:Vh "sorted"=some (.builtin "sorted"))(ha:kA X Xw [e] δs)(he:US [e] X.env=[(false,eval e X.env)]:=by rfl):PD X Xw (.Call (.Name "sorted" p) [e] [] pos) (dA Fj δs):=
 bR (Bo hc) (λXw F H vs ds Q s h w=>by
  unfold Fj at w;split at w
  ·rename_i kk ds;obtain⟨v,rfl,h1⟩:=h.one;obtain⟨a,ob,ws,rfl,h2,h3,h4,h5⟩:=h1;split at w
   ·rename_i ns CJ;split at w
    ·rename_i hok;exact⟨a,_,ns,rfl, .inr ⟨ob,s _ _ h2⟩,by rw[ie (by rw[h4];exact h3.len),pE CJ],hok,λq hq=>WP.fin w (Ext.lay s hq) ⟨q,_,rfl,az,jv,by rw[Ur,(bJ ns).length_eq];unfold lim;omega⟩⟩
    ·exact w.elim
   ·exact w.elim
  ·exact w.elim) hg hm hb ha (by decide) (by decide) he rfl
end
end L3
namespace L3
open PySem PySem.SetTable
def tM(m:Nat):SetTable:={mask:=m,place:= #[],dummies:= #[],finger:=0,led:=false,moves:=0,plain:=true}
def pos(m:Nat)(h:Int)(n:Nat):Nat:=(Q7 (tM m) n ((tM m).probeStart h)).j
end L3
namespace L3
open PySem PySem.Spec L2 SeqAt HT
open PyProof.Rows hiding St
end L3
namespace L3
open PySem PySem.Spec L2 PySem.W
open PyProof.Rows hiding St
section
variable{prog:Vf}{w:World}{A:Vw}{E:Value->Ux->Prop}{s:Ux}
def Ee{it d a:Addr}{od oa:Obj}{es:Array V9}{i ep:Nat}{e:V9}{ok ov:Value}{f:Bool}{Q:Option Value->Ux->Prop}(hit:KdxIt s.heap it d i es.size ep ok ov a f)(ha:s.heap.get? a=some oa)(Mp:a≠it)
 (kR:s.heap.get? d=some od)(fV:od.data= .dict es ep)(hx:es[i]? =some e)
 (hQ:∀h',KdxIt h' it d (i+1) es.size ep ok ov a true->h'.get? s.heap.objs.size=some {cls:= .type "tuple",data:= .seq #[e.key,e.val]}->h'.objs.size=s.heap.objs.size+1->
  (∀b o,b≠it->s.heap.get? b=some o->h'.get? b=some o)->Q (some (.ref s.heap.objs.size)) {s with heap:=h'}):
 wpAny (model prog w) A (Yi (.ref it)) Q E s:=by
 obtain⟨hp,g,dr,tk,os⟩:=s;have hT:YO ⟨hp,g,dr,tk,os⟩ (.ref it) "dict_itemiterator":=⟨_,hit,rfl⟩
 unfold Yi;refine Uq (YE (VU (name:=V8 "__next__") hT V1 (Vq V1 hT XO ?_ (XE _))));refine Uq (Uw (Uq (Uq ?_)))
 first | refine Uq (VY hT (Uw ?_)) | refine Uq (Wh hT (Uw ?_))
 refine Uq (Yo hit rfl ?_);have pC:VQ "dict_itemiterator"=true:=by decide
 simp only[pC,if_true];show wpAny _ _ (if (UX d==U7)=true then _ else _) _ _ _;rw[abA (show¬((UX d==U7)=true) from UU)];refine Uq (Uw (Uq (VH kR fV ?_)));rw[abA (by simp)];refine Uq (Uw (Uq (Wu kR fV ?_)));rw[abA (by simp)];refine Uw ?_;simp only[show¬((i:Int)<0) from by omega,if_false,WI,hx];refine Uq ?_
 first | refine Uq (VY hT (Uw ?_)) | refine Uq (Wh hT (Uw ?_))
 refine Uq (Ww hT ?_);show wpAny _ _ (aa5 (.ref it) 3 (XX ((i:Int)+1))>>=_) _ _ ⟨hp,g,dr,tk,os⟩;refine Uq (Wz hit (by simp) λh₁ DC DQ=>?_)
 replace DQ:V2 it hp h₁:=DQ
 replace DC:KdxIt h₁ it d (i+1) es.size ep ok ov a f:=by
  have e:((i+1:Nat):Int)=(i:Int)+1:=by omega
  unfold KdxIt;rw[e];simpa[XX] using DC
 have JM:YO ⟨h₁,g,dr,tk,os⟩ (.ref it) "dict_itemiterator":=⟨_,DC,rfl⟩
 refine Uq (VT (Uq (Ww JM (Uq (Ww JM ?_)))));show wpAny _ _ (Wk (.ref it) 6 e.key e.val) _ _ ⟨h₁,g,dr,tk,os⟩;unfold Wk;refine Uq (Ze ?_);have DD:KdxIt (h₁.push {cls:= .type "tuple",data:= .seq #[e.key,e.val]}) it d (i+1) es.size ep ok ov a f:=Ut _ DC;generalize Gu:h₁.push {cls:= .type "tuple",data:= .seq #[e.key,e.val]}=h₂ at DD;have GF:h₁.objs.size=hp.objs.size:=DQ.1;have FK:it<hp.objs.size:=UE hit;have Qg:h₂.get? hp.objs.size=some {cls:= .type "tuple",data:= .seq #[e.key,e.val]}:=by rw[<-Gu,<-GF];exact UO _ rfl
 have Qm:h₂.objs.size=hp.objs.size+1:=by rw[<-Gu,Wb,GF]
 have OC:∀b o,b≠it->hp.get? b=some o->h₂.get? b=some o:=λb o hb e=>by rw[<-Gu];exact Ut _ (DQ.extBut b o hb e)
 show wpAny _ _ (Wc (.ref it)>>=_) _ _ ⟨h₂,g,dr,tk,os⟩;rw[GF];clear Gu DC DQ JM GF h₁;refine Uq ?_;unfold Wc;refine Uq (WG DD rfl (x:=XX a) rfl ?_);show wpAny _ _ (loadIfAlive ((a:Int).toNat)>>=_) _ _ _;rw[WI];refine Uq (kdx_alive (OC a oa Mp ha) ?_);simp only[Option.isNone_some,Vj,if_false];refine Uq (WG DD rfl (x:= .bool f) rfl ?_);have fin:∀h₃:Heap,KdxIt h₃ it d (i+1) es.size ep ok ov a true->V2 it h₂ h₃->Q (some (.ref hp.objs.size)) ⟨h₃,g,dr,tk,os⟩:=λh₃ JS yI=>
  hQ h₃ JS (yI.extBut _ _ (Vs FK) Qg) (by show h₃.objs.size=hp.objs.size+1;rw[yI.1,Qm]) λb o hb e=>yI.extBut b o hb (OC b o hb e)
 cases f with
 |true=>
  rw[abA (show¬((WR true !=WR true)=true) from UU)];refine Uw ?_;simp only[Vj,if_false];exact Uw (Uw ⟨_,rfl,Uw (fin h₂ DD (YC _ _))⟩)
 |false=>
  rw[abz (show (WR false !=WR true)=true from rfl)];refine Uq (Wz DD (by simp) λh₃ JS yI=>Uw ?_);simp only[Vj,if_false];exact Uw (Uw ⟨_,rfl,Uw (fin h₃ JS yI)⟩)
def zZ{it d:Addr}{od:Obj}{es:Array V9}{i ep:Nat}{y0 y1 ok ov:Value}{Q:Option Value->Ux->Prop}(hh:A.handled=none)
 (hit:s.heap.get? it=some {cls:= .type "dict_itemiterator",dict:=none,data:= .fields #[y0,y1, .ref d, .int i 0, .int es.size 0, .int ep 0,ok,ov],slots:= #[]})(SU:es.size<=i)(kR:s.heap.get? d=some od)(fV:od.data= .dict es ep)
 (hQ:∀h',ZQ it s.heap h'->Q none {s with heap:=h'}):wpAny (model prog w) A (Yi (.ref it)) Q E s:=by
 have hT:s.TypeIs (.ref it) "dict_itemiterator":=⟨_,hit,rfl⟩
 unfold Yi;refine Uq (YE (VU (name:=V8 "__next__") hT V1 (Vq V1 hT XO ?_ (XE _))));refine Uq (Uw (Uq (Uq ?_)))
 first | refine Uq (VY hT (Uw ?_)) | refine Uq (Wh hT (Uw ?_))
 refine Uq (Yo hit rfl ?_);have pC:VQ "dict_itemiterator"=true:=by decide
 simp only[pC,if_true];show wpAny _ _ (if (UX d==U7)=true then _ else _) _ _ s;rw[abA (show¬((UX d==U7)=true) from UU)];refine Uq (Uw (Uq (VH kR fV ?_)));rw[abA (by simp)];refine Uq (Uw (Uq (Wu kR fV ?_)));rw[abA (by simp)];refine Uw ?_;simp only[show¬((i:Int)<0) from by omega,if_false,WI,aap SU];refine Uq ?_
 first | refine Uq (VY hT (Uw ?_)) | refine Uq (Wh hT (Uw ?_))
 show wpAny _ _ (aa5 (.ref it) 2 .none>>=_) _ _ s;refine Uq (aaG hit rfl (by simp) ?_);show wpAny _ _ (newExc (.type "StopIteration") []>>=_) _ _ _;refine Uq ?_;simp only[newExc,newTuple];refine Uq (U_ ?_ (by size_fits));refine Uq (m:=aaI _ _) (wpAny_of_eq (a:=U7) (by first | rfl | (simp only[aaI];rfl)) ?_);refine U_ ?_ (by size_fits);simp only[raiseNew];refine Uq (wpAny_handled ?_);rw[show A.in1.handled=none from hh];refine Uq (Uw (wpAny_throw ?_));refine Uq (aaa (T:="StopIteration") (b:=true) ⟨_,UO _ rfl,rfl⟩ isSubtype_stop ?_);exact Uw (hQ _ (((Vg ..).extBut.push _).push _))
def Prs(es:Array V9)(lo:Addr)(h:Heap)(n:Nat)(as:List Addr):Prop:=as.length=n/\as.Nodup/\∀(j:Nat) (a:Addr),as[j]? =some a->lo<a/\∃e,es[j]? =some e/\h.get? a=some {cls:= .type "tuple",data:= .seq #[e.key,e.val]}
def Prs.keep{es:Array V9}{lo RV:Addr}{h h':Heap}{n:Nat}{as:List Addr}(p:Prs es lo h n as)(hl:RV<=lo)(hk:∀b o,lo<b->h.get? b=some o->h'.get? b=some o):Prs es RV h' n as:=⟨p.1,p.2.1,λj a hj=>by
 obtain⟨h1,e,h2,h3⟩:=p.2.2 j a hj;exact⟨X3 hl h1,e,h2,hk a _ h1 h3⟩⟩
variable{R:Result->Ux->Prop}
def GK{S I d:Addr}{od:Obj}{es:Array V9}{ep:Nat}(hh:A.handled=none)(Mn:S<I)(Ov:d≠S)(Sx:d≠I)(fV:od.data= .dict es ep)(hn:es.size<=UR)(res:Value){h₁:Heap}
 (hR:∀h' tk T0 c as,(∀b o,b≠S->b≠I->h₁.get? b=some o->h'.get? b=some o)->h'.get? S=some {cls:= .type "list",dict:=none,data:= .seq T0 c,slots:= #[]}->Prs es I h' es.size as->T0.toList=as.map UX->R (.ok (.ret res)) {s with heap:=h',toks:=tk}):
 ∀(k i:Nat) (h:Heap) (tk c:Nat) (T0:Array Value) (as:List Addr),es.size - i=k->i<=es.size->KdxSt h I d S i es.size ep->h.get? d=some od->(∀b o,b≠S->b≠I->h₁.get? b=some o->h.get? b=some o)->
  h.get? S=some {cls:= .type "list",dict:=none,data:= .seq T0 c,slots:= #[]}->T0.toList=as.map UX->Prs es I h i as->I<h.objs.size->
  X9 (model prog w) A (.builtin "list.extend.loop" ⟨[.ref S, .ref I,res],[]⟩) R {s with heap:=h,toks:=tk}:=by
 have fI:S≠I:=UW Mn;intro k;induction k with
 |zero=>
  intro i h tk c T0 as hk hi wa hD kQ hS gb hP Oq;have mf:i=es.size:=by omega
  subst mf;refine Xy F.entry_extend_loop ?_;rw[Wy Xh _];show wpAny _ A.in1 (Yi (.ref I)>>=_) _ _ _;have last:∀h',ZQ I h h'->R (.ok (.ret res)) {s with heap:=h',toks:=tk}:=λh' he=>hR h' tk T0 c as (λb o h1 h2 e=>he b o h2 (kQ b o h1 h2 e)) (he S _ fI hS) (hP.keep (UB _) λb o hb e=>he b o (Vs hb) e) gb;rcases wa with⟨_,ok,ov,hit⟩ | ⟨ok,ov,a,f,oa,hit,_,_,_⟩
  ·rename_i e0;rw[<-e0] at hit;exact Uq (zZ (s:={s with heap:=h,toks:=tk}) (A:=A.in1) hh hit (UB _) hD fV λh' he=>Uw (last h' he))
  ·exact Uq (zZ (s:={s with heap:=h,toks:=tk}) (A:=A.in1) hh hit (UB _) hD fV λh' he=>Uw (last h' he))
 |succ k ih=>
  intro i h tk c T0 as hk hi wa hD kQ hS gb hP Oq;have cI:i<es.size:=by omega
  obtain⟨e,hx⟩:∃e,es[i]? =some e:=⟨es[i],Vn cI⟩
  have hsz:T0.size=i:=by rw[<-UL,gb,Ur,hP.1]
  have Ro:S<h.objs.size:=UE hS;refine Xy F.entry_extend_loop ?_;rw[Wy Xh _];show wpAny _ A.in1 (Yi (.ref I)>>=_) _ _ _;have go:∀h':Heap,KdxSt h' I d S (i+1) es.size ep->h'.get? h.objs.size=some {cls:= .type "tuple",data:= .seq #[e.key,e.val]}->(∀b o,b≠I->h.get? b=some o->h'.get? b=some o)->
   wpAny (model prog w) A.in1 (updateSeq S (·.push (UX h.objs.size))>>=λ_=>again (.builtin "list.extend.loop" ⟨[.ref S, .ref I,res],[]⟩)) (λfin s'=>match fin with | .done f=>R (.ok f) s' | .again c'=>c'.quiet=true/\X9 (model prog w) A c' R s') (λe s'=>R (.error e) s') {s with heap:=h',toks:=tk}:=λh' Qb ht OB=>by
   have CH:=OB S _ fI hS;have up:∀b o,b≠S->h'.get? b=some o->(h'.update S (Vm (·.push (UX h.objs.size)))).get? b=some o:=λb o hb e=>(Xu _ _ (Vv hb)).trans e;have MK:=up _ _ (Vs Ro) ht;refine Uq (aaq CH rfl (Uw ⟨X0 Xh _,ih (i+1) _ tk _ (T0.push (UX h.objs.size)) (as++[h.objs.size]) (by omega) cI (Qb.keep up (Vv fI)) (up d _ Ov (OB d _ Sx hD))
    (λb o h1 h2 e=>up b o h1 (OB b o h2 (kQ b o h1 h2 e))) (Wf _ CH rfl) (by rw[Array.toList_push,gb,Vl];rfl) ⟨by rw[UN,hP.1];rfl,?_,λj b hj=>?_⟩ (VG Oq (UE MK))⟩) (by rw[hsz];omega) (by show (T0.push (UX h.objs.size)).size<=UR+1;rw[Array.size_push,hsz];omega))
   ·refine VA.mpr ⟨hP.2.1,by simp,λa ha b hb z=>?_⟩;obtain⟨j,hj⟩:=YB.mp ha;obtain⟨_,e',_,h3⟩:=hP.2.2 j a hj;have:=UE h3;rw[z,Ve.mp hb] at this;exact Vc _ this
   by_cases JT:j<as.length
   ·rw[U6 JT] at hj;obtain⟨h1,e',h2,h3⟩:=hP.2.2 j b hj;exact⟨h1,e',h2,up b _ (Vs (VG Mn h1)) (OB b _ (Vs h1) h3)⟩
   ·rw[Vb (by omega)] at hj;by_cases h0:j - as.length=0
    ·rw[h0] at hj;cases hj;exact⟨Oq,e,by rw[show j=i by have:=hP.1;omega];exact hx,MK⟩
    ·rw[XC (by simp;omega)] at hj;cases hj
  rcases wa with⟨e0,ok,ov,hit⟩ | ⟨ok,ov,a,f,oa,hit,ha,Mp,SE⟩
  ·subst e0;refine Uq (next_item (s:={s with heap:=h,toks:=tk}) (A:=A.in1) hit hD fV hx λh' h1 h2 h3 h4=>?_);exact go h' (.inr ⟨e.key,e.val,_,false,_,h1,h2,Vs Oq,Vs Ro⟩) h2 h4
  ·refine Uq (Ee (s:={s with heap:=h,toks:=tk}) (A:=A.in1) hit ha Mp hD fV hx λh' h1 h2 h3 h4=>?_);exact go h' (.inr ⟨ok,ov,a,true,oa,h1,h4 a oa Mp ha,Mp,SE⟩) h2 h4
def BJ{r d:Addr}{od:Obj}{es:Array V9}{ep:Nat}(hh:A.handled=none)(hv:s.heap.IsItemsView r d)(kR:s.heap.get? d=some od)(fV:od.data= .dict es ep)(hn:es.size<=UR){S:Addr}(Sz:S≠r)(Ov:d≠S)(res:Value){c₀:Nat}(hS:s.heap.get? S=some {cls:= .type "list",data:= .seq #[] c₀})
 (hR:∀h' tk T0 c as,(∀b o,b≠S->s.heap.get? b=some o->h'.get? b=some o)->h'.get? S=some {cls:= .type "list",dict:=none,data:= .seq T0 c,slots:= #[]}->Prs es s.heap.objs.size h' es.size as->T0.toList=as.map UX->R (.ok (.ret res)) {s with heap:=h',toks:=tk}):
 wpAny (model prog w) A.in1 (Xv (.ref S) (.ref r) res)
  (λfin s'=>match fin with | .done f=>R (.ok f) s' | .again c'=>c'.quiet=true/\X9 (model prog w) A c' R s') (λe s'=>R (.error e) s') s:=by
 have Mn:S<s.heap.objs.size:=UE hS;have SJ:d<s.heap.objs.size:=UE kR;have key:∀(h:Heap) (c₁ tk:Nat),(∀b o,b≠S->(s.heap.push {cls:= .type "dict_itemiterator",data:= .fields #[.none, .bool false, .ref d, .int 0 0, .int es.size 0, .int ep 0, .none, .none]}).get? b=some o->h.get? b=some o)->
  h.get? S=some {cls:= .type "list",data:= .seq #[] c₁}->X9 (model prog w) A (.builtin "list.extend.loop" ⟨[.ref S, .ref s.heap.objs.size,res],[]⟩) R {s with heap:=h,toks:=tk}:=λh c₁ tk hk JL=>by
  have hI:=hk s.heap.objs.size _ (Vs Mn) (UO _ rfl);exact GK (s:=s) (h₁:=s.heap) hh Mn Ov (UW SJ) fV hn res (λh' Ua T0 c as q0 CH hP gb=>hR h' Ua T0 c as (λb o hb e=>q0 b o hb (UW (UE e)) e) CH hP gb)
   es.size 0 h tk c₁ #[] [] (Zv _) (U3 _) (.inl ⟨rfl, .none, .none,hI⟩) (hk d _ Ov (Ut _ kR)) (λb o hb _ e=>hk b o hb (Ut _ e)) JL rfl ⟨rfl,WU,λj a hj=>by simp at hj⟩ (UE hI)
 unfold Xv;refine Uq (Yh (T:="dict_items") hv.typeIs ?_);have h1:Zd (.ref S) (.ref r)=false:=by simp[Zd,Sz]
 have h2:(X_ "dict_items"==X_ "list")=false:=by decide
 have h3:(X_ "dict_items"==X_ "tuple")=false:=by decide
 simp only[h1,h2,h3,Bool.or_false,Vj,if_false];refine Uq (yN hv kR fV ?_);have JL:=Ut {cls:= .type "dict_itemiterator",data:= .fields #[.none, .bool false, .ref d, .int 0 0, .int es.size 0, .int ep 0, .none, .none]} hS;refine Uq (VT (kdx_hint (let ⟨o,ho,hc,_⟩:=hv;⟨o,Ut _ ho,hc⟩) ?_));refine wpAny_ite_split (λ_=>?_) (λ_=>Uw ⟨X0 Xh _,key _ c₀ _ (λb o _ e=>e) JL⟩);refine Uq (aaU (Uq ?_));show wpAny _ _ (updateSeq S (·.push .none)>>=λ_=>updateSeq S (·.pop)) _ _ _;refine Uq (aaq JL rfl ?_);have Rp:=Wf (Vm (·.push U7)) JL rfl;refine aaq (hz:=by seq_fits) Rp rfl ?_;exact Uw ⟨X0 Xh _,key _ _ _ (λb o hb e=>(Xu _ _ (Vv hb)).trans ((Xu _ _ (Vv hb)).trans e)) (Wf (Vm (·.pop)) Rp rfl)⟩
def yM{r d:Addr}{od:Obj}{es:Array V9}{ep:Nat}{C:List Value->Ux->Prop}(hh:A.handled=none)(hv:s.heap.IsItemsView r d)(kR:s.heap.get? d=some od)(fV:od.data= .dict es ep)(hn:es.size<=UR)
 (h:∀(h':Heap) (tk:Nat) (as:List Addr),(∀b o,s.heap.get? b=some o->h'.get? b=some o)->Prs es s.heap.objs.size h' es.size as->C (as.map UX) {s with heap:=h',toks:=tk}):
 wpAny (model prog w) A (collect (.ref r)) C E s:=by
 obtain⟨rv,RJ,Tp,RI⟩:=id hv;have hr:r<s.heap.objs.size:=UE RJ;have hd:d<s.heap.objs.size:=UE kR;unfold collect;refine Uq (wpAny_runValue (Xy entry_proto_collect' ?_));rw[Wy F.plain_proto_collect _];show wpAny _ A.in1 (newList []>>=λl=>again (.builtin "list.__iadd__" ⟨[l, .ref r],[]⟩)) _ _ s;refine Uq (U_ (Uw ⟨X0 F.plain_list_iadd _,Xy entry_list_iadd' ?_⟩));rw[Wy F.plain_list_iadd _];have JL:(s.heap.push {cls:= .type "list",data:= .seq ([]:List Value).toArray}).get? s.heap.objs.size=some {cls:= .type "list",data:= .seq #[]}:=UO _ rfl;show wpAny _ A.in1 (Xv (.ref s.heap.objs.size) (.ref r) (.ref s.heap.objs.size)) _ _ _;have fin:∀{Z:Prop}(q:Result) (s':Ux),(∃(h':Heap) (tk:Nat) (kD:Array Value) (c':Nat) (as:List Addr),q= .ok (.ret (.ref s.heap.objs.size))/\s'={s with heap:=h',toks:=tk}/\(∀b o,s.heap.get? b=some o->h'.get? b=some o)/\
  h'.get? s.heap.objs.size=some {cls:= .type "list",dict:=none,data:= .seq kD c',slots:= #[]}/\Prs es s.heap.objs.size h' es.size as/\kD.toList=as.map UX)->
  (∀(h':Heap) (tk:Nat) (kD:Array Value) (c':Nat),q= .ok (.ret (.ref s.heap.objs.size))->s'={s with heap:=h',toks:=tk}->h'.get? s.heap.objs.size=some {cls:= .type "list",dict:=none,data:= .seq kD c',slots:= #[]}->C kD.toList {s with heap:=h',toks:=tk}->Z)->Z:=λq s' ⟨h',tk,kD,c',as,e1,e2,hk,CH,hP,gb⟩ k=>k h' tk kD c' e1 e2 CH (by rw[gb];exact h h' tk as hk hP)
 refine VN (BJ (A:=A) (s:={s with heap:=s.heap.push {cls:= .type "list",data:= .seq ([]:List Value).toArray} })
  (R:=λ(q:Result) (s':Ux)=>∃(h':Heap) (tk:Nat) (kD:Array Value) (c':Nat) (as:List Addr),q= .ok (.ret (.ref s.heap.objs.size))/\s'={s with heap:=h',toks:=tk}/\(∀b o,s.heap.get? b=some o->h'.get? b=some o)/\
   h'.get? s.heap.objs.size=some {cls:= .type "list",dict:=none,data:= .seq kD c',slots:= #[]}/\Prs es s.heap.objs.size h' es.size as/\kD.toList=as.map UX)
  hh ⟨rv,Ut _ RJ,Tp,RI⟩ (Ut _ kR) fV hn (Vs hr) (UW hd) (.ref s.heap.objs.size) JL
  (λh' tk kD c' as hk CH hP gb=>⟨h',tk,kD,c',as,rfl,rfl,λb o e=>hk b o (UW (UE e)) (Ut _ e),CH,hP.keep (by show s.heap.objs.size<=(s.heap.push _).objs.size;rw[Wb];exact XU _) (λ_ _ _ e=>e),gb⟩)) (λfn s' x=>?_) λe s' x=>?_
 ·cases fn with
  |done f=>
   refine fin _ _ x λh' tk kD c' e1 e2 CH hC=>?_;cases e1;subst e2;show wpAny _ A (load s.heap.objs.size>>=_) _ _ _;exact Uq (wpAny_load CH (Uw hC))
  |again c₁=>
   refine⟨x.1,Z5 x.2 λq u8 y=>fin _ _ y λh' tk kD c' e1 e2 CH hC=>?_⟩;subst e1 e2;show wpAny _ A (load s.heap.objs.size>>=_) _ _ _;exact Uq (wpAny_load CH (Uw hC))
 ·obtain⟨_,_,_,_,_,e',_⟩:=x;cases e'
end
end L3
namespace L3
open PySem PySem.Spec L2 PySem.W SeqAt
open PyProof.Rows hiding St
section
variable{prog:Vf}{w:World}{A:Vw}{E:Value->Ux->Prop}{s:Ux}
def sW{R:Array Nat->Prop}{a:Addr}{c:Nat}{vs:List Value}{bt:Nat->Nat->Bool}{κ:SortKind}{P:PySem.Fin->Ux->Prop}{G:Heap->Prop}(ho:s.heap.get? a=some (Vz "list" vs.toArray c))(jM:vs.length<64)
 (Qa:2<=vs.length->PN vs.length (a6 bt (kas_sort vs.length))/\R (a6 bt (kas_sort vs.length)))(Tr:∀p,vs.length<2->R p)(hG:∀h',(∀b o,b≠a->s.heap.get? b=some o->h'.get? b=some o)->G h')
 (v9:∀(h':Heap) (Q:SortKind->Ux->Prop),G h'->2<=vs.length->Q κ {s with heap:=h'}->wpAny (model prog w) A (keyKind' vs.toArray) Q E {s with heap:=h'})
 (JO:∀(h':Heap),G h'->∀i j C,i<vs.length->j<vs.length->C (bt i j) {s with heap:=h'}->kas_ask prog w A κ vs i j C {s with heap:=h'})
 (h:∀(p:Array Nat) (h':Heap) (c':Nat),PN vs.length p->R p->h'.get? a=some (Vz "list" (Vr (p.toList.map λi=>vs.getD i U7)) c')->
  (∀b o,b≠a->s.heap.get? b=some o->h'.get? b=some o)->P (.done (.ret .none)) {s with heap:=h'}):wpAny (model prog w) A (XW.«list.sort» ⟨[.ref a],[]⟩) P E s:=by
 have nX:UR=16777216:=Wg;have s1:=Vg s.heap a (Vm λ_=>(#[]:Array Value));obtain⟨e1,ML⟩:∃e1,(s.heap.update a (Vm λ_=>(#[]:Array Value))).get? a=some (Vz "list" #[] e1):=⟨_,YX ho λ_=> #[]⟩
 have k1:∀b o,b≠a->s.heap.get? b=some o->(((s.heap.update a (Vm λ_=>(#[]:Array Value))).push (Vz "tuple" vs.toArray 0)).push (Vz "list" #[] 0)).get? b=some o:=λb o hb e=>
  Ut _ (Ut _ ((s1.2 b hb).trans e))
 have JY:=Ut (Vz "list" #[] 0) (Ut (Vz "tuple" vs.toArray 0) ML);have g3:=hG _ k1;have fin:∀(st:SortSt) (p:Array Nat),PN vs.length p->R p->(arrOf st).map (·.2)=Vr (p.toList.map λi=>vs.getD i U7)->aal st=none->
  wpAny (model prog w) A (do
   let touched:=(<-seqEpoch a) !=e1
   Zn (.ref a) λ_=>(arrOf st).map (·.2)
   if let some e:=aal st then rule "list.sort.comparison-raised";throw e
   if touched then rule "list.sort.modified";raiseError "ValueError" "list modified during sort"
   ret .none) P E {s with heap:=((s.heap.update a (Vm λ_=>(#[]:Array Value))).push (Vz "tuple" vs.toArray 0)).push (Vz "list" #[] 0)}:=λst p hp hr he hf=>by
  have hz:(Vr (p.toList.map λi=>vs.getD i U7)).size=vs.length:=by rw[UK,Ur,UL,hp.sz]
  rw[he,hf];refine Uq (aau JY rfl (Uq (ZC JY rfl ?_ (U3 _) (by rw[hz,nX];omega))));simp only[bne_self_eq_false,Vj,if_false];have s2:=Vg (((s.heap.update a (Vm λ_=>(#[]:Array Value))).push (Vz "tuple" vs.toArray 0)).push (Vz "list" #[] 0)) a (Vm λ_=>Vr (p.toList.map λi=>vs.getD i U7));exact Uw (h p _ _ hp hr (YX JY λ_=>Vr (p.toList.map λi=>vs.getD i U7)) λb o hb e=>(s2.2 b hb).trans (k1 b o hb e))
 rw[list_sort_plain];refine Uq (listItems_at ho rfl (Uq (ZC ho rfl (Uq (aau ML rfl ?_)) (by rw[UK,nX];omega) (U3 _))));refine Uq (Ze (Uq (XZ (VT ?_) (U3 _))) (by show vs.length<=_;rw[nX];omega));show wpAny (model prog w) A _ P E {s with heap:=((s.heap.update a (Vm λ_=>(#[]:Array Value))).push (Vz "tuple" vs.toArray 0)).push (Vz "list" #[] 0)}
 dsimp only
 by_cases hs:vs.toArray.size<2
 ·rw[abz hs,abz hs];have v_:vs.length<2:=by simpa using hs
  refine Uq (Uw (Uq (Uw ?_)));refine fin (SortSt.mk' general' (vs.toArray.zip vs.toArray) #[] 7 none) (Vr (UH vs.length)) ⟨by simp,λi hi=>?_,λi j hi hj _=>by omega⟩ (Tr _ v_) ?_ rfl
  ·rw[bU];simp[hi]
  ·show (vs.toArray.zip vs.toArray).map (·.2)=_;apply aby.mp;refine Xb (by simp) λi a1 a2=>?_;simp at a1;simp[a1]
 ·rw[abA hs,abA hs];have v_:2<=vs.length:=by
   have:¬vs.length<2:=by simpa using hs
   omega
  refine Uq (v9 _ _ g3 v_ ?_);obtain⟨r1,r2⟩:=Qa v_;have run:=kat_run (prog:=prog) (w:=w) (A:=A) (E:=E) (ks:=vs) (vs:=vs) (κ:=κ) (Q:=λst s'=>s'={s with heap:=((s.heap.update a (Vm λ_=>(#[]:Array Value))).push (Vz "tuple" vs.toArray 0)).push (Vz "list" #[] 0)}/\∃p,PN vs.length p/\R p/\(arrOf st).map (·.2)=Vr (p.toList.map λi=>vs.getD i U7)/\aal st=none)
   (G:=λp s'=>s'={s with heap:=((s.heap.update a (Vm λ_=>(#[]:Array Value))).push (Vz "tuple" vs.toArray 0)).push (Vz "list" #[] 0)}/\PN vs.length p/\R p) rfl v_ jM
   (λp lQ s' a1 a2 a3 a4=>⟨a4.1,p,a4.2.1,a4.2.2,kat_snds rfl a2,a3⟩)
   (wp_run (s:={s with heap:=((s.heap.update a (Vm λ_=>(#[]:Array Value))).push (Vz "tuple" vs.toArray 0)).push (Vz "list" #[] 0)}) (λi j C hi hj hC=>JO _ g3 i j C hi hj hC) (rH (by omega)) ⟨rfl,r1,r2⟩)
  refine Uq (VN run ?_ λ_ _ e=>e);rintro⟨⟨⟩,lQ⟩ s' ⟨rfl,p,a1,a2,a3,a4⟩;exact fin lQ p a1 a2 a3 a4
def Ff{a:Addr}{c:Nat}{vs:List Value}{bt:Nat->Nat->Bool}{κ:SortKind}{P:PySem.Fin->Ux->Prop}{G:Heap->Prop}(ho:s.heap.get? a=some (Vz "list" vs.toArray c))(jM:vs.length<64)
 (hb:2<=vs.length->Lt vs.length bt)(hG:∀h',(∀b o,b≠a->s.heap.get? b=some o->h'.get? b=some o)->G h')
 (v9:∀(h':Heap) (Q:SortKind->Ux->Prop),G h'->2<=vs.length->Q κ {s with heap:=h'}->wpAny (model prog w) A (keyKind' vs.toArray) Q E {s with heap:=h'})
 (JO:∀(h':Heap),G h'->∀i j C,i<vs.length->j<vs.length->C (bt i j) {s with heap:=h'}->kas_ask prog w A κ vs i j C {s with heap:=h'})
 (h:∀(p:Array Nat) (h':Heap) (c':Nat),PN vs.length p->Ri bt p vs.length->h'.get? a=some (Vz "list" (Vr (p.toList.map λi=>vs.getD i U7)) c')->
  (∀b o,b≠a->s.heap.get? b=some o->h'.get? b=some o)->P (.done (.ret .none)) {s with heap:=h'}):wpAny (model prog w) A (XW.«list.sort» ⟨[.ref a],[]⟩) P E s:=
 sW ho jM (λh2=>xK (hb h2) h2) (λp hl i j iu hj=>by omega) hG v9 JO h
def t6:∀a b:List Int,HT.lexLt a b=cj a b
 |[],[]=>rfl
 |[],_::_=>rfl
 |_::_,[]=>rfl
 |x::a,y::b=>by rw[HT.lexLt_cons,cj,t6 a b]
def ml(n m:Int):∀{k l:List Int},k.length=l.length->cj (k++[n]) (l++[m])=if k=l then decide (n<m) else cj k l
 |[],[],_=>by
  show (if n=m then false else decide (n<m))=decide (n<m);by_cases h:n=m
  ·rw[abz h,abD (by omega)]
  ·rw[abA h]
 |[],_::_,h=>by simp at h
 |_::_,[],h=>by simp at h
 |x::k,y::l,h=>by
  show (if x=y then cj (k++[n]) (l++[m]) else decide (x<y))=if x::k=y::l then decide (n<m) else if x=y then cj k l else decide (x<y)
  rw[ml n m (by simpa using h)];by_cases e:x=y
  ·subst e;rw[abz rfl,abz rfl];by_cases e2:k=l
   ·subst e2;rw[abz rfl,abz rfl]
   ·rw[abA e2,abA (λz=>e2 (abj z).2)]
  ·rw[abA e,abA e,abA (λz=>e (abj z).1)]
def CV{p p' b b':Addr}{k k':List Int}{n n':Int}{t t':Tok}{C:Bool->Ux->Prop}(hp:s.heap.get? p=some {cls:= .type "tuple",data:= .seq #[.ref b, .int n t]})(J3:s.heap.get? p'=some {cls:= .type "tuple",data:= .seq #[.ref b', .int n' t']})
 (heq:EqAt A s (.ref b) (.ref b') (decide (k=k')))(cI:∀(Q:Value->Ux->Prop),Q (.bool (cj k k')) s->wpAny (model prog w) A (VP .Lt (.ref b) (.ref b')) Q (λ_ _=>False) s)(hk:k.length=k'.length)(h:C (cj (k++[n]) (k'++[n'])) s):
 wpAny (model prog w) A (keyLt' (tuples' false) (.ref p) (.ref p')) C E s:=by
 rw[ml n n' hk] at h;refine kat_lt hp rfl J3 rfl (kat_cons (heq prog w _ _ ?_));by_cases e:k=k'
 ·rw[abz e] at h;rw[abB e];refine kat_yes (kat_cons (aac ?_));by_cases q:n=n'
  ·subst q;rw[show (n==n)=true by simp];refine kat_yes (kat_nil ?_);rw[abD (by omega)] at h;exact h
  ·rw[show (n==n')=false by simpa using q];exact kat_no (kat_one _ _ (Yk h))
 ·rw[abA e] at h;rw[abD e];exact kat_no (kat_one _ _ (cI _ h))
def pK{h:Heap}{p b:Nat->Addr}{v:Nat->Value}:∀(l:List Nat),(∀i∈l,h.get? (p i)=some {cls:= .type "tuple",data:= .seq #[.ref (b i),v i]})->KatTups h (l.map λi=> .ref (p i)) (l.map λi=> .ref (b i))
 |[],_=>KatTups.nil
 |i::l,hl=>KatTups.cons (hl i (Uv ..)) rfl rfl rfl (pK l λj hj=>hl j (Uu _ hj))
end
def nY(l:List (Addr×HO))(H:Hp):Hp:=l.foldl (λH p=>upd H p.1 p.2) H
def kY{b:Addr}:∀{l:List (Addr×HO)}{H:Hp},(∀p∈l,p.1≠b)->nY l H b=H b
 |[],_,_=>rfl
 |p::l,H,h=>by
  show nY l (upd H p.1 p.2) b=_;rw[kY λq hq=>h q (Uu _ hq),ao (Vv (h p (Uv ..)))]
def tZ:∀{l:List (Addr×HO)}{H:Hp}{p:Addr×HO},(l.map (·.1)).Nodup->p∈l->nY l H p.1=some p.2
 |q::l,H,p,hn,hp=>by
  rw[Uz] at hn;have hn:=Vk.mp hn;show nY l (upd H q.1 q.2) p.1=_;rcases UD.mp hp with rfl | hp
  ·rw[kY λr hr z=>hn.1 (UC.mpr ⟨r,hr,z⟩),az]
  ·exact tZ hn.2 hp
def vT:∀{l:List (Addr×HO)}{F H:Hp},Same F H->(l.map (·.1)).Nodup->(∀p∈l,H p.1=none)->Ext F H (nY l F) (nY l H)
 |[],_,_,h,_,_=>Ext.refl h
 |p::l,F,H,h,hn,hp=>by
  rw[Uz] at hn;have hn:=Vk.mp hn;have e:=Ext.lay (o:=p.2) h (hp p (Uv ..));exact e.trans (vT e.fh hn.2 λq hq=>by
   rw[ao (λz=>hn.1 (UC.mpr ⟨q,hq,z⟩))];exact hp q (Uu _ hq))
def DU{X:Cx}{f8:List (Addr×Obj)}{σ:St}{H:Hp}{s:Ux}{h':Heap}{t':Nat}{l:List (Addr×HO)}(I:Inv X f8 σ H s)(k:∀b u,s.heap.get? b=some u->h'.get? b=some u)(hn:(l.map (·.1)).Nodup)(hp:∀p∈l,s.heap.objs.size<=p.1)
 (new:∀p∈l,ObjOk X.prog X.w (nY l H) h' p.1 p.2):Inv X f8 σ (nY l H) {s with heap:=h',toks:=t'}:=by
 have out:∀b,b<s.heap.objs.size->nY l H b=H b:=λb hb=>kY λp hq z=>by
  have:=hp p hq;rw[z] at this;exact abE (U8 hb this) (Vc _)
 have old:∀b u,H b=some u->nY l H b=some u:=λb u e=>(out b (I.hok.lt e)).trans e;refine I.un ⟨λb u q _ _ _=>k b u q,λb u q _ _ _=>⟨u.slots,k b u q⟩,λb u q n _=>(out b (UE q)).trans n,λb u q _=>⟨u,k b u q⟩,λb xs q=>old b _ q,λb u xs q=>old b _ q,λb ps q=>⟨#[],by rw[old b _ q];simp⟩⟩ λb u e=>?_;by_cases hb:∃p∈l,p.1=b
 ·obtain⟨p,h1,rfl⟩:=hb;rw[tZ hn h1] at e;cases e;exact new p h1
 ·rw[kY λp hq z=>hb ⟨p,hq,z⟩] at e;exact(I.hok b u e).stay (λc v _ q=>k c v q) (λc q=>old c _ q) λc xs q=>old c _ q
def kz(kk:List (List Int))(ns:List Int):List (List Int):=List.zipWith (λk n=>k++[n]) kk ns
def AH:List Int->D
 |[a,b,n]=> .tup [.tup [.int a, .int b], .int n]
 |_=> .non
def mM:D->M D
 | .dct ks ds=>match d_ ks,nums ds with
   |some kk,some ns=>if kk.length=ns.length/\kk.all (λk=>decide (k.length=2))=true/\eS (kz kk ns)=true then aa (.lst ((sortI (kz kk ns)).map AH)) else af
   |_,_=>af
 |_=>af
def zx{kk:List (List Int)}{ns:List Int}(hl:kk.length=ns.length){i:Nat}(hi:i<kk.length):(kz kk ns).getD i []=kk.getD i []++[ns.getD i 0]:=by
 unfold kz;rw[Uy,List.getElem?_zipWith,Uy,Uy,Us hi,Us (by omega:i<ns.length)];rfl
def jw(n:Nat):∀(a b:List Int),nT (jH n) (a.map D.int) (b.map D.int)=some (decide (a=b))
 |[],[]=>rfl
 |[],_::_=>by simp[nT]
 |_::_,[]=>by simp[nT]
 |x::a,y::b=>by
  show (match jH n (.int x) (.int y),nT (jH n) (a.map D.int) (b.map D.int) with | some p,some q=>some (p&&q) | _,_=>none)=_;rw[jw n a b,show jH n (.int x) (.int y)=some (x==y) by cases n<;>rfl];show some ((x==y)&&decide (a=b))=_;congr 1;by_cases h1:x=y<;>by_cases h2:a=b<;>simp[h1,h2]
def A0{H:Hp}{b:Nat->Addr}{k:Nat->List Int}:∀(l:List Nat),(∀i∈l,H (b i)=some (.tup ((k i).map V.int)))->dI H (l.map λi=> .ref (b i)) (l.map k)
 |[],_=> .nil
 |i::l,h=> .cons ⟨b i,rfl,h i (Uv ..)⟩ (A0 l λj hj=>h j (Uu _ hj))
def xq{H:Hp}{b:Nat->Addr}{k:Nat->List Int}:∀{l:List Nat},dI H (l.map λi=> .ref (b i)) (l.map k)->∀i∈l,H (b i)=some (.tup ((k i).map V.int))
 |_::_, .cons ⟨a,e1,e2⟩ t,i,hi=>by
  rcases UD.mp hi with rfl | hi
  ·cases e1;exact e2
  ·exact xq t i hi
def vJ{K:UJ}{F:Hp}{g:Nat->D}{p:Nat->Addr}:∀(l:List Nat),(∀i∈l,Den K F (g i) (.ref (p i)))->DenL K F (l.map g) (l.map λi=> .ref (p i))
 |[],_=> .nil
 |i::l,h=> .cons (h i (Uv ..)) (vJ l λj hj=>h j (Uu _ hj))
def s8{p:Nat->Addr}:∀(l:List Nat),Vals (l.map λi=>V.ref (p i)) (l.map λi=>UX (p i))
 |[]=> .nil
 |i::l=> .cons rfl (s8 l)
section
variable{X:Cx}{Xw:Nat->Hp->Prop}{o:Expr}{δ:DE}{pos p apos aL:Pos}
def Ez(hc:X.calm=true)(hu:X.A.units+64<cLine)(hg:Gl X "sorted")(hm:X.mg "sorted"=none)(hb:Vh "sorted"=some (.builtin "sorted"))(ha:PD X Xw o δ)(fG:WA o "items" X.env (eval o X.env)=eval o X.env:=by rfl)(fH:(apos.endLine==aL.line)=true:=by rfl)
 (he:US [.Call (.Attribute o "items" apos) [] [] aL] X.env=[(false,eval (.Call (.Attribute o "items" apos) [] [] aL) X.env)]:=by rfl):
 PD X Xw (.Call (.Name "sorted" p) [.Call (.Attribute o "items" apos) [] [] aL] [] pos) (d1 mM δ):=λf8 s σ H Q I ⟨F,ρ,S,w⟩=>by
 have w:WP X.K Xw F H (δ ρ>>=mM) Q:=w;refine Xx (iM I hg hm hb ?_ (by decide) (by decide));refine Xg ?_ he rfl;rw[he];refine V5 (aa3 fG fH (bx (ha f8 s σ H _ I ⟨F,ρ,S,WP.bind w⟩) λu s1 ⟨v,H1,I1,r,F1,d,e1,q1,w1⟩=>?_));unfold mM at w1;split at w1
 ·rename_i ks ds;split at w1
  ·rename_i kk ns CJ Ae;split at w1
   ·rename_i hok;obtain⟨LL,Pd,hok⟩:=hok;obtain⟨a,ob,vs,rfl,h2,h3,h4,h5⟩:=q1;cases (show u=_ from r);obtain⟨es,ep,lo,ho,hx,hd,hsz,hk⟩:=Bv I1 (e1.fh _ _ h2);have MZ:=cQ Ae h3;subst MZ;have yc:=jz CJ;subst yc;have MM:=hok;unfold eS at hok;rw[UY,UY] at hok;have Ry:(kz kk ns).Nodup:=abC hok.1.1;have J6:(kz kk ns).length=kk.length:=by unfold kz;rw[List.length_zipWith];omega
    have jM:kk.length<64:=by rw[<-J6];exact abC hok.1.2
    have hn:es.size=kk.length:=by rw[hsz,WE,Ur,Ur];omega
    have nX:UR=16777216:=Wg;have hf:∀i,∃q:V9×Addr×Tok,i<kk.length->es[i]? =some q.1/\q.1.key= .ref q.2.1/\H1 q.2.1=some (.tup ((kk.getD i []).map V.int))/\q.1.val= .int (ns.getD i 0) q.2.2:=λi=>by
     by_cases hi:i<kk.length
     ·have qZ:i<ns.length:=by omega
      obtain⟨e,b,q1,q2,q3,t,q4⟩:=hk i (ip kk[i]) (.int ns[i]) (W9.mpr ⟨by rw[UG,Us hi];rfl,by rw[UG,Us qZ];rfl⟩);refine⟨(e,b,t),λ_=>⟨q1,q2,?_,?_⟩⟩
      ·rw[q3,Uy,Us hi];unfold ip;rw[U0];rfl
      ·rw[Uy,Us qZ];exact q4
     ·exact⟨(default,0,0),λz=>abE z hi⟩
    obtain⟨g,DG⟩:∃g:Nat->V9×Addr×Tok,∀i,i<kk.length->es[i]? =some (g i).1/\(g i).1.key= .ref (g i).2.1/\H1 (g i).2.1=some (.tup ((kk.getD i []).map V.int))/\(g i).1.val= .int (ns.getD i 0) (g i).2.2:=⟨λi=>X5 (hf i),λi hi=>Xp (hf i) hi⟩
    refine⟨"dict","dict.items",Wi,PySem.F.slot_dict_items,PySem.F.type_dict_items,⟨ob,ho,hx.1⟩,?_,Wo rfl (aaK (zC lo ho hx hd (WB ?_)))⟩
    ·rintro _ ⟨⟩;exact⟨ob,ho,hx.2.1⟩
    refine W7 aav Z3 Z4 (Z6 _) ?_;unfold XW.«sorted»;refine Uq (m:=checkCount "sorted" 1 1 _) (Uw (Uq (yM (A:=X.A.in1) (I1.ok.hd hc) ⟨_,UO _ rfl,rfl,rfl⟩ (Ut _ ho) hd (by rw[hn,nX];omega) λh1 tk as wj hP=>?_)));have keep:∀b u,s1.heap.get? b=some u->h1.get? b=some u:=λb u e=>wj b u (Ut _ e);have Dy:as.length=kk.length:=hP.1.trans hn;have LN:∀i,i<kk.length->s1.heap.objs.size<=as.getD i 0/\h1.get? (as.getD i 0)=some {cls:= .type "tuple",data:= .seq #[.ref (g i).2.1, .int (ns.getD i 0) (g i).2.2]}:=λi hi=>by
     have qZ:i<as.length:=by omega
     obtain⟨z1,e,z2,z3⟩:=hP.2.2 i as[i] (Us qZ);obtain⟨y1,y2,y3,y4⟩:=DG i hi;rw[y1] at z2;cases z2;rw[y2,y4] at z3;rw[show as.getD i 0=as[i] by rw[Uy,Us qZ];rfl];refine⟨?_,z3⟩;rw[Wb] at z1;exact Vt (Nat.lt_of_succ_lt z1)
    have IG:as.map UX=(UH kk.length).map λi=>UX (as.getD i 0):=by
     refine Xb (by simp[Dy]) λi a1 a2=>?_;have hi:i<as.length:=by simpa using a1
     rw[Wv,Wv,Za,Uy,Us hi];rfl
    rw[IG];have Ah:((UH kk.length).map λi=>UX (as.getD i 0)).length=kk.length:=by rw[Ur,Vi]
    have GA:∀i,i<kk.length->((UH kk.length).map λi=>UX (as.getD i 0)).getD i U7= .ref (as.getD i 0):=λi hi=>by
     rw[Uy,UG,Xd hi];rfl
    generalize hv:(UH kk.length).map (λi=>UX (as.getD i 0))=vals at Ah GA;have I2:Inv X f8 σ H1 {s1 with heap:=h1,toks:=tk}:=I1.kept keep;refine Uq (XZ ?_ (by rw[nX];omega));have Af:(h1.push (Vz "list" vals.toArray 0)).get? h1.objs.size=some (Vz "list" vals.toArray 0):=UO _ rfl;refine Uq (VT (Vq Zf ⟨_,Af,rfl⟩ YY (Ff (s:={s1 with heap:=h1.push (Vz "list" vals.toArray 0),toks:=tk}) (κ:=tuples' false) (bt:=λi j=>cj ((kz kk ns).getD i []) ((kz kk ns).getD j [])) (G:=λh'=>∀b o,h1.get? b=some o->h'.get? b=some o) Af (by omega) (λ_=>?_) (λh' kp b o e=>kp b o (UW (UE e)) (Ut _ e)) (λh' Q' gk JG hq=>?_) (λh' gk i j C hi hj hC=>?_) λP h' c' Ml hR DH kQ=>?_) (Zi _)))
    ·rw[Ah];exact⟨λi j k=>jC _ _ _,λi j=>eJ _ _,λi j hi hj iu=>gz _ _ λz=>iu (by
      rw[<-J6] at hi hj;rw[Uy,Uy,Us hi,Us hj] at z;exact wF Ry hi hj (by simpa using z))⟩
    ·have kt:=pK (h:=h') (p:=λi=>as.getD i 0) (b:=λi=>(g i).2.1) (v:=λi=> .int (ns.getD i 0) (g i).2.2) (UH kk.length) λi hi=>gk _ _ (LN i (UP.mp hi)).2;rw[hv] at kt;refine kat_kind (s:={s1 with heap:=h',toks:=tk}) (T:= .type "tuple") kt (by rw[Ur,Vi];omega) (λv LO=>?_) rfl hq;obtain⟨i,hi,rfl⟩:=UC.mp LO;obtain⟨us,ru,⟨ot,q1,q2,_⟩,_⟩:=I2.tuple (SqT.of (K:=X.K) (DG i (UP.mp hi)).2.2.1);have lk:Looks (model X.prog X.w) h' (typeOf (.ref (g i).2.1)) ot.cls:=(Looks.ld (gk _ _ q1)).andThen .now;rw[q2] at lk;exact lk
    ·rw[Ah] at hi hj;have I3:Inv X f8 σ H1 {s1 with heap:=h',toks:=tk}:=I2.kept gk;obtain⟨_,_,a3,_⟩:=DG i hi;obtain⟨_,_,b3,_⟩:=DG j hj;have li:(kk.getD i []).length=2:=abC (UT.mp Pd _ (by rw[Uy,Us hi];exact VM hi));have lj:(kk.getD j []).length=2:=abC (UT.mp Pd _ (by rw[Uy,Us hj];exact VM hj));have dn:∀{m:Nat}{b:Addr},(kk.getD m []).length=2->H1 b=some (.tup ((kk.getD m []).map V.int))->Den X.K H1 (tupI (kk.getD m [])) (.ref b):=λSs JG=>⟨_,_,rfl,JG,jv,by rw[Ur,Ss];decide⟩
     unfold kas_ask;rw[GA i hi,GA j hj];rw[zx LL hi,zx LL hj] at hC;refine CV (s:={s1 with heap:=h',toks:=tk}) (k:=kk.getD i []) (k':=kk.getD j []) (gk _ _ (LN i hi).2) (gk _ _ (LN j hj).2) ?_ (λQ' hq=>?_) (by rw[li,lj]) hC
     ·exact(pe I3 (Same.refl H1) 6 _ _ _ _ _ _ _ _ (by show X.A.units+1+1+6<cLine;omega) (dn li a3) (dn lj b3) rfl rfl (jw 5 _ _)).eq
     ·obtain⟨ui,r1,p1,_⟩:=I3.tuple (SqT.of (K:=X.K) a3);obtain⟨uj,r2,p2,_⟩:=I3.tuple (SqT.of (K:=X.K) b3);exact HT.lt_tupInts p1 p2 (by simpa using intsAre_of r1) (by simpa using intsAre_of r2) (by show X.A.units+1+1<cLine;omega) (by rw[t6];exact hq)
    ·rw[Ah] at Ml hR;have Gp:∀i∈P.toList,i<kk.length:=λi hi=>by
      obtain⟨j,hj,rfl⟩:=VS.mp hi;have LH:j<P.size:=by rw[UL] at hj;exact hj
      have:=Ml.lt j (by rw[Ml.sz] at LH;exact LH);rw[bU,Vn LH] at this;simpa using this
     have IF:=sX Ry (by rw[J6];exact Ml) (by rw[J6];exact hR);have OE:(((UH kk.length).map λi=>(as.getD i 0,HO.tup [.ref (g i).2.1, .int (ns.getD i 0)])).map (·.1)).Nodup:=by
      rw[U0];have:(UH kk.length).map ((·.1)∘λi=>(as.getD i 0,HO.tup [.ref (g i).2.1, .int (ns.getD i 0)]))=as:=by
       refine Xb (by simp[Dy]) λi a1 a2=>?_;rw[Wv,Za];show as.getD i 0=_;rw[Uy,Us a2];rfl
      rw[this];exact hP.2.1
     have mem:∀i,i<kk.length->(as.getD i 0,HO.tup [.ref (g i).2.1, .int (ns.getD i 0)])∈(UH kk.length).map λi=>(as.getD i 0,HO.tup [.ref (g i).2.1, .int (ns.getD i 0)]):=λi hi=>UC.mpr ⟨i,UP.mpr hi,rfl⟩;generalize hL:((UH kk.length).map λi=>(as.getD i 0,HO.tup [.ref (g i).2.1, .int (ns.getD i 0)]))=L at OE mem;have of:∀q∈L,∃i,i<kk.length/\q=(as.getD i 0,HO.tup [.ref (g i).2.1, .int (ns.getD i 0)]):=λq hq=>by
      rw[<-hL] at hq;obtain⟨i,hi,rfl⟩:=UC.mp hq;exact⟨i,UP.mp hi,rfl⟩
     have I4:Inv X f8 σ (nY L H1) {s1 with heap:=h1,toks:=tk}:=DU I1 keep OE (λq hq=>by obtain⟨i,hi,rfl⟩:=of q hq;exact(LN i hi).1) λq hq=>by
      obtain⟨i,hi,rfl⟩:=of q hq;exact⟨by rw[nX];show 2<=_;decide,[.ref (g i).2.1, .int (ns.getD i 0) (g i).2.2], .cons rfl (.cons ⟨_,rfl⟩ .nil),_,(LN i hi).2,rfl,_,rfl⟩
     have vk:nY L H1 h1.objs.size=none:=I4.hok.fresh (UB _);have I5:=I4.laid (h':=h') (a:=h1.objs.size) (t':=tk) (o:= .lst (P.toList.map λi=>V.ref (as.getD i 0))) (λb ob e=>kQ b ob (UW (UE e)) (Ut _ e)) (UB _) ⟨by rw[Ur,UL,Ml.sz,nX];omega,P.toList.map λi=>UX (as.getD i 0),c',s8 _,by
      rw[show (P.toList.map λi=>UX (as.getD i 0))=P.toList.map λi=>vals.getD i U7 from Vp λi hi=>(GA i (Gp i hi)).symm];exact DH⟩
     refine⟨_,rfl,Uw ⟨_,rfl,⟨.ref h1.objs.size,_,I5,rfl,?_⟩⟩⟩;obtain⟨F2,x2,r2⟩:=qu e1.fh (A0 (H:=H1) (b:=λi=>(g i).2.1) (k:=λi=>kk.getD i []) (UH kk.length) λi hi=>(DG i (UP.mp hi)).2.2.1);have x3:=vT (l:=L) x2.fh OE λq hq=>by obtain⟨i,hi,rfl⟩:=of q hq;exact I1.hok.fresh (LN i hi).1
     have x4:=Ext.lay (o:= .lst (P.toList.map λi=>V.ref (as.getD i 0))) x3.fh vk;refine WP.fin w1 (x2.trans (x3.trans x4)) ⟨h1.objs.size,_,rfl,az,?_,by rw[Ur,jE,J6];unfold lim;omega⟩;rw[<-IF,U0];refine vJ (g:=AH∘λi=>(kz kk ns).getD i []) (p:=λi=>as.getD i 0) P.toList λi hi=>?_;have hi:=Gp i hi;have li:(kk.getD i []).length=2:=abC (UT.mp Pd _ (by rw[Uy,Us hi];exact VM hi));show Den X.K _ (AH ((kz kk ns).getD i [])) _;rw[zx LL hi];have yD:=xq r2 i (UP.mpr hi);obtain⟨ka,kb,ek⟩:∃ka kb,kk.getD i []=[ka,kb]:=match kk.getD i [],li with | [ka,kb],_=>⟨ka,kb,rfl⟩
     rw[ek] at yD⊢;refine⟨as.getD i 0,[.ref (g i).2.1, .int (ns.getD i 0)],rfl,x4.ff _ _ (tZ OE (mem i hi)), .cons ⟨(g i).2.1,[.int ka, .int kb],rfl,x4.ff _ _ (x3.ff _ _ yD), .cons rfl (.cons rfl .nil),by show 2<=lim;decide⟩ (.cons rfl .nil),by show 2<=lim;decide⟩
   ·exact w1.elim
  ·exact w1.elim
 ·exact w1.elim
end
end L3
namespace L3
open PySem PySem.Spec L2
open PyProof.Rows hiding St
def AU{X:Cx}{Xw:Nat->Hp->Prop}{a b:Expr}{δa δb:DE}{pos:Pos}(ha:PD X Xw a δa)(hb:PD X Xw b δb)(hm:VF .In b=false:=by rfl):oP X Xw (.Compare a [.In] [b] pos) (eO (d2 (jK false) δa δb)):=e7 sC tP ha hb hm
end L3
namespace L3
open PySem PySem.W PyProof.Rows
section
variable{κ:Nat->List Int}{n:Nat}
abbrev bK(κ:Nat->List Int)(i j:Nat):Bool:=cj (κ i) (κ j)
def leK(κ:Nat->List Int)(i j:Nat):Prop:=κ i=κ j\/bK κ i j=true
def leK.tr{i j k:Nat}(h:leK κ i j)(h2:leK κ j k):leK κ i k:=by
 rcases h with h | h<;>rcases h2 with h2 | h2
 ·exact .inl (h.trans h2)
 ·exact .inr (by unfold bK at*;rw[h];exact h2)
 ·exact .inr (by unfold bK at*;rw[<-h2];exact h)
 ·exact .inr (jC _ _ _ h h2)
def leK.of{i j:Nat}(h:¬bK κ j i=true):leK κ i j:=by
 by_cases e:κ i=κ j
 ·exact .inl e
 ·rcases gz _ _ e with q | q
  ·exact .inr q
  ·exact abE q h
def leK.lt{i j:Nat}(h:bK κ i j=true):leK κ i j:= .inr h
def leK.anti{i j:Nat}(h:leK κ i j)(h2:leK κ j i):κ i=κ j:=by
 rcases h with h | h
 ·exact h
 ·rcases h2 with h2 | h2
  ·exact h2.symm
  ·have:=eJ _ _ h;unfold bK at h2;rw[h2] at this;cases this
def Rw(κ:Nat->List Int)(p:Array Nat)(k:Nat):Prop:=∀i j,i<j->j<k->leK κ (at' p i) (at' p j)
def Fw(κ:Nat->List Int)(p:Array Nat)(k:Nat):Prop:=∀i j,i<j->j<k->leK κ (at' p j) (at' p i)
def Rw.more{p:Array Nat}{k:Nat}(h:Rw κ p k)(h1:1<=k)(e:leK κ (at' p (k - 1)) (at' p k)):Rw κ p (k+1):=λi j iu hj=>by
 by_cases hk:j<k
 ·exact h i j iu hk
 ·have:j=k:=by omega
  subst this;by_cases hi:i=j - 1
  ·subst hi;exact e
  ·exact(h i (j - 1) (by omega) (by omega)).tr e
def Fw.more{p:Array Nat}{k:Nat}(h:Fw κ p k)(h1:1<=k)(e:leK κ (at' p k) (at' p (k - 1))):Fw κ p (k+1):=λi j iu hj=>by
 by_cases hk:j<k
 ·exact h i j iu hk
 ·have:j=k:=by omega
  subst this;by_cases hi:i=j - 1
  ·subst hi;exact e
  ·exact e.tr (h i (j - 1) (by omega) (by omega))
def CU{p:Array Nat}:∀(f k:Nat),1<=k->Rw κ p k->k<=a6 (bK κ) (kas_asc p f k)/\a6 (bK κ) (kas_asc p f k)<=k+f/\Rw κ p (a6 (bK κ) (kas_asc p f k))/\(a6 (bK κ) (kas_asc p f k)<k+f->bK κ (at' p (a6 (bK κ) (kas_asc p f k))) (at' p (a6 (bK κ) (kas_asc p f k) - 1))=true)
 |0,k,h1,h=>⟨UB _,UB _,h,λz=>abE z (Vc _)⟩
 |f+1,k,h1,h=>by
  have e:a6 (bK κ) (kas_asc p (f+1) k)=a6 (bK κ) (if bK κ (at' p k) (at' p (k - 1))=true then KasT.ret k else kas_asc p f (k+1)):=rfl;rw[e];by_cases hb:bK κ (at' p k) (at' p (k - 1))=true
  ·rw[abz hb];exact⟨UB _,by show k<=_;omega,h,λ_=>hb⟩
  ·rw[abA hb];obtain⟨a1,a2,a3,a4⟩:=CU f (k+1) (by omega) (h.more h1 (.of hb));exact⟨by omega,by omega,a3,λz=>a4 (by omega)⟩
def A1{p:Array Nat}{i m:Nat}(hm:m<=p.size)(k:Nat):at' (kas_rev p i m) k=if i<=k/\k<m then at' p (i+m - 1 - k) else at' p k:=by
 have e:=getElem?_mirror_all (xs:=p) (i:=i) hm k;rw[bU];show (((mirror p i m ((m - i) / 2))[k]?).getD 0)=_;rw[e];split
 ·rw[bU]
 ·rw[bU]
def PN.revs{p:Array Nat}(P:PN n p){i m:Nat}(hm:m<=n):PN n (kas_rev p i m):=by
 have ha:=A1 (p:=p) (i:=i) (m:=m) (by rw[P.sz];exact hm);refine⟨(mirror_size ..).trans P.sz,λa hi=>?_,λa b hi hj e=>?_⟩
 ·rw[ha];split
  ·exact P.lt _ (by omega)
  ·exact P.lt _ hi
 ·rw[ha,ha] at e;split at e<;>split at e
  ·have:=P.inj _ _ (by omega) (by omega) e;omega
  ·have:=P.inj _ _ (by omega) hj e;omega
  ·have:=P.inj _ _ hi (by omega) e;omega
  ·exact P.inj _ _ hi hj e
def Al(κ:Nat->List Int)(p:Array Nat)(k q:Nat):Prop:=q<k/\∀i,k - (q+1)<=i->i<k->κ (at' p i)=κ (at' p (k - 1))
def qx{p:Array Nat}(P:PN n p){k q:Nat}(hk:k<=n)(h:Al κ p k q)(i:Nat):κ (at' (kas_rev p (k - (q+1)) k) i)=κ (at' p i):=by
 rw[A1 (by rw[P.sz];exact hk)];split
 ·rename_i c;rw[h.2 _ (by have:=h.1;omega) (by have:=h.1;omega),h.2 i c.1 c.2]
 ·rfl
def leK.congr{i j i' j':Nat}(h:leK κ i j)(e1:κ i'=κ i)(e2:κ j'=κ j):leK κ i' j':=by
 unfold leK bK at*;rw[e1,e2];exact h
def Fw.keys{p p':Array Nat}{k:Nat}(h:Fw κ p k)(e:∀i,κ (at' p' i)=κ (at' p i)):Fw κ p' k:=λi j iu hj=>(h i j iu hj).congr (e j) (e i)
def tE:∀(f k q:Nat) {p:Array Nat},PN n p->1<=k->k+f<=n->Fw κ p k->Al κ p k q->∃p' m q',a6 (bK κ) (kas_desc f p k q)=(p',m,q')/\PN n p'/\1<=m/\m<=n/\Fw κ p' m/\Al κ p' m q'
 |0,k,q,p,P,h1,hn,h,ha=>⟨p,k,q,rfl,P,h1,by omega,h,ha⟩
 |f+1,k,q,p,P,h1,hn,h,ha=>by
  have e:a6 (bK κ) (kas_desc (f+1) p k q)=a6 (bK κ) (if bK κ (at' p k) (at' p (k - 1))=true then(if q>0 then kas_desc f (kas_rev p (k - (q+1)) k) (k+1) 0 else kas_desc f p (k+1) 0)
   else .ask (p.getD (k - 1) 0) (p.getD k 0) λd=>if d=true then .ret (p,k,q) else kas_desc f p (k+1) (q+1)):=rfl
  rw[e];by_cases hb:bK κ (at' p k) (at' p (k - 1))=true
  ·rw[abz hb];have Q8:∀p':Array Nat,Al κ p' (k+1) 0:=λp'=>⟨by omega,λi a b=>by rw[show i=k by omega];rfl⟩
   by_cases hq:q>0
   ·rw[abz hq];have hk:=qx P (by omega) ha;exact tE f (k+1) 0 (P.revs (by omega)) (by omega) (by omega) ((h.more h1 (.lt hb)).keys hk) (Q8 _)
   ·rw[abA hq];exact tE f (k+1) 0 P (by omega) (by omega) (h.more h1 (.lt hb)) (Q8 _)
  ·rw[abA hb];show∃p' m q',a6 (bK κ) (if bK κ (at' p (k - 1)) (at' p k)=true then KasT.ret (p,k,q) else kas_desc f p (k+1) (q+1))=(p',m,q')/\_;by_cases hd:bK κ (at' p (k - 1)) (at' p k)=true
   ·rw[abz hd];exact⟨p,k,q,rfl,P,h1,by omega,h,ha⟩
   ·rw[abA hd];have ee:κ (at' p k)=κ (at' p (k - 1)):=leK.anti (.of hd) (.of hb);refine tE f (k+1) (q+1) P (by omega) (by omega) (h.more h1 (.inl ee)) ⟨by have:=ha.1;omega,λi a b=>?_⟩;show _=κ (at' p k);by_cases hi:i=k
    ·rw[hi]
    ·rw[ee];exact ha.2 i (by omega) (by omega)
def Fw.rev{p:Array Nat}(P:PN n p){m:Nat}(hm:m<=n)(h:Fw κ p m):Rw κ (kas_rev p 0 m) m:=λi j iu hj=>by
 have ha:=zl (p:=p) (m:=m) (by rw[P.sz];exact hm);rw[ha,ha,abz (by omega),abz hj];exact h _ _ (by omega) (by omega)
def Fy{p:Array Nat}(P:PN n p){m:Nat}(h1:1<=m)(hm:m<=n)(h:Fw κ p m):∃k q,a6 (bK κ) (kas_tail3 m n p)=(k,q)/\PN n q/\1<=k/\k<=n/\Rw κ q k:=by
 unfold kas_tail3;rw[cb];obtain⟨a1,a2,a3,_⟩:=CU (p:=kas_rev p 0 m) (n - m) m h1 (Fw.rev P hm h);exact⟨_,_,rfl,P.rev hm,by omega,by omega,a3⟩
def zW{p:Array Nat}(P:PN n p){m:Nat}(h1:1<=m)(hm:m<n)(h:Fw κ p (m+1)):∃k q,a6 (bK κ) (kas_descPart m n p)=(k,q)/\PN n q/\1<=k/\k<=n/\Rw κ q k:=by
 unfold kas_descPart;rw[cb];obtain⟨p',m',q',e,P',c1,c2,F',A'⟩:=tE (n - (m+1)) (m+1) 0 P (by omega) (by omega) h ⟨by omega,λi a b=>by rw[show i=m by omega];rfl⟩;rw[e]
 dsimp only
 by_cases hq:q'>0
 ·rw[abz hq];exact Fy (P'.revs c2) c1 c2 (F'.keys (qx P' c2 A'))
 ·rw[abA hq];exact Fy P' c1 c2 F'
def F0{p:Array Nat}(P:PN n p)(h2:2<=n):∃k q,a6 (bK κ) (kas_count n p)=(k,q)/\PN n q/\1<=k/\k<=n/\Rw κ q k:=by
 unfold kas_count;rw[cb];obtain⟨a1,a2,a3,a4⟩:=CU (κ:=κ) (p:=p) (n - 1) 1 (UB _) (λi j iu hj=>by omega);generalize a6 (bK κ) (kas_asc p (n - 1) 1)=m at a1 a2 a3 a4;by_cases he:m=n
 ·subst he;rw[abz (by simp)];exact⟨m,p,rfl,P,by omega,UB _,a3⟩
 ·rw[abA (by simpa using he)];have hb:=a4 (by omega);by_cases hg:m>1
  ·rw[abz hg];show∃k q,a6 (bK κ) (if bK κ (p.getD 0 0) (p.getD (m - 1) 0)=true then KasT.ret (m,p) else kas_descPart m n (kas_rev p 0 m))=(k,q)/\_;by_cases h0:bK κ (p.getD 0 0) (p.getD (m - 1) 0)=true
   ·rw[abz h0];exact⟨m,p,rfl,P,by omega,by omega,a3⟩
   ·rw[abA h0];have el:κ (at' p 0)=κ (at' p (m - 1)):=leK.anti (a3 0 (m - 1) (by omega) (by omega)) (.of h0);have al:∀i,i<m->κ (at' p i)=κ (at' p (m - 1)):=λi hi=>by
     by_cases i0:i=0
     ·rw[i0];exact el
     ·by_cases i1:i=m - 1
      ·rw[i1]
      ·refine leK.anti (a3 i (m - 1) (by omega) (by omega)) ((leK.congr (a3 0 i (by omega) hi) el.symm rfl))
    have hk:=qx (κ:=κ) P (k:=m) (q:=m - 1) (by omega) ⟨by omega,λi _ hi=>al i hi⟩;rw[show m - (m - 1+1)=0 by omega] at hk;refine zW (P.rev (by omega)) (by omega) (by omega) (Fw.keys (p:=p) (λi j iu hj=>?_) hk);by_cases JT:j<m
    ·exact .inl ((al j JT).trans (al i (by omega)).symm)
    ·have:j=m:=by omega
     subst this;exact(leK.lt hb).congr rfl (al i iu)
  ·rw[abA hg];have hm:m=1:=by omega
   subst hm;refine zW P (by omega) (by omega) λi j iu hj=>?_;have hi:i=0:=by omega
   have hj:j=1:=by omega
   subst hi hj;exact .lt hb
def uE{p:Array Nat}{k:Nat}(h:Rw κ p k):∀(f l r:Nat),l<=r->r<=k->r - l<=f->(∀i,i<l->leK κ (at' p i) (at' p k))->(∀i,r<=i->i<k->leK κ (at' p k) (at' p i))->
 a6 (bK κ) (kas_place p k f l r)<=k/\(∀i,i<a6 (bK κ) (kas_place p k f l r)->leK κ (at' p i) (at' p k))/\∀i,a6 (bK κ) (kas_place p k f l r)<=i->i<k->leK κ (at' p k) (at' p i)
 |0,l,r,h1,h2,h3,h4,h5=>by
  have:r=l:=by omega
  subst this;exact⟨h2,h4,h5⟩
 |f+1,l,r,h1,h2,h3,h4,h5=>by
  unfold kas_place;by_cases ME:l>=r
  ·rw[abz ME];have:r=l:=by omega
   subst this;exact⟨h2,h4,h5⟩
  ·rw[abA ME];show a6 (bK κ) (if bK κ (at' p k) (at' p ((l+r) / 2))=true then kas_place p k f l ((l+r) / 2) else kas_place p k f ((l+r) / 2+1) r)<=k/\(∀i,i<a6 (bK κ) (if bK κ (at' p k) (at' p ((l+r) / 2))=true then kas_place p k f l ((l+r) / 2) else kas_place p k f ((l+r) / 2+1) r)->_)/\∀i,a6 (bK κ) (if bK κ (at' p k) (at' p ((l+r) / 2))=true then kas_place p k f l ((l+r) / 2) else kas_place p k f ((l+r) / 2+1) r)<=i->_;by_cases hb:bK κ (at' p k) (at' p ((l+r) / 2))=true
   ·rw[abz hb];refine uE h f l ((l+r) / 2) (by omega) (by omega) (by omega) h4 λi hi PU=>?_;by_cases e:i=(l+r) / 2
    ·rw[e];exact .lt hb
    ·exact(leK.lt hb).tr (h _ _ (by omega) PU)
   ·rw[abA hb];refine uE h f ((l+r) / 2+1) r (by omega) h2 (by omega) (λi hi=>?_) h5;by_cases e:i=(l+r) / 2
    ·rw[e];exact .of hb
    ·exact(h i ((l+r) / 2) (by omega) (by omega)).tr (.of hb)
def Im:∀(f:Nat) {p:Array Nat}{k:Nat},PN n p->k+f<=n->Rw κ p k->PN n (a6 (bK κ) (kas_bin f p k))/\Rw κ (a6 (bK κ) (kas_bin f p k)) (k+f)
 |0,p,k,P,_,h=>⟨P,h⟩
 |f+1,p,k,P,hn,h=>by
  have hk:k<n:=by omega
  unfold kas_bin;rw[cb];obtain⟨a1,a2,a3⟩:=uE h k 0 k (U3 _) (UB _) (by omega) (λi hi=>by omega) (λi h1 h2=>by omega);generalize a6 (bK κ) (kas_place p k k 0 k)=l at a1 a2 a3;have ha:=yj (p:=p) (k:=k) (l:=l) (by rw[P.sz];exact hk) a1;have hR:Rw κ (bubble p k (k - l)) (k+1):=λi j iu hj=>by
   rw[ha,ha];by_cases c1:i=l
   ·rw[abz c1,abA (by omega),abz ⟨by omega,by omega⟩];exact a3 _ (by omega) (by omega)
   ·rw[abA c1];by_cases c2:j=l
    ·rw[abz c2,abA (by omega)];exact a2 _ (by omega)
    ·rw[abA c2];by_cases c3:l<i/\i<=k
     ·rw[abz c3,abz ⟨by omega,by omega⟩];exact h _ _ (by omega) (by omega)
     ·rw[abA c3];by_cases c4:l<j/\j<=k
      ·rw[abz c4];exact h _ _ (by omega) (by omega)
      ·rw[abA c4];exact h _ _ iu (by omega)
  have:=Im f (P.bub hk a1) (by omega) hR;rw[show k+(f+1)=k+1+f by omega];exact this
def Lk(h2:2<=n):PN n (a6 (bK κ) (kas_sort n))/\Rw κ (a6 (bK κ) (kas_sort n)) n:=by
 have P0:PN n (Vr (UH n)):=by
  have e:∀i,i<n->at' (Vr (UH n)) i=i:=λi hi=>by rw[bU];simp[hi]
  exact⟨by simp,λi hi=>by rw[e i hi];exact hi,λi j hi hj z=>by rw[e i hi,e j hj] at z;exact z⟩
 unfold kas_sort;rw[cb];obtain⟨k,q,e,P,k1,kn,hR⟩:=F0 (κ:=κ) P0 h2;rw[e]
 dsimp only
 by_cases cI:k<n
 ·rw[abz cI];have:=Im (κ:=κ) (n - max k 1) (k:=max k 1) P (by omega) (by rw[show max k 1=k by omega];exact hR);rw[show max k 1+(n - max k 1)=n by omega] at this;exact this
 ·rw[abA cI];have:k=n:=by omega
  subst this;exact⟨P,hR⟩
end
end L3
namespace L3
open PySem PySem.Spec L2 PySem.W SeqAt
open PyProof.Rows hiding St
section
variable{e:Expr}{p:Pos}
def leL(a b:List Int):Prop:=a=b\/cj a b=true
def leL.tr{a b c:List Int}(h:leL a b)(h2:leL b c):leL a c:=by
 rcases h with rfl | h
 ·exact h2
 ·rcases h2 with rfl | h2
  ·exact .inr h
  ·exact .inr (jC _ _ _ h h2)
def leL.anti{a b:List Int}(h:leL a b)(h2:leL b a):a=b:=by
 rcases h with h | h
 ·exact h
 ·rcases h2 with h2 | h2
  ·exact h2.symm
  ·rw[eJ _ _ h] at h2;cases h2
def leL.of{a b:List Int}(h:¬cj b a=true):leL a b:=by
 by_cases e:a=b
 ·exact .inl e
 ·rcases gz _ _ e with q | q
  ·exact .inr q
  ·exact abE q h
def insI_perm(k:List Int):∀l,(insI k l).Perm (k::l)
 |[]=> .refl _
 |x::r=>by
  unfold insI;split
  ·exact .refl _
  ·exact((insI_perm k r).cons x).trans (.swap ..)
def sortI_perm:∀l,(sortI l).Perm l
 |[]=> .refl _
 |k::r=>(insI_perm k _).trans ((sortI_perm r).cons k)
def Am{k:List Int}:∀{l:List (List Int)},l.Pairwise leL->(insI k l).Pairwise leL
 |[],_=>aao _ _
 |x::r,h=>by
  have h:=U2.mp h;unfold insI;split
  ·rename_i q;refine U2.mpr ⟨λy hy=>?_,U2.mpr h⟩;rcases UD.mp hy with rfl | hy
   ·exact .inr q
   ·exact leL.tr (.inr q) (h.1 y hy)
  ·rename_i q;refine U2.mpr ⟨λy hy=>?_,Am h.2⟩;rcases kT.mp hy with rfl | hy
   ·exact .of q
   ·exact h.1 y hy
def lO:∀l,(sortI l).Pairwise leL
 |[]=> .nil
 |_::r=>Am (lO r)
def D6{a b:List (List Int)}(ha:a.Pairwise leL)(hb:b.Pairwise leL)(h:a.Perm b):a=b:=h.eq_of_pairwise (λ_ _ _ _=>leL.anti) ha hb
def xJ{a b:List (List Int)}(h:a.Perm b):sortI a=sortI b:=D6 (lO a) (lO b) ((sortI_perm a).trans (h.trans (sortI_perm b).symm))
def Hz{n:Nat}{p:Array Nat}(P:PN n p):p.toList.Perm (UH n):=by
 have hsz:p.toList.length=n:=by rw[UL];exact P.sz
 have l6:∀i (h:i<p.toList.length),p.toList[i]=at' p i:=λi h=>by
  have h':i<p.size:=by rw[UL] at h;exact h
  rw[bU,Vn h'];simp
 have hd:p.toList.Nodup:=List.nodup_iff_pairwise_ne.mpr (Wa.mpr λi j hi hj iu z=>by
  rw[l6 i hi,l6 j hj] at z;have:=P.inj i j (by omega) (by omega) z;omega)
 have hl:∀x∈p.toList,x<n:=λx hx=>by
  obtain⟨j,hj,rfl⟩:=VS.mp hx;rw[l6 j hj];exact P.lt j (by omega)
 exact(W3 hd XF).mpr λx=>⟨λh=>UP.mpr (hl x h),λh=>uD n _ hd hl hsz x (UP.mp h)⟩
def zw{ks:List (List Int)}{p:Array Nat}(P:PN ks.length p)(R:Rw (λi=>ks.getD i []) p ks.length):(p.toList.map λi=>ks.getD i [])=sortI ks:=by
 have hsz:p.toList.length=ks.length:=by rw[UL];exact P.sz
 have l6:∀i (h:i<p.toList.length),p.toList[i]=at' p i:=λi h=>by
  have h':i<p.size:=by rw[UL] at h;exact h
  rw[bU,Vn h'];simp
 refine D6 ?_ (lO ks) (((Hz P).map _).trans ?_)
 ·refine Wa.mpr λi j hi hj iu=>?_;rw[Ur] at hi hj;rw[Wv,Wv,l6 i hi,l6 j hj];exact R i j iu (by omega)
 ·refine .trans (.of_eq ?_) (sortI_perm ks).symm;refine Xb (by simp) λi a1 a2=>?_;rw[Wv,Za,Uy,Us a2];rfl
end
end L3
namespace L3
open PySem PySem.Spec L2 HT
open PyProof.Rows hiding St
def Nc:∀{kvs:List (Key×V)}{vs:List (Key×Value)},KV kvs vs->∀(i:Nat) (k:Key) (u:Value),vs[i]? =some (k,u)->∃y,kvs[i]? =some (k,y)/\RelV y u:=λ{kvs vs} r=>by
 unfold KV at r;induction r with
 |nil=>intro i k u h;cases h
 |cons h _ ih=>
  intro i k u e;cases i with
  |zero=>
   rw[Vx] at e;cases e;exact⟨_,by rw[Vx];exact abG some (Yl h.1 rfl),h.2⟩
  |succ i=>exact ih i k u e
def sx:D->M D
 | .dci _ ds=>match nums ds with
   |some ns=>if 0<ns.length then aa (.int (eQ ns)) else af
   |none=>af
 |_=>af
section
variable{X:Cx}{Xw:Nat->Hp->Prop}{o:Expr}{δ:DE}{pos p apos aL:Pos}
def Hi(hc:X.calm=true)(hg:Gl X "max")(hm:X.mg "max"=none)(hb:Vh "max"=some (.builtin "max"))(ha:PD X Xw o δ)(fG:WA o "values" X.env (eval o X.env)=eval o X.env:=by rfl)(fH:(apos.endLine==aL.line)=true:=by rfl)
 (he:US [.Call (.Attribute o "values" apos) [] [] aL] X.env=[(false,eval (.Call (.Attribute o "values" apos) [] [] aL) X.env)]:=by rfl):
 PD X Xw (.Call (.Name "max" p) [.Call (.Attribute o "values" apos) [] [] aL] [] pos) (d1 sx δ):=λf8 s σ H Q I ⟨F,ρ,S,w⟩=>by
 have w:WP X.K Xw F H (δ ρ>>=sx) Q:=w;refine Xx (iM I hg hm hb ?_ (by decide) (by decide));refine Xg ?_ he rfl;rw[he];refine V5 (aa3 fG fH (bx (ha f8 s σ H _ I ⟨F,ρ,S,WP.bind w⟩) λu s1 ⟨v,H1,I1,r,F1,d,e1,q1,w1⟩=>?_));unfold sx at w1;split at w1
 ·rename_i kk ds;split at w1
  ·rename_i ns Ae;split at w1
   ·rename_i h0;obtain⟨a,ob,ws,rfl,h2,h3,h4,h5⟩:=q1;cases (show u=_ from r);have MZ:=cQ Ae h3;subst MZ;obtain⟨z,lo,vs,rel,dd⟩:=iD I1.hok (.inr ⟨ob,e1.fh _ _ h2⟩);obtain⟨ep,l6⟩:=dd.dictAt;have FO:(ns.map V.int).length=ds.length:=h3.len.symm;have IG:vs.length=ns.length:=by
     rw[<-rel.length,WE,Ur];rw[Ur] at FO;omega
    have MY:∀(i:Nat) (u:Value),(∃k,vs[i]? =some (k,u))->∃t,u= .int (ns.getD i 0) t:=λi u ⟨k,h⟩=>by
     obtain⟨y,y1,y2⟩:=Nc rel i k u h;obtain⟨_,y3⟩:=W9.mp y1;rw[UG] at y3;cases hq:ns[i]? with
     |none=>rw[hq] at y3;cases y3
     |some n=>
      rw[hq] at y3;cases y3;obtain⟨t,rfl⟩:=y2;exact⟨t,by rw[Uy,hq];rfl⟩
    refine⟨"dict","dict.values",Wi,ZM,PySem.F.type_dict_values,dd.typeIs,dd.mapOf.noDict,method_meetsIn ZM PySem.F.entry_dict_values rfl (aaK ⟨rfl,dd.typeIs,PySem.F.args_dict_values_1 _,_,meets_dict_values (aM X.prog X.w) a lo,⟨vs,dd⟩,WB ?_⟩)⟩;have Mr:(s1.heap.push {cls:= .type "dict_values",data:= .fields #[.ref a]}).DictAt (aM X.prog X.w) a vs ep:=l6.at' λo e=>Ut _ e;refine call_max_walk (wpAny_pyIter_values (knd:=aM X.prog X.w) (d:=a) ⟨_,UO _ rfl,rfl,rfl⟩ Mr ?_);have cI:a<s1.heap.objs.size:=by obtain⟨o,_,ho,_⟩:=l6;exact UE ho
    have hsz:(s1.heap.push {cls:= .type "dict_values",data:= .fields #[.ref a]}).objs.size=s1.heap.objs.size+1:=Wb ..;obtain⟨g1,g2⟩:=argBest_gt (λi=>ns.getD i 0) (vs.length - 1);refine⟨_,_,_,_,_,_,_,rfl,Walks.dictValues (A:=X.A.in1) (I1.ok.hd hc) _ a (by rw[hsz];exact UW (WH cI)) vs ep,⟨⟨_,UO _ rfl,rfl,rfl⟩,Mr.at' λo e=>Ut _ e⟩,λc r9=>?_,by omega,CmpOf.ints_gt (λi=>ns.getD i 0) MY,λv h' tk hP hk=>?_⟩
    ·show c<((s1.heap.push _).push _).objs.size;rw[Wb,hsz];rcases UD.mp r9 with rfl | r9
     ·rw[hsz];exact XM _
     ·rw[Ve.mp r9];exact WH (WH cI)
    ·obtain⟨t,rfl⟩:=MY _ _ hP;have e:ns.getD (aa_ (λi j=>decide (ns.getD i 0>ns.getD j 0)) (vs.length - 1)) 0=eQ ns:=by
      obtain⟨m1,m2⟩:=gB h0;have hm:aa_ (λi j=>decide (ns.getD i 0>ns.getD j 0)) (vs.length - 1)<ns.length:=by omega
      refine YJ (m2 _ ?_) ?_
      ·rw[Uy,Us hm];exact VM hm
      ·obtain⟨j,hj,e⟩:=VL m1;have:=g2 j (by omega);rw[Uy (i:=j),Us hj] at this;rw[<-e];exact this
     rw[e];have keep:∀b o,s1.heap.get? b=some o->h'.get? b=some o:=λb o e=>by
      have hb:=UE e;refine hk b o (λhm=>?_) (Ut _ (Ut _ e));rw[Ve.mp hm,hsz] at hb;exact Vc _ (Nat.lt_of_succ_lt hb)
     exact⟨.int (eQ ns),H1,I1.kept keep,⟨t,rfl⟩,WP.now w1 e1.fh rfl⟩
   ·exact w1.elim
  ·exact w1.elim
 ·exact w1.elim
end
end L3
namespace L3
open PySem PySem.Spec L2
open PyProof.Rows hiding St
open PySem.W (kas_kind kas_ask Looks)
def ints_get{us:List Value}{ns:List Int}(h:V0 us ns):us.length=ns.length/\∀i (h1:i<us.length) (h2:i<ns.length),∃t,us[i]= .int ns[i] t:=by
 induction h with
 |nil=>exact⟨rfl,λi h1=>abE h1 (Nat.not_lt_zero _)⟩
 |cons n t _ ih=>
  refine⟨by rw[UI,UI,ih.1],λi h1 h2=>?_⟩;cases i with
  |zero=>exact⟨t,rfl⟩
  |succ i=>exact ih.2 i (Yx h1) (Yx h2)
section
open PySem.SeqAt
open PySem.AutoSeq1 (wpAny_loadPart')
open PySem.MeetsSeq PySem.MeetsSeq2 PySem.MeetsSeq3
def BS(l b:Addr)(items bg:Array Value)(n n2:Nat)(dd rX:Option Addr)(sl zu:Array (Option Value))(hsz:items.size=bg.size)(ns ms:List Int)(hi:V0 items.toList ns)(hj:V0 bg.toList ms)(k:Nat):
 ∀i:Nat,items.size - i=k->Meets (XW.«list.__eq__.loop» ⟨[.ref l, .ref b,XX i,XX 0],[]⟩)
  (λA R s=>s.heap.get? l=some {cls:= .type "list",dict:=dd,data:= .seq items n,slots:=sl}/\s.heap.get? b=some {cls:= .type "list",dict:=rX,data:= .seq bg n2,slots:=zu}/\
   R (.ok (.ret (.bool (HT.lexLt (ns.drop i) (ms.drop i))))) s):=by
 obtain⟨z1,g1⟩:=ints_get hi;obtain⟨z2,g2⟩:=ints_get hj;rw[UL] at z1 z2;induction k with
 |zero=>
  intro i hk prog w A R s h;obtain⟨hp,g,d,tk,os⟩:=s;obtain⟨hl,hb,h⟩:=h
  wp_walk using wpAny_loadPart' hl,wpAny_loadPart' hb
  have Oy:items[((i:Nat):Int).toNat]? =none:=by simp;omega
  have Oz:bg[((i:Nat):Int).toNat]? =none:=by simp;omega
  rw[aaB (by omega),aaB (by omega)] at h;rw[Oy,Oz]
  wp_walk using wpAny_loadPart' hl,wpAny_loadPart' hb
  show R (.ok (.ret (.bool (decide (items.size<bg.size))))) _;rw[hsz,abD (Vc _)];exact h
 |succ k ih=>
  intro i hk prog w A R s h;obtain⟨hp,g,d,tk,os⟩:=s;obtain⟨hl,hb,h⟩:=h
  wp_walk using wpAny_loadPart' hl,wpAny_loadPart' hb
  have cI:i<items.size:=by omega
  have MF:i<bg.size:=by omega
  have Oy:items[((i:Nat):Int).toNat]? =some items[i]:=by simp[cI]
  have Oz:bg[((i:Nat):Int).toNat]? =some bg[i]:=by simp[MF]
  have hc:((i:Int)+1)=((i+1:Nat):Int):=by push_cast;rfl
  obtain⟨t,e1⟩:=g1 i (by rw[UL];exact cI) (by omega);obtain⟨u,e2⟩:=g2 i (by rw[UL];exact MF) (by omega);rw[Array.getElem_toList] at e1 e2;have q1:i<ns.length:=by omega
  have q2:i<ms.length:=by omega
  rw[Wx q1,Wx q2,HT.lexLt_cons] at h;rw[Oy,Oz,e1,e2];obtain⟨e,he,DK⟩:=HT.eqAt_int A.in1 ⟨hp,g,d,tk,os⟩ ns[i] t ms[i] u;refine Uq (he prog w _ _ ?_);cases e with
  |true=>
   rw[abz (DK.mp rfl)] at h
   wp_walk
   rw[hc];exact⟨X0 plain_eq_loop _,Xy entry_eq_loop (by
    rw[Wy plain_eq_loop _];exact ih (i+1) (by omega) prog w A R _ ⟨hl,hb,h⟩)⟩
  |false=>
   rw[abA (λq=>abE (DK.mpr q) UU)] at h;have P9:=HT.rcLt_int A.in1 ⟨hp,g,d,tk,os⟩ ns[i] t ms[i] u prog w
   wp_walk using wpAny_loadPart' hl,wpAny_loadPart' hb
   rw[Oy,Oz,e1,e2]
   wp_walk using P9
   simpa using h
def t7(l b:Addr)(items bg:Array Value)(n n2:Nat)(dd rX:Option Addr)(sl zu:Array (Option Value))(hsz:items.size=bg.size)(ns ms:List Int)(hi:V0 items.toList ns)(hj:V0 bg.toList ms):
 Meets (XW.«list.__lt__» ⟨[.ref l, .ref b],[]⟩)
  (λA R s=>s.heap.get? l=some {cls:= .type "list",dict:=dd,data:= .seq items n,slots:=sl}/\s.heap.get? b=some {cls:= .type "list",dict:=rX,data:= .seq bg n2,slots:=zu}/\
   R (.ok (.ret (.bool (HT.lexLt ns ms)))) s):=by
 intro prog w A R s h;obtain⟨hp,g,d,tk,os⟩:=s;obtain⟨hl,hb,h⟩:=h;have f3:=AutoSeq1.sub_list_list
 wp_walk using wpAny_loadPart' hl,wpAny_loadPart' hb
 exact⟨X0 plain_eq_loop _,Xy entry_eq_loop (by
  rw[Wy plain_eq_loop _];exact BS l b items bg n n2 dd rX sl zu hsz ns ms hi hj _ 0 rfl prog w A R _ ⟨hl,hb,by simpa using h⟩)⟩
end
section
variable{prog:Vf}{w:World}{A:Vw}{E:Value->Ux->Prop}{s:Ux}
def tY{a b:Addr}{items bg:Array Value}{ns ms:List Int}{C:Bool->Ux->Prop}(hl:s.heap.IsList a items)(hb:s.heap.IsList b bg)(hsz:ns.length=ms.length)(hi:V0 items.toList ns)(hj:V0 bg.toList ms)(hu:A.units<cLine)(h:C (cj ns ms) s):
 wpAny (model prog w) A (keyLt' oneType' (.ref a) (.ref b)) C E s:=by
 obtain⟨⟨cls,dd,data,sl⟩,ho,hc,n,hd⟩:=id hl;obtain⟨⟨Jq,rX,data2,zu⟩,CK,yB,n2,hd2⟩:=id hb;simp only at hc hd yB hd2;subst hc hd yB hd2;have z1:=(ints_get hi).1;have z2:=(ints_get hj).1;rw[UL] at z1 z2;rw[keyLt'_oneType,oneLt'_eq];simp only[if_true];refine Uq (wpAny_cRoomFor hu ?_);refine Uq (wpAny_callSpecialIfBound?_slot ⟨_,ho,rfl⟩ aam (aaV aam ⟨_,ho,rfl⟩ PySem.F.entry_list_lt (PySem.F.args_list_lt_2 _ _) (t7 a b items bg n n2 dd rX sl zu (by omega) ns ms hi hj) ⟨ho,CK,?_⟩));rw[t6];exact Wq h
end
def gA(k:List Int):D:= .lst (k.map D.int)
def II:D->Option (List Int)
 | .lst ds=>nums ds
 |_=>none
def kc:List D->Option (List (List Int))
 |[]=>some []
 |d::ds=>match II d,kc ds with
  |some k,some ks=>some (k::ks)
  |_,_=>none
def Nv(ks:List (List Int)):Bool:=decide (ks.length<64)&&ks.all λk=>decide (k.length=(ks.headD []).length)
def xO:List D->M D
 |[.lst ds]=>match kc ds with
  |some ks=>if Nv ks then aa (.lst ((sortI ks).map gA)) else af
  |none=>af
 |_=>af
def iw(H:Hp):List V->List (List Int)->Prop:=Zk λv k=>∃a,v= .ref a/\H a=some (.lst (k.map V.int))
def sd{K:UJ}(hs:Same F H):∀{ds:List D}{vs:List V}{ks:List (List Int)},kc ds=some ks->DenL K F ds vs->iw H vs ks/\iw F vs ks/\∀k∈ks,k.length<=lim
 |[],_,_,e,h=>by cases e;cases (show _=_ from h);exact⟨.nil, .nil,λk hk=>by cases hk⟩
 |d::ds,_,_,e,⟨v,r,h1,h2,h3⟩=>by
  subst h1;unfold kc at e;split at e
  ·rename_i k ks e1 e2;cases e;obtain⟨Qq,Qr,TK⟩:=sd hs e2 h3;cases d with
   |lst es=>
    obtain⟨a,ws,rfl,k2,k3,k4⟩:=h2;have:=cQ e1 k3;subst this;refine⟨.cons ⟨a,rfl,hs _ _ k2⟩ Qq, .cons ⟨a,rfl,k2⟩ Qr,λq hq=>?_⟩;rcases UD.mp hq with rfl | hq
    ·rw[k3.len,Ur] at k4;exact k4
    ·exact TK q hq
   |_=>cases e1
  ·cases e
def sO{K:UJ}:∀{ws:List V}{ks:List (List Int)},iw F ws ks->(∀k∈ks,k.length<=lim)->DenL K F (ks.map gA) ws
 |_,_, .nil,_=>rfl
 |_,_, .cons (b:=k) h t,hl=>by
  obtain⟨a,rfl,h⟩:=h;exact .cons ⟨a,_,rfl,h,DenL.ints k,by rw[Ur];exact hl k (Uv ..)⟩ (sO t λk hk=>hl k (Uu _ hk))
def mG:∀{vs:List V}{ks:List (List Int)}{i:Nat},iw H vs ks->i<vs.length->∃a,vs.getD i .non= .ref a/\H a=some (.lst ((ks.getD i []).map V.int))
 |_,_,i, .nil,hi=>by simp at hi
 |_,_,0, .cons h t,_=>h
 |_,_,i+1, .cons h t,hi=>mG (i:=i) t (by simpa using hi)
def mH:∀{vs:List V}{ks:List (List Int)},iw H vs ks->vs.length=ks.length
 |_,_, .nil=>rfl
 |_,_, .cons h t=>by rw[UI,UI,mH t]
def qt(h:iw H vs ks):∀{is:List Nat},(∀i∈is,i<vs.length)->iw H (is.map λi=>vs.getD i .non) (is.map λi=>ks.getD i [])
 |[],_=> .nil
 |i::is,hi=> .cons (mG h (hi i (Uv ..))) (qt h λj hj=>hi j (Uu _ hj))
def NX(K:UJ):List V->Hp->VK->Prop:=λxs H Q=>∃p vs ks,xs=[.ref p]/\SqL K H p vs/\iw H vs ks/\Nv ks=true/\∀(q:Addr) (is:List Nat),H q=none->(∀i∈is,i<vs.length)->is.length=vs.length->(is.map λi=>ks.getD i [])=sortI ks->Q (.ref q) (upd H q (.lst (is.map λi=>vs.getD i .non)))
section
variable{X:Cx}{Xw:Nat->Hp->Prop}{e:Expr}{δs:DA}{pos p:Pos}
def Bp(hu:X.A.units+64<cLine):CallR X (.builtin "sorted") (NX X.K):=by
 intro f8 s σ H xs us Q I r h;obtain⟨a,vs,ks,rfl,hq,hr,hk,q⟩:=h;obtain⟨u,rfl,r1⟩:=r.one;cases (show u=_ from r1);obtain⟨aD,rv,pl,hz⟩:=I.list hq;unfold Nv at hk;rw[UY] at hk;have jM:ks.length<64:=abC hk.1;have IE:∀i,i<ks.length->(ks.getD i []).length=(ks.headD []).length:=λi hi=>abC (UT.mp hk.2 _ (by rw[Uy,Us hi];exact VM hi));have FO:=mH hr;have v_:=rv.length;have nX:UR=16777216:=Wg;refine W7 aav Z3 Z4 (Z6 _) ?_;unfold XW.«sorted»;refine Uq (Uw (Uq (collect_list pl.isList (Uq (XZ ?_ (by rw[nX];omega))) (by rw[nX];omega))));have hsz:((s.heap.push (Vz "list" #[] 0)).update s.heap.objs.size (Vm (· ++aD.toArray))).objs.size=s.heap.objs.size+1:=by rw[Heap.size_update,size_push']
 have keep:∀b o,s.heap.get? b=some o->(((s.heap.push (Vz "list" #[] 0)).update s.heap.objs.size (Vm (· ++aD.toArray))).push (Vz "list" aD.toArray 0)).get? b=some o:=λb o e=>by
  have cI:=UE e;exact Ut _ ((Heap.get?_update_ne _ _ _ _ (UW cI)).trans (Ut _ e))
 have Af:(((s.heap.push (Vz "list" #[] 0)).update s.heap.objs.size (Vm (· ++aD.toArray))).push (Vz "list" aD.toArray 0)).get? (s.heap.objs.size+1)=some (Vz "list" aD.toArray 0):=by
  rw[<-hsz];exact UO _ rfl
 show wpAny _ _ _ _ _ {s with heap:=((s.heap.push (Vz "list" #[] 0)).update s.heap.objs.size (Vm (· ++aD.toArray))).push (Vz "list" aD.toArray 0)};rw[hsz];have lk:∀(h':Heap),(∀b o,s.heap.get? b=some o->h'.get? b=some o)->∀i,i<aD.length->∃(b:Addr) (us:List Value),aD.getD i U7= .ref b/\h'.IsList b us.toArray/\V0 us (ks.getD i []):=λh' q0 i hi=>by
  obtain⟨b,e1,e2⟩:=mG hr (i:=i) (by omega);have rr:=jG i rv (by omega);rw[e1] at rr;obtain⟨us,ru,T1,_⟩:=I.list (SqL.of (K:=X.K) e2);refine⟨b,us,(show aD.getD i U7= .ref b from rr),?_,intsAre_of ru⟩;obtain⟨o,ho,rest⟩:=T1.isList;exact⟨o,q0 _ _ ho,rest⟩
 refine Uq (VT (Vq Zf ⟨_,Af,rfl⟩ YY (sW (s:={s with heap:=((s.heap.push (Vz "list" #[] 0)).update s.heap.objs.size (Vm (· ++aD.toArray))).push (Vz "list" aD.toArray 0)}) (R:=λp=>Rw (λi=>ks.getD i []) p aD.length) (κ:=oneType') (bt:=bK λi=>ks.getD i []) (G:=λh'=>∀b o,s.heap.get? b=some o->h'.get? b=some o) Af (by omega) (λh2=>Lk h2) (λp hl=>λi j iu hj=>by omega) (λh' k b o e=>k b o (UW (WH (UE e))) (keep b o e)) (λh' Q' g h2 J4=>?_) (λh' g i j C hi hj hC=>?_) λP h' c' hP hR DH kQ=>?_) (Zi _)))
 ·refine kas_kind (T:= .type "list") h2 (λv hv=>?_) rfl rfl J4;obtain⟨i,hi,rfl⟩:=VL hv;obtain⟨b,us,e1,⟨o,q1,q2,_⟩,_⟩:=lk h' g i hi;rw[Uy,Us hi] at e1;rw[show aD[i]= .ref b from e1];have RU:Looks (model X.prog X.w) h' (typeOf (.ref b)) o.cls:=(Looks.ld q1).andThen .now;rw[q2] at RU;exact RU
 ·unfold kas_ask;obtain⟨b,us,e1,e2,e3⟩:=lk h' g i hi;obtain⟨b',Uc,zY,Iu,LD⟩:=lk h' g j hj;rw[e1,zY];exact tY e2 Iu ((IE i (by omega)).trans (IE j (by omega)).symm) (by simpa using e3) (by simpa using LD) (by show X.A.units+1+1<cLine;omega) hC
 have Gp:∀i∈P.toList,i<vs.length:=λi hi=>by
  obtain⟨j,hj,rfl⟩:=VS.mp hi;have h':j<P.size:=by rw[UL] at hj;exact hj
  have:=hP.lt j (by rw[hP.sz] at h';exact h');rw[bU,Vn h'] at this;have e:P.toList[j]=P[j]:=by simp
  rw[e];have:P[j]<aD.length:=this;omega
 have Pl:PN ks.length P:=by rw[<-FO,v_];exact hP
 have Pm:Rw (λi=>ks.getD i []) P ks.length:=by rw[<-FO,v_];exact hR
 have IF:=zw Pl Pm;have yC:H (s.heap.objs.size+1)=none:=I.hok.fresh (XU _);refine⟨_,rfl,Uw ⟨_,rfl,⟨.ref (s.heap.objs.size+1),_,I.laid (λb ob e=>kQ b ob (UW (WH (UE e))) (keep b ob e)) (XU _) ?_,rfl,q _ P.toList yC Gp (by rw[UL,hP.sz];omega) IF⟩⟩⟩;exact⟨by rw[Ur,UL,hP.sz,nX];omega,_,c',mP rv Gp,DH⟩
def AL(hu:X.A.units+64<cLine)(hg:Gl X "sorted")(hm:X.mg "sorted"=none)(hb:Vh "sorted"=some (.builtin "sorted"))(ha:kA X Xw [e] δs)(he:US [e] X.env=[(false,eval e X.env)]:=by rfl):PD X Xw (.Call (.Name "sorted" p) [e] [] pos) (dA xO δs):=
 bR (Bp hu) (λXw F H vs ds Q s h w=>by
  unfold xO at w;split at w
  ·rename_i ds;obtain⟨v,rfl,h1⟩:=h.one;obtain⟨a,ws,rfl,h2,h3,h4⟩:=h1;split at w
   ·rename_i ks CJ;split at w
    ·rename_i hok;obtain⟨r1,r2,S7⟩:=sd s CJ h3;refine⟨a,ws,ks,rfl,SqL.of (s _ _ h2),r1,hok,λq is hq hi hl hs=>WP.fin w (Ext.lay s hq) ⟨q,_,rfl,az,DenL.mono (Ext.lay s hq).ff ?_,?_⟩⟩
     ·have:=qt r2 hi;rw[hs] at this;exact sO this λk hk=>S7 k (eu.mp hk)
     ·rw[Ur,jE,<-mH r1,<-h3.len];exact h4
    ·exact w.elim
   ·exact w.elim
  ·exact w.elim) hg hm hb ha (by decide) (by decide) he rfl
end
end L3
namespace L3
open PySem PySem.Spec L2
open PyProof.Rows hiding St
def j7(X:Cx)(scope:Scope)(tn:List Str)(x0:Str)(f8:List (Addr×Obj))(cl:List (Str×Addr))(C:Addr)(fp:List Addr)(u8:Ux)(H:Hp):Cx:=
 {iC X scope tn f8 ((x0,C+1)::cl) C fp u8 H with fn:=λy=>decide (y=x0)}
structure CompScC (X:Cx) (scope:Scope) (tn:List Str) (x0:Str):Prop where
 kind:scope.kind= .function
 cell:scope.names.lookup x0=some .cell
 one:∀y∈scope.names,y.2= .cell->y.1=x0
 cf:∀n T0,ZE n scope.names T0=(x0,n)::T0
 pc:∀h,pushCells h scope.names=h.push {cls:= .type "cell",data:= .cell none}
 names:∀y∈scope.names,y.2= .local->scope.names.lookup y.1=some .local
 frees:∀y∈scope.names,y.2= .free->X.env.kindOf y.1=some .cell\/X.env.kindOf y.1=some .free
 vis:∀p∈(aZ tn X.N).zip X.N,scope.names.lookup p.1=none\/(p.1=p.2/\scope.names.lookup p.1=some .free)
def rm(ho:∀y∈scope.names,y.2= .cell->y.1=x0)(hx:x≠x0)(h:(relabel scope env).names.lookup x=some .cell\/(relabel scope env).names.lookup x=some .free):scope.names.lookup x=some .free:=by
 rw[eE,fK] at h;cases q:scope.names.lookup x with
 |none=>rw[q] at h;rcases h with h | h<;>cases h
 |some k=>
  rw[q] at h;have hk:k≠ .cell:=λz=>hx (ho _ (VZ q) z);have h:(i8 env (x,k)).2= .cell\/(i8 env (x,k)).2= .free:=by simpa using h
  by_cases hf:k= .free
  ·rw[hf]
  ·have:(i8 env (x,k)).2=k:=by
    unfold i8;rw[abA];simp[hf]
   rw[this] at h;rcases h with h | h
   ·exact abE h hk
   ·exact abE h hf
def BZ{M:Model}{A:Vw}{E:Value->Ux->Prop}{s:Ux}{scope:Scope}{globals:Addr}{closure:List (Str×Addr)}{qual:Str}{func:Option Addr}{code:Value}{outer:Env}{builtins:Addr}{Q:Env->Ux->Prop}{x0:Str}
 (SG:∀n T0,ZE n scope.names T0=(x0,n)::T0)(Tg:∀h,pushCells h scope.names=h.push {cls:= .type "cell",data:= .cell none})
 (hQ:Q (newEnv scope s.heap.objs.size globals ((x0,s.heap.objs.size+1)::closure) qual func code (some outer) builtins) {s with heap:=(s.heap.push {cls:= .type "dict",data:= .dict #[]}).push {cls:= .type "cell",data:= .cell none},toks:=s.toks+([]:List (Str×Value)).length}):
 wpAny M A (Zh scope globals closure [] qual func code (some outer) builtins) Q E s:=by
 simp only[Zh,aaN,if_true];refine Uq (wpAny_alloc ?_);refine Uq (wpAny_layCells _ (λname kind cells=>by cases S2:kind==NameKind.cell<;>simp[S2]) _ _ _ _ ?_);rw[SG,Tg,show ({s with heap:=s.heap.push {cls:= .type "dict",data:= .dict #[]} }:Ux).heap.objs.size=s.heap.objs.size+1 from Wb ..];rw[List.forIn_nil];exact Uq (Uw (Uw hQ))
section
variable{X:Cx}{Xw:Nat->Hp->Prop}{elt iter tg:Expr}{ifs:List Expr}{scope:Scope}{pos:Pos}{tn:List Str}{n:Nat}{δi:DA}{δt:DT}{δe:DE}{x0:Str}
def Br{RR:Value->Addr->Result->Ux->Prop}
 (sc:CompScC X scope tn x0)(hn:tn.length=max n 1)(hc:X.calm=true)(hi:vi X Xw tg iter δi)
 (hg:∀f8 cl C fp u8 H σ,qT (j7 X scope tn x0 f8 cl C fp u8 H) tg n σ)
 (ht:∀f8 cl C fp u8 H,gP (j7 X scope tn x0 f8 cl C fp u8 H) ifs δt)
 (he:∀f8 cl C fp u8 H,PD (j7 X scope tn x0 f8 cl C fp u8 H) (λ_ _=>False) elt δe)
 (I:Inv X f8 σ H s)(S:StE X.K F H σ ρ)(w:WP X.K Xw F H (aV n δi δt δe ρ) Q)
 (ya:∀x c,cl.lookup x=some c->X.env.cells.lookup x=some c)(C5:∀x,scope.names.lookup x=some .free->∃c,cl.lookup x=some c)
 (Pn:∀(s1:Ux) (C D:Addr) (H':Hp),Inv X f8 σ H' s1->Q (.ref D) H'->BlockEnd X f8 C H' s1->RR (.ref D) C (.ok .next) s1):
 wpAny (model X.prog X.w) X.A (eval iter X.env) (λx W1=>wpAny (model X.prog X.w) X.A (pyIter x) (λit u8=>wpAny (model X.prog X.w) X.A (newList []) (λT0 s₃=>
  wpAny (model X.prog X.w) X.A (Zh scope X.env.globals cl [] X.env.qual none .none (some X.env)) (λC3 s₄=>
   X9 (model X.prog X.w) X.A (.compStart (.ListComp elt [⟨tg,iter,ifs,0⟩] scope pos) 0 it T0 {C3 with scope:=relabel scope X.env}) (RR T0 C3.locals) s₄) X.xe s₃) X.xe u8) X.xe W1) X.xe s:=by
 refine bx (hi f8 s σ H (λJ H2=>∃F2 ds,Ext F H F2 H2/\ItD X.K F2 J ds/\WP X.K Xw F2 H2 (noex (bY (dP n δt δe ρ) ds)>>=eU) Q) I ⟨F,ρ,S,?_⟩) λxv W1 h₁=>bx h₁ λit u8 h₂=>?_
 ·unfold aV at w;rcases(δi ρ).cs with hq | ⟨m,hq⟩ | ⟨ds,hq⟩
  ·rw[hq] at w;exact w.elim
  ·rw[hq] at w⊢;exact w
  ·rw[hq] at w⊢;exact λJ H' F' e q=>⟨F',ds,e,q,WP.ext e w⟩
 obtain⟨ia,fp,Oe,J,H2,rfl,I2,T,uT,f2,F2,ds,e2,Na,w2⟩:=h₂;obtain⟨R,hR,Mm,w2⟩:∃R,bY (dP n δt δe ρ) ds=aa R/\R.length<=lim/\WP X.K Xw F2 H2 (aa (.lst R)) Q:=by
  rcases(bY (dP n δt δe ρ) ds).cs with hq | ⟨m,hq⟩ | ⟨R,hq⟩
  ·rw[hq] at w2;exact w2.elim
  ·rw[hq] at w2;exact w2.elim
  ·rw[hq] at w2;obtain⟨h1,h2⟩:=ub (show WP X.K Xw F2 H2 (eU R) Q from w2);exact⟨R,hq,h1,h2⟩
 refine U_ (BZ sc.cf sc.pc ?_)
 dsimp only
 generalize JI:u8.heap.push {cls:= .type "list",dict:=none,data:= .seq ([]:List Value).toArray}=HL;have hC:HL.objs.size=u8.heap.objs.size+1:=by rw[<-JI,Wb]
 have mW:u8.heap.objs.size<HL.objs.size:=by rw[hC];exact XM _
 generalize PQ:(HL.push {cls:= .type "dict",data:= .dict #[]}).push {cls:= .type "cell",data:= .cell none}=h₁;have Qc:(HL.push {cls:= .type "dict",data:= .dict #[]}).objs.size=HL.objs.size+1:=Wb ..;have R9:∀b o,HL.get? b=some o->h₁.get? b=some o:=λb o e=>PQ▸Ut _ (Ut _ e);have DL:h₁.Ns HL.objs.size (λ_=>none):=PQ▸(Heap.Ns.new HL (.type "dict")).keeps λb o e=>Ut _ e;have Pw:h₁.IsCell (HL.objs.size+1) none:=⟨_,by rw[<-PQ,<-Qc];exact UO _ rfl,rfl⟩
 have old:∀b o,u8.heap.get? b=some o->h₁.get? b=some o:=λb o e=>R9 b o (JI▸Ut _ e);have gb:h₁.get? u8.heap.objs.size=some {cls:= .type "list",data:= .seq ([]:List Value).toArray}:=R9 _ _ (JI▸UO _ rfl);have nD:H2 u8.heap.objs.size=none:=I2.hok.fresh (UB _);have nC:H2 HL.objs.size=none:=I2.hok.fresh (Vt mW);have Bx:u8.heap.objs.size<HL.objs.size+1:=WH mW;have TR:H2 (HL.objs.size+1)=none:=I2.hok.fresh (Vt Bx);have LC:∀x c,((x0,HL.objs.size+1)::cl).lookup x=some c->(x=x0/\c=HL.objs.size+1)\/X.env.cells.lookup x=some c:=λx c h=>by
  rw[VD] at h;split at h
  ·rename_i hx;cases h;exact .inl ⟨by simpa using hx,rfl⟩
  ·exact .inr (ya _ _ h)
 have Q_:∀x c,X.env.cells.lookup x=some c->c≠HL.objs.size+1:=λx c h z=>by
  obtain⟨v,q⟩:=I2.cell x c h;exact abE (VG q.lt Bx) (by rw[z];exact Vc _)
 have gC:u8.heap.get? HL.objs.size=none:=YL (Vt mW);have fl:∀b∈fp,b<u8.heap.objs.size:=λb hb=>by
  obtain⟨o,e,_⟩:=T.obj 0 _ uT b hb;exact UE e
 generalize iH:j7 X scope tn x0 f8 cl HL.objs.size fp u8 H2=X';have Rh:∀b∈fp,∀x c,((x0,HL.objs.size+1)::cl).lookup x=some c->c≠b:=λb hb x c h=>by
  rcases LC x c h with⟨_,a2⟩ | a
  ·rw[a2];exact Vs (VG (fl b hb) Bx)
  ·exact(f2 b hb).2.2.2.2.1 x c a
 have Nu:X'.Ok:=by
  subst iH;refine⟨I2.ok.mod,sc.kind,I2.ok.glob,I2.ok.blt,Vt mW,λx y c h1 h2=>?_,λx hx=>?_,λx c h1 h2=>?_,I2.ok.hd,I2.ok.frames, .inl rfl,
   λb hb=>⟨UW (VG (fl b hb) mW),Rh b hb⟩,I2.bs,U1 I2.ok.bsz I2.sz,λb o e hb=>?_,λb hb z=>?_,I2.stack,I2.stkFree⟩
  ·rcases LC x c h1 with⟨a1,a2⟩ | a<;>rcases LC y c h2 with⟨b1,b2⟩ | b
   ·rw[a1,b1]
   ·exact abE a2 (Q_ y c b)
   ·exact abE b2 (Q_ x c a)
   ·exact I2.ok.inj x y c a b
  ·have hx:(relabel scope X.env).names.lookup x=some .cell\/(relabel scope X.env).names.lookup x=some .free:=hx;by_cases IH:x=x0
   ·exact⟨HL.objs.size+1,by show ((x0,HL.objs.size+1)::cl).lookup x=_;rw[IH,VD,beq_self_eq_true]⟩
   ·obtain⟨c,r9⟩:=C5 x (rm sc.one IH hx);exact⟨c,by show ((x0,HL.objs.size+1)::cl).lookup x=_;rw[VD,show (x==x0)=false by simpa using IH];exact r9⟩
  ·have IH:x=x0:=abC h1;rcases LC x c h2 with⟨_,a2⟩ | a
   ·rw[a2];exact Vt Bx
   ·subst IH;have h2:((x,HL.objs.size+1)::cl).lookup x=some c:=h2;rw[VD,beq_self_eq_true] at h2;cases h2;exact Vt Bx
  ·rcases(f2 b hb).2.2.2.1 with z | z
   ·exact I2.ok.noex b o e z
   ·exact abE (U8 (UE (I2.ok.bs b o e).1) z) (Vc _)
  ·rcases UD.mp (I2.stkSub b z) with q | q
   ·exact(f2 b hb).2.1 q
   ·exact(f2 b hb).2.2.1 q
 have Ks:∀b o,H2 b=some o->b≠u8.heap.objs.size:=λb o e=>aW e nD;have yx:∀{H':Hp},(∀b∈fp,H' b=none)->∀b∈fp,oM X' [] H' b:=λyF b hb=>by
  subst iH;refine⟨yF b hb,UW (VG (fl b hb) mW),λz=>Nu.exfs b hb z, .inl hb,Rh b hb,λp hp=>?_⟩;rw[V7] at hp;exact(f2 b hb).2.2.2.2.2 p hp
 have I0:Inv X' [] (Vu (max n 1) none++σ) (upd H2 u8.heap.objs.size (.lst [])) {u8 with heap:=h₁,toks:=u8.toks+([]:List (Str×Value)).length}:=by
  subst iH;have J1:HOk X.prog X.w (upd H2 u8.heap.objs.size (.lst [])) h₁:=I2.hok.laid old (UB _) ⟨U3 _,[],_, .nil,gb⟩;refine⟨Nu,rfl,I2.bare,Un.laid old (UB _) nD,⟨_,DL,λi x v h1 h2 h3=>?_⟩,λx c h=>?_,?_,λx c h=>?_,λp hp=>?_,J1,?_⟩
  ·by_cases hi:i<max n 1
   ·rw[U6 (by simpa using hi),Wl,abz hi] at h2;cases h2
   ·have qZ:tn.length<=i:=by omega
    have h1:(tn++aZ tn X.N)[i]? =some x:=h1;rw[Vb qZ] at h1;rw[Vb (by simpa using hi),WX,<-hn] at h2;have hN:∃y,X.N[i - tn.length]? =some y/\(x,y)∈(aZ tn X.N).zip X.N:=by
     have cI:=(UA.mp h1).1;have yE:i - tn.length<X.N.length:=by simpa[aZ] using cI
     refine⟨X.N[i - tn.length],Us yE,?_⟩;refine YB.mpr ⟨i - tn.length,?_⟩;rw[W9];exact⟨h1,Us yE⟩
    obtain⟨y,hy,hm⟩:=hN;have hV:(relabel scope X.env).names.lookup x=some .local\/(relabel scope X.env).names.lookup x=some .cell\/(relabel scope X.env).names.lookup x=some .free:=h3;rcases sc.vis _ hm with tK | ⟨GC,vk⟩
    ·have tK:scope.names.lookup x=none:=tK;have:(relabel scope X.env).names.lookup x=none:=lK tK;rw[this] at hV;rcases hV with z | z | z<;>cases z
    ·have GC:x=y:=GC;subst GC;have vk:scope.names.lookup x=some .free:=vk;have hk:=sc.frees (x, .free) (VZ vk) rfl;obtain⟨m,IC,v_⟩:=I2.loc;obtain⟨u,ru,lk⟩:=v_ _ x v hy h2 (by rcases hk with z | z;exact .inr (.inl z);exact .inr (.inr z));refine⟨u,ru, .inr ⟨?_,?_⟩⟩
     ·rcases hV with z | z | z
      ·exact abE z (gL vk)
      ·exact .inl z
      ·exact .inr z
     ·rcases lk with⟨z,_⟩ | ⟨_,c,Pt,yB⟩
      ·rcases hk with q | q
       ·rw[show X.env.kindOf x=some .local from z] at q;cases q
       ·rw[show X.env.kindOf x=some .local from z] at q;cases q
      ·obtain⟨c',r9⟩:=C5 x vk;have:=ya _ _ r9;rw[Pt] at this;cases this;obtain⟨o,ho,hd⟩:=yB;exact⟨c,by show ((x0,HL.objs.size+1)::cl).lookup x=_;rw[VD,show (x==x0)=false by simpa using (show x≠x0 from λz=>by rw[z,sc.cell] at vk;cases vk)];exact r9,o,old _ _ ho,hd⟩
  ·rcases LC x c h with⟨_,a2⟩ | a
   ·rw[a2];exact⟨none,Pw⟩
   ·obtain⟨v,o,ho,hd⟩:=I2.cell x c a;exact⟨v,o,old _ _ ho,hd⟩
  ·show upd H2 u8.heap.objs.size (.lst []) HL.objs.size=none;rw[ao (Vs mW)];exact nC
  ·rcases LC x c h with⟨_,a2⟩ | Mv
   ·rw[a2,ao (Vs Bx)];exact TR
   ·obtain⟨v,q⟩:=I2.cell x c Mv;rw[ao (UW q.lt)];exact I2.freeC x c Mv
  ·rw[V7] at hp;obtain⟨e,nn,ne,nf,d⟩:=I2.pin p hp;have cI:=UE e;refine⟨old _ _ e,by rw[ao (UW cI)];exact nn,UW (VG cI mW),λz=>?_,d⟩;rcases UD.mp (I2.stkSub p.1 z) with q | q
   ·exact ne q
   ·exact nf q
  ·show (Vu (max n 1) none++σ).length=(tn++aZ tn X.N).length;rw[UN,UN,WX,hn,show (aZ tn X.N).length=X.N.length from by simp[aZ],I2.len]
 have loop:∀s₃:Ux,s₃={u8 with heap:=h₁,toks:=u8.toks+([]:List (Str×Value)).length}->
  X9 (model X.prog X.w) X.A (.compLoop (.ListComp elt [⟨tg,iter,ifs,0⟩] scope pos) 0 (.ref ia) (.ref u8.heap.objs.size) (aa9 scope ((x0,HL.objs.size+1)::cl) HL.objs.size X.env))
   (RR (.ref u8.heap.objs.size) HL.objs.size) s₃:=by
  intro s₃ yI;have pd:X'.env=aa9 scope ((x0,HL.objs.size+1)::cl) HL.objs.size X.env:=by subst iH;rfl
  have hA:X'.A=X.A:=by subst iH;rfl
  have hP:X'.prog=X.prog:=by subst iH;rfl
  have hw:X'.w=X.w:=by subst iH;rfl
  have hK:X'.K=X.K:=by subst iH;rfl
  have Ql:X'.xe=λ_ _=>False:=by subst iH;rfl
  have v7:X'.calm=true:=by subst iH;exact hc
  have PL:X'.fs=nU X.stack:=by subst iH;rfl
  have hex:X'.ex=fp:=by subst iH;rfl
  have Ph:X'.abJ=H2:=by subst iH;rfl
  have MT:X'.abK=u8:=by subst iH;rfl
  have pass:∀{α:Type}{t:Sem α}{P:α->Ux->Prop}{E':Value->Ux->Prop}{s:Ux},wpAny (model X'.prog X'.w) X'.A t P X'.xe s->wpAny (model X.prog X.w) X.A t P E' s:=λ{α t P E' s} h=>by
   rw[hP,hw,hA,Ql] at h;exact VN h (λ_ _ q=>q) λ_ _ q=>q.elim
  refine rT (λm s'=>∃(i:Nat) (F' H':Hp) (vs:List V) (ys:List D) (σt:St),m=ds.length - i/\i<=ds.length/\σt.length=max n 1/\Inv X' [] (σt++σ) H' s'/\Oe i s'.heap/\(∀b∈fp,H' b=none)/\Ext F2 H2 F' H'/\
   H' u8.heap.objs.size=some (.lst vs)/\F' u8.heap.objs.size=none/\DenL X.K F' ys vs/\bY (dP n δt δe ρ) ds=(bY (dP n δt δe ρ) (ds.drop i)>>=λr=>aa (ys++r))) ?_ ds.length ?_
  ·rintro m s' ⟨i,F',H',vs,ys,σt,rfl,MB,Qn,I',lQ,Mf,l5,hD,fD,GD,heq⟩;by_cases cI:i<ds.length
   ·
    obtain⟨d,hd⟩:∃d,ds[i]? =some d:=⟨_,Us cI⟩
    obtain⟨Gs,tN⟩:=(Na F' H' i l5.ff l5.fh).1 d hd;obtain⟨o,ho,DB⟩:=o6 hd heq hR;have J7:ys.length<=lim:=by
     rw[heq] at hR;obtain⟨r,_,hr⟩:=b0 hR;rw[<-b8 hr,UN] at Mm;omega
    obtain⟨ts,Qe,ho⟩:=b0 ho;refine pass ?_;rw[hP,hw];refine bx (T.item X' hP hw hK v7 i [] s' (σt++σ) H' X'.xe I' (yx Mf) lQ Gs) ?_;rintro r s1 ⟨u,rfl,h1⟩;refine pass ?_;rw[hP,hw];refine bx h1 ?_;rintro _ s2 ⟨x,H3,I3,rx,y3,FU,LG⟩;obtain⟨F3,pf,q3⟩:=tN x H3 y3;have Mi:H3 u8.heap.objs.size=some (.lst vs):=pf.hh _ _ hD;have Pb:F3 u8.heap.objs.size=none:=by rw[pf.old hD (λ_ z=>nomatch z)];exact fD
    have I3':=I3.pinned (yx LG) (T.obj _ _ FU);have kW:∀{σ7:St}{H7:Hp}{s7:Ux},Inv X' ([]++mB fp s2.heap) σ7 H7 s7->Oe (i+1) s7.heap/\∀b∈fp,H7 b=none:=λ{σ7 H7 s7} I7=>
     ⟨T.keep _ _ _ FU λb hb o e=>(I7.pin (b,o) (U5 _ (U5 _ (ei hb e)))).1,λb hb=>by
      obtain⟨o,e,_⟩:=T.obj _ _ FU b hb;exact(I7.pin (b,o) (U5 _ (U5 _ (ei hb e)))).2.1⟩
    have PM:qT X' tg n σ:=by subst iH;exact hg _ _ _ _ _ _ _
    have Qd:gP X' ifs δt:=by subst iH;exact ht _ _ _ _ _ _
    have Pz:PD X' (λ_ _=>False) elt δe:=by subst iH;exact he _ _ _ _ _ _
    refine pass ?_;rw[<-pd];refine bx (PM _ s2 (σt++σ) F3 H3 d ts x u I3' pf.fh (by rw[<-Qn];simp) rx (by rw[hK];exact q3) Qe) ?_;rintro _ s4 ⟨vt,I4,dt⟩;rw[hK] at dt;have S4:StE X.K F3 H3 (vt.map some++σ) (ts.map (λt=>some (Sl.fz t))++ρ):=StE.cons ((S.ext e2).ext (l5.trans pf)) dt;obtain⟨b,hb,ho⟩:=b0 ho;refine pass ?_
    try rw[<-pd]
    refine bx (Qd _ s4 _ H3 (λb' H5=>b'=b/\∃F5,Ext F3 H3 F5 H5) I4 ⟨F3,_,by rw[hK];exact S4,by rw[hb];exact WPB.take⟩) ?_;rintro b' s5 ⟨H5,I5,rfl,F5,yw⟩;have JH:H5 u8.heap.objs.size=some (.lst vs):=yw.hh _ _ Mi;have Mc:F5 u8.heap.objs.size=none:=by rw[yw.old Mi (λ_ z=>nomatch z)];exact Pb
    cases b' with
    |false=>
     rw[abA UU] at ho⊢;obtain rfl:=b8 ho;refine⟨ds.length - (i+1),by omega,i+1,F5,H5,vs,ys,vt.map some,rfl,cI,?_,I5.unpinned,(kW I5).1,(kW I5).2,l5.trans (pf.trans yw),JH,Mc,DenL.mono (pf.trans yw).ff GD,DB⟩;have h1:=I5.len;have h2:=I3.len;rw[UN] at h1 h2;omega
    |true=>
     rw[abz rfl] at ho⊢;obtain⟨yv,hy,ho⟩:=b0 ho;obtain rfl:=b8 ho;refine pass ?_
     try rw[<-pd]
     refine bx (Pz _ s5 _ H5 (λv H6=>∃F6,Ext F5 H5 F6 H6/\Den X.K F6 yv v) I5 ⟨F5,_,by rw[hK];exact S4.ext yw,by rw[hy,hK];exact WP.take⟩) ?_;rintro xv s6 ⟨v,H6,I6,rv,F6,Gh,qv⟩;have Pg:H6 u8.heap.objs.size=some (.lst vs):=Gh.hh _ _ JH;have Md:F6 u8.heap.objs.size=none:=by rw[Gh.old JH (λ_ z=>nomatch z)];exact Mc
     have IG:vs.length<UR:=by
      have:=GD.len;have:=cR;omega
     refine pass ?_;refine bx (mv _ s6 _ H6 (.ref u8.heap.objs.size) [v] (.ref u8.heap.objs.size) [xv] (λ_ H7=>H7=upd H6 u8.heap.objs.size (.lst (vs++[v]))) I6 rfl (.cons rv .nil) ⟨_,vs,v,rfl,rfl,Pg,IG,rfl⟩) ?_;rintro _ s7 ⟨_,H7,I7,_,rfl⟩;have Pa:Ext F2 H2 F6 (upd H6 u8.heap.objs.size (.lst (vs++[v]))):=by
      have e:=l5.trans (pf.trans (yw.trans Gh));refine⟨λb u q=>?_,e.ff,λb u q=>?_,e.new⟩
      ·rw[ao (Ks b u q)];exact e.hh b u q
      ·rw[ao (λz=>by rw[z,Md] at q;cases q)];exact e.fh b u q
     refine⟨ds.length - (i+1),by omega,i+1,F6,_,vs++[v],ys++[yv],vt.map some,rfl,cI,?_,I7.unpinned,(kW I7).1,(kW I7).2,Pa,az,Md,
      DenL.append (DenL.mono (pf.trans (yw.trans Gh)).ff GD) (.cons qv .nil),DB⟩
     have h1:=I5.len;have h2:=I3.len;rw[UN] at h1 h2;omega
   ·
    have hi:i=ds.length:=by omega
    subst hi;rw[XH] at heq;have Po:R=ys:=by
     rw[heq] at hR;have hR:aa (ys++[])=aa R:=hR;rw[<-b8 hR,V7]
    subst Po;refine pass ?_;rw[hP,hw];refine bx (T.done X' hP hw hK v7 ds.length [] s' (σt++σ) H' X'.xe I' (yx Mf) lQ ((Na F' H' ds.length l5.ff l5.fh).2 (UB _))) ?_;rintro r s1 ⟨rfl,I1⟩;obtain⟨m,hm,_⟩:=I1.loc;rw[pd] at hm;have Pf:H' HL.objs.size=none:=by
     have:=I1.free;rw[pd] at this;exact this
    have u:=I1.base;rw[PL,hex,Ph,MT] at u;have tL:s1.os=u8.os:=by have:=I1.os;rw[MT] at this;exact this
    have DI:=I1.hok;rw[hP,hw] at DI;refine Pn s1 HL.objs.size u8.heap.objs.size H' (I2.call' tL u DI I1.bare (λb hb=>⟨(f2 b hb).2.2.2.1,(f2 b hb).2.1,(f2 b hb).2.2.2.2.1,(f2 b hb).2.2.2.2.2⟩)) ?_
     ⟨⟨m,hm⟩,Pf,Vs (VG I2.lt mW),U1 I2.sz (Vt mW),λx c q z=>?_,λp hp z=>?_⟩
    rotate_left
    ·obtain⟨v,q'⟩:=I2.cell x c q;exact abE (VG q'.lt mW) (by rw[z];exact Vc _)
    ·exact abE (VG (UE (I2.pin p hp).1) mW) (by rw[z];exact Vc _)
    refine WP.fin w2 (F':=upd F' u8.heap.objs.size (.lst vs)) ⟨l5.hh,λb u q=>?_,λb u q=>?_,λa ha=>?_⟩ ⟨_,vs,rfl,az,DenL.mono (λb u q=>?_) GD,Mm⟩
    ·rw[ao (λz=>by have:=l5.ff b u q;rw[z,fD] at this;cases this)];exact l5.ff b u q
    ·by_cases z:b=u8.heap.objs.size
     ·rw[z,az] at q;rw[z,hD];exact q
     ·rw[ao z] at q;exact l5.fh b u q
    ·rcases l5.new a ha with q | q
     ·exact .inl (by rw[ao (λz=>ha (by rw[z];exact nD))];exact q)
     ·exact .inr q
    ·rw[ao (λz=>by rw[z,fD] at q;cases q)];exact q
  ·rw[yI];refine⟨0,F2,_,[],[],Vu (max n 1) none,by simp,U3 _,by simp,I0,T.keep _ _ _ uT (λb hb o e=>old b o e),λb hb=>?_,⟨λb u q=>?_,Same.refl _,λb u q=>?_,λ_ _=> .inl rfl⟩,az,Same.free e2.fh nD,rfl,?_⟩
   ·rw[ao (UW (fl b hb))];exact(f2 b hb).1
   ·rw[ao (Ks b u q)];exact q
   ·rw[ao (Ks b u (e2.fh b u q))];exact e2.fh b u q
   ·rw[YM];rcases(bY (dP n δt δe ρ) ds).cs with hq | ⟨m,hq⟩ | ⟨R,hq⟩<;>rw[hq]<;>rfl
 exact abo (loop _ rfl) (T.self X.A 0 _ _ _ (T.keep _ _ _ uT (λb hb o e=>old b o e)) (loop _ rfl))
def xc(sc:CompScC X scope tn x0)(hn:tn.length=max n 1)(hc:X.calm=true)(hi:vi X Xw tg iter δi)
 (hg:∀f8 cl C fp u8 H σ,qT (j7 X scope tn x0 f8 cl C fp u8 H) tg n σ)
 (ht:∀f8 cl C fp u8 H,gP (j7 X scope tn x0 f8 cl C fp u8 H) ifs δt)
 (he:∀f8 cl C fp u8 H,PD (j7 X scope tn x0 f8 cl C fp u8 H) (λ_ _=>False) elt δe)
 (hs:∀x,WN iter X.env x=pure x:=by intro _;rfl):
 PD X Xw (.ListComp elt [⟨tg,iter,ifs,0⟩] scope pos) (aV n δi δt δe):=by
 intro f8 s σ H Q I ⟨F,ρ,S,w⟩;obtain⟨cl,v8,ya,C5⟩:=j6 λy hy hf=>I.ok.has y.1 (sc.frees y hy hf);rw[eval_ListComp];refine Yt rfl hs v8 sc.kind sc.names (Br (RR:=λT0 C=>compPost (model X.prog X.w) X.A X.xe none (EP X f8 σ Q) T0 C) sc hn hc hi hg ht he I S w ya C5 λs1 C D H' I1 q b=>?_);obtain⟨m,hm⟩:=b.ns;exact⟨m,hm,λh' J5=>⟨.ref D,H',Inv.block I1 b J5,rfl,q⟩⟩
def A9(hN:X.N.Nodup)(h0:X.N[0]? =some x)(Ac:X.env.scope.names.lookup x=some .cell)(hf:X.fn x=true):qT X (.Name x px) 0 σ:=λf8 s σ' F H d ts v u I fh hd rv q e=>by
 have e:aa [d]=aa ts:=e;have e:=b8 e;subst e;refine Yu (qH I hN h0 (.inr Ac) rv (λs' I'=>⟨[v],?_, .cons q .nil⟩) (.inl hf));have hl:0<σ'.length:=by rw[I.len];exact(UA.mp h0).1
 have:σ'.set 0 (some v)=[v].map some++σ:=by
  cases σ' with
  |nil=>simp at hl
  |cons a r=>
   have hd:r=σ:=by simpa using hd
   subst hd;rfl
 rw[<-this];exact I'
def vD(N:List Str)(osc scope:Scope)(tn:List Str)(x0:Str):Bool:=
 decide (scope.kind= .function)&&decide (scope.names.lookup x0=some .cell)&&scope.names.all (λy=>decide (y.2= .cell->y.1=x0))&&scope.names.all (λy=>decide (y.2= .local->scope.names.lookup y.1=some .local))&&
 scope.names.all (λy=>decide (y.2= .free->(osc.names.lookup y.1=some .cell\/osc.names.lookup y.1=some .free)))&&
 ((aZ tn N).zip N).all (λp=>decide (scope.names.lookup p.1=none\/(p.1=p.2/\scope.names.lookup p.1=some .free)))
def o7(hN:X.N=N)(ho:X.env.scope=osc)(cf:∀n T0,ZE n scope.names T0=(x0,n)::T0)(pc:∀h,pushCells h scope.names=h.push {cls:= .type "cell",data:= .cell none})(h:vD N osc scope tn x0=true):CompScC X scope tn x0:=by
 unfold vD at h;simp only[UY,UT,abF] at h;obtain⟨⟨⟨⟨⟨h1,h2⟩,JG⟩,h3⟩,h4⟩,h5⟩:=h;refine⟨h1,h2,JG,cf,pc,h3,λy hy hf=>?_,?_⟩
 ·have:=h4 y hy hf;rw[<-ho] at this;exact this
 ·rw[hN];exact h5
end
def Hf{X:Cx}{Xw:Nat->Hp->Prop}{a b:Expr}{δa δb:DE}{pos:Pos}(ha:PD X Xw a δa)(hb:PD X Xw b δb)(hm:VF .In b=false:=by rfl):PD X Xw (.Compare a [.In] [b] pos) (d2 (jK false) δa δb):=zc sC tP ha hb hm
end L3
namespace L3
def QL(n:Nat)(δs:DA):DS:=λ_=>af
end L3
namespace K1
open PySem PySem.Spec L2 L3
open PyProof.Rows hiding St
def zH:DS:=(bI (fk (dA ke (aC (dV 0) (aC (dC (.raw (.ty "int"))) aN))) (Io (dA ke (aC (dV 0) (aC (dC (.raw (.ty "bool"))) aN))))))
def d9:List D->M D:=cC 1 (zH)
def xX:DS:=(bI (fk (dA ke (aC (dV 0) (aC (dC (.raw (.ty "str"))) aN))) (fk (d2 md (dA cF (aC (dV 0) aN)) (dC (.int 1))) (d2 (Dq false) (dV 0) (dC (.str "abcdef"))))))
def cO:List D->M D:=cC 1 (xX)
def qO:DS:=(bI (aV 0 (λρ=>(aC (dA cF (aC (d2 dD (dV 0) (dC (.int 0))) aN)) aN) ρ>>=c0) bw (dA fL (aC (dV 2) (aC (dV 0) aN)))))
def b9:List D->M D:=cC 2 (qO)
def x9:DS:=(bI (d2 v3 (d2 dD (dV 0) (d2 dD (dV 1) (dC (.int 0)))) (d2 dD (dV 1) (dC (.int 1)))))
def dG:List D->M D:=cC 2 (x9)
def zF:DS:=(aG (bW 3 (dA CP (aC (d2 yA (d2 dD (dV 0) (dC (.int 0))) (d2 dD (dV 1) (dC (.int 0)))) aN))) (aG (bW 4 (dA CP (aC (d2 yA (d2 dD (dV 0) (dC (.int 1))) (d2 dD (dV 1) (dC (.int 1)))) aN))) (aG (kC (eO (d2 md (dV 2) (dC (.int 4)))) (bI (d2 md (d2 dU (dV 3) (dV 4)) (dC (.int 1)))) eT) (bI (d2 md (dA wx (aC (dV 3) (aC (dV 4) aN))) (dC (.int 1)))))))
def dz:List D->M D:=cC 5 (zF)
def Ie:DS:=(aG (xB 1) (aG (λρ=>noex ((d5 (putN 2) (GG (cW (dV 0)) (λρ=>(dV 0) ρ>>=ij)) (c_ [2] (gN 1 (dV 2) (dC (.bl true))))) ρ)) (A3 1 (bI (dV 1)))))
def oq:List D->M D:=cC 3 (Ie)
def qQ:DS:=(aG (kC (eO (d2 md (dV 0) (dA eU aN))) (bI (d2 iG (dC (.int 7)) (dV 1))) eT) (bI (d2 dU (d2 Du (dV 0) (d2 kM (dV 1) (dA cF (aC (dV 0) aN)))) (d2 iG (dC (.int 6553)) (d2 qW (dV 1) (dA cF (aC (dV 0) aN)))))))
def fB:List D->M D:=cC 2 (qQ)
def xY:DS:=(aG (kC (vH (fm (d8 (dA ke (aC (dV 0) (aC (dC (.raw (.ty "str"))) aN))))) (fm (eO (FZ (λi j=>decide (i<=j)) (λi j=>decide (i<=j)) (dC (.int 1)) (dA cF (aC (dV 0) aN)) (dC (.int 8)))))) (bI (dC (.bl false))) eT) (bI (dA allM (aC (aV 0 (λρ=>(dV 0) ρ>>=Lg) bw (ay 1 cO (aC (dV 0) aN))) aN))))
def fw:List D->M D:=cC 1 (xY)
def x_:DS:=(kC (vH (fm (d8 (ay 1 d9 (aC (dV 0) aN)))) (eO (d2 (Gj true) (dV 0) (dA fL (aC (dC (.int 4)) (aC (dC (.int 8)) aN)))))) (QL 1 (aC (dC (.str "ways are 4 or 8")) aN)) eT)
def cq:List D->M D:=cC 1 (x_)
def xV:DS:=(aG (zo 1) (aG (λρ=>noex ((d5 (putN 2) (λρ=>(aC (dA cF (aC (dV 0) aN)) aN) ρ>>=c0) (c_ [2] (E6 1 (ay 2 b9 (aC (dV 0) (aC (dV 2) aN)))))) ρ)) (A3 1 (bI (dV 1)))))
def bE:List D->M D:=cC 3 (xV)
def vf:DS:=(aG (zo 3) (aG (λρ=>noex ((d5 (putN 4) (λρ=>(aC (dA wx (aC (d2 yA (d2 dD (dV 1) (dC (.int 0))) (dC (.int 1))) (aC (dC (.int 0)) aN))) (aC (dA yT (aC (d2 dU (d2 dD (dV 1) (dC (.int 0))) (dC (.int 2))) (aC (dA cF (aC (dV 0) aN)) aN))) aN)) ρ>>=sU) (c_ [4,5] (d5 (putN 5) (λρ=>(aC (dA wx (aC (d2 yA (d2 dD (dV 1) (dC (.int 1))) (dC (.int 1))) (aC (dC (.int 0)) aN))) (aC (dA yT (aC (d2 dU (d2 dD (dV 1) (dC (.int 1))) (dC (.int 2))) (aC (dA cF (aC (d2 dD (dV 0) (dC (.int 0))) aN)) aN))) aN)) ρ>>=sU) (c_ [5] (kC (d8 (ay 3 dz (aC (dV 1) (aC (dA fL (aC (dV 4) (aC (dV 5) aN))) (aC (dV 2) aN))))) (uL 3 (dA fL (aC (dV 4) (aC (dV 5) aN)))) eT))))) ρ)) (A3 3 (bI (dV 3)))))
def aP:List D->M D:=cC 6 (vf)
def nK:DS:=(aG (bW 3 (d2 kM (d2 dU (d2 iG (d2 kM (ay 2 fB (aC (dV 0) (aC (dV 1) aN))) (dC (.int 2147483563))) (dC (.int 69069))) (d2 iG (dC (.int 104723)) (d2 dU (dV 1) (dC (.int 1))))) (dC (.int 2147483563)))) (aG (bW 3 (d2 kM (d2 dU (d2 iG (dV 3) (dV 3)) (d2 qW (dV 3) (dC (.int 3)))) (dC (.int 2147483399)))) (bI (d2 kM (d2 qW (d2 kM (d2 dU (d2 iG (dV 3) (dV 3)) (d2 qW (dV 3) (dC (.int 7)))) (dC (.int 2147483647))) (dC (.int 11))) (dV 2)))))
def aR:List D->M D:=cC 4 (nK)
def qP:DS:=(aG (kC (vH (fm (d8 (dA ke (aC (dV 0) (aC (dC (.raw (.ty "tuple"))) aN))))) (fm (eO (FZ (λi j=>decide (i<=j)) (λi j=>decide (i<=j)) (dC (.int 1)) (dA cF (aC (dV 0) aN)) (dC (.int 8)))))) (bI (dC (.bl false))) eT) (aG (kC (fm (d8 (dA allM (aC (aV 0 (qV (dV 0)) bw (ay 1 fw (aC (dV 0) aN))) aN)))) (bI (dC (.bl false))) eT) (bI (dA allM (aC (aV 0 (qV (dV 0)) bw (d2 md (dA cF (aC (dV 0) aN)) (dA cF (aC (d2 dD (dV 1) (dC (.int 0))) aN)))) aN)))))
def gT:List D->M D:=cC 1 (qP)
def vb:DS:=(aG (bW 3 (ay 2 dG (aC (dV 0) (aC (dV 1) aN)))) (bI (aV 0 (cW (ay 3 aP (aC (dV 0) (aC (dV 1) (aC (dV 2) aN))))) (eO (d2 md (ay 2 dG (aC (dV 1) (aC (dV 0) aN))) (dV 4))) (dV 0))))
def cx:List D->M D:=cC 4 (vb)
def QZ:DE:=aV 0 (λρ=>(aC (dV 4) aN) ρ>>=c0) bw (d2 v3 (dV 6) (ay 3 aR (aC (dV 1) (aC (d2 dU (d2 dU (d2 dU (dV 2) (dC (.int 3))) (d2 iG (dC (.int 7)) (dV 8))) (dV 0)) (aC (dA cF (aC (dV 6) aN)) aN)))))
def Q0:DS:=bW 6 (d2 Aa (dV 6) (dA fL (aC (dM OK joinM (dC (.str "")) (aC (dV 8) aN)) aN)))
def xZ:DS:=(aG (bW 3 (d2 dU (dC (.int 1)) (ay 3 aR (aC (dV 0) (aC (dV 1) (aC (dV 2) aN)))))) (aG (bW 4 (d2 dU (dC (.int 1)) (ay 3 aR (aC (dV 0) (aC (d2 dU (dV 1) (dC (.int 1))) (aC (dV 2) aN)))))) (aG (bW 5 (d2 dg (dA eU (aC (dC (.str "ab")) (aC (dC (.str "abc")) (aC (dC (.str "aab")) (aC (dC (.str "fa")) aN))))) (ay 3 aR (aC (dV 0) (aC (d2 dU (dV 1) (dC (.int 2))) (aC (dC (.int 4)) aN)))))) (aG (bW 6 (dA fL aN)) (aG (λρ=>noex ((d5 (putN 7) (λρ=>(aC (dV 3) aN) ρ>>=c0) (c_ [7,8] (aG (bW 8 (QZ)) (Q0)))) ρ)) (bI (dV 6)))))))
def cP:List D->M D:=cC 9 (xZ)
def vc:DS:=(kC (fm (d8 (ay 1 gT (aC (dV 0) aN)))) (QL 0 (aC (dC (.str "a tuple of 1 to 8 texts of 1 to 8 letters, all as long, is asked for")) aN)) eT)
def bp:List D->M D:=cC 1 (vc)
def Le:DS:=c_ [7] (kC (Jf (eO (d2 (nW true) (dV 7) (dV 3)))) (aG (gN 3 (dV 7) (dV 6)) (uL 5 (dV 7))) eT)
def vh:DS:=(aG (A4 3 (λρ=>(dV 1) ρ>>=λx=>(dC .non) ρ>>=λy=>kF x y)) (aG (bW 4 (dA eU (aC (dV 1) aN))) (aG (λρ=>noex ((zp (d8 (dV 4)) (c_ [5,6,7] (aG (zo 5) (aG (d5 (putN 6) (cW (dV 4)) (c_ [6,7] (d5 (putN 7) (cW (ay 3 cx (aC (dV 0) (aC (dV 6) (aC (dV 2) aN))))) (Le)))) (A3 5 (bW 4 (dV 5))))))) ρ)) (A3 3 (bI (dV 3))))))
def cY:List D->M D:=cC 8 (vh)
def vg:DS:=(aG (xB 1) (aG (λρ=>noex ((d5 (AW [2,3]) (λρ=>(aC (dV 0) aN) ρ>>=z0) (c_ [2,3,4] (d5 (putN 4) (cW (dV 3)) (c_ [4] (gN 1 (dV 4) (dV 2)))))) ρ)) (A3 1 (bI (dV 1)))))
def cy:List D->M D:=cC 5 (vg)
def Jx:DS:=(c_ [6] (kC (Jf (eO (d2 (nW true) (dV 6) (dV 2)))) (aG (gN 2 (dV 6) (L5 (d2 dU (d2 df (dV 2) (dV 5)) (dC (.int 1))))) (uL 4 (dV 6))) eT))
def Jw:DS:=(c_ [5,6] (d5 (putN 6) (GG (cW (d2 df (dV 0) (dV 5))) (λρ=>(d2 df (dV 0) (dV 5)) ρ>>=ij)) Jx))
def Jv:DS:=(c_ [4,5,6] (aG (zo 4) (aG (d5 (putN 5) (cW (dV 3)) Jw) (A3 4 (bW 3 (dV 4))))))
def xW:DS:=(aG (A4 2 (JB (λρ=>(dV 1) ρ>>=λx=>(dC (.int 0)) ρ>>=λy=>kF x y) (λρ=>(dV 1) ρ>>=λx=>(dC (.int 0)) ρ>>=λy=>mU x y))) (aG (bW 3 (dA eU (aC (dV 1) aN))) (aG (λρ=>noex ((zp (d8 (dV 3)) Jv) ρ)) (A3 2 (bI (dV 2))))))
def bF:List D->M D:=cC 7 (xW)
def rF:DS:=(kC (vH (fm (d8 (ay 1 d9 (aC (dV 1) aN)))) (fm (eO (FZ (λi j=>decide (i<=j)) (λi j=>decide (i<j)) (dC (.int 0)) (dV 1) (dV 0))))) (QL 4 (aC (dC (.str "the number of a patch of the board is asked for")) aN)) eT)
def bG:List D->M D:=cC 2 (rF)
def qR:DS:=(aG (bW 3 (ay 1 cy (aC (dV 2) aN))) (aG (Ja 4) (aG (λρ=>noex ((xA 4 5 6 7 (cW (ay 1 bE (aC (dV 0) aN))) (d2 df (dV 3) (dV 5)) (cW (ay 3 aP (aC (dV 0) (aC (dV 5) (aC (dV 1) aN))))) (eO (d2 qX (d2 df (dV 3) (dV 7)) (d2 df (dV 3) (dV 5)))) (d2 df (dV 3) (dV 7))) ρ)) (A3 4 (bI (dV 4))))))
def dR:List D->M D:=cC 8 (qR)
def OQ:DS:=(c_ [5,6] (kC (eO (d2 Pc (d2 df (dV 2) (dV 4)) (d2 df (dV 2) (dV 5)))) (aG (bW 6 (dA fL (aC (d2 df (dV 2) (dV 4)) (aC (d2 df (dV 2) (dV 5)) aN)))) (gN 3 (dV 6) (L5 (d2 dU (zS (dV 3) (dV 6) (dC (.int 0))) (dC (.int 1)))))) eT))
def qS:DS:=(aG (bW 2 (ay 1 cy (aC (dV 1) aN))) (aG (xB 3) (aG (λρ=>noex ((d5 (putN 4) (cW (ay 1 bE (aC (dV 0) aN))) (c_ [4,5,6] (d5 (putN 5) (cW (ay 3 aP (aC (dV 0) (aC (dV 4) (aC (dC (.int 4)) aN))))) OQ))) ρ)) (A3 3 (bI (dV 3))))))
def b_:List D->M D:=cC 7 (qS)
def zI:DS:=(aG (kj (ay 1 bp (aC (dV 0) aN))) (bI (dA FA (aC (aV 0 (qV (dV 0)) bw (Js (dV 0) (d1 Kt (dC (.int 1))))) aN))))
def fC:List D->M D:=cC 1 (zI)
def O7:DS:=(c_ [4,5] (kC (Jf (eO (d2 (nW true) (dV 4) (dV 3)))) (aG (bW 5 (dA xN (aC (ay 3 cY (aC (dV 0) (aC (dV 4) (aC (dV 1) aN)))) aN))) (aG (uL 2 (dV 5)) (E8 3 (ay 1 oq (aC (dV 5) aN))))) eT))
def rE:DS:=(aG (zo 2) (aG (xB 3) (aG (λρ=>noex ((d5 (putN 4) (cW (ay 1 bE (aC (dV 0) aN))) O7) ρ)) (A3 2 (bI (dV 2))))))
def a_:List D->M D:=cC 6 (rE)
def zG:DS:=(aG (kj (ay 1 bp (aC (dV 0) aN))) (aG (kj (ay 1 cq (aC (dV 1) aN))) (bI (dA cF (aC (ay 2 a_ (aC (dV 0) (aC (dV 1) aN))) aN)))))
def dB:List D->M D:=cC 2 (zG)
def zJ:DS:=(aG (kj (ay 1 bp (aC (dV 0) aN))) (aG (kj (ay 1 cq (aC (dV 1) aN))) (bI (d1 mM (ay 2 b_ (aC (dV 0) (aC (ay 2 a_ (aC (dV 0) (aC (dV 1) aN))) aN)))))))
def fE:List D->M D:=cC 2 (zJ)
def FG:DS:=(aG (kj (ay 1 bp (aC (dV 0) aN))) (aG (kj (ay 1 cq (aC (dV 1) aN))) (bI (ay 3 dR (aC (dV 0) (aC (dC (.int 4)) (aC (ay 2 a_ (aC (dV 0) (aC (dV 1) aN))) aN)))))))
def dQ:List D->M D:=cC 2 (FG)
def ve:DS:=(aG (bW 3 (ay 2 dQ (aC (dV 0) (aC (dV 1) aN)))) (aG (kj (ay 2 bG (aC (dA kZ (aC (dV 3) aN)) (aC (dV 2) aN)))) (bI (dA Fj (aC (d2 df (dV 3) (dV 2)) aN)))))
def dS:List D->M D:=cC 4 (ve)
def CG:DS:=(aG (bW 4 (ay 2 dQ (aC (dV 0) (aC (dV 1) aN)))) (aG (kj (ay 2 bG (aC (dA kZ (aC (dV 4) aN)) (aC (dV 2) aN)))) (aG (kj (ay 2 bG (aC (dA kZ (aC (dV 4) aN)) (aC (dV 3) aN)))) (bI (d2 df (ay 2 bF (aC (dV 4) (aC (dV 2) aN))) (dV 3))))))
def cX:List D->M D:=cC 5 (CG)
def FH:DS:=(aG (bW 2 (ay 2 dQ (aC (dV 0) (aC (dV 1) aN)))) (aG (bW 3 (aV 0 (λρ=>(aC (dA kZ (aC (dV 2) aN)) aN) ρ>>=c0) bw (d1 sx (ay 2 bF (aC (dV 3) (aC (dV 0) aN)))))) (bI (dM se wb (dV 3) (aC (dA k7 (aC (dV 3) aN)) aN)))))
def iE:List D->M D:=cC 4 (FH)
def nL:DS:=(bW 1 (ay 3 cP (aC (dV 0) (aC (dC (.int 0)) (aC (dC (.int 3)) aN)))))
def nM:DS:=(bW 2 (d2 dg (dA eU (aC (dC (.int 4)) (aC (dC (.int 8)) aN))) (ay 3 aR (aC (dV 0) (aC (dC (.int 60)) (aC (dC (.int 2)) aN))))))
def nN:DS:=(bW 3 (ay 2 dB (aC (dV 1) (aC (dV 2) aN))))
def nO:DS:=(bW 4 (aV 0 (λρ=>(aC (dV 3) aN) ρ>>=c0) bw (ay 3 dS (aC (dV 2) (aC (dV 3) (aC (dV 0) aN))))))
def nP:DS:=(bW 5 (aV 2 (cW (ay 2 fE (aC (dV 1) (aC (dV 2) aN)))) bw (dV 0)))
def jq:DS:=(λρ=>noex ((d5 (putN 6) (λρ=>(aC (dV 3) aN) ρ>>=c0) (c_ [6] (aG (kC (vH (eO (d2 qX (d2 dg (dV 4) (dV 6)) (dA lP (aC (d2 dg (dV 4) (dV 6)) aN)))) (eO (d2 (jK false) (dV 6) (d2 dg (dV 4) (dV 6))))) (bI (dC (.bl false))) eT) (aG (kC (eO (d2 qX (aV 0 (cW (d2 dg (dV 4) (dV 6))) (eO (d2 (Dt true) (dA fL (aC (dA yT (aC (dV 7) (aC (dV 0) aN))) (aC (dA wx (aC (dV 7) (aC (dV 0) aN))) aN))) (dV 6))) (dV 0)) (dA eU aN))) (bI (dC (.bl false))) eT) (kC (eO (d2 qX (aV 0 (cW (d2 dg (dV 4) (dV 6))) (eO (d2 (jK true) (dV 7) (d2 dg (dV 5) (dV 0)))) (dV 0)) (dA eU aN))) (bI (dC (.bl false))) eT))))) ρ))
def nQ:DS:=(kC (eO (d2 qX (dA A7 (aC (aV 0 (cW (dV 4)) bw (dA cF (aC (dV 0) aN))) aN)) (d2 iG (dC (.int 2)) (dA cF (aC (dV 5) aN))))) (bI (dC (.bl false))) eT)
def nR:DS:=(bW 7 (aV 0 (λρ=>(aC (dV 3) aN) ρ>>=c0) bw (aV 0 (λρ=>(aC (dV 4) aN) ρ>>=c0) bw (ay 4 cX (aC (dV 3) (aC (dV 4) (aC (dV 1) (aC (dV 0) aN))))))))
def jr:DS:=(λρ=>noex ((d5 (putN 8) (λρ=>(aC (dV 3) aN) ρ>>=c0) (c_ [8,9,10] (d5 (putN 9) (λρ=>(aC (dV 3) aN) ρ>>=c0) (c_ [9,10] (aG (bW 10 (d2 dg (d2 dg (dV 7) (dV 8)) (dV 9))) (aG (kC (vH (eO (d2 qX (dV 10) (d2 dg (d2 dg (dV 7) (dV 9)) (dV 8)))) (eO (d2 qX (d2 md (dV 10) (dC (.int 0))) (d2 md (dV 8) (dV 9))))) (bI (dC (.bl false))) eT) (aG (kC (eO (d2 qX (d2 md (dV 10) (dC (.int 1))) (d2 (jK false) (dV 9) (d2 dg (dV 4) (dV 8))))) (bI (dC (.bl false))) eT) (kC (eO (d2 Rk (dV 10) (dA k7 (aC (aV 0 (λρ=>(aC (dV 3) aN) ρ>>=c0) bw (d2 dU (d2 dg (d2 dg (dV 8) (dV 9)) (dV 0)) (d2 dg (d2 dg (dV 8) (dV 0)) (dV 10)))) aN)))) (bI (dC (.bl false))) eT)))))))) ρ))
def nS:DS:=(bW 11 (ay 2 iE (aC (dV 1) (aC (dV 2) aN))))
def lV:DS:=(bW 12 (aV 0 (cW (dV 7)) bw (dA wu (aC (dV 0) aN))))
def lW:DS:=(kC (vH (eO (d2 qX (d2 dg (dV 12) (dV 11)) (dA k7 (aC (dV 12) aN)))) (eO (d2 (jK false) (dA k7 (aC (dV 12) aN)) (Oo (dV 12) oN (oS (dV 11)))))) (bI (dC (.bl false))) eT)
def lX:DS:=(bW 13 (ay 1 fC (aC (dV 1) aN)))
def lY:DS:=(bW 14 (dA xO (aC (aV 0 (cW (dV 7)) bw (dA lP (aC (dV 0) aN))) aN)))
def lZ:DS:=(bW 9 (aV 0 (λρ=>(aC (dV 3) aN) ρ>>=c0) bw (aV 0 (λρ=>(aC (dV 4) aN) ρ>>=c0) bw (ay 4 cX (aC (dV 15) (aC (dV 4) (aC (dV 1) (aC (dV 0) aN))))))))
def l0:DS:=(bI (fk (d2 md (ay 2 dB (aC (dV 13) (aC (dV 2) aN))) (dV 3)) (d2 md (dA xO (aC (aV 0 (cW (dV 9)) bw (dA lP (aC (dV 0) aN))) aN)) (dV 14))))
def mQ:DS:=(aG nL (aG nM (aG nN (aG nO (aG nP (aG jq (aG nQ (aG nR (aG jr (aG nS (aG lV (aG lW (aG lX (aG lY (aG lZ l0)))))))))))))))
def jx:List D->M D:=cC 15 mQ
structure Bl (K:UJ) (mg:Str->Option Value) (base:Heap) (cv:Nat->Value) (cA:Nat->Addr) (Cp:Addr):Prop where
 len:mg "len"=none
 isinstance:mg "isinstance"=none
 all:mg "all"=none
 abs:mg "abs"=none
 max:mg "max"=none
 min:mg "min"=none
 sum:mg "sum"=none
 range:mg "range"=none
 str:mg "str"=none
 int:mg "int"=none
 bool:mg "bool"=none
 tuple:mg "tuple"=none
 sorted:mg "sorted"=none
 enumerate:mg "enumerate"=none
 LETTERS:∃t,mg "LETTERS"=some (.str "abcdef" t)
 MOST_ROWS:∃t,mg "MOST_ROWS"=some (.int 8 t)
 MOST_COLUMNS:∃t,mg "MOST_COLUMNS"=some (.int 8 t)
section
variable{P:Vf}{w:World}{K:UJ}{mg:Str->Option Value}{base:Heap}{cv:Nat->Value}{cA:Nat->Addr}{Cp:Addr}{f:Addr}
abbrev kq:Stmt:=top 9
def pV:List Str:=["thing"]
def qe:List Str:=["thing"]
def mR{j k:Nat}{A:Vw}(r:Room k A)(h:j<=k:=by decide):Room j A:=r.mono h
def dE{N Q:List Str}{sc:Scope}(k:sc.kind= .function:=by rfl)(c:sc.isCoroutine=false:=by rfl)(g:sc.isGenerator=false:=by rfl)(p:N.take Q.length=Q:=by rfl)(h:N.Nodup/\(∀x∈Q,sc.names.lookup x=some .local\/sc.names.lookup x=some .cell)/\∀y∈sc.names,y.2≠ .free:=by decide+kernel):FnScope N Q sc:=⟨k,c,g,h.1,p,h.2.1,h.2.2⟩
def xF:FnScope pV qe (ah kq):=dE
def wV(B:Bl K mg base cv cA Cp)(T:bD K mg "is_whole" kq f):aq P w K mg base cv 1 "is_whole" 1 (d9):=
 aB (N:=pV) (ps:=qe) T xF (λ_ _ _ _ _ _ us hl=>match us,hl with | [_],_=>rfl) λ_ _ _ _ _ _ hr=>
  (ar (aF (ux (ql rfl B.isinstance rfl (ab (ae (pv 0)) (ab (xf rfl B.int rfl) ag))) (ze (KN (ql rfl B.isinstance rfl (ab (ae (pv 0)) (ab (xf rfl B.bool rfl) ag))))))))
abbrev jd:Stmt:=top 10
def m_:List Str:=["thing"]
def nz:List Str:=["thing"]
def uN:FnScope m_ nz (ah jd):=dE
def um(B:Bl K mg base cv cA Cp)(T:bD K mg "is_letter" jd f):aq P w K mg base cv 1 "is_letter" 1 (cO):=
 aB (N:=m_) (ps:=nz) T uN (λ_ _ _ _ _ _ us hl=>match us,hl with | [_],_=>rfl) λ_ _ _ _ _ _ hr=>
  (ar (aF (ux (ql rfl B.isinstance rfl (ab (ae (pv 0)) (ab (xf rfl B.str rfl) ag))) (ux (lF hr.units (dF rfl B.len (ab (ae (pv 0)) ag)) aA) (ze (KH (ae (pv 0)) (Hl rfl B.LETTERS (by decide))))))))
abbrev d4:Stmt:=top 15
def dW:List Str:=["board","row"]
def iV:List Str:=["board","row"]
def oe:FnScope dW iV (ah d4):=dE
def nZ(B:Bl K mg base cv cA Cp)(T:bD K mg "cells_of_row" d4 f):aq P w K mg base cv 1 "cells_of_row" 2 (b9):=
 aB (N:=dW) (ps:=iV) T oe (λ_ _ _ _ _ _ us hl=>match us,hl with | [_,_],_=>rfl) λ_ _ _ _ _ _ hr=>
  (ar (aF (b7 (tn:=["column"]) (n:=0) (aU (N:=dW) (osc:=(ah d4)) rfl rfl (by decide+kernel)) rfl rfl (bc rfl B.range (ab (dF rfl B.len (ab (dY (ae (pv 0)) aA) ag)) ag)) (λ_ _ _ _ _ _ _=>bL (show VC (((["column"]:List Str))++aZ ["column"] dW) by decide+kernel) rfl rfl) (λ_ _ _ _ _ _=>bj) (λ_ _ _ _ _ _=>(i2 (ab (ae (pv 2)) (ab (ae (pv 0)) ag)))))))
abbrev jf:Stmt:=top 17
def nh:List Str:=["board","cell"]
def nE:List Str:=["board","cell"]
def uO:FnScope nh nE (ah jf):=dE
def ur(B:Bl K mg base cv cA Cp)(T:bD K mg "letter_of" jf f):aq P w K mg base cv 1 "letter_of" 2 (dG):=
 aB (N:=nh) (ps:=nE) T uO (λ_ _ _ _ _ _ us hl=>match us,hl with | [_,_],_=>rfl) λ_ _ _ _ _ _ hr=>
  (ar (aF (Ey (dY (ae (pv 0)) (dY (ae (pv 1)) aA)) (dY (ae (pv 1)) aA))))
abbrev kl:Stmt:=top 18
def pT:List Str:=["one","other","ways","down","along"]
def qb:List Str:=["one","other","ways"]
def jh:FnScope pT qb (ah kl):=dE
def wQ(B:Bl K mg base cv cA Cp)(T:bD K mg "are_next" kl f):aq P w K mg base cv 1 "are_next" 3 (dz):=
 aB (N:=pT) (ps:=qb) T jh (λ_ _ _ _ _ _ us hl=>match us,hl with | [_,_,_],_=>rfl) λ_ _ _ _ _ _ hr=>
  (aj (aK jh.nd rfl (.inl rfl) (Ex rfl B.abs (ab (uB (dY (ae (pv 0)) aA) (dY (ae (pv 1)) aA)) ag) rfl)) (aj (aK jh.nd rfl (.inl rfl) (Ex rfl B.abs (ab (uB (dY (ae (pv 0)) aA) (dY (ae (pv 1)) aA)) ag) rfl)) (aj (bV (EU hr.units (ae (pv 2)) aA) (ar (aF (lF hr.units (cJ (ae (pv 3)) (ae (pv 4))) aA))) bq) (ar (aF (lF hr.units (uz rfl rfl B.max rfl (ab (ae (pv 3)) (ab (ae (pv 4)) ag))) aA))))))
abbrev uM:Stmt:=top 20
def Ax:List Str:=["things","found","thing"]
def AG:List Str:=["things"]
def qB:FnScope Ax AG (ah uM):=dE
def Ep(B:Bl K mg base cv cA Cp)(T:bD K mg "keyed" uM f):aq P w K mg base cv 1 "keyed" 1 (oq):=
 aB (N:=Ax) (ps:=AG) T qB (λ_ _ _ _ _ _ us hl=>match us,hl with | [_],_=>rfl) λ_ _ _ _ _ _ hr=>
  (aj (lI qB.nd rfl (.inl rfl)) (aj (dj (bS Va rfl (AM (bb (ae (pv 0))) (xg (ae (pv 0)))) (aQ qB.nd rfl (.inl rfl)) bA (bf (ar (i3 hr.units (pv 1) (ae (pv 2)) il))))) (ar (dZ (i:=1) (aF (ae (pv 1)))))))
abbrev hJ:Stmt:=top 26
def lp:List Str:=["found","numbers","number","patch","cell"]
def lC:List Str:=["found"]
def dh:FnScope lp lC (ah hJ):=dE
def rj(B:Bl K mg base cv cA Cp)(T:bD K mg "numbers_of" hJ f):aq P w K mg base cv 1 "numbers_of" 1 (cy):=
 aB (N:=lp) (ps:=lC) T dh (λ_ _ _ _ _ _ us hl=>match us,hl with | [_],_=>rfl) λ_ _ _ _ _ _ hr=>
  (aj (lI dh.nd rfl (.inl rfl)) (aj (dj (bS Va rfl (EB rfl B.enumerate (ab (ae (pv 0)) ag)) (EL rfl (lG (aQ dh.nd rfl (.inl rfl)) (lG (aQ dh.nd rfl (.inl rfl)) AN))) (HJ (is:=[2,3])) (bf (ar (bS Va rfl (bb (ae (pv 3))) (aQ dh.nd rfl (.inl rfl)) bA (bf (ar (i3 hr.units (pv 1) (ae (pv 4)) (ae (pv 2)))))))))) (ar (dZ (i:=1) (aF (ae (pv 1)))))))
abbrev jc:Stmt:=top 28
def m9:List Str:=["near","start","far","ring","further","thing","other"]
def ny:List Str:=["near","start"]
def cE:FnScope m9 ny (ah jc):=dE
def uk(B:Bl K mg base cv cA Cp)(T:bD K mg "distances" jc f):aq P w K mg base cv 1 "distances" 2 (bF):=
 aB (N:=m9) (ps:=ny) T cE (λ_ _ _ _ _ _ us hl=>match us,hl with | [_,_],_=>rfl) λ_ _ _ _ _ _ hr=>
  (aj (xk cE.nd rfl (.inl rfl) (Hn (sI hr.units (ae (pv 1)) aA) (Ca hr.units (ae (pv 1)) aA))) (aj (aK cE.nd rfl (.inl rfl) (kh (ab (ae (pv 1)) ag))) (aj (dj (sJ Va (eZ (ae (pv 3))) (bf (aj (lH cE.nd rfl (.inl rfl)) (aj (bS Va rfl (bb (ae (pv 3))) (aQ cE.nd rfl (.inl rfl)) bA (bf (ar (bS Va rfl (AM (bb (eo hr.units (ae (pv 0)) (ae (pv 5)))) (xg (eo hr.units (ae (pv 0)) (ae (pv 5))))) (aQ cE.nd rfl (.inl rfl)) bA (bf (ar (bV (zf (mF hr.units (ae (pv 6)) (ae (pv 2)))) (aj (i3 hr.units (pv 2) (ae (pv 6)) (IU (cJ (eo hr.units (ae (pv 2)) (ae (pv 5))) aA))) (ar (oG (pv 4) (ae (pv 6))))) bq))))))) (ar (dZ (i:=4) (aK cE.nd rfl (.inl rfl) (ae (pv 4)))))))))) (ar (dZ (i:=2) (aF (ae (pv 2))))))))
abbrev kr:Stmt:=top 40
def pW:List Str:=["_law_script","_law_k"]
def qf:List Str:=["_law_script","_law_k"]
def xG:FnScope pW qf (ah kr):=dE
def wW(B:Bl K mg base cv cA Cp)(T:bD K mg "_law_cell" kr f):aq P w K mg base cv 1 "_law_cell" 2 (fB):=
 aB (N:=pW) (ps:=qf) T xG (λ_ _ _ _ _ _ us hl=>match us,hl with | [_,_],_=>rfl) λ_ _ _ _ _ _ hr=>
  (aj (bV (EU hr.units (ae (pv 0)) (kh ag)) (ar (aF (iZ aA (ae (pv 1))))) bq) (ar (aF (cJ (KI (ae (pv 0)) (mz (ae (pv 1)) (dF rfl B.len (ab (ae (pv 0)) ag)))) (iZ aA (uy (ae (pv 1)) (dF rfl B.len (ab (ae (pv 0)) ag))))))))
abbrev lM:Stmt:=top 11
def k9:List Str:=["thing"]
def w_:List Str:=["thing"]
def Cm:FnScope k9 w_ (ah lM):=dE
def B2(B:Bl K mg base cv cA Cp)(vB:aq P w K mg base cv 1 "is_letter" 1 cO)(T:bD K mg "is_row" lM f):aq P w K mg base cv 2 "is_row" 1 (fw):=
 aB (N:=k9) (ps:=w_) T Cm (λ_ _ _ _ _ _ us hl=>match us,hl with | [_],_=>rfl) λ_ _ _ _ _ _ hr=>
  (aj (bV (PDW.t (ki (eY (eZ (ql rfl B.isinstance rfl (ab (ae (pv 0)) (ab (xf rfl B.str rfl) ag))))) (g0 (eY (zh wZ wZ aA (dF rfl B.len (ab (ae (pv 0)) ag)) (AJ rfl B.MOST_COLUMNS)))))) (ar (aF il)) bq) (ar (aF (zb rfl rfl B.all rfl (ab (b7 (tn:=["sign"]) (n:=0) (aU (N:=k9) (osc:=(ah lM)) rfl rfl (by decide+kernel)) rfl rfl (Ho (ae (pv 0))) (λ_ _ _ _ _ _ _=>bL (show VC (((["sign"]:List Str))++aZ ["sign"] k9) by decide+kernel) rfl rfl) (λ_ _ _ _ _ _=>bj) (λ_ _ _ _ _ _=>(bo vB (mR hr) rfl d6 (ab (ae (pv 0)) ag) rfl))) ag)))))
abbrev jg:Stmt:=top 14
def nj:List Str:=["thing"]
def nG:List Str:=["thing"]
def uP:FnScope nj nG (ah jg):=dE
def uu(B:Bl K mg base cv cA Cp)(j1:aq P w K mg base cv 1 "is_whole" 1 d9)(T:bD K mg "need_ways" jg f):aq P w K mg base cv 2 "need_ways" 1 (cq):=
 aB (N:=nj) (ps:=nG) T uP (λ_ _ _ _ _ _ us hl=>match us,hl with | [_],_=>rfl) λ_ _ _ _ _ _ hr=>
  (ar (bV (PDW.t (ki (eY (eZ (bo j1 (mR hr) rfl bh (ab (ae (pv 0)) ag) rfl))) (g0 (Ce (ae (pv 0)) (i2 (ab aA (ab aA ag))))))) (ar mE) bq))
abbrev jb:Stmt:=top 16
def m8:List Str:=["board","found","row"]
def nv:List Str:=["board"]
def hZ:FnScope m8 nv (ah jb):=dE
def uh(B:Bl K mg base cv cA Cp)(oY:aq P w K mg base cv 1 "cells_of_row" 2 b9)(T:bD K mg "all_cells" jb f):aq P w K mg base cv 2 "all_cells" 1 (bE):=
 aB (N:=m8) (ps:=nv) T hZ (λ_ _ _ _ _ _ us hl=>match us,hl with | [_],_=>rfl) λ_ _ _ _ _ _ hr=>
  (aj (lH hZ.nd rfl (.inl rfl)) (aj (dj (bS Va rfl (bc rfl B.range (ab (dF rfl B.len (ab (ae (pv 0)) ag)) ag)) (aQ hZ.nd rfl (.inl rfl)) bA (bf (ar (HE (pv 1) (bo oY (mR hr) rfl d6 (ab (ae (pv 0)) (ab (ae (pv 2)) ag)) rfl)))))) (ar (dZ (i:=1) (aF (ae (pv 1)))))))
abbrev g_:Stmt:=top 19
def ll:List Str:=["board","cell","ways","found","row","column"]
def lB:List Str:=["board","cell","ways"]
def eF:FnScope ll lB (ah g_):=dE
def ri(B:Bl K mg base cv cA Cp)(yk:aq P w K mg base cv 1 "are_next" 3 dz)(T:bD K mg "next_cells" g_ f):aq P w K mg base cv 2 "next_cells" 3 (aP):=
 aB (N:=ll) (ps:=lB) T eF (λ_ _ _ _ _ _ us hl=>match us,hl with | [_,_,_],_=>rfl) λ_ _ _ _ _ _ hr=>
  (aj (lH eF.nd rfl (.inl rfl)) (aj (dj (bS Va rfl (qo rfl B.range (ab (uz rfl rfl B.max rfl (ab (uB (dY (ae (pv 1)) aA) aA) (ab aA ag))) (ab (zd rfl rfl B.min rfl (ab (cJ (dY (ae (pv 1)) aA) aA) (ab (dF rfl B.len (ab (ae (pv 0)) ag)) ag))) ag))) (aQ eF.nd rfl (.inl rfl)) bA (bf (ar (bS Va rfl (qo rfl B.range (ab (uz rfl rfl B.max rfl (ab (uB (dY (ae (pv 1)) aA) aA) (ab aA ag))) (ab (zd rfl rfl B.min rfl (ab (cJ (dY (ae (pv 1)) aA) aA) (ab (dF rfl B.len (ab (dY (ae (pv 0)) aA) ag)) ag))) ag))) (aQ eF.nd rfl (.inl rfl)) bA (bf (ar (bV (eZ (bo yk (mR hr) rfl d6 (ab (ae (pv 1)) (ab (i2 (ab (ae (pv 4)) (ab (ae (pv 5)) ag))) (ab (ae (pv 2)) ag))) rfl)) (ar (oG (pv 3) (i2 (ab (ae (pv 4)) (ab (ae (pv 5)) ag))))) bq)))))))) (ar (dZ (i:=3) (aF (ae (pv 3)))))))
abbrev gh:Stmt:=top 31
def jR:List Str:=["many","thing"]
def jU:List Str:=["many","thing"]
def qC:FnScope jR jU (ah gh):=dE
def qa(B:Bl K mg base cv cA Cp)(j1:aq P w K mg base cv 1 "is_whole" 1 d9)(T:bD K mg "need_number" gh f):aq P w K mg base cv 2 "need_number" 2 (bG):=
 aB (N:=jR) (ps:=jU) T qC (λ_ _ _ _ _ _ us hl=>match us,hl with | [_,_],_=>rfl) λ_ _ _ _ _ _ hr=>
  (ar (bV (PDW.t (ki (eY (eZ (bo j1 (mR hr) rfl bh (ab (ae (pv 1)) ag) rfl))) (g0 (eY (zh wZ IS aA (ae (pv 1)) (ae (pv 0))))))) (ar mE) bq))
abbrev je:Stmt:=top 41
def ng:List Str:=["_law_script","_law_k","_law_many","_law_cell_here"]
def nB:List Str:=["_law_script","_law_k","_law_many"]
def h7:FnScope ng nB (ah je):=dE
def uq(B:Bl K mg base cv cA Cp)(ym:aq P w K mg base cv 1 "_law_cell" 2 fB)(T:bD K mg "_law_drawn" je f):aq P w K mg base cv 2 "_law_drawn" 3 (aR):=
 aB (N:=ng) (ps:=nB) T h7 (λ_ _ _ _ _ _ us hl=>match us,hl with | [_,_,_],_=>rfl) λ_ _ _ _ _ _ hr=>
  (aj (aK h7.nd rfl (.inl rfl) (mz (cJ (iZ (mz (bo ym (mR hr) rfl bh (ab (ae (pv 0)) (ab (ae (pv 1)) ag)) rfl) aA) aA) (iZ aA (cJ (ae (pv 1)) aA))) aA)) (aj (aK h7.nd rfl (.inl rfl) (mz (cJ (iZ (ae (pv 3)) (ae (pv 3))) (uy (ae (pv 3)) aA)) aA)) (ar (aF (mz (uy (mz (cJ (iZ (ae (pv 3)) (ae (pv 3))) (uy (ae (pv 3)) aA)) aA) aA) (ae (pv 2)))))))
abbrev fP:Stmt:=top 12
def ej:List Str:=["thing"]
def qd:List Str:=["thing"]
def xE:FnScope ej qd (ah fP):=dE
def wU(B:Bl K mg base cv cA Cp)(CZ:aq P w K mg base cv 2 "is_row" 1 fw)(T:bD K mg "is_board" fP f):aq P w K mg base cv 3 "is_board" 1 (gT):=
 aB (N:=ej) (ps:=qd) T xE (λ_ _ _ _ _ _ us hl=>match us,hl with | [_],_=>rfl) λ_ _ _ _ _ _ hr=>
  (aj (bV (PDW.t (ki (eY (eZ (ql rfl B.isinstance rfl (ab (ae (pv 0)) (ab (xf rfl B.tuple rfl) ag))))) (g0 (eY (zh wZ wZ aA (dF rfl B.len (ab (ae (pv 0)) ag)) (AJ rfl B.MOST_ROWS)))))) (ar (aF il)) bq) (aj (bV (eY (eZ (zb rfl rfl B.all rfl (ab (b7 (tn:=["row"]) (n:=0) (aU (N:=ej) (osc:=(ah fP)) rfl rfl (by decide+kernel)) rfl rfl (uC (ae (pv 0))) (λ_ _ _ _ _ _ _=>bL (show VC (((["row"]:List Str))++aZ ["row"] ej) by decide+kernel) rfl rfl) (λ_ _ _ _ _ _=>bj) (λ_ _ _ _ _ _=>(bo CZ (mR hr) rfl d6 (ab (ae (pv 0)) ag) rfl))) ag)))) (ar (aF il)) bq) (ar (aF (zb rfl rfl B.all rfl (ab (b7 (tn:=["row"]) (n:=0) (aU (N:=ej) (osc:=(ah fP)) rfl rfl (by decide+kernel)) rfl rfl (uC (ae (pv 0))) (λ_ _ _ _ _ _ _=>bL (show VC (((["row"]:List Str))++aZ ["row"] ej) by decide+kernel) rfl rfl) (λ_ _ _ _ _ _=>bj) (λ_ _ _ _ _ _=>(lF hr.units (dF rfl B.len (ab (ae (pv 0)) ag)) (dF rfl B.len (ab (dY (ae (pv 1)) aA) ag))))) ag))))))
abbrev e9:Stmt:=top 23
def eW:List Str:=["board","cell","ways","letter"]
def ly:List Str:=["board","cell","ways"]
def jV:FnScope eW ly (ah e9):=dE
def ra(B:Bl K mg base cv cA Cp)(mS:aq P w K mg base cv 1 "letter_of" 2 dG)(dO:aq P w K mg base cv 2 "next_cells" 3 aP)(T:bD K mg "like_cells" e9 f):aq P w K mg base cv 3 "like_cells" 3 (cx):=
 aB (N:=eW) (ps:=ly) T jV (λ_ _ _ _ _ _ us hl=>match us,hl with | [_,_,_],_=>rfl) λ_ _ _ _ _ _ hr=>
  (aj (aK jV.nd rfl (.inr rfl) (bo mS (mR hr) rfl bh (ab (ae (pv 0)) (ab (ae (pv 1)) ag)) rfl)) (ar (aF (b7 (tn:=["near"]) (n:=0) (aU (N:=eW) (osc:=(ah e9)) rfl rfl (by decide+kernel)) rfl rfl (bb (bo dO (mR hr) rfl bh (ab (ae (pv 0)) (ab (ae (pv 1)) (ab (ae (pv 2)) ag))) rfl)) (λ_ _ _ _ _ _ _=>bL (show VC (((["near"]:List Str))++aZ ["near"] eW) by decide+kernel) rfl rfl) (λ_ _ _ _ _ _=>(qJ (EU hr.units (bo mS (mR hr) rfl d6 (ab (ae (pv 1)) (ab (ae (pv 0)) ag)) rfl) (ae (pv 4))))) (λ_ _ _ _ _ _=>(ae (pv 0)))))))
abbrev fQ:Stmt:=top 27
def iQ:List Str:=["board","ways","found","numbers","near","cell","mine","other"]
def iX:List Str:=["board","ways","found"]
def bN:FnScope iQ iX (ah fQ):=dE
def n0(B:Bl K mg base cv cA Cp)(gS:aq P w K mg base cv 1 "numbers_of" 1 cy)(eG:aq P w K mg base cv 2 "all_cells" 1 bE)(dO:aq P w K mg base cv 2 "next_cells" 3 aP)(T:bD K mg "near_numbers" fQ f):aq P w K mg base cv 3 "near_numbers" 3 (dR):=
 aB (N:=iQ) (ps:=iX) T bN (λ_ _ _ _ _ _ us hl=>match us,hl with | [_,_,_],_=>rfl) λ_ _ _ _ _ _ hr=>
  (aj (aK bN.nd rfl (.inl rfl) (bo gS (mR hr) rfl bh (ab (ae (pv 2)) ag) rfl)) (aj (ES bN.nd rfl (.inl rfl)) (aj (dj (ER Va rfl hr.units (bb (bo eG (mR hr) rfl d6 (ab (ae (pv 0)) ag) rfl)) (aQ bN.nd rfl (.inl rfl)) (pv 4) (eo hr.units (ae (pv 3)) (ae (pv 5))) ⟨rfl,rfl,rfl,rfl⟩ (aQ bN.nd rfl (.inl rfl)) (bb (bo dO (mR hr) rfl d6 (ab (ae (pv 0)) (ab (ae (pv 5)) (ab (ae (pv 1)) ag))) rfl)) (aQ bN.nd rfl (.inl rfl)) (lJ hr.units (eo hr.units (ae (pv 3)) (ae (pv 7))) (eo hr.units (ae (pv 3)) (ae (pv 5)))) (pv 6) (eo hr.units (ae (pv 3)) (ae (pv 7))))) (ar (dZ (i:=4) (aF (ae (pv 4))))))))
abbrev fR:Stmt:=top 32
def iR:List Str:=["board","found","numbers","shared","cell","near","pair"]
def iY:List Str:=["board","found"]
def bO:FnScope iR iY (ah fR):=dE
def n9(B:Bl K mg base cv cA Cp)(gS:aq P w K mg base cv 1 "numbers_of" 1 cy)(eG:aq P w K mg base cv 2 "all_cells" 1 bE)(dO:aq P w K mg base cv 2 "next_cells" 3 aP)(T:bD K mg "shared_sides" fR f):aq P w K mg base cv 3 "shared_sides" 2 (b_):=
 aB (N:=iR) (ps:=iY) T bO (λ_ _ _ _ _ _ us hl=>match us,hl with | [_,_],_=>rfl) λ_ _ _ _ _ _ hr=>
  (aj (aK bO.nd rfl (.inl rfl) (bo gS (mR hr) rfl bh (ab (ae (pv 1)) ag) rfl)) (aj (lI bO.nd rfl (.inl rfl)) (aj (dj (bS Va rfl (bb (bo eG (mR hr) rfl d6 (ab (ae (pv 0)) ag) rfl)) (aQ bO.nd rfl (.inl rfl)) bA (bf (ar (bS Va rfl (bb (bo dO (mR hr) rfl d6 (ab (ae (pv 0)) (ab (ae (pv 4)) (ab aA ag))) rfl)) (aQ bO.nd rfl (.inl rfl)) bA (bf (ar (bV (NI (eo hr.units (ae (pv 2)) (ae (pv 4))) (eo hr.units (ae (pv 2)) (ae (pv 5)))) (aj (aK bO.nd rfl (.inl rfl) (i2 (ab (eo hr.units (ae (pv 2)) (ae (pv 4))) (ab (eo hr.units (ae (pv 2)) (ae (pv 5))) ag)))) (ar (i3 hr.units (pv 3) (ae (pv 6)) (IU (cJ (Hd hr.units (ae (pv 3)) (ae (pv 6)) aA ⟨rfl,rfl,rfl,rfl⟩) aA))))) bq)))))))) (ar (dZ (i:=3) (aF (ae (pv 3))))))))
abbrev f7:Stmt:=top 42
def fY:List Str:=["_law_script","_law_at","_law_most","_law_rows","_law_wide","_law_alphabet","_law_found","_law_row","_law_signs"]
def nA:List Str:=["_law_script","_law_at","_law_most"]
def bT:FnScope fY nA (ah f7):=dE
def uo(B:Bl K mg base cv cA Cp)(cp:aq P w K mg base cv 2 "_law_drawn" 3 aR)(T:bD K mg "_law_board" f7 f):aq P w K mg base cv 3 "_law_board" 3 (cP):=
 aB (N:=fY) (ps:=nA) T bT (λ_ _ _ _ _ _ us hl=>match us,hl with | [_,_,_],_=>rfl) λ_ _ _ _ _ _ hr=>
  (aj (aK bT.nd rfl (.inl rfl) (cJ aA (bo cp (mR hr) rfl bh (ab (ae (pv 0)) (ab (ae (pv 1)) (ab (ae (pv 2)) ag))) rfl))) (aj (aK bT.nd rfl (.inl rfl) (cJ aA (bo cp (mR hr) rfl bh (ab (ae (pv 0)) (ab (cJ (ae (pv 1)) aA) (ab (ae (pv 2)) ag))) rfl))) (aj (aK bT.nd rfl (.inr rfl) (cK (kh (ab qm (ab qm (ab qm (ab qm ag))))) (bo cp (mR hr) rfl bh (ab (ae (pv 0)) (ab (cJ (ae (pv 1)) aA) (ab aA ag))) rfl))) (aj (aK bT.nd rfl (.inl rfl) (i2 ag)) (aj (dj (bS Va rfl (bc rfl B.range (ab (ae (pv 3)) ag)) (aQ bT.nd rfl (.inr rfl)) bA (bf (aj (i6 (tn:=["_law_k"]) (n:=0) bT.nd rfl (.inl rfl) (aU (N:=fY) (osc:=(ah f7)) rfl rfl (by decide+kernel)) rfl rfl (bc rfl B.range (ab (ae (pv 4)) ag)) (λ_ _ _ _ _ _ _=>bL (show VC (((["_law_k"]:List Str))++aZ ["_law_k"] fY) by decide+kernel) rfl rfl) (λ_ _ _ _ _ _=>bj) (λ_ _ _ _ _ _=>(Ey (ae (pv 6)) (bo cp (mR hr) rfl d6 (ab (ae (pv 1)) (ab (cJ (cJ (cJ (ae (pv 2)) aA) (iZ aA (ae (pv 8)))) (ae (pv 0))) (ab (dF rfl B.len (ab (ae (pv 6)) ag)) ag))) rfl)))) (ar (aK bT.nd rfl (.inl rfl) (Hc (ae (pv 6)) (i2 (ab (Hg qm (ab (ae (pv 8)) ag)) ag))))))))) (ar (aF (ae (pv 6)))))))))
abbrev g8:Stmt:=top 13
def lg:List Str:=["thing"]
def lz:List Str:=["thing"]
def rn:FnScope lg lz (ah g8):=dE
def rf(B:Bl K mg base cv cA Cp)(yl:aq P w K mg base cv 3 "is_board" 1 gT)(T:bD K mg "need_board" g8 f):aq P w K mg base cv 4 "need_board" 1 (bp):=
 aB (N:=lg) (ps:=lz) T rn (λ_ _ _ _ _ _ us hl=>match us,hl with | [_],_=>rfl) λ_ _ _ _ _ _ hr=>
  (ar (bV (eY (eZ (bo yl (mR hr) rfl bh (ab (ae (pv 0)) ag) rfl))) (ar mE) bq))
abbrev hX:Stmt:=top 24
def lq:List Str:=["board","start","ways","back","ring","further","cell","near"]
def lD:List Str:=["board","start","ways"]
def bX:FnScope lq lD (ah hX):=dE
def rk(B:Bl K mg base cv cA Cp)(tq:aq P w K mg base cv 3 "like_cells" 3 cx)(T:bD K mg "steps_back" hX f):aq P w K mg base cv 4 "steps_back" 3 (cY):=
 aB (N:=lq) (ps:=lD) T bX (λ_ _ _ _ _ _ us hl=>match us,hl with | [_,_,_],_=>rfl) λ_ _ _ _ _ _ hr=>
  (aj (xk bX.nd rfl (.inl rfl) (sI hr.units (ae (pv 1)) KL)) (aj (aK bX.nd rfl (.inl rfl) (kh (ab (ae (pv 1)) ag))) (aj (dj (sJ Va (eZ (ae (pv 4))) (bf (aj (lH bX.nd rfl (.inl rfl)) (aj (bS Va rfl (bb (ae (pv 4))) (aQ bX.nd rfl (.inl rfl)) bA (bf (ar (bS Va rfl (bb (bo tq (mR hr) rfl d6 (ab (ae (pv 0)) (ab (ae (pv 6)) (ab (ae (pv 2)) ag))) rfl)) (aQ bX.nd rfl (.inl rfl)) bA (bf (ar (bV (zf (mF hr.units (ae (pv 7)) (ae (pv 3)))) (aj (i3 hr.units (pv 3) (ae (pv 7)) (ae (pv 6))) (ar (oG (pv 5) (ae (pv 7))))) bq))))))) (ar (dZ (i:=5) (aK bX.nd rfl (.inl rfl) (ae (pv 5)))))))))) (ar (dZ (i:=3) (aF (ae (pv 3))))))))
abbrev g7:Stmt:=top 21
def gV:List Str:=["board"]
def qg:List Str:=["board"]
def xH:FnScope gV qg (ah g7):=dE
def wX(B:Bl K mg base cv cA Cp)(cu:aq P w K mg base cv 4 "need_board" 1 bp)(T:bD K mg "mirrored" g7 f):aq P w K mg base cv 5 "mirrored" 1 (fC):=
 aB (N:=gV) (ps:=qg) T xH (λ_ _ _ _ _ _ us hl=>match us,hl with | [_],_=>rfl) λ_ _ _ _ _ _ hr=>
  (aj (eD (bo cu (mR hr) rfl bh (ab (ae (pv 0)) ag) rfl)) (ar (aF (EA rfl B.tuple rfl (ab (b7 (tn:=["row"]) (n:=0) (aU (N:=gV) (osc:=(ah g7)) rfl rfl (by decide+kernel)) rfl rfl (uC (ae (pv 0))) (λ_ _ _ _ _ _ _=>bL (show VC (((["row"]:List Str))++aZ ["row"] gV) by decide+kernel) rfl rfl) (λ_ _ _ _ _ _=>bj) (λ_ _ _ _ _ _=>(KO (ae (pv 0)) (KJ aA)))) ag)))))
abbrev gg:Stmt:=top 25
def jQ:List Str:=["board","ways","found","seen","cell","patch"]
def jT:List Str:=["board","ways"]
def cU:FnScope jQ jT (ah gg):=dE
def p_(B:Bl K mg base cv cA Cp)(eG:aq P w K mg base cv 2 "all_cells" 1 bE)(tu:aq P w K mg base cv 4 "steps_back" 3 cY)(FX:aq P w K mg base cv 1 "keyed" 1 oq)(T:bD K mg "all_patches" gg f):aq P w K mg base cv 5 "all_patches" 2 (a_):=
 aB (N:=jQ) (ps:=jT) T cU (λ_ _ _ _ _ _ us hl=>match us,hl with | [_,_],_=>rfl) λ_ _ _ _ _ _ hr=>
  (aj (lH cU.nd rfl (.inl rfl)) (aj (lI cU.nd rfl (.inl rfl)) (aj (dj (bS Va rfl (bb (bo eG (mR hr) rfl d6 (ab (ae (pv 0)) ag) rfl)) (aQ cU.nd rfl (.inl rfl)) bA (bf (ar (bV (zf (mF hr.units (ae (pv 4)) (ae (pv 3)))) (aj (aK cU.nd rfl (.inl rfl) (Hj rfl rfl B.sorted rfl (ab (bo tu (mR hr) rfl d6 (ab (ae (pv 0)) (ab (ae (pv 4)) (ab (ae (pv 1)) ag))) rfl) ag))) (aj (oG (pv 2) (ae (pv 5))) (ar (HF hr.units (pv 3) (bo FX (mR hr) rfl d6 (ab (ae (pv 5)) ag) rfl) ⟨rfl,rfl,rfl,rfl⟩)))) bq))))) (ar (dZ (i:=2) (aF (ae (pv 2))))))))
abbrev km:Stmt:=top 29
def pU:List Str:=["board","ways"]
def qc:List Str:=["board","ways"]
def xD:FnScope pU qc (ah km):=dE
def wR(B:Bl K mg base cv cA Cp)(cu:aq P w K mg base cv 4 "need_board" 1 bp)(eI:aq P w K mg base cv 2 "need_ways" 1 cq)(da:aq P w K mg base cv 5 "all_patches" 2 a_)(T:bD K mg "how_many" km f):aq P w K mg base cv 6 "how_many" 2 (dB):=
 aB (N:=pU) (ps:=qc) T xD (λ_ _ _ _ _ _ us hl=>match us,hl with | [_,_],_=>rfl) λ_ _ _ _ _ _ hr=>
  (aj (eD (bo cu (mR hr) rfl bh (ab (ae (pv 0)) ag) rfl)) (aj (eD (bo eI (mR hr) rfl bh (ab (ae (pv 1)) ag) rfl)) (ar (aF (dF rfl B.len (ab (bo da (mR hr) rfl bh (ab (ae (pv 0)) (ab (ae (pv 1)) ag)) rfl) ag))))))
abbrev ku:Stmt:=top 33
def pX:List Str:=["board","ways"]
def qh:List Str:=["board","ways"]
def xI:FnScope pX qh (ah ku):=dE
def wY(B:Bl K mg base cv cA Cp)(cu:aq P w K mg base cv 4 "need_board" 1 bp)(eI:aq P w K mg base cv 2 "need_ways" 1 cq)(o4:aq P w K mg base cv 3 "shared_sides" 2 b_)(da:aq P w K mg base cv 5 "all_patches" 2 a_)(T:bD K mg "touching" ku f):aq P w K mg base cv 6 "touching" 2 (fE):=
 aB (N:=pX) (ps:=qh) T xI (λ_ _ _ _ _ _ us hl=>match us,hl with | [_,_],_=>rfl) λ_ _ _ _ _ _ hr=>
  (aj (eD (bo cu (mR hr) rfl bh (ab (ae (pv 0)) ag) rfl)) (aj (eD (bo eI (mR hr) rfl bh (ab (ae (pv 1)) ag) rfl)) (ar (aF (Ez rfl hr.units rfl B.sorted rfl (bo o4 (mR hr) rfl bh (ab (ae (pv 0)) (ab (bo da (mR hr) rfl bh (ab (ae (pv 0)) (ab (ae (pv 1)) ag)) rfl) ag)) rfl))))))
abbrev qz:Stmt:=top 35
def wC:List Str:=["board","ways"]
def xa:List Str:=["board","ways"]
def Co:FnScope wC xa (ah qz):=dE
def B3(B:Bl K mg base cv cA Cp)(cu:aq P w K mg base cv 4 "need_board" 1 bp)(eI:aq P w K mg base cv 2 "need_ways" 1 cq)(o3:aq P w K mg base cv 3 "near_numbers" 3 dR)(da:aq P w K mg base cv 5 "all_patches" 2 a_)(T:bD K mg "map_of" qz f):aq P w K mg base cv 6 "map_of" 2 (dQ):=
 aB (N:=wC) (ps:=xa) T Co (λ_ _ _ _ _ _ us hl=>match us,hl with | [_,_],_=>rfl) λ_ _ _ _ _ _ hr=>
  (aj (eD (bo cu (mR hr) rfl bh (ab (ae (pv 0)) ag) rfl)) (aj (eD (bo eI (mR hr) rfl bh (ab (ae (pv 1)) ag) rfl)) (ar (aF (bo o3 (mR hr) rfl bh (ab (ae (pv 0)) (ab aA (ab (bo da (mR hr) rfl bh (ab (ae (pv 0)) (ab (ae (pv 1)) ag)) rfl) ag))) rfl)))))
abbrev g9:Stmt:=top 36
def lh:List Str:=["board","ways","number","near"]
def lA:List Str:=["board","ways","number"]
def jW:FnScope lh lA (ah g9):=dE
def rh(B:Bl K mg base cv cA Cp)(iA:aq P w K mg base cv 6 "map_of" 2 dQ)(eA:aq P w K mg base cv 2 "need_number" 2 bG)(T:bD K mg "neighbours" g9 f):aq P w K mg base cv 7 "neighbours" 3 (dS):=
 aB (N:=lh) (ps:=lA) T jW (λ_ _ _ _ _ _ us hl=>match us,hl with | [_,_,_],_=>rfl) λ_ _ _ _ _ _ hr=>
  (aj (aK jW.nd rfl (.inl rfl) (bo iA (mR hr) rfl bh (ab (ae (pv 0)) (ab (ae (pv 1)) ag)) rfl)) (aj (eD (bo eA (mR hr) rfl bh (ab (oD rfl B.len (ab (ae (pv 3)) ag)) (ab (ae (pv 2)) ag)) rfl)) (ar (aF (Hk rfl rfl B.sorted rfl (ab (eo hr.units (ae (pv 3)) (ae (pv 2))) ag))))))
abbrev mK:Stmt:=top 37
def sy:List Str:=["board","ways","one","other","near"]
def sF:List Str:=["board","ways","one","other"]
def qA:FnScope sy sF (ah mK):=dE
def y9(B:Bl K mg base cv cA Cp)(iA:aq P w K mg base cv 6 "map_of" 2 dQ)(eA:aq P w K mg base cv 2 "need_number" 2 bG)(iy:aq P w K mg base cv 1 "distances" 2 bF)(T:bD K mg "borders" mK f):aq P w K mg base cv 7 "borders" 4 (cX):=
 aB (N:=sy) (ps:=sF) T qA (λ_ _ _ _ _ _ us hl=>match us,hl with | [_,_,_,_],_=>rfl) λ_ _ _ _ _ _ hr=>
  (aj (aK qA.nd rfl (.inl rfl) (bo iA (mR hr) rfl bh (ab (ae (pv 0)) (ab (ae (pv 1)) ag)) rfl)) (aj (eD (bo eA (mR hr) rfl bh (ab (oD rfl B.len (ab (ae (pv 4)) ag)) (ab (ae (pv 2)) ag)) rfl)) (aj (eD (bo eA (mR hr) rfl bh (ab (oD rfl B.len (ab (ae (pv 4)) ag)) (ab (ae (pv 3)) ag)) rfl)) (ar (aF (eo hr.units (bo iy (mR hr) rfl bh (ab (ae (pv 4)) (ab (ae (pv 2)) ag)) rfl) (ae (pv 3))))))))
abbrev lN:Stmt:=top 38
def k_:List Str:=["board","ways","near","farthest"]
def xb:List Str:=["board","ways"]
def mL:FnScope k_ xb (ah lN):=dE
def B4(B:Bl K mg base cv cA Cp)(iA:aq P w K mg base cv 6 "map_of" 2 dQ)(iy:aq P w K mg base cv 1 "distances" 2 bF)(T:bD K mg "middle" lN f):aq P w K mg base cv 7 "middle" 2 (iE):=
 aB (N:=k_) (ps:=xb) T mL (λ_ _ _ _ _ _ us hl=>match us,hl with | [_,_],_=>rfl) λ_ _ _ _ _ _ hr=>
  (aj (aK mL.nd rfl (.inr rfl) (bo iA (mR hr) rfl bh (ab (ae (pv 0)) (ab (ae (pv 1)) ag)) rfl)) (aj (i6 (tn:=["number"]) (n:=0) mL.nd rfl (.inl rfl) (aU (N:=k_) (osc:=(ah lN)) rfl rfl (by decide+kernel)) rfl rfl (bc rfl B.range (ab (oD rfl B.len (ab (ae (pv 2)) ag)) ag)) (λ_ _ _ _ _ _ _=>bL (show VC (((["number"]:List Str))++aZ ["number"] k_) by decide+kernel) rfl rfl) (λ_ _ _ _ _ _=>bj) (λ_ _ _ _ _ _=>(Hi rfl rfl B.max rfl (bo iy (mR hr) rfl d6 (ab (ae (pv 3)) (ab (ae (pv 0)) ag)) rfl)))) (ar (aF (He (ae (pv 3)) (ab (oE rfl rfl B.min rfl (ab (ae (pv 3)) ag)) ag))))))
abbrev ai:Stmt:=top 43
def ax:List Str:=["_law_script","_law_board_here","_law_ways","_law_many","_law_rows","_law_pairs","_law_number","_law_fars","_law_one","_law_other","_law_here","_law_best","_law_most","_law_back","_law_whole"]
def my:List Str:=["_law_script"]
def aX:FnScope ax my (ah ai):=dE
def uU(B:Bl K mg base cv cA Cp)(iz:aq P w K mg base cv 3 "_law_board" 3 cP){b6:Value}{A:Vw}{outer:List Env}{s:Ux}{H:Hp}{E:XK}(hr:Room 7 (A.deeper (WO "law" (ah ai) s.heap.objs.size f b6))):
 Box (gj (de (jJ P w cv) P w K mg base ax "law" (ah ai) f b6 A outer s H E) (λn H'=>E (cv n) none H') ((aO ai).getD 0 (.Pass ⟨0,0,0,0⟩)) nL):=
 ⟨(aK aX.nd rfl (.inr rfl) (bo iz (mR hr) rfl bh (ab (ae (pv 0)) (ab aA (ab aA ag))) rfl))⟩
def uV(B:Bl K mg base cv cA Cp)(cp:aq P w K mg base cv 2 "_law_drawn" 3 aR){b6:Value}{A:Vw}{outer:List Env}{s:Ux}{H:Hp}{E:XK}(hr:Room 7 (A.deeper (WO "law" (ah ai) s.heap.objs.size f b6))):
 Box (gj (de (jJ P w cv) P w K mg base ax "law" (ah ai) f b6 A outer s H E) (λn H'=>E (cv n) none H') ((aO ai).getD 1 (.Pass ⟨0,0,0,0⟩)) nM):=
 ⟨(aK aX.nd rfl (.inr rfl) (cK (kh (ab aA (ab aA ag))) (bo cp (mR hr) rfl bh (ab (ae (pv 0)) (ab aA (ab aA ag))) rfl)))⟩
def uW(B:Bl K mg base cv cA Cp)(d7:aq P w K mg base cv 6 "how_many" 2 dB){b6:Value}{A:Vw}{outer:List Env}{s:Ux}{H:Hp}{E:XK}(hr:Room 7 (A.deeper (WO "law" (ah ai) s.heap.objs.size f b6))):
 Box (gj (de (jJ P w cv) P w K mg base ax "law" (ah ai) f b6 A outer s H E) (λn H'=>E (cv n) none H') ((aO ai).getD 2 (.Pass ⟨0,0,0,0⟩)) nN):=
 ⟨(aK aX.nd rfl (.inr rfl) (bo d7 (mR hr) rfl bh (ab (ae (pv 1)) (ab (ae (pv 2)) ag)) rfl))⟩
def uX(B:Bl K mg base cv cA Cp)(gQ:aq P w K mg base cv 7 "neighbours" 3 dS){b6:Value}{A:Vw}{outer:List Env}{s:Ux}{H:Hp}{E:XK}(hr:Room 7 (A.deeper (WO "law" (ah ai) s.heap.objs.size f b6))):
 Box (gj (de (jJ P w cv) P w K mg base ax "law" (ah ai) f b6 A outer s H E) (λn H'=>E (cv n) none H') ((aO ai).getD 3 (.Pass ⟨0,0,0,0⟩)) nO):=
 ⟨(aK aX.nd rfl (.inr rfl) (b7 (tn:=["_law_number"]) (n:=0) (aU (N:=ax) (osc:=(ah ai)) rfl rfl (by decide+kernel)) rfl rfl (bc rfl B.range (ab (ae (pv 3)) ag)) (λ_ _ _ _ _ _ _=>bL (show VC (((["_law_number"]:List Str))++aZ ["_law_number"] ax) by decide+kernel) rfl rfl) (λ_ _ _ _ _ _=>bj) (λ_ _ _ _ _ _=>(bo gQ (mR hr) rfl d6 (ab (ae (pv 2)) (ab (ae (pv 3)) (ab (ae (pv 0)) ag))) rfl))))⟩
def uY(B:Bl K mg base cv cA Cp)(j3:aq P w K mg base cv 6 "touching" 2 fE){b6:Value}{A:Vw}{outer:List Env}{s:Ux}{H:Hp}{E:XK}(hr:Room 7 (A.deeper (WO "law" (ah ai) s.heap.objs.size f b6))):
 Box (gj (de (jJ P w cv) P w K mg base ax "law" (ah ai) f b6 A outer s H E) (λn H'=>E (cv n) none H') ((aO ai).getD 4 (.Pass ⟨0,0,0,0⟩)) nP):=
 ⟨(aK aX.nd rfl (.inr rfl) (b7 (tn:=["_law_pair","_law_sides"]) (n:=2) (aU (N:=ax) (osc:=(ah ai)) rfl rfl (by decide+kernel)) rfl rfl (bb (bo j3 (mR hr) rfl bh (ab (ae (pv 1)) (ab (ae (pv 2)) ag)) rfl)) (λ_ _ _ _ _ _ _=>Lu (show VC (((["_law_pair","_law_sides"]:List Str))++aZ ["_law_pair","_law_sides"] ax) by decide+kernel) rfl rfl rfl rfl rfl) (λ_ _ _ _ _ _=>bj) (λ_ _ _ _ _ _=>(ae (pv 0)))))⟩
def uZ(B:Bl K mg base cv cA Cp){b6:Value}{A:Vw}{outer:List Env}{s:Ux}{H:Hp}{E:XK}(hr:Room 7 (A.deeper (WO "law" (ah ai) s.heap.objs.size f b6))):
 Box (gj (de (jJ P w cv) P w K mg base ax "law" (ah ai) f b6 A outer s H E) (λn H'=>E (cv n) none H') ((aO ai).getD 5 (.Pass ⟨0,0,0,0⟩)) jq):=
 ⟨(dj (bS Va rfl (bc rfl B.range (ab (ae (pv 3)) ag)) (aQ aX.nd rfl (.inr rfl)) bA (bf (aj (bV (PDW.t (ki (lJ hr.units (cK (ae (pv 4)) (ae (pv 6))) (uA rfl B.sorted rfl (ab (cK (ae (pv 4)) (ae (pv 6))) ag))) (g0 (AU (ae (pv 6)) (cK (ae (pv 4)) (ae (pv 6))))))) (ar (aF il)) bq) (aj (bV (lJ hr.units (b7 (tn:=["_law_other"]) (n:=0) (aU (N:=ax) (osc:=(ah ai)) rfl rfl (by decide+kernel)) rfl rfl (bb (cK (ae (pv 4)) (ae (pv 6)))) (λ_ _ _ _ _ _ _=>bL (show VC (((["_law_other"]:List Str))++aZ ["_law_other"] ax) by decide+kernel) rfl rfl) (λ_ _ _ _ _ _=>(qJ (Cf hr.units (i2 (ab (zd rfl rfl B.min rfl (ab (ae (pv 7)) (ab (ae (pv 0)) ag))) (ab (uz rfl rfl B.max rfl (ab (ae (pv 7)) (ab (ae (pv 0)) ag))) ag))) (ae (pv 6))))) (λ_ _ _ _ _ _=>(ae (pv 0)))) (kh ag)) (ar (aF il)) bq) (ar (bV (lJ hr.units (b7 (tn:=["_law_other"]) (n:=0) (aU (N:=ax) (osc:=(ah ai)) rfl rfl (by decide+kernel)) rfl rfl (bb (cK (ae (pv 4)) (ae (pv 6)))) (λ_ _ _ _ _ _ _=>bL (show VC (((["_law_other"]:List Str))++aZ ["_law_other"] ax) by decide+kernel) rfl rfl) (λ_ _ _ _ _ _=>(qJ (zi (ae (pv 7)) (cK (ae (pv 5)) (ae (pv 0)))))) (λ_ _ _ _ _ _=>(ae (pv 0)))) (kh ag)) (ar (aF il)) bq)))))))⟩
def u0(B:Bl K mg base cv cA Cp){b6:Value}{A:Vw}{outer:List Env}{s:Ux}{H:Hp}{E:XK}(hr:Room 7 (A.deeper (WO "law" (ah ai) s.heap.objs.size f b6))):
 Box (gj (de (jJ P w cv) P w K mg base ax "law" (ah ai) f b6 A outer s H E) (λn H'=>E (cv n) none H') ((aO ai).getD 6 (.Pass ⟨0,0,0,0⟩)) nQ):=
 ⟨(bV (lJ hr.units (Hm rfl rfl B.sum rfl (ab (b7 (tn:=["_law_row"]) (n:=0) (aU (N:=ax) (osc:=(ah ai)) rfl rfl (by decide+kernel)) rfl rfl (bb (ae (pv 4))) (λ_ _ _ _ _ _ _=>bL (show VC (((["_law_row"]:List Str))++aZ ["_law_row"] ax) by decide+kernel) rfl rfl) (λ_ _ _ _ _ _=>bj) (λ_ _ _ _ _ _=>(dF rfl B.len (ab (ae (pv 0)) ag)))) ag)) (iZ aA (dF rfl B.len (ab (ae (pv 5)) ag)))) (ar (aF il)) bq)⟩
def u4(B:Bl K mg base cv cA Cp)(fb:aq P w K mg base cv 7 "borders" 4 cX){b6:Value}{A:Vw}{outer:List Env}{s:Ux}{H:Hp}{E:XK}(hr:Room 7 (A.deeper (WO "law" (ah ai) s.heap.objs.size f b6))):
 Box (gj (de (jJ P w cv) P w K mg base ax "law" (ah ai) f b6 A outer s H E) (λn H'=>E (cv n) none H') ((aO ai).getD 7 (.Pass ⟨0,0,0,0⟩)) nR):=
 ⟨(aK aX.nd rfl (.inr rfl) (xc (tn:=["_law_one"]) (x0:="_law_one") (n:=0) (o7 (N:=ax) (osc:=(ah ai)) rfl rfl (λ_ _=>rfl) (λ_=>rfl) (by decide+kernel)) rfl rfl (bc rfl B.range (ab (ae (pv 3)) ag)) (λ_ _ _ _ _ _ _=>A9 (show VC (((["_law_one"]:List Str))++aZ ["_law_one"] ax) by decide+kernel) rfl rfl rfl) (λ_ _ _ _ _ _=>bj) (λ_ _ _ _ _ _=>(b7 (tn:=["_law_other"]) (n:=0) (aU (N:=(((["_law_one"]:List Str))++aZ ["_law_one"] ax)) (osc:=(Ci _ (ah ai))) rfl rfl (by decide+kernel)) rfl rfl (bc rfl B.range (ab (ae (pv 4)) ag)) (λ_ _ _ _ _ _ _=>bL (show VC (((["_law_other"]:List Str))++aZ ["_law_other"] (((["_law_one"]:List Str))++aZ ["_law_one"] ax)) by decide+kernel) rfl rfl) (λ_ _ _ _ _ _=>bj) (λ_ _ _ _ _ _=>(bo fb (mR hr) rfl d6 (ab (ae (pv 3)) (ab (ae (pv 4)) (ab (ae (pv 1)) (ab (ae (pv 0)) ag)))) rfl))))))⟩
def u5(B:Bl K mg base cv cA Cp){b6:Value}{A:Vw}{outer:List Env}{s:Ux}{H:Hp}{E:XK}(hr:Room 7 (A.deeper (WO "law" (ah ai) s.heap.objs.size f b6))):
 Box (gj (de (jJ P w cv) P w K mg base ax "law" (ah ai) f b6 A outer s H E) (λn H'=>E (cv n) none H') ((aO ai).getD 8 (.Pass ⟨0,0,0,0⟩)) jr):=
 ⟨(dj (bS Va rfl (bc rfl B.range (ab (ae (pv 3)) ag)) (aQ aX.nd rfl (.inr rfl)) bA (bf (ar (bS Va rfl (bc rfl B.range (ab (ae (pv 3)) ag)) (aQ aX.nd rfl (.inr rfl)) bA (bf (aj (aK aX.nd rfl (.inl rfl) (cK (cK (ae (pv 7)) (ae (pv 8))) (ae (pv 9)))) (aj (bV (PDW.t (ki (lJ hr.units (ae (pv 10)) (cK (cK (ae (pv 7)) (ae (pv 9))) (ae (pv 8)))) (g0 (lJ hr.units (lF hr.units (ae (pv 10)) aA) (lF hr.units (ae (pv 8)) (ae (pv 9))))))) (ar (aF il)) bq) (aj (bV (lJ hr.units (lF hr.units (ae (pv 10)) aA) (Hf (ae (pv 9)) (cK (ae (pv 4)) (ae (pv 8))))) (ar (aF il)) bq) (ar (bV (NH (ae (pv 10)) (oE rfl rfl B.min rfl (ab (b7 (tn:=["_law_third"]) (n:=0) (aU (N:=ax) (osc:=(ah ai)) rfl rfl (by decide+kernel)) rfl rfl (bc rfl B.range (ab (ae (pv 3)) ag)) (λ_ _ _ _ _ _ _=>bL (show VC (((["_law_third"]:List Str))++aZ ["_law_third"] ax) by decide+kernel) rfl rfl) (λ_ _ _ _ _ _=>bj) (λ_ _ _ _ _ _=>(cJ (cK (cK (ae (pv 8)) (ae (pv 9))) (ae (pv 0))) (cK (cK (ae (pv 8)) (ae (pv 0))) (ae (pv 10)))))) ag))) (ar (aF il)) bq)))))))))))⟩
def u6(B:Bl K mg base cv cA Cp)(oZ:aq P w K mg base cv 7 "middle" 2 iE){b6:Value}{A:Vw}{outer:List Env}{s:Ux}{H:Hp}{E:XK}(hr:Room 7 (A.deeper (WO "law" (ah ai) s.heap.objs.size f b6))):
 Box (gj (de (jJ P w cv) P w K mg base ax "law" (ah ai) f b6 A outer s H E) (λn H'=>E (cv n) none H') ((aO ai).getD 9 (.Pass ⟨0,0,0,0⟩)) nS):=
 ⟨(aK aX.nd rfl (.inl rfl) (bo oZ (mR hr) rfl bh (ab (ae (pv 1)) (ab (ae (pv 2)) ag)) rfl))⟩
def rp(B:Bl K mg base cv cA Cp){b6:Value}{A:Vw}{outer:List Env}{s:Ux}{H:Hp}{E:XK}(hr:Room 7 (A.deeper (WO "law" (ah ai) s.heap.objs.size f b6))):
 Box (gj (de (jJ P w cv) P w K mg base ax "law" (ah ai) f b6 A outer s H E) (λn H'=>E (cv n) none H') ((aO ai).getD 10 (.Pass ⟨0,0,0,0⟩)) lV):=
 ⟨(i6 (tn:=["_law_row"]) (n:=0) aX.nd rfl (.inl rfl) (aU (N:=ax) (osc:=(ah ai)) rfl rfl (by decide+kernel)) rfl rfl (bb (ae (pv 7))) (λ_ _ _ _ _ _ _=>bL (show VC (((["_law_row"]:List Str))++aZ ["_law_row"] ax) by decide+kernel) rfl rfl) (λ_ _ _ _ _ _=>bj) (λ_ _ _ _ _ _=>(Hh rfl rfl B.max rfl (ab (ae (pv 0)) ag))))⟩
def rq(B:Bl K mg base cv cA Cp){b6:Value}{A:Vw}{outer:List Env}{s:Ux}{H:Hp}{E:XK}(hr:Room 7 (A.deeper (WO "law" (ah ai) s.heap.objs.size f b6))):
 Box (gj (de (jJ P w cv) P w K mg base ax "law" (ah ai) f b6 A outer s H E) (λn H'=>E (cv n) none H') ((aO ai).getD 11 (.Pass ⟨0,0,0,0⟩)) lW):=
 ⟨(bV (PDW.t (ki (lJ hr.units (cK (ae (pv 12)) (ae (pv 11))) (oE rfl rfl B.min rfl (ab (ae (pv 12)) ag))) (g0 (AU (oE rfl rfl B.min rfl (ab (ae (pv 12)) ag)) (NC (ae (pv 12)) EC (ED (ae (pv 11)))))))) (ar (aF il)) bq)⟩
def rA(B:Bl K mg base cv cA Cp)(j2:aq P w K mg base cv 5 "mirrored" 1 fC){b6:Value}{A:Vw}{outer:List Env}{s:Ux}{H:Hp}{E:XK}(hr:Room 7 (A.deeper (WO "law" (ah ai) s.heap.objs.size f b6))):
 Box (gj (de (jJ P w cv) P w K mg base ax "law" (ah ai) f b6 A outer s H E) (λn H'=>E (cv n) none H') ((aO ai).getD 12 (.Pass ⟨0,0,0,0⟩)) lX):=
 ⟨(aK aX.nd rfl (.inr rfl) (bo j2 (mR hr) rfl bh (ab (ae (pv 1)) ag) rfl))⟩
def rB(B:Bl K mg base cv cA Cp){b6:Value}{A:Vw}{outer:List Env}{s:Ux}{H:Hp}{E:XK}(hr:Room 7 (A.deeper (WO "law" (ah ai) s.heap.objs.size f b6))):
 Box (gj (de (jJ P w cv) P w K mg base ax "law" (ah ai) f b6 A outer s H E) (λn H'=>E (cv n) none H') ((aO ai).getD 13 (.Pass ⟨0,0,0,0⟩)) lY):=
 ⟨(aK aX.nd rfl (.inl rfl) (AL hr.units rfl B.sorted rfl (ab (b7 (tn:=["_law_row"]) (n:=0) (aU (N:=ax) (osc:=(ah ai)) rfl rfl (by decide+kernel)) rfl rfl (bb (ae (pv 7))) (λ_ _ _ _ _ _ _=>bL (show VC (((["_law_row"]:List Str))++aZ ["_law_row"] ax) by decide+kernel) rfl rfl) (λ_ _ _ _ _ _=>bj) (λ_ _ _ _ _ _=>(uA rfl B.sorted rfl (ab (ae (pv 0)) ag)))) ag)))⟩
def rC(B:Bl K mg base cv cA Cp)(fb:aq P w K mg base cv 7 "borders" 4 cX){b6:Value}{A:Vw}{outer:List Env}{s:Ux}{H:Hp}{E:XK}(hr:Room 7 (A.deeper (WO "law" (ah ai) s.heap.objs.size f b6))):
 Box (gj (de (jJ P w cv) P w K mg base ax "law" (ah ai) f b6 A outer s H E) (λn H'=>E (cv n) none H') ((aO ai).getD 14 (.Pass ⟨0,0,0,0⟩)) lZ):=
 ⟨(aK aX.nd rfl (.inr rfl) (xc (tn:=["_law_one"]) (x0:="_law_one") (n:=0) (o7 (N:=ax) (osc:=(ah ai)) rfl rfl (λ_ _=>rfl) (λ_=>rfl) (by decide+kernel)) rfl rfl (bc rfl B.range (ab (ae (pv 3)) ag)) (λ_ _ _ _ _ _ _=>A9 (show VC (((["_law_one"]:List Str))++aZ ["_law_one"] ax) by decide+kernel) rfl rfl rfl) (λ_ _ _ _ _ _=>bj) (λ_ _ _ _ _ _=>(b7 (tn:=["_law_two"]) (n:=0) (aU (N:=(((["_law_one"]:List Str))++aZ ["_law_one"] ax)) (osc:=(Ci _ (ah ai))) rfl rfl (by decide+kernel)) rfl rfl (bc rfl B.range (ab (ae (pv 4)) ag)) (λ_ _ _ _ _ _ _=>bL (show VC (((["_law_two"]:List Str))++aZ ["_law_two"] (((["_law_one"]:List Str))++aZ ["_law_one"] ax)) by decide+kernel) rfl rfl) (λ_ _ _ _ _ _=>bj) (λ_ _ _ _ _ _=>(bo fb (mR hr) rfl d6 (ab (ae (pv 15)) (ab (ae (pv 4)) (ab (ae (pv 1)) (ab (ae (pv 0)) ag)))) rfl))))))⟩
def rD(B:Bl K mg base cv cA Cp)(d7:aq P w K mg base cv 6 "how_many" 2 dB){b6:Value}{A:Vw}{outer:List Env}{s:Ux}{H:Hp}{E:XK}(hr:Room 7 (A.deeper (WO "law" (ah ai) s.heap.objs.size f b6))):
 Box (gj (de (jJ P w cv) P w K mg base ax "law" (ah ai) f b6 A outer s H E) (λn H'=>E (cv n) none H') ((aO ai).getD 15 (.Pass ⟨0,0,0,0⟩)) l0):=
 ⟨(aF (ux (lF hr.units (bo d7 (mR hr) rfl bh (ab (ae (pv 13)) (ab (ae (pv 2)) ag)) rfl) (ae (pv 3))) (ze (lF hr.units (AL hr.units rfl B.sorted rfl (ab (b7 (tn:=["_law_row"]) (n:=0) (aU (N:=ax) (osc:=(ah ai)) rfl rfl (by decide+kernel)) rfl rfl (bb (ae (pv 9))) (λ_ _ _ _ _ _ _=>bL (show VC (((["_law_row"]:List Str))++aZ ["_law_row"] ax) by decide+kernel) rfl rfl) (λ_ _ _ _ _ _=>bj) (λ_ _ _ _ _ _=>(uA rfl B.sorted rfl (ab (ae (pv 0)) ag)))) ag)) (ae (pv 14))))))⟩
def wN{fd:Xm}(B:Bl K mg base cv cA Cp)(iz:aq P w K mg base cv 3 "_law_board" 3 cP)(d7:aq P w K mg base cv 6 "how_many" 2 dB)(oZ:aq P w K mg base cv 7 "middle" 2 iE)(j2:aq P w K mg base cv 5 "mirrored" 1 fC)(cp:aq P w K mg base cv 2 "_law_drawn" 3 aR)(gQ:aq P w K mg base cv 7 "neighbours" 3 dS)(j3:aq P w K mg base cv 6 "touching" 2 fE)(fb:aq P w K mg base cv 7 "borders" 4 cX)(Fn:Fun K "law" "law" ai f fd):FnOk P w K mg base (jJ P w cv) 8 f fd my (LR K cv 1 jx):=
 Me (N:=ax) (ps:=my) (τ:=mQ) Fn aX λb6 A outer s H E hr=>by
  obtain⟨Ui⟩:Box (PSDs (de (jJ P w cv) P w K mg base ax "law" (ah ai) f b6 A outer s H E) (λn H'=>E (cv n) none H') (aO ai) mQ):=(dm (uU B iz hr) (dm (uV B cp hr) (dm (uW B d7 hr) (dm (uX B gQ hr) (dm (uY B j3 hr) (dm (uZ B hr) (dm (u0 B hr) (dm (u4 B fb hr) (dm (u5 B hr) (dm (u6 B oZ hr) (dm (rp B hr) (dm (rq B hr) (dm (rA B j2 hr) (dm (rB B hr) (dm (rC B fb hr) (Jp (rD B d7 hr)))))))))))))))))
  assumption
end
end K1
namespace K1
open PySem L2 L3
def D_{ds:List D}(h:ds.length<=lim):eU ds=aa (.lst ds):=abz h
def c5:lim=4096:=rfl
def gm{i:Nat}{x:α}(h:xs[i]? =some x):L2.atI xs (i:Int)=some x:=by
 obtain⟨hi,e⟩:=UA.mp h;unfold L2.atI Kf;rw[abz (Int.natCast_nonneg i),abz (by exact Int.ofNat_lt.mpr hi)];exact h
def aw{δs:DA}(h:δs ρ=aa ds)(hl:ds.length=m):ay m g δs ρ=g ds:=by
 unfold ay;rw[h];exact abz hl
def aE{ρ:bC}(h1:a ρ=aa x)(h2:r ρ=aa xs):aC a r ρ=aa (x::xs):=by
 unfold aC;rw[h1,au,h2];rfl
def aH{ρ:bC}{x y:D}(h1:a ρ=aa x)(h2:b ρ=aa y):d2 g a b ρ=g x y:=by
 unfold d2;rw[h1,au,h2];rfl
def a8{ρ:bC}{xs:List D}(h:a ρ=aa xs):dA g a ρ=g xs:=by
 unfold dA;rw[h];rfl
def gu{i j:Int}(h:0<j):kM (.int i) (.int j)=aa (.int (i % j)):=by
 show (if decide (0<j)=true then _ else _)=_;rw[abz (abB h)]
def kL{i j:Int}(h:0<j)(h2:j<1073741824):qW (.int i) (.int j)=aa (.int (i / j)):=by
 show (if decide (0<j/\j<1073741824)=true then _ else _)=_;rw[abz (abB ⟨h,h2⟩)]
def fF{i j:Int}(h:(-(2 ^ 64)<i/\i<2 ^ 64)\/(-(2 ^ 64)<j/\j<2 ^ 64)):iG (.int i) (.int j)=aa (.int (i*j)):=by
 show (if decide _=true then _ else _)=_;rw[abz (abB h)]
def iF{i j:Int}:dU (.int i) (.int j)=aa (.int (i+j)):=rfl
def C2(ns:List Int)(hl:ns.length<=63)(k:Nat):∃v,fB [.scr ns, .int (k:Int)]=aa (.int v):=by
 cases ns with
 |nil=>
  refine⟨7*(k:Int),?_⟩;rfl
 |cons n r=>
  have hp:0<(n::r).length:=aaO _;generalize e:(n::r)=ns at*;have he:jH 6 (.scr ns) (.lst [])=some false:=by subst e;rfl
  obtain⟨y,hy⟩:∃y,ns[k % ns.length]? =some y:=⟨_,Us (aan _ hp)⟩
  have J3:(0:Int)<(ns.length:Int):=by omega
  have h1:kM (.int (k:Int)) (.int (ns.length:Int))=aa (.int ((k % ns.length:Nat):Int)):=gu J3;have h2:qW (.int (k:Int)) (.int (ns.length:Int))=aa (.int ((k:Int) / (ns.length:Int))):=kL J3 (by omega);have h3:Du (.scr ns) (.int ((k % ns.length:Nat):Int))=aa (.int y):=by
   show (match L2.atI ns ((k % ns.length:Nat):Int) with | some n=>aa (D.int n) | none=>af)=_;rw[gm hy]
  have h4:iG (.int 6553) (.int ((k:Int) / (ns.length:Int)))=aa (.int (6553*((k:Int) / (ns.length:Int)))):=fF (.inl ⟨by decide,by decide⟩);refine⟨y+6553*((k:Int) / (ns.length:Int)),?_⟩;simp only[fB,qQ,cC,aG,kC,bI,eT,eO,d2,dV,dC,dA,aC,aN,eU,cF,CW,md,he,au,h1,h2,h3,h4,Uz,Xf,XI,Wn,UI,VX,Vx,VO,c5,Nat.reduceAdd,U3,if_true,Vj,if_false,dU,gI]
def gr(ns:List Int)(hl:ns.length<=63)(k m:Nat)(hm:0<m):∃v:Nat,v<m/\aR [.scr ns, .int (k:Int), .int (m:Int)]=aa (.int (v:Int)):=by
 obtain⟨c,hc⟩:=C2 ns hl k;have b1:=Z1 (c % 2147483563*69069+104723*((k:Int)+1)) (b:=2147483563) (by decide);have b2:=Zc (c % 2147483563*69069+104723*((k:Int)+1)) (b:=2147483563) (by decide);generalize hx:(c % 2147483563*69069+104723*((k:Int)+1)) % 2147483563=x at b1 b2;have b3:=Z1 (x*x+x / 3) (b:=2147483399) (by decide);have b4:=Zc (x*x+x / 3) (b:=2147483399) (by decide);generalize hy:(x*x+x / 3) % 2147483399=y at b3 b4;have m1:iG (.int (c % 2147483563)) (.int 69069)=_:=fF (.inr ⟨by decide,by decide⟩);have m2:iG (.int 104723) (.int ((k:Int)+1))=_:=fF (.inl ⟨by decide,by decide⟩);have m3:iG (.int x) (.int x)=_:=fF (.inl ⟨by omega,by omega⟩);have m4:iG (.int y) (.int y)=_:=fF (.inl ⟨by omega,by omega⟩);have hM:(0:Int)<(m:Int):=Int.ofNat_lt.mpr hm;have n1:=Z1 ((y*y+y / 7) % 2147483647 / 11) (b:=(m:Int)) (by omega);have n2:=Zc ((y*y+y / 7) % 2147483647 / 11) hM;have q1:kM (.int c) (.int 2147483563)=_:=gu (by decide);have q2:kM (.int (c % 2147483563*69069+104723*((k:Int)+1))) (.int 2147483563)=_:=gu (by decide);have q3:qW (.int x) (.int 3)=_:=kL (by decide) (by decide);have q4:kM (.int (x*x+x / 3)) (.int 2147483399)=_:=gu (by decide);have q5:qW (.int y) (.int 7)=_:=kL (by decide) (by decide);have q6:kM (.int (y*y+y / 7)) (.int 2147483647)=_:=gu (by decide);have q7:qW (.int ((y*y+y / 7) % 2147483647)) (.int 11)=_:=kL (by decide) (by decide);have q8:kM (.int ((y*y+y / 7) % 2147483647 / 11)) (.int (m:Int))=_:=gu hM;refine⟨((y*y+y / 7) % 2147483647 / 11 % (m:Int)).toNat,by omega,?_⟩;rw[Int.toNat_of_nonneg n1];rw[hx] at q2;rw[hy] at q4;simp only[aR,nK,cC,aG,bW,bI,ay,d2,dV,dC,dA,aC,aN,au,hc,Uz,Xf,XI,Wn,UI,VX,Vx,VO,Vu,Y8,Y9,Nat.reduceAdd,Nat.reduceSub,if_true,iF,m1,m2,m3,m4,q1,q2,q3,q4,q5,q6,q7,q8]
def Eh{α:Type}(a:α):noex (aa a)=aa a:=rfl
def vY{I:Nat->bC->Prop}:∀(ds:List D) (i:Nat) (ρ:bC),I i ρ->
 (∀j d,ds[j]? =some d->∀ρ,I (i+j) ρ->∃ρ1 ρ2,put d ρ=some ρ1/\body ρ1=aa (.nx ρ2)/\I (i+j+1) ρ2)->∃ρ',forL put body ds ρ=aa (.nx ρ')/\I (i+ds.length) ρ'
 |[],i,ρ,h,_=>⟨ρ,rfl,h⟩
 |d::ds,i,ρ,h,step=>by
  obtain⟨ρ1,ρ2,e1,e2,h2⟩:=step 0 d rfl ρ h;obtain⟨ρ',e3,h3⟩:=vY (I:=I) ds (i+1) ρ2 h2 λj d' hd ρ hI=>by
   have:=step (j+1) d' hd ρ (by rw[show i+(j+1)=i+1+j by omega];exact hI);rw[show i+(j+1)+1=i+1+j+1 by omega] at this;exact this
  refine⟨ρ',?_,?_⟩
  ·show (match put d ρ with | none=>af | some ρ1=>body ρ1>>=λo=>match o with | .nx ρ2=>forL put body ds ρ2 | .rt v=>aa (.rt v))=_;rw[e1];show (body ρ1>>=λo=>match o with | .nx ρ2=>forL put body ds ρ2 | .rt v=>aa (.rt v))=_;rw[e2];exact e3
  ·rw[show i+(d::ds).length=i+1+ds.length by simp;omega];exact h3
def rQ{Pr:D->Prop}:∀(ds:List D),(∀d∈ds,∃y,f d=aa (some y)/\Pr y)->∃ys,bY f ds=aa ys/\ys.length=ds.length/\∀y∈ys,Pr y
 |[],_=>⟨[],rfl,rfl,λ_ h=>by cases h⟩
 |d::ds,h=>by
  obtain⟨y,e,hy⟩:=h d (Uv ..);obtain⟨ys,e2,hl,hp⟩:=rQ ds λd' hd=>h d' (Uu _ hd);refine⟨y::ys,?_,by simp[hl],λz hz=>?_⟩
  ·rw[dq,e,au,e2];rfl
  ·cases hz with
   |head=>exact hy
   |tail _ hz=>exact hp z hz
def gq{g:D->D}:∀(ds:List D),(∀d∈ds,f d=aa (some (g d)))->bY f ds=aa (ds.map g)
 |[],_=>rfl
 |d::ds,h=>by
  rw[dq,h d (Uv ..),au,gq ds λd' hd=>h d' (Uu _ hd)];rfl
def J9(x:Str):Bool:=!(W8 ("abcdef":Str) x 0 ("abcdef":Str).length 1).isEmpty
structure Row (W:Nat) (r:Str):Prop where
 len:r.length=W
 let':∀c∈r.cps.toList,J9 ⟨#[c]⟩=true
structure Good (bd:List Str) (W:Nat):Prop where
 r1:1<=bd.length
 r5:bd.length<=5
 w1:1<=W
 w5:W<=5
 rows:∀r∈bd,Row W r
abbrev lE(c:Nat):Prop:=J9 ⟨#[c]⟩=true/\c≠101/\c≠100
def Sa(r:Str):Prop:=∀c∈r.cps.toList,c≠101
def Oj(r:Str):Prop:=∀c∈r.cps.toList,c≠101/\c≠100
def xR:∀(ys:List D),(∀y∈ys,∃c,y= .str ⟨#[c]⟩/\lE c)->∃xs,u_ ys=some xs/\xs.length=ys.length/\(xs.map (·.length)).sum=ys.length/\Row ys.length (eP xs)/\Oj (eP xs)
 |[],_=>⟨[],rfl,rfl,rfl,⟨rfl,λc h=>by cases h⟩,λc h=>by cases h⟩
 |y::ys,h=>by
  obtain⟨c,e,hc⟩:=h y (Uv ..);obtain⟨xs,e1,e2,e3,e4,e5⟩:=xR ys λz hz=>h z (Uu _ hz);subst e;have mf:∀z,z∈((⟨#[c]⟩:Str)++eP xs).cps.toList->z=c\/z∈(eP xs).cps.toList:=λz hz=>by
   have:((⟨#[c]⟩:Str)++eP xs).cps= #[c]++(eP xs).cps:=rfl;rw[this] at hz;simpa using hz
  refine⟨⟨#[c]⟩::xs,?_,by simp[e2],?_,⟨?_,λz hz=>?_⟩,λz hz=>?_⟩
  ·show (u_ ys).map _=_;rw[e1];rfl
  ·rw[Uz,Xj,e3];show 1+ys.length=_;simp;omega
  ·show ((⟨#[c]⟩:Str)++eP xs).length=_;rw[ji,e4.len];show 1+ys.length=_;simp;omega
  ·rcases mf z hz with rfl | q
   ·exact hc.1
   ·exact e4.let' z q
  ·rcases mf z hz with rfl | q
   ·exact hc.2
   ·exact e5 z q
def E5{n:Nat}{d:D}(h:d∈gM lo n):∃i:Nat,i<n/\d= .int (lo+(i:Int)):=by
 unfold gM at h;obtain⟨i,hi,e⟩:=UC.mp h;exact⟨i,UP.mp hi,e.symm⟩
def HK{n j:Nat}{d:D}(h:(gM lo n)[j]? =some d):j<n/\d= .int (lo+(j:Int)):=by
 unfold gM at h;rw[UG] at h;by_cases hj:j<n
 ·rw[Xd hj] at h;cases h;exact⟨hj,rfl⟩
 ·rw[XC (by simpa using hj)] at h;cases h
def i_(lo:Int)(n:Nat):(gM lo n).length=n:=by simp[gM]
abbrev iW(w:Nat):D:= .int w
abbrev fz(d:D):Option Sl:=some (.fz d)
def f_{ρ:bC}{d:D}:dP 0 bw δe ρ d=(δe (fz d::ρ)>>=λy=>aa (some y)):=rfl
def C7{ρ:bC}{d:D}:dP 0 δt δe ρ d=(δt (fz d::ρ)>>=λb=>if b then δe (fz d::ρ)>>=λy=>aa (some y) else aa none):=rfl
def ak{ρ ρ':bC}{o:M Out}(h:a ρ=aa (.nx ρ'))(h2:b ρ'=o):aG a b ρ=o:=by
 unfold aG;rw[h];exact h2
def jD{ρ:bC}{d:D}(h:a ρ=aa (.rt d)):aG a b ρ=aa (.rt d):=by
 unfold aG;rw[h];rfl
def aJ{ρ:bC}{d:D}(h:δ ρ=aa d):bW i δ ρ=aa (.nx (ρ.set i (fz d))):=by
 unfold bW;rw[h];rfl
def ja{ρ:bC}{o:M Out}(h:c ρ=aa true)(h2:a ρ=o):kC c a b ρ=o:=by
 unfold kC;rw[h];exact h2
def d3{ρ:bC}{o:M Out}(h:c ρ=aa false)(h2:b ρ=o):kC c a b ρ=o:=by
 unfold kC;rw[h];exact h2
def aS{ρ:bC}{d:D}(h:δ ρ=aa d):bI δ ρ=aa (.rt d):=by
 unfold bI;rw[h];rfl
def cT{ρ:bC}{d:D}(h:δ ρ=aa d):kj δ ρ=aa (.nx ρ):=by
 unfold kj;rw[h];rfl
def aY{ds:List D}{d:D}(h:τ (ds.map (λd=>some (Sl.fz d))++Vu (n - ds.length) none)=aa (.rt d)):cC n τ ds=aa d:=by
 unfold cC;rw[h];rfl
def A2{ds:List D}{ρ:bC}(h:τ (ds.map (λd=>some (Sl.fz d))++Vu (n - ds.length) none)=aa (.nx ρ)):cC n τ ds=aa .non:=by
 unfold cC;rw[h];rfl
def E7{ρ:bC}(h:δi ρ=aa ds)(h2:forL put b ds ρ=aa o):noex (d5 put δi b ρ)=aa o:=by
 unfold d5;rw[h,au,h2];rfl
def a7{τ:DS}{ρ ρ':bC}(h:τ ρ=aa (.nx ρ')):c_ is τ ρ=aa (.nx (fgt is ρ')):=by
 unfold c_;rw[h];rfl
def bu{δe:DE}(h:δi ρ=aa ds)(h2:bY (dP n δt δe ρ) ds=aa ys)(h3:ys.length<=lim):aV n δi δt δe ρ=aa (.lst ys):=by
 unfold aV;rw[h,au,h2,Eh,au,D_ h3]
def mJ{n:Nat}(h:n<=4096):c0 [.int (n:Int)]=aa (gM 0 n):=by
 show (if -4096<=(n:Int)/\(n:Int)<=4096 then aa (gM 0 (n:Int).toNat) else af)=_;rw[abz ⟨by omega,by omega⟩];rfl
structure Alpha (al:Str):Prop where
 pos:0<al.length
 ok:∀c∈al.cps.toList,lE c
def Ji:Alpha "ab"/\Alpha "abc"/\Alpha "aab"/\Alpha "fa":=by
 refine⟨⟨by decide+kernel,?_⟩,⟨by decide+kernel,?_⟩,⟨by decide+kernel,?_⟩,⟨by decide+kernel,?_⟩⟩<;>decide+kernel
def Dv{i:Nat}(h:i<x.length):∃c,c∈x.cps.toList/\x.cps.toList[i]? =some c/\v3 (.str x) (.int (i:Int))=aa (.str ⟨#[c]⟩):=by
 have h:i<x.cps.toList.length:=by rw[UL];exact h
 refine⟨x.cps.toList[i],VM h,Us h,?_⟩;show (match L2.atI x.cps.toList (i:Int) with | some c=>aa (D.str ⟨#[c]⟩) | none=>af)=_;rw[gm (Us h)]
abbrev brd(bd:List Str):D:= .tup (bd.map D.str)
abbrev sgn(at' mo:Nat)(ns:List Int)(W:Nat)(al:Str)(bd:List Str)(R:Nat)(x7 x8:Option Sl):bC:=[fz (.scr ns),fz (.int (at':Int)),fz (.int (mo:Int)),fz (.int (R:Int)),fz (.int (W:Int)),fz (.str al),fz (brd bd),x7,x8]
def Cr(at' mo:Nat)(ns:List Int)(hl:ns.length<=63)(al:Str)(ha:Alpha al)(j W R:Nat)(hW:W<=5)(bd:List Str)(x8:Option Sl):
 ∃ys,QZ (sgn at' mo ns W al bd R (fz (.int (0+(j:Int)))) x8)=aa (.lst ys)/\ys.length=W/\∀y∈ys,∃c,y= .str ⟨#[c]⟩/\lE c:=by
 obtain⟨ys,e,FN,hp⟩:=rQ (f:=dP 0 bw (d2 v3 (dV 6) (ay 3 aR (aC (dV 1) (aC (d2 dU (d2 dU (d2 dU (dV 2) (dC (.int 3))) (d2 iG (dC (.int 7)) (dV 8))) (dV 0)) (aC (dA cF (aC (dV 6) aN)) aN)))))
  (sgn at' mo ns W al bd R (fz (.int (0+(j:Int)))) x8)) (Pr:=λy=>∃c,y= .str ⟨#[c]⟩/\lE c) (gM 0 W) λd hd=>by
  obtain⟨i,hi,rfl⟩:=E5 hd;obtain⟨v,hv,e⟩:=gr ns hl (at'+3+7*j+i) al.length ha.pos;obtain⟨c,hc,_,e2⟩:=Dv hv;refine⟨.str ⟨#[c]⟩,?_,c,rfl,ha.ok c hc⟩;rw[f_];have k:(at':Int)+3+7*(0+(j:Int))+(0+(i:Int))=((at'+3+7*j+i:Nat):Int):=by omega
  have m1:iG (.int 7) (.int (0+(j:Int)))=aa (.int (7*(0+(j:Int)))):=fF (.inl ⟨by decide,by decide⟩);simp only[ay,d2,dV,dC,dA,aC,aN,au,UI,VX,Vx,VO,Nat.reduceAdd,if_true,iF,m1,k,cF,e,e2]
 refine⟨ys,bu (mJ (n:=W) (by omega)) e (by rw[FN,i_,c5];omega),by rw[FN,i_],hp⟩
def FY(at' mo:Nat)(ns:List Int)(W:Nat)(al:Str)(bd:List Str)(R:Nat)(x7:Option Sl)(ys:List D)(hb:bd.length<=5)(hy:ys.length<=5)(s3:∀y∈ys,∃c,y= .str ⟨#[c]⟩/\lE c):
 ∃r,(Row ys.length r/\Oj r)/\Q0 (sgn at' mo ns W al bd R x7 (fz (.lst ys)))=aa (.nx (sgn at' mo ns W al (bd++[r]) R x7 (fz (.lst ys)))):=by
 obtain⟨xs,t1,t2,t3,t4⟩:=xR ys s3;refine⟨eP xs,t4,?_⟩;have jn:joinM (.str "") [.lst ys]=aa (.str (eP xs)):=by
  show (match u_ ys with | some (xs:List Str)=>if ("":Str).length=0/\(xs.map (λx:Str=>x.length)).sum<=lim then aa (D.str (eP xs)) else af | none=>af)=_;rw[t1];show (if ("":Str).length=0/\(xs.map (λx:Str=>x.length)).sum<=lim then aa (D.str (eP xs)) else af)=_;rw[abz ⟨rfl,by rw[t3,c5];omega⟩]
 have ct:Aa (brd bd) (.tup [.str (eP xs)])=aa (brd (bd++[eP xs])):=by
  show (if (bd.map D.str).length+1<=lim then aa (D.tup (bd.map D.str++[.str (eP xs)])) else af)=_;rw[abz (by rw[Ur,c5];omega)];simp[brd]
 refine(aJ (d:=brd (bd++[eP xs])) ?_).trans rfl;simp only[d2,dV,dC,dA,aC,aN,dM,OK,au,Vx,VO,if_true,jn,fL,UI,VX,c5,Nat.reduceAdd,Nat.reduceLeDiff,ct]
def yh(ns:List Int)(hl:ns.length<=63)(at' mo:Nat)(m0:0<mo)(m5:mo<=5):∃bd W,Good bd W/\(∀r∈bd,Oj r)/\bd.length<=mo/\W<=mo/\cP [.scr ns, .int (at':Int), .int (mo:Int)]=aa (brd bd):=by
 obtain⟨r,hr,e1⟩:=gr ns hl at' mo m0;obtain⟨c,hc,e2⟩:=gr ns hl (at'+1) mo m0;obtain⟨a,ha,e3⟩:=gr ns hl (at'+2) 4 (by decide);obtain⟨al,Dy,e4⟩:∃al,Alpha al/\dg (.lst [.str "ab", .str "abc", .str "aab", .str "fa"]) (.int (a:Int))=aa (.str al):=by
  obtain⟨a1,a2,a3,a4⟩:=Ji
  match a,ha with
  |0,_=>exact⟨_,a1,rfl⟩
  |1,_=>exact⟨_,a2,rfl⟩
  |2,_=>exact⟨_,a3,rfl⟩
  |3,_=>exact⟨_,a4,rfl⟩
 have k1:(1:Int)+(r:Int)=((r+1:Nat):Int):=by omega
 have k2:(1:Int)+(c:Int)=((c+1:Nat):Int):=by omega
 have zY:aR [.scr ns, .int (at':Int), .int (mo:Int)]=aa (.int (r:Int)):=e1;have Iu:aR [.scr ns, .int ((at':Int)+1), .int (mo:Int)]=aa (.int (c:Int)):=e2;have LD:aR [.scr ns, .int ((at':Int)+2), .int 4]=aa (.int (a:Int)):=e3;obtain⟨ρ',f1,bd,f2,f3,f4⟩:=vY (put:=putN 7) (body:=c_ [7,8] (aG (bW 8 QZ) Q0))
  (I:=λi ρ=>∃bd,ρ=sgn at' mo ns (c+1) al bd (r+1) none none/\bd.length=i/\∀z∈bd,Row (c+1) z/\Oj z)
  (gM 0 (r+1)) 0 (sgn at' mo ns (c+1) al [] (r+1) none none) ⟨[],rfl,rfl,λ_ h=>by cases h⟩ λj d hd ρ ⟨bd,hρ,hb,hw⟩=>by
   obtain⟨hj,rfl⟩:=HK hd;subst hρ;obtain⟨ys,s1,s2,s3⟩:=Cr at' mo ns hl al Dy j (c+1) (r+1) (by omega) bd none;obtain⟨vn,t1,t2⟩:=FY at' mo ns (c+1) al bd (r+1) (fz (.int (0+(j:Int)))) ys (by omega) (by omega) s3;refine⟨_,_,rfl,a7 (ak (aJ s1) t2),bd++[vn],rfl,by simp[hb],λz hz=>?_⟩;rcases Vd.mp hz with h | h
   ·exact hw z h
   ·have h:z=vn:=by simpa using h
    subst h;rw[s2] at t1;exact t1
 refine⟨bd,c+1,⟨by rw[f3,i_];omega,by rw[f3,i_];omega,by omega,by omega,λr q=>(f4 r q).1⟩,λr q=>(f4 r q).2,by rw[f3,i_];omega,by omega,?_⟩;subst f2;refine aY ?_;refine ak (aJ (d:= .int ((r+1:Nat):Int)) ?_) ?_
 ·simp only[ay,d2,dV,dC,aC,aN,au,Uz,Xf,XI,Wn,UI,VX,Vx,VO,Nat.reduceAdd,if_true,iF,zY,k1]
 refine ak (aJ (d:= .int ((c+1:Nat):Int)) ?_) ?_
 ·simp only[ay,d2,dV,dC,aC,aN,au,Uz,Xf,XI,Wn,UI,VX,Vu,Y8,Y9,Nat.reduceSub,Vx,VO,Nat.reduceAdd,if_true,iF,Iu,k2]
 refine ak (aJ (d:= .str al) ?_) ?_
 ·simp only[ay,d2,dV,dC,dA,aC,aN,au,Uz,Xf,XI,Wn,UI,VX,Vu,Y8,Y9,Nat.reduceSub,Vx,VO,Nat.reduceAdd,if_true,iF,LD,eU,c5,Nat.reduceLeDiff,e4]
 refine ak (aJ rfl) ?_;refine ak (E7 (mJ (by omega)) f1) ?_;exact aS rfl
def yg(ns:List Int)(hl:ns.length<=63)(at' mo:Nat)(m0:0<mo)(m5:mo<=5):∃bd W,Good bd W/\(∀r∈bd,Sa r)/\bd.length<=mo/\W<=mo/\cP [.scr ns, .int (at':Int), .int (mo:Int)]=aa (brd bd):=
 let ⟨bd,W,h1,h3,h2⟩:=yh ns hl at' mo m0 m5
 ⟨bd,W,h1,λr hr c hc=>(h3 r hr c hc).1,h2⟩
def yi(ns:List Int)(hl:ns.length<=63)(at' mo:Nat)(m0:0<mo)(m5:mo<=5):∃bd W,Good bd W/\bd.length<=mo/\W<=mo/\cP [.scr ns, .int (at':Int), .int (mo:Int)]=aa (brd bd):=
 let ⟨bd,W,h1,_,h2⟩:=yg ns hl at' mo m0 m5
 ⟨bd,W,h1,h2⟩
def Plain:D->Prop
 | .non | .bl _ | .int _ | .str _ | .tup _ | .lst _=>True
 |_=>False
def isStr:D->Bool
 | .str _=>true
 |_=>false
def isTup:D->Bool
 | .tup _=>true
 |_=>false
def fW{d:D}(h:Plain d):ke [d, .raw (.ty "str")]=aa (.bl (isStr d)):=by
 cases d<;>first | rfl | exact h.elim
def Ap{d:D}(h:Plain d):ke [d, .raw (.ty "tuple")]=aa (.bl (isTup d)):=by
 cases d<;>first | rfl | exact h.elim
def t5:D->Bool
 | .str x=>(x.length==1)&&J9 x
 |_=>false
def dw{i:Nat}{d:D}(h:ρ[i]? =some (fz d)):dV i ρ=aa d:=by
 unfold dV;rw[h]
def eq_int(i j:Int):md (.int i) (.int j)=aa (.bl (i==j)):=rfl
def ne_int(i j:Int):qX (.int i) (.int j)=aa (.bl (!(i==j))):=rfl
def len_str(x:Str):cF [.str x]=aa (.int (x.length:Int)):=rfl
def in_str(x:Str):Dq false (.str x) (.str "abcdef")=aa (.bl (J9 x)):=rfl
def sA(a b:Nat):((a:Int)==(b:Int))=(a==b):=by
 by_cases h:a=b
 ·subst h;simp
 ·have h2:¬(a:Int)=(b:Int):=by omega
  rw[abH.mpr h,abH.mpr h2]
def GR(h:Plain d){i:Nat}{ρ:bC}(hρ:ρ[i]? =some (fz d)):
 fk (dA ke (aC (dV i) (aC (dC (.raw (.ty "str"))) aN))) (fk (d2 md (dA cF (aC (dV i) aN)) (dC (.int 1))) (d2 (Dq false) (dV i) (dC (.str "abcdef")))) ρ=aa (.bl (t5 d)):=by
 have hv:=dw hρ;have e1:=sA;cases d with
 |str x=>
  have k:((x.length:Int)==1)=(x.length==1):=sA x.length 1;simp only[fk,dA,aC,aN,dC,d2,hv,au,fW h,isStr,CW,if_true,len_str,eq_int,k,in_str,t5];cases x.length==1<;>rfl
 |non=>simp only[fk,dA,aC,aN,dC,d2,hv,au,fW h,isStr,CW,if_false,Vj,t5]
 |bl b=>simp only[fk,dA,aC,aN,dC,d2,hv,au,fW h,isStr,CW,if_false,Vj,t5]
 |int b=>simp only[fk,dA,aC,aN,dC,d2,hv,au,fW h,isStr,CW,if_false,Vj,t5]
 |tup b=>simp only[fk,dA,aC,aN,dC,d2,hv,au,fW h,isStr,CW,if_false,Vj,t5]
 |lst b=>simp only[fk,dA,aC,aN,dC,d2,hv,au,fW h,isStr,CW,if_false,Vj,t5]
 |raw _=>exact h.elim
 |exc _=>exact h.elim
 |scr _=>exact h.elim
 |dct _ _=>exact h.elim
 |dci _ _=>exact h.elim
def q9{d:D}(h:Plain d):cO [d]=aa (.bl (t5 d)):=aY (aS (GR h rfl))
def jB(x:Str):Bool:=x.cps.toList.all λc=>J9 ⟨#[c]⟩
def n_:D->Bool
 | .str x=>(decide (1<=x.length)&&decide (x.length<=8))&&jB x
 |_=>false
def Bd(l:List Bool):bools (l.map D.bl)=some l:=by
 induction l with
 |nil=>rfl
 |cons b r ih=>show (bools (r.map D.bl)).map _=_;rw[ih];rfl
def all_map(l:List Bool):allM [.lst (l.map D.bl)]=aa (.bl (l.all id)):=by
 show (match bools (l.map D.bl) with | some bs=>aa (D.bl (bs.all id)) | none=>af)=_;rw[Bd]
def C4{ρ:bC}{n:Nat}(h:δ ρ=aa (.int (n:Int))):
 eO (FZ (λi j=>decide (i<=j)) (λi j=>decide (i<=j)) (dC (.int 1)) δ (dC (.int 8))) ρ=aa (decide (1<=n)&&decide (n<=8)):=by
 have k1:decide ((1:Int)<=(n:Int))=decide (1<=n):=by by_cases h:1<=n<;>simp[h]<;>omega
 have k2:decide ((n:Int)<=8)=decide (n<=8):=by by_cases h:n<=8<;>simp[h]<;>omega
 simp only[eO,FZ,dC,h,au,k1,k2,gI,CW];cases decide (1<=n)<;>rfl
def yL(h:Plain d):fw [d]=aa (.bl (n_ d)):=by
 refine aY ?_;have hρ:([d].map (λd=>some (Sl.fz d))++Vu (1 - [d].length) none)=[fz d]:=rfl;rw[hρ];have hv:dV 0 [fz d]=aa d:=rfl;have no:isStr d=false->xY [fz d]=aa (.rt (.bl false)):=λhs=>by
  refine jD (ja ?_ (aS rfl));simp only[vH,fm,d8,dA,aC,aN,dC,hv,au,fW h,hs,Fz,Z_,if_true]
 cases d with
 |str x=>
  have hi:d8 (dA ke (aC (dV 0) (aC (dC (.raw (.ty "str"))) aN))) [fz (.str x)]=aa true:=by
   simp only[d8,dA,aC,aN,dC,hv,au,fW h,isStr,Fz]
  have hl:dA cF (aC (dV 0) aN) [fz (.str x)]=aa (.int (x.length:Int)):=rfl;have hc:=C4 hl;by_cases hr:(decide (1<=x.length)&&decide (x.length<=8))=true
  ·rw[hr] at hc;refine ak (d3 ?_ rfl) (aS ?_)
   ·unfold vH fm;rw[hi,au,au,hc];rfl
   ·have hb:x.length<=8:=by simp only[UY,abF] at hr;exact hr.2
    have cm:aV 0 (λρ=>(dV 0) ρ>>=Lg) bw (ay 1 cO (aC (dV 0) aN)) [fz (.str x)]=aa (.lst ((x.cps.toList.map λc=>J9 ⟨#[c]⟩).map D.bl)):=by
     refine bu rfl ?_ ?_
     ·have:=gq (f:=dP 0 bw (ay 1 cO (aC (dV 0) aN)) [fz (.str x)]) (g:=λd=>D.bl (t5 d)) (signs x) λd hd=>by
       rw[f_];obtain⟨c,_,rfl⟩:=UC.mp hd;show (cO [.str ⟨#[c]⟩]>>=λy=>aa (some y))=_;rw[q9 (d:= .str ⟨#[c]⟩) trivial];rfl
      rw[this];unfold signs;rw[U0,U0];congr 1
     ·rw[Ur,Ur,UL,c5];exact U1 hb (by decide)
    rw[a8 (aE cm rfl),all_map];show aa (D.bl ((x.cps.toList.map λc=>J9 ⟨#[c]⟩).all id))=aa (D.bl ((decide (1<=x.length)&&decide (x.length<=8))&&jB x));rw[hr];unfold jB;rw[XD];rfl
  ·have hr:(decide (1<=x.length)&&decide (x.length<=8))=false:=by simpa using hr
   rw[hr] at hc;have:n_ (.str x)=false:=by
    show ((decide (1<=x.length)&&decide (x.length<=8))&&jB x)=false;rw[hr];rfl
   rw[this];refine jD (ja ?_ (aS rfl));unfold vH fm;rw[hi,au,au,hc];rfl
 |non=>exact no rfl
 |bl b=>exact no rfl
 |int b=>exact no rfl
 |tup b=>exact no rfl
 |lst b=>exact no rfl
 |raw _=>exact h.elim
 |exc _=>exact h.elim
 |scr _=>exact h.elim
 |dct _ _=>exact h.elim
 |dci _ _=>exact h.elim
def kf:D->Nat
 | .str x=>x.length
 |_=>0
def oX:D->Bool
 | .tup ds=>(decide (1<=ds.length)&&decide (ds.length<=8))&&(ds.all n_&&ds.all λd=>kf d==kf (ds.headD .non))
 |_=>false
def Plain2:D->Prop
 | .tup ds=>∀d∈ds,Plain d
 |d=>Plain d
def Plain2.plain{d:D}(h:Plain2 d):Plain d:=by
 cases d<;>first | exact h | exact trivial
def TM{i:Nat}{ds:List D}(h:ρ[i]? =some (fz (.tup ds))):qV (dV i) ρ=aa ds:=by
 unfold qV;rw[dw h];rfl
def RS{r:List D}(h:ds=d::r):dD (.tup ds) (.int 0)=aa d:=by
 subst h;show (match L2.atI (d::r) ((0:Nat):Int) with | some d=>aa d | none=>af)=_;rw[gm (x:=d) rfl]
def HM{d:D}(h:n_ d=true):∃x,d= .str x:=by
 cases d<;>first | exact⟨_,rfl⟩ | cases h
def Bw{d:D}(h:Plain d):vH (fm (d8 (dA ke (aC (dV 0) (aC (dC (.raw (.ty "tuple"))) aN))))) (fm (eO (FZ (λi j=>decide (i<=j)) (λi j=>decide (i<=j)) (dC (.int 1)) (dA cF (aC (dV 0) aN)) (dC (.int 8))))) [fz d]=
 aa (match d with | .tup ds=>!(decide (1<=ds.length)&&decide (ds.length<=8)) | _=>true):=by
 have hv:dV 0 [fz d]=aa d:=rfl;have no:isTup d=false->vH (fm (d8 (dA ke (aC (dV 0) (aC (dC (.raw (.ty "tuple"))) aN))))) (fm (eO (FZ (λi j=>decide (i<=j)) (λi j=>decide (i<=j)) (dC (.int 1)) (dA cF (aC (dV 0) aN)) (dC (.int 8))))) [fz d]=aa true:=λhs=>by
  simp only[vH,fm,d8,dA,aC,aN,dC,hv,au,Ap h,hs,Fz,Z_,if_true]
 cases d with
 |tup ds=>
  have hi:d8 (dA ke (aC (dV 0) (aC (dC (.raw (.ty "tuple"))) aN))) [fz (.tup ds)]=aa true:=by
   simp only[d8,dA,aC,aN,dC,hv,au,Ap h,isTup,Fz]
  have hl:dA cF (aC (dV 0) aN) [fz (.tup ds)]=aa (.int (ds.length:Int)):=rfl;unfold vH fm;rw[hi,au,au,C4 hl];rfl
 |non=>exact no rfl
 |bl b=>exact no rfl
 |int b=>exact no rfl
 |str b=>exact no rfl
 |lst b=>exact no rfl
 |raw _=>exact h.elim
 |exc _=>exact h.elim
 |scr _=>exact h.elim
 |dct _ _=>exact h.elim
 |dci _ _=>exact h.elim
def all_rows(h:∀d∈ds,Plain d)(hl:ds.length<=8):dA allM (aC (aV 0 (qV (dV 0)) bw (ay 1 fw (aC (dV 0) aN))) aN) [fz (.tup ds)]=aa (.bl (ds.all n_)):=by
 have cm:aV 0 (qV (dV 0)) bw (ay 1 fw (aC (dV 0) aN)) [fz (.tup ds)]=aa (.lst ((ds.map n_).map D.bl)):=by
  refine bu (ds:=ds) rfl ?_ (by rw[Ur,Ur,c5];omega);rw[U0];refine gq (g:=D.bl∘n_) ds λd hd=>?_;rw[f_];show (fw [d]>>=λy=>aa (some y))=_;rw[yL (h d hd)];rfl
 rw[a8 (aE cm rfl),all_map,XD];rfl
def all_lens(hs:∀d∈ds,∃x,d= .str x)(h0:1<=ds.length)(hl:ds.length<=8):
 dA allM (aC (aV 0 (qV (dV 0)) bw (d2 md (dA cF (aC (dV 0) aN)) (dA cF (aC (d2 dD (dV 1) (dC (.int 0))) aN)))) aN) [fz (.tup ds)]=aa (.bl (ds.all λd=>kf d==kf (ds.headD .non))):=by
 obtain⟨d0,r,e0⟩:∃d0 r,ds=d0::r:=by
  cases ds with
  |nil=>simp at h0
  |cons a r=>exact⟨a,r,rfl⟩
 have hh:ds.headD .non=d0:=by rw[e0];rfl
 obtain⟨x0,IH⟩:=hs d0 (by rw[e0];exact Uv ..);have cm:aV 0 (qV (dV 0)) bw (d2 md (dA cF (aC (dV 0) aN)) (dA cF (aC (d2 dD (dV 1) (dC (.int 0))) aN))) [fz (.tup ds)]=aa (.lst ((ds.map λd=>kf d==kf (ds.headD .non)).map D.bl)):=by
  refine bu (ds:=ds) rfl ?_ (by rw[Ur,Ur,c5];omega);rw[U0];refine gq (g:=D.bl∘λd=>kf d==kf (ds.headD .non)) ds λd hd=>?_;rw[f_];obtain⟨x,rfl⟩:=hs d hd;have k:((x.length:Int)==(x0.length:Int))=(x.length==x0.length):=sA _ _;have i0:dD (.tup ds) (.int 0)=aa (.str x0):=by rw[RS e0,IH]
  have SY:ds.headD .non= .str x0:=by rw[hh,IH]
  simp only[d2,dA,aC,aN,dC,dV,au,Vx,VO,len_str,i0,eq_int,k,abx,kf,SY]
 rw[a8 (aE cm rfl),all_map,XD];rfl
def tR{d:D}(h:Plain2 d):gT [d]=aa (.bl (oX d)):=by
 refine aY ?_;have hρ:([d].map (λd=>some (Sl.fz d))++Vu (1 - [d].length) none)=[fz d]:=rfl;rw[hρ];have hf:=Bw h.plain;have no:(∀ds,d≠ .tup ds)->qP [fz d]=aa (.rt (.bl (oX d))):=λhn=>by
  cases d<;>first | exact abE rfl (hn _) | exact jD (ja hf (aS rfl))
 cases d with
 |tup ds=>
  have hf:_=aa (!(decide (1<=ds.length)&&decide (ds.length<=8))):=hf;by_cases hr:(decide (1<=ds.length)&&decide (ds.length<=8))=true
  ·rw[hr] at hf;have hb:=hr;simp only[UY,abF] at hb;have e:oX (.tup ds)=(ds.all n_&&ds.all λd=>kf d==kf (ds.headD .non)):=by
    show ((decide (1<=ds.length)&&decide (ds.length<=8))&&_)=_;rw[hr,Bool.true_and]
   rw[e];have a1:=all_rows h hb.2;refine ak (d3 hf rfl) ?_;cases hc:ds.all n_ with
   |false=>
    rw[hc] at a1;refine jD (ja ?_ (aS rfl));unfold fm d8;rw[a1];rfl
   |true=>
    rw[hc] at a1;refine ak (d3 ?_ rfl) (aS ?_)
    ·unfold fm d8;rw[a1];rfl
    ·rw[Bool.true_and];exact all_lens (λd hd=>HM (UT.mp hc d hd)) hb.1 hb.2
  ·have hr:(decide (1<=ds.length)&&decide (ds.length<=8))=false:=by simpa using hr
   rw[hr] at hf;have e:oX (.tup ds)=false:=by
    show ((decide (1<=ds.length)&&decide (ds.length<=8))&&_)=_;rw[hr];rfl
   rw[e];exact jD (ja hf (aS rfl))
 |non=>exact no λ_ z=>by cases z
 |bl b=>exact no λ_ z=>by cases z
 |int b=>exact no λ_ z=>by cases z
 |str b=>exact no λ_ z=>by cases z
 |lst b=>exact no λ_ z=>by cases z
 |raw _=>exact h.elim
 |exc _=>exact h.elim
 |scr _=>exact h.elim
 |dct _ _=>exact h.elim
 |dci _ _=>exact h.elim
structure Brd (ob:List Str) (V:Nat):Prop where
 r1:1<=ob.length
 r8:ob.length<=8
 w1:1<=V
 w8:V<=8
 rows:∀r∈ob,Row V r
def Good.brd(hg:Good bd W):Brd bd W:=⟨hg.r1,by have:=hg.r5;omega,hg.w1,by have:=hg.w5;omega,hg.rows⟩
def Brd.board{V:Nat}(h:Brd ob V):oX (brd ob)=true:=by
 have P_:∀r∈ob,n_ (.str r)=true:=λr hr=>by
  have q:=h.rows r hr;show ((decide (1<=r.length)&&decide (r.length<=8))&&jB r)=true;rw[q.len];have a:decide (1<=V)=true:=abB h.w1;have b:decide (V<=8)=true:=abB h.w8;rw[a,b];show jB r=true;exact UT.mpr λc hc=>q.let' c hc
 have h0:kf ((ob.map D.str).headD .non)=V:=by
  have:=h.r1;have hr:=h.rows;cases ob with
  |nil=>simp at this
  |cons x l=>exact(hr x (Uv ..)).len
 show ((decide (1<=(ob.map D.str).length)&&decide ((ob.map D.str).length<=8))&&((ob.map D.str).all n_&&(ob.map D.str).all λd=>kf d==kf ((ob.map D.str).headD .non)))=true;rw[h0,Ur,abB h.r1,abB h.r8];have a:(ob.map D.str).all n_=true:=UT.mpr λd hd=>by
  obtain⟨r,hr,rfl⟩:=UC.mp hd;exact P_ r hr
 have b:((ob.map D.str).all λd=>kf d==V)=true:=UT.mpr λd hd=>by
  obtain⟨r,hr,rfl⟩:=UC.mp hd;show (r.length==V)=true;rw[(h.rows r hr).len];simp
 rw[a,b];rfl
def Be:Plain2 (brd bd):=λd hd=>by
 obtain⟨r,_,rfl⟩:=UC.mp hd;trivial
def yp(h:δ ρ=aa (.bl b)):d8 δ ρ=aa b:=by
 unfold d8;rw[h];rfl
def fS(h:δ ρ=aa (.bl b)):eO δ ρ=aa b:=by
 unfold eO;rw[h];rfl
def yo(h:τ ρ=aa b):fm τ ρ=aa (!b):=by
 unfold fm;rw[h];rfl
def zT(h1:a ρ=aa p)(h2:c ρ=aa q):vH a c ρ=aa (p||q):=by
 unfold vH;rw[h1,au];cases p
 ·exact h2
 ·rfl
def F4(h1:a ρ=aa (.bl p))(h2:c ρ=aa (.bl q)):fk a c ρ=aa (.bl (p&&q)):=by
 unfold fk;rw[h1,au];cases p
 ·rfl
 ·exact h2
def Brd.nb{V:Nat}(h:Brd ob V):bp [brd ob]=aa .non:=by
 refine A2 (d3 (yo (yp (b:=true) ?_)) rfl);refine(aw (ds:=[brd ob]) rfl rfl).trans ?_;rw[tR Be,h.board]
structure Ln (V:Nat) (r:Str):Prop where
 len:r.length=V
structure Wd (ob:List Str) (V:Nat):Prop where
 r1:1<=ob.length
 r8:ob.length<=8
 w1:1<=V
 w8:V<=8
 rows:∀r∈ob,Ln V r
def Brd.wd{V:Nat}(h:Brd ob V):Wd ob V:=⟨h.r1,h.r8,h.w1,h.w8,λr hr=>⟨(h.rows r hr).len⟩⟩
def Wd.len0{V:Nat}(h:Wd ob V)(hρ:ρ[i]? =some (fz (brd ob))):dA cF (aC (d2 dD (dV i) (dC (.int 0))) aN) ρ=aa (.int (V:Int)):=by
 have h1:=h.r1;have hr:=h.rows;obtain⟨x,l,e⟩:∃x l,ob=x::l:=by
  cases ob with
  |nil=>simp at h1
  |cons x l=>exact⟨x,l,rfl⟩
 have hx:x.length=V:=(hr x (by rw[e];exact Uv ..)).len;have i0:dD (brd ob) (.int 0)=aa (.str x):=RS (show ob.map D.str=D.str x::l.map D.str by rw[e];rfl);have k:=aH (g:=dD) (dw hρ) (show dC (.int 0) ρ=aa (.int 0) from rfl);rw[i0] at k;rw[a8 (aE k rfl)];show aa (D.int (x.length:Int))=_;rw[hx]
def Brd.len0{V:Nat}(h:Brd ob V)(hρ:ρ[i]? =some (fz (brd ob))):dA cF (aC (d2 dD (dV i) (dC (.int 0))) aN) ρ=aa (.int (V:Int)):=h.wd.len0 hρ
def Ng(hρ:ρ[i]? =some (fz (brd bd))):dA cF (aC (dV i) aN) ρ=aa (.int (bd.length:Int)):=by
 have:cF [brd bd]=aa (.int (bd.length:Int)):=by
  show aa (D.int ((bd.map D.str).length:Int))=_;rw[Ur]
 simp only[dA,aC,aN,dw hρ,au,this]
def Lz:D->Bool
 | .int _=>true
 |_=>false
def CF(h:Plain d):d9 [d]=aa (.bl (Lz d)):=by
 cases d<;>first | rfl | exact h.elim
abbrev Cell:=Nat×Nat
def cD(c:Cell):D:= .tup [.int (c.1:Int), .int (c.2:Int)]
def On(R W:Nat)(c:Cell):Prop:=c.1<R/\c.2<W
instance {R W:Nat}{c:Cell}:Decidable (On R W c):=by unfold On;infer_instance
def Ways(w:Nat):Prop:=w=4\/w=8
def Ways.nw(h:Ways w):cq [iW w]=aa .non:=by
 rcases h with rfl | rfl<;>rfl
def ch(x:Str)(j:Nat):Nat:=x.cps.toList.getD j 0
def at2(bd:List Str)(i j:Nat):Nat:=ch (bd.getD i ⟨#[]⟩) j
abbrev lt(bd:List Str)(c:Cell):Nat:=at2 bd c.1 c.2
def sg(n:Nat):D:= .str ⟨#[n]⟩
def HS{c:Nat}(h:c<x.length):v3 (.str x) (.int (c:Int))=aa (sg (ch x c)):=by
 have h':c<x.cps.toList.length:=by rw[UL];exact h
 show (match L2.atI x.cps.toList (c:Int) with | some c=>aa (D.str ⟨#[c]⟩) | none=>af)=_;rw[gm (Us h')];unfold sg ch;rw[Uy,Us h'];rfl
def getD_mem{bd:List Str}(h:i<bd.length):bd.getD i ⟨#[]⟩∈bd:=by
 rw[Uy,Us h];exact VM h
def Kg{i:Nat}(h:i<bd.length):dD (brd bd) (.int (i:Int))=aa (.str (bd.getD i ⟨#[]⟩)):=by
 show (match L2.atI (bd.map D.str) (i:Int) with | some d=>aa d | none=>af)=_;rw[gm ?_];rw[UG,Us h,Uy,Us h];rfl
def jP(hg:Brd bd W)(h:On bd.length W c):dG [brd bd,cD c]=aa (sg (lt bd c)):=by
 refine aY (aS ?_);refine(aH ((aH rfl rfl).trans (Kg h.1)) rfl).trans ?_;exact HS (by rw[(hg.rows _ (getD_mem h.1)).len];exact h.2)
def L9(a b:Nat):md (sg a) (sg b)=aa (.bl (decide (a=b))):=by
 show aa (D.bl (decide ((⟨#[a]⟩:Str)=⟨#[b]⟩)))=_;congr 2;by_cases h:a=b
 ·subst h;simp
 ·have:¬((⟨#[a]⟩:Str)=⟨#[b]⟩):=λz=>by
   injection z with z
   exact h (by simpa using z)
  rw[abD h,abD this]
def bB(a b:Nat):Nat:=max a b - min a b
def iq(w:Nat)(a b:Cell):Bool:=if w=4 then decide (bB a.1 b.1+bB a.2 b.2=1) else decide (max (bB a.1 b.1) (bB a.2 b.2)=1)
def zL(a b:Nat):CP [.int ((a:Int) - (b:Int))]=aa (.int (bB a b:Int)):=by
 show aa (D.int _)=_;congr 2;unfold bB;omega
def s9(hw:Ways w)(a b:Cell):dz [cD a,cD b,iW w]=aa (.bl (iq w a b)):=by
 refine aY ?_;refine ak ((aJ (zL a.1 b.1)).trans rfl) ?_;refine ak ((aJ (zL a.2 b.2)).trans rfl) ?_;rcases hw with rfl | rfl
 ·refine jD (ja (fS rfl) (aS ?_));show aa (D.bl (((bB a.1 b.1:Int)+(bB a.2 b.2:Int))==1))=_;unfold iq;rw[abz rfl];congr 2;have:((bB a.1 b.1:Int)+(bB a.2 b.2:Int))=((bB a.1 b.1+bB a.2 b.2:Nat):Int):=by omega
  rw[this];have e:=sA (bB a.1 b.1+bB a.2 b.2) 1;exact e.trans rfl
 ·refine ak (d3 (fS rfl) rfl) (aS ?_);show aa (D.bl ((if (bB a.1 b.1:Int)<(bB a.2 b.2:Int) then(bB a.2 b.2:Int) else(bB a.1 b.1:Int))==1))=_;have hn:iq 8 a b=decide (max (bB a.1 b.1) (bB a.2 b.2)=1):=rfl;rw[hn];congr 2;have:(if (bB a.1 b.1:Int)<(bB a.2 b.2:Int) then(bB a.2 b.2:Int) else(bB a.1 b.1:Int))=((max (bB a.1 b.1) (bB a.2 b.2):Nat):Int):=by split<;>omega
  rw[this];have e:=sA (max (bB a.1 b.1) (bB a.2 b.2)) 1;exact e.trans rfl
def wJ(w:Nat)(a b:Cell):iq w a b=iq w b a:=by
 have e:∀x y:Nat,bB x y=bB y x:=λx y=>by unfold bB;rw[Nat.max_comm,Nat.min_comm]
 unfold iq;rw[e a.1,e a.2]
def cH(h1:put d ρ=some ρ1)(h2:body ρ1=aa (.nx ρ2)):forL put body (d::ds) ρ=forL put body ds ρ2:=by
 show (match put d ρ with | none=>af | some ρ1=>body ρ1>>=λo=>match o with | .nx ρ2=>forL put body ds ρ2 | .rt v=>aa (.rt v))=_;rw[h1];show (body ρ1>>=λo=>match o with | .nx ρ2=>forL put body ds ρ2 | .rt v=>aa (.rt v))=_;rw[h2];rfl
section
variable{α σ:Type}{put:D->bC->Option bC}{body:DS}
def ma(v6:α->D)(mk:σ->bC)(step:σ->α->σ)(I:σ->Prop):∀(xs:List α) (s:σ),I s->(∀s,I s->∀x∈xs,I (step s x)/\∃ρ1,put (v6 x) (mk s)=some ρ1/\body ρ1=aa (.nx (mk (step s x))))->
 I (xs.foldl step s)/\forL put body (xs.map v6) (mk s)=aa (.nx (mk (xs.foldl step s)))
 |[],s,h,_=>⟨h,rfl⟩
 |x::xs,s,h,st=>by
  obtain⟨h2,ρ1,e1,e2⟩:=st s h x (Uv ..);obtain⟨h3,e3⟩:=ma v6 mk step I xs (step s x) h2 λs hs y hy=>st s hs y (Uu _ hy);exact⟨h3,(cH e1 e2).trans e3⟩
def jy(v6:α->D)(ρ:bC):∀(xs:List α),(∀x∈xs,∃ρ1,put (v6 x) ρ=some ρ1/\body ρ1=aa (.nx ρ))->forL put body (xs.map v6) ρ=aa (.nx ρ)
 |[],_=>rfl
 |x::xs,st=>by
  obtain⟨ρ1,e1,e2⟩:=st x (Uv ..);exact(cH e1 e2).trans (jy v6 ρ xs λy hy=>st y (Uu _ hy))
def kK(v6:α->D)(mk:List D->bC)(g:α->List D):∀(xs:List α) (T0:List D),(T0++xs.flatMap g).length<=B->(∀x∈xs,∀T0,(T0++g x).length<=B->∃ρ1,put (v6 x) (mk T0)=some ρ1/\body ρ1=aa (.nx (mk (T0++g x))))->
 forL put body (xs.map v6) (mk T0)=aa (.nx (mk (T0++xs.flatMap g)))
 |[],T0,_,_=>by simp;rfl
 |x::xs,T0,hB,st=>by
  have Rl:((T0++g x)++xs.flatMap g).length<=B:=by simpa[W2,Zm] using hB
  obtain⟨ρ1,e1,e2⟩:=st x (Uv ..) T0 (U1 (by simp only[UN];omega) Rl);have e3:=kK v6 mk g xs (T0++g x) Rl λy hy=>st y (Uu _ hy);rw[Uz,cH e1 e2,e3,W2,Zm]
end
def eV(h:δi ρ=aa ds)(h2:forL put b ds ρ=m):d5 put δi b ρ=m:=by
 unfold d5;rw[h];exact h2
def dX{τ:DS}(h:τ ρ=aa o):(λρ=>noex (τ ρ)) ρ=aa o:=by
 show noex (τ ρ)=_;rw[h];rfl
def xy(lo n:Nat):gM (lo:Int) n=(VJ lo n).map λ(k:Nat)=>D.int (k:Int):=by
 unfold gM;rw[aaQ];have:∀(n a:Nat),(VJ a n).map (λ(i:Nat)=>D.int ((lo:Int)+(i:Int)))=(VJ (lo+a) n).map λ(k:Nat)=>D.int (k:Int):=by
  intro n;induction n with
  |zero=>intro a;rfl
  |succ n ih=>
   intro a;rw[Yp,Yp,Uz,Uz,ih (a+1)];rfl
 exact this n 0
def zm(h:δ ρ=aa (.int (n:Int)))(hn:n<=4096):(aC δ aN ρ>>=c0)=aa ((UH n).map λ(k:Nat)=>D.int (k:Int)):=by
 rw[aE h rfl,au,mJ hn,show gM 0 n=gM ((0:Nat):Int) n from rfl,xy,aaQ]
def N0(h:δ ρ=aa (.int (i:Int)))(h2:ε ρ=aa (.int (j:Int)))(hi:i<=4096)(hj:j<=4096):(aC δ (aC ε aN) ρ>>=sU)=aa ((VJ i (j - i)).map λ(k:Nat)=>D.int (k:Int)):=by
 rw[aE h (aE h2 rfl),au];show (if (-4096<=(i:Int)/\(i:Int)<=4096)/\(-4096<=(j:Int)/\(j:Int)<=4096) then aa (gM (i:Int) ((j:Int) - (i:Int)).toNat) else af)=_;rw[abz ⟨⟨by omega,by omega⟩,by omega,by omega⟩,show ((j:Int) - (i:Int)).toNat=j - i by omega,xy]
def f6(W r:Nat):List Cell:=(UH W).map λk=>(r,k)
def aT(R W:Nat):List Cell:=(UH R).flatMap (f6 W)
def aI:c∈aT R W↔On R W c:=by
 unfold aT f6 On;simp only[XG,UP,UC];constructor
 ·rintro⟨r,hr,k,hk,rfl⟩;exact⟨hr,hk⟩
 ·rintro⟨h1,h2⟩;exact⟨c.1,h1,c.2,h2,rfl⟩
def cz(R W:Nat):(aT R W).length=R*W:=by
 unfold aT;have:∀l:List Nat,(l.flatMap (f6 W)).length=l.length*W:=by
  intro l;induction l with
  |nil=>simp
  |cons a l ih=>rw[W2,UN,ih,UI,Nat.succ_mul];simp[f6];omega
 rw[this,Vi]
def l9(hg:Brd bd W)(r:Nat):b9 [brd bd, .int (r:Int)]=aa (.lst ((f6 W r).map cD)):=by
 have:=hg.w8;refine aY (aS (bu (zm (hg.len0 rfl) (by omega)) ?_ (by simp[f6,c5];omega)));rw[show (f6 W r).map cD=((UH W).map λ(k:Nat)=>D.int (k:Int)).map (λe=> .tup [.int (r:Int),e]) by simp[f6,U0];intro a _;rfl];exact gq _ λe _=>rfl
def f9(hg:Brd bd W):bE [brd bd]=aa (.lst ((aT bd.length W).map cD)):=by
 have h8:=hg.r8;have w8:=hg.w8;have hm:bd.length*W<=64:=YQ h8 w8;have Ox:(UH bd.length).flatMap (λr=>(f6 W r).map cD)=(aT bd.length W).map cD:=by
  unfold aT;rw[List.map_flatMap]
 have e:=kK (put:=putN 2) (body:=c_ [2] (E6 1 (ay 2 b9 (aC (dV 0) (aC (dV 2) aN))))) (λ(k:Nat)=>D.int (k:Int)) (λT0=>[fz (brd bd),some (.ow (.lst T0)),none]) (λr=>(f6 W r).map cD) (UH bd.length) []
  (by rw[Wn,Ox,Ur,cz];exact hm) λr hr T0 hB=>by
   refine⟨[fz (brd bd),some (.ow (.lst T0)),fz (.int (r:Int))],rfl,?_⟩;refine(a7 (ρ':=[fz (brd bd),some (.ow (.lst (T0++(f6 W r).map cD))),fz (.int (r:Int))]) ?_).trans rfl;show (b9 [brd bd, .int (r:Int)]>>=λd=>lstM d>>=λes=>if T0.length+es.length<=lim then aa (Out.nx (List.set [fz (brd bd),some (.ow (.lst T0)),fz (.int (r:Int))] 1 (some (.ow (.lst (T0++es)))))) else af)=_;rw[l9 hg,au];show (if T0.length+((f6 W r).map cD).length<=lim then aa (Out.nx [fz (brd bd),some (.ow (.lst (T0++(f6 W r).map cD))),fz (.int (r:Int))]) else af)=_;rw[abz (by rw[UN] at hB;rw[c5];omega)]
 rw[Wn,Ox] at e;refine aY (ak rfl (ak (dX (eV (zm (Ng rfl) (by omega)) e)) ?_));rfl
def fZ(R W w:Nat)(c:Cell):List Cell:=
 (VJ (c.1 - 1) (min (c.1+2) R - (c.1 - 1))).flatMap λr=>((VJ (c.2 - 1) (min (c.2+2) W - (c.2 - 1))).map λk=>(r,k)).filter (iq w c)
def eh(hw:Ways w):x∈fZ R W w c↔On R W x/\iq w c x=true:=by
 unfold fZ On;simp only[XG,V6,UC,List.mem_range'_1];constructor
 ·rintro⟨r,⟨h1,h2⟩,⟨k,⟨h3,h4⟩,rfl⟩,h5⟩;refine⟨⟨?_,?_⟩,h5⟩
  ·show r<R;omega
  ·show k<W;omega
 ·rintro⟨⟨h1,h2⟩,h5⟩;have h6:bB c.1 x.1<=1/\bB c.2 x.2<=1:=by
   unfold iq at h5;rcases hw with rfl | rfl
   ·have h5:=abC h5;exact⟨h5▸Nat.le_add_right ..,h5▸Nat.le_add_left ..⟩
   ·have h5:=abC h5;exact⟨h5▸YI ..,h5▸Yr ..⟩
  have g:∀{a b B:Nat},bB a b<=1->b<B->a - 1<=b/\b<a - 1+(min (a+2) B - (a - 1)):=λ{a b B} h k=>by
   have h1:b<=a+1/\a<=b+1:=by unfold bB at h;omega
   have h2:min (a+2) B=a+2\/min (a+2) B=B:=by omega
   omega
  exact⟨x.1,g h6.1 h1,⟨x.2,g h6.2 h2,rfl⟩,h5⟩
def su(R W w:Nat)(c:Cell):(fZ R W w c).length<=9:=by
 unfold fZ;rw[YS];have h:∀r,(((VJ (c.2 - 1) (min (c.2+2) W - (c.2 - 1))).map λk=>(r,k)).filter (iq w c)).length<=3:=λr=>by
  refine U1 (XB ..) ?_;rw[Ur,Y_];omega
 have:∀(l:List Nat),(l.map λr=>(((VJ (c.2 - 1) (min (c.2+2) W - (c.2 - 1))).map λk=>(r,k)).filter (iq w c)).length).sum<=3*l.length:=by
  intro l;induction l with
  |nil=>simp
  |cons a l ih=>rw[Uz,Xj,UI];have:=h a;omega
 refine U1 (this _) ?_;rw[Y_];omega
abbrev nc(b c w:D)(T0:List D)(x4 x5:Option Sl):bC:=[fz b,fz c,fz w,some (.ow (.lst T0)),x4,x5]
def fM(hg:Brd bd W)(hw:Ways w)(hc:On bd.length W c):aP [brd bd,cD c,iW w]=aa (.lst ((fZ bd.length W w c).map cD)):=by
 have h8:=hg.r8;have w8:=hg.w8;obtain⟨c1,c2⟩:=hc;have MG:∀n:Nat,wx [.int ((n:Int) - 1), .int 0]=aa (.int ((n - 1:Nat):Int)):=λn=>by
  show aa (D.int (if (0:Int)>(n:Int) - 1 then 0 else(n:Int) - 1))=_;congr 2;split<;>omega
 have MI:∀n m:Nat,yT [.int ((n:Int)+2), .int (m:Int)]=aa (.int ((min (n+2) m:Nat):Int)):=λn m=>by
  show aa (D.int (if (m:Int)<(n:Int)+2 then(m:Int) else(n:Int)+2))=_;congr 2;split<;>omega
 have inner:∀(r:Nat) (T0:List D),T0.length<=16->forL (putN 5) (c_ [5] (kC (d8 (ay 3 dz (aC (dV 1) (aC (dA fL (aC (dV 4) (aC (dV 5) aN))) (aC (dV 2) aN))))) (uL 3 (dA fL (aC (dV 4) (aC (dV 5) aN)))) eT))
  ((VJ (c.2 - 1) (min (c.2+2) W - (c.2 - 1))).map λ(k:Nat)=>D.int (k:Int)) (nc (brd bd) (cD c) (iW w) T0 (fz (.int (r:Int))) none)=
  aa (.nx (nc (brd bd) (cD c) (iW w) (T0++(VJ (c.2 - 1) (min (c.2+2) W - (c.2 - 1))).flatMap λk=>if iq w c (r,k) then [cD (r,k)] else []) (fz (.int (r:Int))) none)):=λr T0 gb=>by
  refine kK (λ(k:Nat)=>D.int (k:Int)) (λT0=>nc (brd bd) (cD c) (iW w) T0 (fz (.int (r:Int))) none) (λk=>if iq w c (r,k) then [cD (r,k)] else []) (B:=64) _ T0 ?_ λk hk T0 hB=>?_
  ·rw[UN,YS];have:∀l:List Nat,(l.map λk=>(if iq w c (r,k) then [cD (r,k)] else []).length).sum<=l.length:=by
    intro l;induction l with
    |nil=>simp
    |cons a l ih=>rw[Uz,Xj,UI];split<;>simp<;>omega
   have h2:=this (VJ (c.2 - 1) (min (c.2+2) W - (c.2 - 1)));rw[Y_] at h2;omega
  ·refine⟨nc (brd bd) (cD c) (iW w) T0 (fz (.int (r:Int))) (fz (.int (k:Int))),rfl,?_⟩;have ht:d8 (ay 3 dz (aC (dV 1) (aC (dA fL (aC (dV 4) (aC (dV 5) aN))) (aC (dV 2) aN)))) (nc (brd bd) (cD c) (iW w) T0 (fz (.int (r:Int))) (fz (.int (k:Int))))=aa (iq w c (r,k)):=
    yp ((aw rfl rfl).trans (s9 hw c (r,k)))
   cases hn:iq w c (r,k) with
   |true=>
    rw[hn] at ht;rw[hn,abz rfl,UN] at hB;refine(a7 (ρ':=nc (brd bd) (cD c) (iW w) (T0++[cD (r,k)]) (fz (.int (r:Int))) (fz (.int (k:Int)))) (ja ht ?_)).trans rfl;show (if T0.length<lim then aa (Out.nx (nc (brd bd) (cD c) (iW w) (T0++[cD (r,k)]) (fz (.int (r:Int))) (fz (.int (k:Int))))) else af)=_;rw[abz (by rw[c5];simp at hB;omega)]
   |false=>
    rw[hn] at ht;refine(a7 (d3 ht rfl)).trans ?_;simp;rfl
 have flt:∀r,((VJ (c.2 - 1) (min (c.2+2) W - (c.2 - 1))).flatMap λk=>if iq w c (r,k) then [cD (r,k)] else [])=(((VJ (c.2 - 1) (min (c.2+2) W - (c.2 - 1))).map λk=>(r,k)).filter (iq w c)).map cD:=λr=>by
  generalize VJ (c.2 - 1) (min (c.2+2) W - (c.2 - 1))=l;induction l with
  |nil=>rfl
  |cons a l ih=>
   rw[W2,ih,Uz,Zy];cases iq w c (r,a)<;>rfl
 have tot:(VJ (c.1 - 1) (min (c.1+2) bd.length - (c.1 - 1))).flatMap (λr=>(((VJ (c.2 - 1) (min (c.2+2) W - (c.2 - 1))).map λk=>(r,k)).filter (iq w c)).map cD)=(fZ bd.length W w c).map cD:=by
  unfold fZ;rw[List.map_flatMap]
 have outer:=kK (put:=putN 4) (body:=c_ [4,5] (d5 (putN 5) (λρ=>(aC (dA wx (aC (d2 yA (d2 dD (dV 1) (dC (.int 1))) (dC (.int 1))) (aC (dC (.int 0)) aN))) (aC (dA yT (aC (d2 dU (d2 dD (dV 1) (dC (.int 1))) (dC (.int 2))) (aC (dA cF (aC (d2 dD (dV 0) (dC (.int 0))) aN)) aN))) aN)) ρ>>=sU) (c_ [5] (kC (d8 (ay 3 dz (aC (dV 1) (aC (dA fL (aC (dV 4) (aC (dV 5) aN))) (aC (dV 2) aN))))) (uL 3 (dA fL (aC (dV 4) (aC (dV 5) aN)))) eT))))
  (λ(k:Nat)=>D.int (k:Int)) (λT0=>nc (brd bd) (cD c) (iW w) T0 none none) (λr=>(((VJ (c.2 - 1) (min (c.2+2) W - (c.2 - 1))).map λk=>(r,k)).filter (iq w c)).map cD) (VJ (c.1 - 1) (min (c.1+2) bd.length - (c.1 - 1))) []
  (by rw[Wn,tot,Ur];have:=su bd.length W w c;omega) λr hr T0 hB=>by
   refine⟨nc (brd bd) (cD c) (iW w) T0 (fz (.int (r:Int))) none,rfl,?_⟩;have e:=inner r T0 (by rw[UN] at hB;omega);rw[flt r] at e;refine(a7 (eV (N0 ?_ ?_ (by omega) (by omega)) e)).trans rfl
   ·exact(a8 rfl).trans (MG c.2)
   ·refine(a8 ?_).trans (MI c.2 W);exact aE (show d2 dU (d2 dD (dV 1) (dC (.int 1))) (dC (.int 2)) (nc (brd bd) (cD c) (iW w) T0 (fz (.int (r:Int))) none)=aa (.int ((c.2:Int)+2)) from rfl) (aE (hg.len0 rfl) rfl)
 rw[Wn,tot] at outer;refine aY (ak rfl (ak (dX (eV (N0 ?_ ?_ (by omega) (by omega)) outer)) ?_))
 ·exact(a8 rfl).trans (MG c.1)
 ·refine(a8 ?_).trans (MI c.1 bd.length);exact aE (show d2 dU (d2 dD (dV 1) (dC (.int 0))) (dC (.int 2)) (nc (brd bd) (cD c) (iW w) [] none none)=aa (.int ((c.1:Int)+2)) from rfl) (aE (Ng rfl) rfl)
 ·rfl
def ba(bd:List Str)(W w:Nat)(c:Cell):List Cell:=(fZ bd.length W w c).filter λx=>decide (lt bd x=lt bd c)
def fc(hw:Ways w):x∈ba bd W w c↔On bd.length W x/\iq w c x=true/\lt bd x=lt bd c:=by
 unfold ba;rw[V6,eh hw,abF,and_assoc]
def BQ(bd:List Str)(W w:Nat)(c:Cell):(ba bd W w c).length<=9:=U1 (XB ..) (su ..)
def rR(v6:α->D)(p:α->Bool):∀(xs:List α),(∀x∈xs,f (v6 x)=aa (if p x then some (v6 x) else none))->bY f (xs.map v6)=aa ((xs.filter p).map v6)
 |[],_=>rfl
 |x::xs,h=>by
  rw[Uz,dq,h x (Uv ..),au,rR v6 p xs λy hy=>h y (Uu _ hy),Zy];cases p x<;>rfl
def pM(hg:Brd bd W)(hw:Ways w)(hc:On bd.length W c):cx [brd bd,cD c,iW w]=aa (.lst ((ba bd W w c).map cD)):=by
 refine aY (ak (ρ':=[fz (brd bd),fz (cD c),fz (iW w),fz (sg (lt bd c))]) ((aJ ((aw rfl rfl).trans (jP hg hc))).trans rfl) (aS ?_));refine bu ?_ (rR cD _ _ λx hx=>?_) (by rw[Ur,c5];exact U1 (BQ bd W w c) (by decide))
 ·show (ay 3 aP _ _>>=lstM)=_;have e:ay 3 aP (aC (dV 0) (aC (dV 1) (aC (dV 2) aN))) [fz (brd bd),fz (cD c),fz (iW w),fz (sg (lt bd c))]=aa (.lst ((fZ bd.length W w c).map cD)):=fM hg hw hc;rw[e];rfl
 ·have TC:=(eh hw).mp hx;rw[C7];have e:eO (d2 md (ay 2 dG (aC (dV 1) (aC (dV 0) aN))) (dV 4)) (fz (cD x)::[fz (brd bd),fz (cD c),fz (iW w),fz (sg (lt bd c))])=aa (decide (lt bd x=lt bd c)):=by
   refine fS ?_;exact(aH ((aw rfl rfl).trans (jP hg TC.1)) rfl).trans (L9 _ _)
  rw[e,au];cases decide (lt bd x=lt bd c)<;>rfl
end K1
namespace K1
section
variable{α:Type}[DecidableEq α]
structure Bk (α:Type) where
 ks:List α
 ps:List (Option α)
 fu:List α
def ck(c:α)(s:Bk α)(x:α):Bk α:=if x∈s.ks then s else⟨s.ks++[x],s.ps++[some c],s.fu++[x]⟩
variable(nb:α->List α)
def fT(s:Bk α)(c:α):Bk α:=(nb c).foldl (ck c) s
def bz(s:Bk α)(v4:List α):Bk α:=v4.foldl (fT nb) s
def Rb(a:α):Nat->α->Prop
 |0,x=>x=a
 |k+1,x=>Rb a k x\/∃y,Rb a k y/\x∈nb y
variable{nb}{a:α}
def Rb.mono(h:i<=j)(r:Rb nb a i x):Rb nb a j x:=by
 induction h with
 |refl=>exact r
 |step _ ih=>exact .inl ih
structure Grown (P:α->α->Prop) (s t:Bk α):Prop where
 ex:∃fs:List (α×α),t.ks=s.ks++fs.map (·.1)/\t.ps=s.ps++fs.map (λp=>some p.2)/\t.fu=s.fu++fs.map (·.1)/\(∀p∈fs,P p.2 p.1)
 nd:s.ks.Nodup->t.ks.Nodup
def Grown.refl(s:Bk α):Grown P s s:=⟨⟨[],by simp,by simp,by simp,λ_ h=>by cases h⟩,id⟩
def Grown.trans(h1:Grown P s t)(h2:Grown P t u):Grown P s u:=by
 obtain⟨fs,a1,a2,a3,a4⟩:=h1.ex;obtain⟨gs,b1,b2,b3,b4⟩:=h2.ex;refine⟨⟨fs++gs,by rw[b1,a1];simp,by rw[b2,a2];simp,by rw[b3,a3];simp,λp hp=>?_⟩,λh=>h2.nd (h1.nd h)⟩;rcases Vd.mp hp with h | h
 ·exact a4 p h
 ·exact b4 p h
def vz(s:Bk α)(h:P c x):Grown P s (ck c s x):=by
 unfold ck;split
 ·exact Grown.refl s
 ·rename_i hx;refine⟨⟨[(x,c)],rfl,rfl,rfl,λp hp=>?_⟩,λhn=>?_⟩
  ·have:p=(x,c):=by simpa using hp
   subst this;exact h
  ·refine VA.mpr ⟨hn,by simp,λy hy z hz e=>?_⟩;have hz:z=x:=by simpa using hz
   rw[e,hz] at hy;exact hx hy
def rK(s:Bk α):y∈(ck c s x).ks↔y∈s.ks\/y=x:=by
 unfold ck;split
 ·rename_i hx;exact⟨.inl,λh=>h.elim id λe=>by rw[e];exact hx⟩
 ·simp
def foldStep:∀(l:List α) (s:Bk α),(∀x∈l,P c x)->Grown P s (l.foldl (ck c) s)/\∀y,y∈(l.foldl (ck c) s).ks↔y∈s.ks\/y∈l
 |[],s,_=>⟨Grown.refl s,λy=>by simp⟩
 |x::l,s,h=>by
  obtain⟨h1,h2⟩:=foldStep l (ck c s x) λy hy=>h y (Uu _ hy);refine⟨(vz s (h x (Uv ..))).trans h1,λy=>?_⟩;rw[ZP,h2 y,rK];simp[or_assoc]
def vX:∀(l:List α) (s:Bk α),(∀c∈l,∀x∈nb c,P c x)->Grown P s (bz nb s l)/\∀y,y∈(bz nb s l).ks↔y∈s.ks\/∃c∈l,y∈nb c
 |[],s,_=>⟨Grown.refl s,λy=>by simp[bz]⟩
 |c::l,s,h=>by
  obtain⟨g1,m1⟩:=foldStep (nb c) s (h c (Uv ..));obtain⟨g2,m2⟩:=vX l (fT nb s c) λc' hc=>h c' (Uu _ hc);refine⟨g1.trans g2,λy=>?_⟩;show y∈(bz nb (fT nb s c) l).ks↔_;rw[m2 y];show (y∈((nb c).foldl (ck c) s).ks\/_)↔_;rw[m1 y];simp[or_assoc]
structure Rng (nb:α->List α) (a:α) (k:Nat) (ks:List α) (ps:List (Option α)) (v4:List α):Prop where
 len:ks.length=ps.length
 nd:ks.Nodup
 mem:∀x,x∈ks↔Rb nb a k x
 rg:∀x,x∈v4↔Rb nb a k x/\∀j,Rb nb a j x->k<=j
 par:∀x p,(x,some p)∈ks.zip ps->x∈nb p/\p∈ks/\∀j,Rb nb a j x->∃i,j=i+1/\Rb nb a i p
 non:∀x,(x,none)∈ks.zip ps->x=a
 sz:k<=ks.length/\(v4≠[]->k+1<=ks.length)
def Rng.zero(nb:α->List α)(a:α):Rng nb a 0 [a] [none] [a] where
 len:=rfl
 nd:=by simp
 mem:=λx=>by simp[Rb]
 rg:=λx=>by simp[Rb]
 par:=λx p h=>by simp at h
 non:=λx h=>by simpa using h
 sz:=⟨by simp,λ_=>by simp⟩
def Rng.next(h:Rng nb a k ks ps v4)(hr:v4≠[]):Rng nb a (k+1) (bz nb ⟨ks,ps,[]⟩ v4).ks (bz nb ⟨ks,ps,[]⟩ v4).ps (bz nb ⟨ks,ps,[]⟩ v4).fu:=by
 obtain⟨g,m⟩:=vX (P:=λc x=>c∈v4/\x∈nb c) v4 ⟨ks,ps,[]⟩ λc hc x hx=>⟨hc,hx⟩
 obtain⟨fs,e1,e2,e3,e4⟩:=g.ex;have JX:=g.nd h.nd;have hm:∀x,x∈(bz nb ⟨ks,ps,[]⟩ v4).ks↔Rb nb a (k+1) x:=λx=>by
  rw[m x];show (x∈ks\/_)↔(Rb nb a k x\/_);constructor
  ·rintro(q | ⟨c,hc,hx⟩)
   ·exact .inl ((h.mem x).mp q)
   ·exact .inr ⟨c,((h.rg c).mp hc).1,hx⟩
  ·rintro(q | ⟨y,hy,hx⟩)
   ·exact .inl ((h.mem x).mpr q)
   ·by_cases hk:∀j,Rb nb a j y->k<=j
    ·exact .inr ⟨y,(h.rg y).mpr ⟨hy,hk⟩,hx⟩
    ·refine .inl ((h.mem x).mpr ?_);obtain⟨j,hj⟩:=Z9.mp hk;obtain⟨PY,S0⟩:=aaC.mp hj;exact Rb.mono (i:=j+1) (by omega) (.inr ⟨y,PY,hx⟩)
 have zY:(bz nb ⟨ks,ps,[]⟩ v4).ks=ks++fs.map (·.1):=e1;have Iu:(bz nb ⟨ks,ps,[]⟩ v4).ps=ps++fs.map (λp=>some p.2):=e2;have LD:(bz nb ⟨ks,ps,[]⟩ v4).fu=fs.map (·.1):=e3;have new:∀x,x∈fs.map (·.1)->¬Rb nb a k x:=λx hx hk=>by
  rw[zY] at JX;exact(VA.mp JX).2.2 x ((h.mem x).mpr hk) x hx rfl
 have Nf:∀x,¬Rb nb a k x->∀j,Rb nb a j x->k+1<=j:=λx hx j hj=>by
  by_cases S1:k+1<=j
  ·exact S1
  ·exact abE (Rb.mono (by omega) hj) hx
 have M4:(bz nb ⟨ks,ps,[]⟩ v4).ks.zip (bz nb ⟨ks,ps,[]⟩ v4).ps=ks.zip ps++fs.map λp=>(p.1,some p.2):=by
  rw[zY,Iu,Yz h.len];congr 1;rw[List.zip_map']
 refine⟨?_,JX,hm,λx=>?_,λx p hp=>?_,λx hx=>?_,?_⟩
 ·rw[zY,Iu,UN,UN,Ur,Ur,h.len]
 ·rw[LD];constructor
  ·intro hx;exact⟨(hm x).mp (by rw[zY];exact U5 _ hx),Nf x (new x hx)⟩
  ·rintro⟨h1,h2⟩;have h3:=(hm x).mpr h1;rw[zY] at h3;rcases Vd.mp h3 with q | q
   ·have:=h2 k ((h.mem x).mp q);omega
   ·exact q
 ·rw[M4] at hp;rcases Vd.mp hp with q | q
  ·obtain⟨q1,q2,q3⟩:=h.par x p q;exact⟨q1,by rw[zY];exact XN _ q2,q3⟩
  ·obtain⟨f,hf,e⟩:=UC.mp q;cases e;obtain⟨f1,f2⟩:=e4 f hf;have hc:=(h.rg f.2).mp f1;refine⟨f2,by rw[zY];exact XN _ ((h.mem _).mpr hc.1),λj hj=>?_⟩;have:=Nf f.1 (new f.1 (UC.mpr ⟨f,hf,rfl⟩)) j hj;exact⟨j - 1,by omega,Rb.mono (by omega) hc.1⟩
 ·rw[M4] at hx;rcases Vd.mp hx with q | q
  ·exact h.non x q
  ·obtain⟨f,hf,e⟩:=UC.mp q;cases e
 ·have hs:=h.sz.2 hr;rw[zY,UN,Ur];refine⟨by omega,λfI=>?_⟩;have:fs≠[]:=λz=>fI (by rw[LD,z];rfl);have:=List.length_pos_iff.mpr this;omega
def Rng.last(h:Rng nb a k ks ps []):∀x,x∈ks↔∃j,Rb nb a j x:=by
 have none:∀x,¬(Rb nb a k x/\∀j,Rb nb a j x->k<=j):=λx q=>by
  have:=(h.rg x).mpr q;cases this
 have hk:∀x,Rb nb a k x->∃i,i<k/\Rb nb a i x:=λx hx=>by
  by_cases q:∀j,Rb nb a j x->k<=j
  ·exact abE ⟨hx,q⟩ (none x)
  ·obtain⟨j,hj⟩:=Z9.mp q;obtain⟨PY,S0⟩:=aaC.mp hj;exact⟨j,by omega,PY⟩
 have all:∀j x,Rb nb a j x->Rb nb a k x:=by
  intro j;induction j with
  |zero=>intro x hx;exact Rb.mono (U3 _) hx
  |succ j ih=>
   rintro x (q | ⟨y,hy,hx⟩)
   ·exact ih x q
   ·obtain⟨i,hi,hr⟩:=hk y (ih y hy);exact Rb.mono (i:=i+1) (by omega) (.inr ⟨y,hr,hx⟩)
 exact λx=>⟨λq=>⟨k,(h.mem x).mp q⟩,λ⟨j,hj⟩=>(h.mem x).mpr (all j x hj)⟩
def bQ{l U:List α}(hn:l.Nodup)(h:∀x∈l,x∈U):l.length<=U.length:=by
 induction l generalizing U with
 |nil=>simp
 |cons a l ih=>
  rw[Vk] at hn;have hl:∀x∈l,x∈U.erase a:=λx hx=>by
   have fI:x≠a:=λz=>hn.1 (by rw[<-z];exact hx);exact(List.mem_erase_of_ne fI).mpr (h x (Uu _ hx))
  have h1:=ih hn.2 hl;have h2:=aaj (h a (Uv ..));have h3:=Ys (h a (Uv ..));rw[UI];omega
end
end K1
namespace K1
open PySem L2 L3
def keyOf(c:Cell):List Key:=[.inl (c.1:Int), .inl (c.2:Int)]
def gx(h:keyOf a=keyOf b):a=b:=by
 unfold keyOf at h;injection h with h1 h2
 injection h1 with h1
 injection h2 with h2 _
 injection h2 with h2
 exact Yl (X2 h1) (X2 h2)
def fX(c:Cell):eg (cD c)=some (keyOf c):=rfl
def fj:∀{ks:List Cell}{ds:List D},c∉ks->cZ (ks.map keyOf) ds (keyOf c)=none
 |[],_,_=>by simp[cZ]
 |k::ks,[],_=>by simp[cZ]
 |k::ks,d::ds,h=>by
  rw[Uz];unfold cZ;rw[abA (λz=>h (by rw[gx z];exact Uv ..))];exact fj λz=>h (Uu _ z)
def mO:∀{ks:List Cell}{ds:List D},ks.length=ds.length->c∈ks->∃d,cZ (ks.map keyOf) ds (keyOf c)=some d/\(c,d)∈ks.zip ds
 |[],_,_,h=>by cases h
 |k::ks,[],hl,_=>by simp at hl
 |k::ks,d::ds,hl,h=>by
  rw[Uz];unfold cZ;by_cases hk:k=c
  ·subst hk;rw[abz rfl];exact⟨d,rfl,by simp⟩
  ·rw[abA (λz=>hk (gx z))];have hc:c∈ks:=by
    rcases UD.mp h with q | q
    ·exact abE q.symm hk
    ·exact q
   obtain⟨d',e1,e2⟩:=mO (by simpa using hl) hc;exact⟨d',e1,by simp[e2]⟩
def Ak{ks:List Cell}(hl:ks.length=ds.length):nW neg (cD c) (.dct (ks.map keyOf) ds)=aa (.bl (if neg then !decide (c∈ks) else decide (c∈ks))):=by
 show (match (eg (cD c)).map (cZ (ks.map keyOf) ds) with | some o=>aa (D.bl (if neg then !o.isSome else o.isSome)) | none=>af)=_;rw[fX];show aa (D.bl (if neg then !(cZ (ks.map keyOf) ds (keyOf c)).isSome else(cZ (ks.map keyOf) ds (keyOf c)).isSome))=_;by_cases h:c∈ks
 ·obtain⟨d,e,_⟩:=mO hl h;rw[e,abB h];rfl
 ·rw[fj h,abD h];rfl
def xm(h:c∉ks)(hl:ds.length<lim):i7 (.dct (ks.map keyOf) ds) (cD c) d=some (.dct ((ks++[c]).map keyOf) (ds++[d])):=by
 show (match eg (cD c) with | some kk=>if ds.length<lim then some (C.dct (cN (ks.map keyOf) ds kk) (bZ (ks.map keyOf) ds kk d)) else none | none=>none)=_;rw[fX];show (if ds.length<lim then some (C.dct (cN (ks.map keyOf) ds (keyOf c)) (bZ (ks.map keyOf) ds (keyOf c) d)) else none)=_;rw[abz hl];unfold cN bZ;rw[fj h];simp
def Fv(h:τ (yy ρ)=aa b):Jf τ ρ=aa b:=by
 unfold Jf;rw[h];rfl
def Ip(h:δ (yy ρ)=aa d)(hf:z8 d=true):L5 δ ρ=aa d:=by
 unfold L5;rw[h];show ph d=_;unfold ph;rw[hf];rfl
def xU(h1:c ρ=aa true)(h2:body ρ=aa (.nx ρ'))(h3:ez c body n ρ'=m):ez c body (n+1) ρ=m:=by
 show (c ρ>>=λb=>if b then body ρ>>=λo=>match o with | .nx ρ'=>ez c body n ρ' | .rt d=>aa (.rt d) else aa (.nx ρ))=_;rw[h1,au,abz rfl,h2];exact h3
def xT(h1:c ρ=aa false):ez c body (n+1) ρ=aa (.nx ρ):=by
 show (c ρ>>=λb=>if b then body ρ>>=λo=>match o with | .nx ρ'=>ez c body n ρ' | .rt d=>aa (.rt d) else aa (.nx ρ))=_;rw[h1];rfl
def Ew:Option Cell->D
 |none=> .non
 |some c=>cD c
abbrev Ij(ks:List Cell)(ps:List (Option Cell)):C:= .dct (ks.map keyOf) (ps.map Ew)
abbrev Ik(ks:List Cell)(ps:List (Option Cell)):D:= .dct (ks.map keyOf) (ps.map Ew)
abbrev sb(b s w:D)(ks:List Cell)(ps:List (Option Cell))(x4 x5 x6 x7:Option Sl):bC:=[fz b,fz s,fz w,some (.ow (Ij ks ps)),x4,x5,x6,x7]
structure Bok (R W:Nat) (s:Bk Cell):Prop where
 len:s.ks.length=s.ps.length
 nd:s.ks.Nodup
 on:∀x∈s.ks,On R W x
 fu:s.fu.length<=s.ks.length
def Bok.le(h:Bok R W s):s.ks.length<=R*W:=by
 rw[<-cz R W];exact bQ h.nd λx hx=>aI.mpr (h.on x hx)
def Bok.step(h:Bok R W s)(hx:On R W x):Bok R W (ck c s x):=by
 unfold ck;split
 ·exact h
 ·rename_i hn;refine⟨by simp[h.len],?_,λy hy=>?_,by simp;exact h.fu⟩
  ·refine VA.mpr ⟨h.nd,by simp,λy hy z hz e=>?_⟩;have hz:z=x:=by simpa using hz
   rw[e,hz] at hy;exact hn hy
  ·rcases Vd.mp hy with q | q
   ·exact h.on y q
   ·have:y=x:=by simpa using q
    rw[this];exact hx
def HP(hg:Brd bd W)(h:Bok bd.length W s):
 Le (sb (brd bd) (cD a) w s.ks s.ps r (some (.ow (.lst (s.fu.map cD)))) (fz (cD c)) (fz (cD x)))=aa (.nx (sb (brd bd) (cD a) w (ck c s x).ks (ck c s x).ps r (some (.ow (.lst ((ck c s x).fu.map cD)))) (fz (cD c)) none)):=by
 have hle:=h.le;have hm:bd.length*W<=64:=YQ hg.r8 hg.w8;have ht:Jf (eO (d2 (nW true) (dV 7) (dV 3))) (sb (brd bd) (cD a) w s.ks s.ps r (some (.ow (.lst (s.fu.map cD)))) (fz (cD c)) (fz (cD x)))=aa (!decide (x∈s.ks)):=
  Fv (fS ((aH rfl rfl).trans (Ak (by rw[Ur];exact h.len))))
 by_cases hx:x∈s.ks
 ·rw[abB hx] at ht;have e:ck c s x=s:=abz hx;rw[e];exact(a7 (d3 ht rfl)).trans rfl
 ·rw[abD hx] at ht;have e:ck c s x=⟨s.ks++[x],s.ps++[some c],s.fu++[x]⟩:=abA hx;rw[e];refine(a7 (ρ':=sb (brd bd) (cD a) w (s.ks++[x]) (s.ps++[some c]) r (some (.ow (.lst ((s.fu++[x]).map cD)))) (fz (cD c)) (fz (cD x))) (ja ht (ak (ρ':=sb (brd bd) (cD a) w (s.ks++[x]) (s.ps++[some c]) r (some (.ow (.lst (s.fu.map cD)))) (fz (cD c)) (fz (cD x))) ?_ ?_))).trans rfl
  ·show (match i7 (Ij s.ks s.ps) (cD x) (cD c) with | some c'=>aa (Out.nx (List.set (sb (brd bd) (cD a) w s.ks s.ps r (some (.ow (.lst (s.fu.map cD)))) (fz (cD c)) (fz (cD x))) 3 (some (.ow c')))) | none=>af)=_;rw[xm hx (by rw[Ur,<-h.len,c5];omega)];rw[show s.ps.map Ew++[cD c]=(s.ps++[some c]).map Ew by simp[Ew]];rfl
  ·show (if (s.fu.map cD).length<lim then aa (Out.nx (sb (brd bd) (cD a) w (s.ks++[x]) (s.ps++[some c]) r (some (.ow (.lst (s.fu.map cD++[cD x])))) (fz (cD c)) (fz (cD x)))) else af)=_;have:=h.fu;rw[abz (by rw[Ur,c5];omega)];rw[show s.fu.map cD++[cD x]=(s.fu++[x]).map cD by simp]
def N2:DS:=c_ [6,7] (d5 (putN 7) (cW (ay 3 cx (aC (dV 0) (aC (dV 6) (aC (dV 2) aN))))) Le)
def A5(hg:Brd bd W)(hw:Ways w)(hc:On bd.length W c)(h:Bok bd.length W s):
 Bok bd.length W (fT (ba bd W w) s c)/\N2 (sb (brd bd) (cD a) (iW w) s.ks s.ps r (some (.ow (.lst (s.fu.map cD)))) (fz (cD c)) none)=
  aa (.nx (sb (brd bd) (cD a) (iW w) (fT (ba bd W w) s c).ks (fT (ba bd W w) s c).ps r (some (.ow (.lst ((fT (ba bd W w) s c).fu.map cD)))) none none)):=by
 obtain⟨h1,e⟩:=ma (put:=putN 7) cD (λs:Bk Cell=>sb (brd bd) (cD a) (iW w) s.ks s.ps r (some (.ow (.lst (s.fu.map cD)))) (fz (cD c)) none) (ck c) (Bok bd.length W) (ba bd W w c) s h λs hs x hx=>
  ⟨hs.step ((fc hw).mp hx).1,_,rfl,HP hg hs⟩
 refine⟨h1,(a7 (eV ?_ e)).trans rfl⟩;show (ay 3 cx (aC (dV 0) (aC (dV 6) (aC (dV 2) aN))) (sb (brd bd) (cD a) (iW w) s.ks s.ps r (some (.ow (.lst (s.fu.map cD)))) (fz (cD c)) none)>>=lstM)=_;have e2:ay 3 cx (aC (dV 0) (aC (dV 6) (aC (dV 2) aN))) (sb (brd bd) (cD a) (iW w) s.ks s.ps r (some (.ow (.lst (s.fu.map cD)))) (fz (cD c)) none)=aa (.lst ((ba bd W w c).map cD)):=pM hg hw hc;rw[e2];rfl
def N1:DS:=c_ [5,6,7] (aG (zo 5) (aG (d5 (putN 6) (cW (dV 4)) N2) (A3 5 (bW 4 (dV 5)))))
def HN(hg:Brd bd W)(hw:Ways w)(hr:∀c∈v4,On bd.length W c)(h:Bok bd.length W s)(hf:s.fu=[]):
 Bok bd.length W (bz (ba bd W w) s v4)/\N1 (sb (brd bd) (cD a) (iW w) s.ks s.ps (fz (.lst (v4.map cD))) none none none)=
  aa (.nx (sb (brd bd) (cD a) (iW w) (bz (ba bd W w) s v4).ks (bz (ba bd W w) s v4).ps (fz (.lst ((bz (ba bd W w) s v4).fu.map cD))) none none none)):=by
 obtain⟨h1,e⟩:=ma (put:=putN 6) cD (λs:Bk Cell=>sb (brd bd) (cD a) (iW w) s.ks s.ps (fz (.lst (v4.map cD))) (some (.ow (.lst (s.fu.map cD)))) none none) (fT (ba bd W w)) (Bok bd.length W) v4 s h λs hs c hc=>
  ⟨(A5 (a:=a) (r:=fz (.lst (v4.map cD))) hg hw (hr c hc) hs).1,_,rfl,(A5 hg hw (hr c hc) hs).2⟩
 refine⟨h1,(a7 (ρ':=sb (brd bd) (cD a) (iW w) (bz (ba bd W w) s v4).ks (bz (ba bd W w) s v4).ps (fz (.lst ((bz (ba bd W w) s v4).fu.map cD))) (fz (.lst ((bz (ba bd W w) s v4).fu.map cD))) none none) ?_).trans rfl⟩;refine ak rfl (ak (ρ':=sb (brd bd) (cD a) (iW w) (bz (ba bd W w) s v4).ks (bz (ba bd W w) s v4).ps (fz (.lst (v4.map cD))) (some (.ow (.lst ((bz (ba bd W w) s v4).fu.map cD)))) none none) ?_ rfl);rw[hf] at e;exact eV rfl e
def xC(hg:Brd bd W)(hw:Ways w)(ha:On bd.length W a):∀(fuel k:Nat) (ks:List Cell) (ps:List (Option Cell)) (v4:List Cell),bd.length*W+2<=fuel+k->Rng (ba bd W w) a k ks ps v4->(∀x∈ks,On bd.length W x)->
 ∃k' ks' ir,Rng (ba bd W w) a k' ks' ir []/\(∀x∈ks',On bd.length W x)/\ez (d8 (dV 4)) N1 fuel (sb (brd bd) (cD a) (iW w) ks ps (fz (.lst (v4.map cD))) none none none)=aa (.nx (sb (brd bd) (cD a) (iW w) ks' ir (fz (.lst [])) none none none))
 |0,k,ks,ps,v4,hf,hR,jN=>by
  have h1:ks.length<=bd.length*W:=by
   rw[<-cz bd.length W];exact bQ hR.nd λx hx=>aI.mpr (jN x hx)
  have:=hR.sz.1;omega
 |fuel+1,k,ks,ps,[],hf,hR,jN=>⟨k,ks,ps,hR,jN,xT rfl⟩
 |fuel+1,k,ks,ps,c::v4,hf,hR,jN=>by
  have fI:c::v4≠[]:=by simp
  have hN:=hR.next fI;have MR:∀x∈c::v4,On bd.length W x:=λx hx=>jN x ((hR.mem x).mpr ((hR.rg x).mp hx).1);obtain⟨hb,e⟩:=HN hg hw MR (s:=⟨ks,ps,[]⟩) ⟨hR.len,hR.nd,jN,U3 _⟩ rfl;obtain⟨k',ks',ir,q1,q2,q3⟩:=xC hg hw ha fuel (k+1) _ _ _ (by omega) hN hb.on;exact⟨k',ks',ir,q1,q2,xU rfl e q3⟩
def qG(hg:Brd bd W)(hw:Ways w)(ha:On bd.length W a):
 ∃k ks ps,Rng (ba bd W w) a k ks ps []/\(∀x∈ks,On bd.length W x)/\cY [brd bd,cD a,iW w]=aa (Ik ks ps):=by
 have hm:bd.length*W<=64:=YQ hg.r8 hg.w8;obtain⟨k,ks,ps,h1,h2,h3⟩:=xC hg hw ha lim 0 [a] [none] [a] (by rw[c5];omega) (Rng.zero _ _) (λx hx=>(show x=a by simpa using hx)▸ha);refine⟨k,ks,ps,h1,h2,aY (ak rfl (ak rfl (ak (dX h3) rfl)))⟩
def CN[DecidableEq α](n:Nat)(v6:α->D):Prop:=∀k x y,jH (n+k) (v6 x) (v6 y)=some (decide (x=y))
def oj(n:Nat)(i j:Int):jH n (.int i) (.int j)=some (i==j):=by cases n<;>rfl
def z4[DecidableEq α](h:∀x y,f (v6 x) (v6 y)=some (decide (x=y))):∀(xs ys:List α),nT f (xs.map v6) (ys.map v6)=some (decide (xs=ys))
 |[],[]=>rfl
 |[],_::_=>by simp[nT]
 |_::_,[]=>by simp[nT]
 |x::xs,y::ys=>by
  rw[Uz,Uz];show (match f (v6 x) (v6 y),nT f (xs.map v6) (ys.map v6) with | some b,some r=>some (b&&r) | _,_=>none)=_;rw[h,z4 h xs ys];show some (decide (x=y)&&decide (xs=ys))=_;congr 1;by_cases h1:x=y<;>by_cases h2:xs=ys<;>simp[h1,h2]
def Gd[DecidableEq α](h:CN n v6):CN (n+1) (λl:List α=> .lst (l.map v6)):=λk x y=>by
 rw[show n+1+k=(n+k)+1 by omega];exact z4 (h k) x y
abbrev cL(l:List Cell):D:= .lst (l.map cD)
def ic(c:Cell):List Int:=[(c.1:Int),(c.2:Int)]
def C6(a b:Cell):Bool:=if a.1=b.1 then decide (a.2<b.2) else decide (a.1<b.1)
def GI(k:Cell):List Cell->List Cell
 |[]=>[k]
 |x::r=>if C6 k x then k::x::r else x::GI k r
def jX:List Cell->List Cell
 |[]=>[]
 |k::r=>GI k (jX r)
def yQ(a b:Cell):cj (ic a) (ic b)=C6 a b:=by
 show (if (a.1:Int)=(b.1:Int) then(if (a.2:Int)=(b.2:Int) then false else decide ((a.2:Int)<(b.2:Int))) else decide ((a.1:Int)<(b.1:Int)))=_;unfold C6;by_cases h:a.1=b.1
 ·rw[abz h,abz (by omega)];by_cases h2:a.2=b.2
  ·rw[abz (by omega),h2];simp
  ·rw[abA (by omega)];by_cases h3:a.2<b.2
   ·rw[abB h3,abB (by omega)]
   ·rw[abD h3,abD (by omega)]
 ·rw[abA h,abA (by omega)];by_cases h3:a.1<b.1
  ·rw[abB h3,abB (by omega)]
  ·rw[abD h3,abD (by omega)]
def DR(k:Cell):∀l:List Cell,insI (ic k) (l.map ic)=(GI k l).map ic
 |[]=>rfl
 |x::r=>by
  rw[Uz];unfold insI GI;rw[yQ];cases C6 k x with
  |true=>rfl
  |false=>rw[abA (by decide),abA (by decide),Uz,DR k r]
def oJ:∀l:List Cell,sortI (l.map ic)=(jX l).map ic
 |[]=>rfl
 |k::r=>by
  rw[Uz];unfold sortI jX;rw[oJ r,DR]
def pD(h:ic a=ic b):a=b:=by
 unfold ic at h;injection h with h1 h2
 injection h2 with h2 _
 exact Yl (X2 h1) (X2 h2)
def gD:x∈jX l↔x∈l:=by
 have h:=eu (x:=ic x) (l:=l.map ic);rw[oJ] at h;constructor
 ·intro hx;obtain⟨y,hy,e⟩:=UC.mp (h.mp (UC.mpr ⟨x,hx,rfl⟩));rw[<-pD e];exact hy
 ·intro hx;obtain⟨y,hy,e⟩:=UC.mp (h.mpr (UC.mpr ⟨x,hx,rfl⟩));rw[<-pD e];exact hy
def RiseC(l:List Cell):Prop:=l.Pairwise λa b=>C6 a b=true
def oI:vq (l.map ic)↔RiseC l:=by
 unfold vq RiseC;rw[V_];constructor<;>intro h<;>refine Xc ?_ h<;>intro a b q
 ·rw[<-yQ];exact q
 ·rw[yQ];exact q
def wG{l:List Cell}(h:l.Nodup):(l.map ic).Nodup:=by
 unfold VC at h⊢;rw[V_];exact Xc (λh z=>h (pD z)) h
def kx{l:List Cell}(h:l.Nodup):RiseC (jX l):=by
 have:=ib (wG h);rw[oJ] at this;exact oI.mp this
def Cj(ha:RiseC a)(hb:RiseC b)(h:∀x,x∈a↔x∈b):a=b:=by
 have e:=lL (oI.mpr ha) (oI.mpr hb) λx=>by
  constructor
  ·intro hx;obtain⟨y,hy,rfl⟩:=UC.mp hx;exact UC.mpr ⟨y,(h y).mp hy,rfl⟩
  ·intro hx;obtain⟨y,hy,rfl⟩:=UC.mp hx;exact UC.mpr ⟨y,(h y).mpr hy,rfl⟩
 have inj:∀(a b:List Cell),a.map ic=b.map ic->a=b:=by
  intro a;induction a with
  |nil=>intro b h;cases b with
   |nil=>rfl
   |cons=>simp at h
  |cons x a ih=>intro b h;cases b with
   |nil=>simp at h
   |cons y b=>
    rw[Uz,Uz] at h;injection h with h1 h2
    rw[pD h1,ih b h2]
 exact inj a b e
def RiseC.nodup(h:RiseC l):l.Nodup:=by
 refine Xc ?_ h;intro a b q z;subst z;unfold C6 at q;rw[abz rfl] at q;have:=abC q;omega
def jA:∀ks:List Cell,d_ (ks.map keyOf)=some (ks.map ic)
 |[]=>rfl
 |k::r=>by
  show (match jO (keyOf k),d_ (r.map keyOf) with | some x,some xs=>some (x::xs) | _,_=>none)=_;rw[jA r];rfl
def Nw{ks:List Cell}(h:ks.Nodup)(hl:ks.length<64):eS (ks.map ic)=true:=by
 unfold eS;rw[Ur,abB (wG h),abB hl];simp;intro a b _ z;cases z
def Fh(h:ks.Nodup)(hl:ks.length<64):xN [.dct (ks.map keyOf) ds]=aa (cL (jX ks)):=by
 show (match d_ (ks.map keyOf) with | some ks=>if eS ks&&ks.all (λk=>decide (k.length<=lim)) then aa (D.lst ((sortI ks).map tupI)) else af | none=>af)=_;rw[jA];show (if eS (ks.map ic)&&(ks.map ic).all (λk=>decide (k.length<=lim)) then aa (D.lst ((sortI (ks.map ic)).map tupI)) else af)=_;rw[Nw h hl];have:(ks.map ic).all (λk=>decide (k.length<=lim))=true:=by
  simp;intro a b _;show 2<=lim
  decide
 rw[this,Bool.and_true,abz rfl,oJ,U0];rfl
def Cn(bd:List Str)(W w:Nat)(a b:Cell):Prop:=∃j,Rb (ba bd W w) a j b
def Cn.refl:Cn bd W w a a:=⟨0,rfl⟩
def yR(hw:Ways w)(ha:On bd.length W a)(h:b∈ba bd W w a):a∈ba bd W w b:=by
 obtain⟨h1,h2,h3⟩:=(fc hw).mp h;exact(fc hw).mpr ⟨ha,by rw[wJ];exact h2,h3.symm⟩
def AZ(hw:Ways w)(ha:On bd.length W a):∀{j:Nat},Rb (ba bd W w) a j b->On bd.length W b
 |0,h=>by rw[show b=a from h];exact ha
 |j+1, .inl h=>AZ hw ha h
 |j+1, .inr ⟨y,_,hy⟩=>((fc hw).mp hy).1
def qq(h:c∈ba bd W w a):∀{j:Nat},Rb (ba bd W w) c j b->Rb (ba bd W w) a (j+1) b
 |0,q=> .inr ⟨a,rfl,by rw[show b=c from q];exact h⟩
 |j+1, .inl q=> .inl (qq h q)
 |j+1, .inr ⟨y,q,hy⟩=> .inr ⟨y,qq h q,hy⟩
def uH(hw:Ways w)(ha:On bd.length W a):∀{j:Nat},Rb (ba bd W w) a j b->Rb (ba bd W w) b j a
 |0,h=>show a=b from(show b=a from h).symm
 |j+1, .inl h=> .inl (uH hw ha h)
 |j+1, .inr ⟨y,q,hy⟩=>qq (yR hw (AZ hw ha q) hy) (uH hw ha q)
def qr(h:Rb (ba bd W w) a i b):∀{j:Nat},Rb (ba bd W w) b j c->Rb (ba bd W w) a (i+j) c
 |0,q=>by rw[show c=b from q];exact h
 |j+1, .inl q=> .inl (qr h q)
 |j+1, .inr ⟨y,q,hy⟩=> .inr ⟨y,qr h q,hy⟩
section
variable{bd:List Str}{W w:Nat}{a b c:Cell}
def Cn.on(hw:Ways w)(ha:On bd.length W a)(h:Cn bd W w a b):On bd.length W b:=let ⟨_,q⟩:=h;AZ hw ha q
def Cn.symm(hw:Ways w)(ha:On bd.length W a)(h:Cn bd W w a b):Cn bd W w b a:=let ⟨j,q⟩:=h;⟨j,uH hw ha q⟩
def Cn.trans(h:Cn bd W w a b)(h2:Cn bd W w b c):Cn bd W w a c:=let ⟨i,q⟩:=h;let ⟨j,r⟩:=h2;⟨i+j,qr q r⟩
end
structure IsPatch (bd:List Str) (W w:Nat) (a:Cell) (P:List Cell):Prop where
 rise:RiseC P
 mem:∀x,x∈P↔Cn bd W w a x
def IsPatch.one(h:IsPatch bd W w a P)(h2:IsPatch bd W w a Q):P=Q:=Cj h.rise h2.rise λx=>(h.mem x).trans (h2.mem x).symm
def tm{bd:List Str}{ks:List Cell}(hn:ks.Nodup)(jN:∀x∈ks,On bd.length W x):ks.length<=bd.length*W:=by
 rw[<-cz bd.length W];exact bQ hn λx hx=>aI.mpr (jN x hx)
def O6(w:Nat):List Cell->Bool
 |a::b::r=>iq w a b&&O6 w (b::r)
 |_=>true
abbrev wr(bd w a b k t:D):bC:=[fz bd,fz w,fz a,fz b,fz k,fz t]
def du(v6:α->D)(g:α->D):∀(xs:List α),(∀x∈xs,f (v6 x)=aa (some (g x)))->bY f (xs.map v6)=aa (xs.map g)
 |[],_=>rfl
 |x::xs,h=>by
  rw[Uz,dq,h x (Uv ..),au,du v6 g xs λy hy=>h y (Uu _ hy)];rfl
def TL(h:ρ[i]? =some (fz (.lst ds))):cW (dV i) ρ=aa ds:=by
 unfold cW;rw[dw h];rfl
def bP(ks:List Cell)(c:Cell):List Cell:=if c∈ks then ks else ks++[c]
def bH(l:List Cell):List Cell:=l.foldl bP []
def trues(ks:List Cell):List D:=ks.map λ_=> .bl true
def dJ:x∈bP ks c↔x∈ks\/x=c:=by
 unfold bP;split
 ·rename_i h;exact⟨.inl,λq=>q.elim id λe=>by rw[e];exact h⟩
 ·simp
def kJ:∀(l ks:List Cell),(ks.Nodup->(l.foldl bP ks).Nodup)/\(∀x,x∈l.foldl bP ks↔x∈ks\/x∈l)/\(l.foldl bP ks).length<=ks.length+l.length
 |[],ks=>⟨id,λx=>by simp,by simp⟩
 |c::l,ks=>by
  obtain⟨h1,h2,h3⟩:=kJ l (bP ks c);refine⟨λhn=>h1 ?_,λx=>?_,?_⟩
  ·unfold bP;split
   ·exact hn
   ·rename_i hc;refine VA.mpr ⟨hn,by simp,λy hy z hz e=>?_⟩;have hz:z=c:=by simpa using hz
    rw[e,hz] at hy;exact hc hy
  ·rw[ZP,h2 x,dJ];simp[or_assoc]
  ·rw[ZP,UI];have:(bP ks c).length<=ks.length+1:=by unfold bP;split<;>simp
   omega
def mr:x∈bH l↔x∈l:=by
 unfold bH;rw[(kJ l []).2.1 x];simp
def Eb(l:List Cell):(bH l).Nodup:=(kJ l []).1 WU
def BP(l:List Cell):(bH l).length<=l.length:=by have:=(kJ l []).2.2;simpa[bH] using this
def sS:∀{ks:List (List Key)}{l:List Cell},ks.length=l.length->mI ks (trues l) k (.bl true)=trues l
 |[],[],_=>rfl
 |k'::ks,c::l,h=>by
  show (if k'=k then D.bl true else D.bl true)::mI ks (trues l) k (.bl true)=_;rw[sS (by simpa using h)];split<;>rfl
 |[],_::_,h=>by simp at h
 |_::_,[],h=>by simp at h
def EY(hl:ks.length<lim):i7 (.dct (ks.map keyOf) (trues ks)) (cD c) (.bl true)=some (.dct ((bP ks c).map keyOf) (trues (bP ks c))):=by
 have P3:(trues ks).length=ks.length:=by simp[trues]
 unfold bP;by_cases h:c∈ks
 ·rw[abz h];show (match eg (cD c) with | some kk=>if (trues ks).length<lim then some (C.dct (cN (ks.map keyOf) (trues ks) kk) (bZ (ks.map keyOf) (trues ks) kk (.bl true))) else none | none=>none)=_;rw[fX];show (if (trues ks).length<lim then some (C.dct (cN (ks.map keyOf) (trues ks) (keyOf c)) (bZ (ks.map keyOf) (trues ks) (keyOf c) (.bl true))) else none)=_;rw[abz (by rw[P3];exact hl)];obtain⟨d,e,_⟩:=mO P3.symm h;unfold cN bZ;rw[e];show some (C.dct (ks.map keyOf) (mI (ks.map keyOf) (trues ks) (keyOf c) (.bl true)))=_;rw[sS (by simp)]
 ·rw[abA h,xm h (by rw[P3];exact hl)];simp[trues]
abbrev yP(l:List Cell):D:= .dct ((bH l).map keyOf) (trues (bH l))
def BN(hl:l.length<4000):oq [cL l]=aa (yP l):=by
 have e:∀(xs ks:List Cell),ks.length+xs.length<4000->forL (putN 2) (c_ [2] (gN 1 (dV 2) (dC (.bl true)))) (xs.map cD) [fz (cL l),some (.ow (.dct (ks.map keyOf) (trues ks))),none]=aa (.nx [fz (cL l),some (.ow (.dct ((xs.foldl bP ks).map keyOf) (trues (xs.foldl bP ks)))),none]):=by
  intro xs;induction xs with
  |nil=>intro ks _;rfl
  |cons x xs ih=>
   intro ks hk;rw[UI] at hk;have hle:(bP ks x).length<=ks.length+1:=by unfold bP;split<;>simp
   refine(cH rfl ?_).trans (ih (bP ks x) (by omega));refine(a7 (ρ':=[fz (cL l),some (.ow (.dct ((bP ks x).map keyOf) (trues (bP ks x)))),fz (cD x)]) ?_).trans rfl;show (match i7 (.dct (ks.map keyOf) (trues ks)) (cD x) (.bl true) with | some c'=>aa (Out.nx [fz (cL l),some (.ow c'),fz (cD x)]) | none=>af)=_;rw[EY (by rw[c5];omega)]
 refine aY (ak rfl (ak (dX (eV rfl (e l [] (by simpa using hl)))) rfl))
def wy:∀{l:List Cell},mn (keyOf x) (l.map keyOf)=decide (x∈l)
 |[]=>rfl
 |y::l=>by
  show (decide (keyOf y=keyOf x)||mn (keyOf x) (l.map keyOf))=_;rw[wy];by_cases h:y=x
  ·subst h;simp
  ·have h2:¬keyOf y=keyOf x:=λz=>h (gx z);rw[abD h2,Bool.false_or,abI];constructor
   ·exact λq=>Uu _ q
   ·intro q;rcases UD.mp q with q | q
    ·exact abE q.symm h
    ·exact q
def sm:∀{l:List Cell},kX (l.map cD)=some (l.map keyOf)
 |[]=>rfl
 |y::l=>by
  show (match eg (cD y),kX (l.map cD) with | some k,some ks=>some (k::ks) | _,_=>none)=_;rw[sm];rfl
def GH:Dt neg (cD x) (cL l)=aa (.bl (if neg then !decide (x∈l) else decide (x∈l))):=by
 show (match eg (cD x),kX (l.map cD) with | some k,some ks=>aa (D.bl (if neg then !mn k ks else mn k ks)) | _,_=>af)=_;rw[sm,fX];show aa (D.bl (if neg then !mn (keyOf x) (l.map keyOf) else mn (keyOf x) (l.map keyOf)))=_;rw[wy]
def IM(a b:Bool):qX (.bl a) (.bl b)=aa (.bl (!(a==b))):=rfl
def Kr(l:List Cell):cF [cL l]=aa (.int (l.length:Int)):=by
 show aa (D.int ((l.map cD).length:Int))=_;rw[Ur]
def Nk(a b:Nat):qX (.int (a:Int)) (.int (b:Int))=aa (.bl (!(a==b))):=by
 rw[ne_int,sA]
def F9(ks:List Cell)(f:Cell->D):C:= .dct (ks.map keyOf) (ks.map f)
def vL(ks:List Cell)(f:Cell->D):D:= .dct (ks.map keyOf) (ks.map f)
def e_(f:Cell->D)(x:Cell)(d:D):Cell->D:=λy=>if y=x then d else f y
def lT:∀{ks:List Cell},x∈ks->cZ (ks.map keyOf) (ks.map f) (keyOf x)=some (f x)
 |y::ks,h=>by
  show (if keyOf y=keyOf x then some (f y) else cZ (ks.map keyOf) (ks.map f) (keyOf x))=_;by_cases e:y=x
  ·subst e;rw[abz rfl]
  ·rw[abA (λz=>e (gx z))];rcases UD.mp h with q | q
   ·exact abE q.symm e
   ·exact lT q
def yO(h:x∈ks):df (vL ks f) (cD x)=aa (f x):=by
 show (match ((eg (cD x)).map λk=>cZ (ks.map keyOf) (ks.map f) k) with | some (some v)=>aa v | _=>af)=_;rw[fX];show (match some (cZ (ks.map keyOf) (ks.map f) (keyOf x)) with | some (some v)=>aa v | _=>af)=_;rw[lT h]
def Gn(h:x∈ks):getM (vL ks f) (cD x) v=aa (f x):=by
 show (match ((eg (cD x)).map λk=>cZ (ks.map keyOf) (ks.map f) k) with | some (some x)=>aa x | some none=>aa v | none=>af)=_;rw[fX];show (match some (cZ (ks.map keyOf) (ks.map f) (keyOf x)) with | some (some x)=>aa x | some none=>aa v | none=>af)=_;rw[lT h]
def Dx(h:x∉ks):getM (vL ks f) (cD x) v=aa v:=by
 show (match ((eg (cD x)).map λk=>cZ (ks.map keyOf) (ks.map f) k) with | some (some x)=>aa x | some none=>aa v | none=>af)=_;rw[fX];show (match some (cZ (ks.map keyOf) (ks.map f) (keyOf x)) with | some (some x)=>aa x | some none=>aa v | none=>af)=_;rw[fj h]
def uJ:∀{ks:List Cell},mI (ks.map keyOf) (ks.map f) (keyOf x) d=ks.map (e_ f x d)
 |[]=>rfl
 |y::ks=>by
  show (if keyOf y=keyOf x then d else f y)::mI (ks.map keyOf) (ks.map f) (keyOf x) d=_;rw[uJ,Uz];congr 1;unfold e_;by_cases e:y=x
  ·subst e;rw[abz rfl,abz rfl]
  ·rw[abA (λz=>e (gx z)),abA e]
def HH(hl:ks.length<lim):i7 (F9 ks f) (cD x) d=some (F9 (bP ks x) (e_ f x d)):=by
 show (match eg (cD x) with | some kk=>if (ks.map f).length<lim then some (C.dct (cN (ks.map keyOf) (ks.map f) kk) (bZ (ks.map keyOf) (ks.map f) kk d)) else none | none=>none)=_;rw[fX];show (if (ks.map f).length<lim then some (C.dct (cN (ks.map keyOf) (ks.map f) (keyOf x)) (bZ (ks.map keyOf) (ks.map f) (keyOf x) d)) else none)=_;rw[abz (by rw[Ur];exact hl)];unfold F9 bP cN bZ;by_cases h:x∈ks
 ·rw[lT h,abz h];show some (C.dct (ks.map keyOf) (mI (ks.map keyOf) (ks.map f) (keyOf x) d))=_;rw[uJ]
 ·rw[fj h,abA h];show some (C.dct (ks.map keyOf++[keyOf x]) (ks.map f++[d]))=_;have e1:ks.map f=ks.map (e_ f x d):=Vp λy hy=>by
   unfold e_;rw[abA (λz:y=x=>h (z▸hy))]
  have e2:(ks++[x]).map (e_ f x d)=ks.map (e_ f x d)++[d]:=by
   rw[Vl];congr 1;show [e_ f x d x]=[d]
   unfold e_;rw[abz rfl]
  rw[Vl,e1,e2];rfl
def AV(h0:ρ[i]? =some (some (.ow (F9 ks f))))(hv:δv ρ=aa d)(hk:δk ρ=aa (cD x))(hl:ks.length<lim):
 gN i δk δv ρ=aa (.nx (ρ.set i (some (.ow (F9 (bP ks x) (e_ f x d)))))):=by
 unfold gN rl;rw[h0];show (δv ρ>>=λv=>δk ρ>>=λk=>match i7 (F9 ks f) k v with | some c'=>aa (Out.nx (ρ.set i (some (.ow c')))) | none=>af)=_;rw[hv,au,hk,au,HH hl]
section
variable{α:Type}[DecidableEq α]
def qL[DecidableEq β]{g:α->β}(hg:∀a b,g a=g b->a=b):∀{ks:List α}{ds:List D},cZ (ks.map g) ds (g x)=cZ ks ds x
 |[],ds=>by cases ds<;>rfl
 |k::ks,[]=>rfl
 |k::ks,d::ds=>by
  show (if g k=g x then some d else cZ (ks.map g) ds (g x))=if k=x then some d else cZ ks ds x
  by_cases e:k=x
  ·rw[abz (by rw[e]),abz e]
  ·rw[abA (λz=>e (hg _ _ z)),abA e,qL hg]
def oK{x:α}:∀{ks:List α}{ds:List D},x∉ks->cZ ks ds x=none
 |[],ds,_=>by cases ds<;>rfl
 |k::ks,[],_=>rfl
 |k::ks,d::ds,h=>by
  show (if k=x then some d else cZ ks ds x)=none;rw[abA (λz:k=x=>h (z▸Uv)),oK λz=>h (Uu _ z)]
def lU:∀{ks:List α}{ds:List D},ks.length=ds.length->x∈ks->∃d,cZ ks ds x=some d/\(x,d)∈ks.zip ds
 |k::ks,d::ds,hl,h=>by
  by_cases e:k=x
  ·exact⟨d,by show (if k=x then some d else _)=_;rw[abz e],by rw[e];exact Uv⟩
  ·obtain⟨d',h1,h2⟩:=lU (ks:=ks) (by simpa using hl) ((UD.mp h).resolve_left λz=>e z.symm);exact⟨d',by show (if k=x then some d else _)=_;rw[abA e,h1],Uu _ h2⟩
 |k::ks,[],hl,h=>by simp at hl
structure KOk (v6:α->D) (mk:List α->List D->C):Prop where
 at':∀ks ds x,Bc (mk ks ds).d (v6 x)=some (cZ ks ds x)
 put:∀ks ds x d,x∉ks->ds.length<lim->i7 (mk ks ds) (v6 x) d=some (mk (ks++[x]) (ds++[d]))
 ini:∀x,orM (kF (v6 x) (.int 0)) (mU (v6 x) (.int 0))=aa (mk [x] [.int 0])
def kN(n:Nat):Key:= .inl (n:Int)
def tW(a b:Nat)(h:kN a=kN b):a=b:=X2 (Sum.inl.inj h)
def nI(n:Nat):D:= .int (n:Int)
abbrev RW(ks:List Nat)(ds:List D):C:= .dci (ks.map kN) ds
def D1:KOk nI RW:=
 ⟨λks ds x=>abG some (qL tW),λks ds x d h hl=>by
  show (if ds.length<lim then some (C.dci (cN (ks.map kN) ds (kN x)) (bZ (ks.map kN) ds (kN x) d)) else none)=_;rw[abz hl];unfold cN bZ;rw[qL tW,oK h];show some (C.dci (ks.map kN++[kN x]) (ds++[d]))=some (C.dci ((ks++[x]).map kN) (ds++[d]));rw[Vl];rfl,λx=>rfl⟩
variable{v6:α->D}{mk:List α->List D->C}
def KOk.inn(k:KOk v6 mk){x:α}(hl:ks.length=ds.length):nW neg (v6 x) (mk ks ds).d=aa (.bl (if neg then !decide (x∈ks) else decide (x∈ks))):=by
 unfold nW;rw[k.at'];by_cases h:x∈ks
 ·obtain⟨d,e,_⟩:=lU hl h;rw[e,abB h];rfl
 ·rw[oK h,abD h];rfl
def KOk.ix(k:KOk v6 mk){ds:List D}(hl:ks.length=ds.length)(h:x∈ks):∃d,(x,d)∈ks.zip ds/\df (mk ks ds).d (v6 x)=aa d:=by
 obtain⟨d,e,h2⟩:=lU hl h;refine⟨d,h2,?_⟩;unfold df;rw[k.at',e]
def KOk.get(k:KOk v6 mk){x:α}(hl:ks.length=ds.length):(x∈ks->∃d,(x,d)∈ks.zip ds/\getM (mk ks ds).d (v6 x) v=aa d)/\(x∉ks->getM (mk ks ds).d (v6 x) v=aa v):=by
 unfold getM;rw[k.at'];constructor
 ·intro h;obtain⟨d,e,h2⟩:=lU hl h;exact⟨d,h2,by rw[e]⟩
 ·intro h;rw[oK h]
def Ds(nb:α->List α)(a x:α)(n:Nat):Prop:=Rb nb a n x/\∀j,Rb nb a j x->n<=j
def HI{ρ:bC}(h0:ρ[i]? =some (some (.ow c)))(hv:δv ρ=aa d)(hk:δk ρ=aa k)(hp:i7 c k d=some c'):gN i δk δv ρ=aa (.nx (ρ.set i (some (.ow c')))):=by
 unfold gN rl;rw[h0];show (δv ρ>>=λv=>δk ρ>>=λk=>match i7 c k v with | some c'=>aa (Out.nx (ρ.set i (some (.ow c')))) | none=>af)=_;rw[hv,au,hk,au,hp]
def zE{x:β}:∀{ks:List β}{vs:List Nat},(x,d)∈ks.zip (vs.map nI)->∃n,d=nI n/\(x,n)∈ks.zip vs
 |k::ks,v::vs,h=>by
  rw[Uz,VW] at h;rcases UD.mp h with e | h
  ·cases e;exact⟨v,rfl,Uv⟩
  ·obtain⟨n,h1,h2⟩:=zE h;exact⟨n,h1,Uu _ h2⟩
 |[],_,h=>by simp at h
 |_::_,[],h=>by simp at h
def oO(v6:α->D)(S:List α)(nb:α->List α)(nr:D):Prop:=∀c∈S,∃d,df nr (v6 c)=aa d/\orM (lstM d) (ij d)=aa ((nb c).map v6)
def pj{put:D->bC->Option bC}(v6:β->D)(I:σ->bC->Prop)(step:σ->β->σ):∀(xs:List β) (s:σ) (ρ:bC),I s ρ->(∀s ρ,I s ρ->∀x∈xs,∃ρ1 ρ2,put (v6 x) ρ=some ρ1/\body ρ1=aa (.nx ρ2)/\I (step s x) ρ2)->
 ∃ρ',forL put body (xs.map v6) ρ=aa (.nx ρ')/\I (xs.foldl step s) ρ'
 |[],s,ρ,h,_=>⟨ρ,rfl,h⟩
 |x::xs,s,ρ,h,st=>by
  obtain⟨ρ1,ρ2,e1,e2,h2⟩:=st s ρ h x (Uv ..);obtain⟨ρ',e3,h3⟩:=pj v6 I step xs (step s x) ρ2 h2 λs ρ h y hy=>st s ρ h y (Uu _ hy);exact⟨ρ',by rw[Uz,cH e1 e2,e3],h3⟩
end
def rank(W:Nat)(x:Cell):Nat:=x.1*W+x.2
def gp(ha:On R W a)(hb:On R W b):C6 a b=true↔rank W a<rank W b:=by
 unfold C6 rank;have h1:=ha.2;have h2:=hb.2;by_cases h:a.1=b.1
 ·rw[abz h,abF,h];omega
 ·rw[abA h,abF];constructor
  ·intro q;have:(a.1+1)*W<=b.1*W:=aaZ _ q;rw[Nat.add_mul,Nat.one_mul] at this;omega
  ·intro q;refine Classical.byContradiction λz=>?_;have:(b.1+1)*W<=a.1*W:=aaZ _ (by omega);rw[Nat.add_mul,Nat.one_mul] at this;omega
def xp(ha:On R W a)(hb:On R W b)(h:rank W a=rank W b):a=b:=by
 have n1:¬C6 a b=true:=λz=>by have:=(gp ha hb).mp z;omega
 have n2:¬C6 b a=true:=λz=>by have:=(gp hb ha).mp z;omega
 unfold C6 at n1 n2;obtain⟨a1,a2⟩:=a;obtain⟨b1,b2⟩:=b;simp only at n1 n2;by_cases h1:a1=b1
 ·rw[abz h1,abF] at n1;rw[abz h1.symm,abF] at n2;rw[Prod.mk.injEq];exact⟨h1,by omega⟩
 ·rw[abA h1,abF] at n1;rw[abA (Vv h1),abF] at n2;omega
section
variable{W:Nat}
def mu(R W:Nat)(L:Cell->Cell):Nat:=((aT R W).map λx=>rank W (L x)).sum
end
def Ke(h:δ ρ=aa (cL l)):cW δ ρ=aa (l.map cD):=by
 show (δ ρ>>=lstM)=_;rw[h];rfl
def iB(R W:Nat):RiseC (aT R W):=by
 unfold RiseC aT f6;rw[aaE];constructor
 ·intro r _;rw[V_];exact List.pairwise_lt_range.imp λh=>by show (if _ then _ else _)=true;rw[abz rfl,abF];exact h
 ·refine List.pairwise_lt_range.imp λ{a b} h x hx y hy=>?_;obtain⟨i,_,rfl⟩:=UC.mp hx;obtain⟨j,_,rfl⟩:=UC.mp hy;show (if a=b then _ else decide (a<b))=true;rw[abA (by omega),abF];exact h
section
variable{bd:List Str}{W w:Nat}
def wq(f:α->List β)(h:∀a,(f a).length<=n):∀l:List α,(l.flatMap f).length<=n*l.length
 |[]=>U3 _
 |a::l=>by
  rw[W2,UN,UI,Nat.mul_add,Nat.mul_one];have:=h a;have:=wq f h l;omega
def Least(bd:List Str)(W w:Nat)(x m:Cell):Prop:=Cn bd W w x m/\∀z,Cn bd W w x z->rank W m<=rank W z
end
def Mq:((aT 8 8).map λc=>fU (ic c)).Nodup:=by decide+kernel
def mw:∀{l:List α},(l.map f).Nodup->∀a∈l,∀b∈l,f a=f b->a=b
 |x::l,h,a,ha,b,hb,e=>by
  rw[Uz,Vk] at h;by_cases h1:a=x
  ·by_cases h2:b=x
   ·rw[h1,h2]
   ·have hb:b∈l:=(UD.mp hb).resolve_left h2;exact abE (UC.mpr ⟨b,hb,by rw[<-h1];exact e.symm⟩) h.1
  ·have ha:a∈l:=(UD.mp ha).resolve_left h1;by_cases h2:b=x
   ·exact abE (UC.mpr ⟨a,ha,by rw[<-h2];exact e⟩) h.1
   ·exact mw h.2 a ha b ((UD.mp hb).resolve_left h2) e
def Gq(hR:R<=8)(hW:W<=8){l:List Cell}(hn:l.Nodup)(jN:∀x∈l,On R W x):(l.map λc=>fU (ic c)).Nodup:=by
 have h8:∀x∈l,x∈aT 8 8:=λx hx=>aI.mpr ⟨by have:=(jN x hx).1;omega,by have:=(jN x hx).2;omega⟩;rw[VC,V_];refine List.Pairwise.imp_of_mem (λ{a b} ha hb h z=>h ?_) hn;exact mw Mq a (h8 a ha) b (h8 b hb) z
def K9{ks:List Cell}{f:Cell->D}{x:Cell}{d:D}:cN (ks.map keyOf) (ks.map f) (keyOf x)=(bP ks x).map keyOf/\bZ (ks.map keyOf) (ks.map f) (keyOf x) d=(bP ks x).map (e_ f x d):=by
 unfold bP cN bZ;by_cases h:x∈ks
 ·rw[lT h,abz h];exact⟨rfl,uJ⟩
 ·rw[fj h,abA h];have e1:ks.map f=ks.map (e_ f x d):=Vp λy hy=>by
   unfold e_;rw[abA (λz:y=x=>h (z▸hy))]
  have e2:(ks++[x]).map (e_ f x d)=ks.map (e_ f x d)++[d]:=by
   rw[Vl];congr 1;show [e_ f x d x]=[d]
   unfold e_;rw[abz rfl]
  exact⟨by rw[Vl];rfl,by rw[e2,<-e1];rfl⟩
def pS:∀(l ks:List Cell),cB (ks.map keyOf) (trues ks) (l.map keyOf) (trues l)=((l.foldl bP ks).map keyOf,trues (l.foldl bP ks))
 |[],ks=>rfl
 |x::l,ks=>by
  show cB (cN (ks.map keyOf) (trues ks) (keyOf x)) (bZ (ks.map keyOf) (trues ks) (keyOf x) (.bl true)) (l.map keyOf) (trues l)=_;have h:=K9 (ks:=ks) (f:=λ_=>D.bl true) (x:=x) (d:= .bl true);have e:e_ (λ_=>D.bl true) x (.bl true)=λ_=>D.bl true:=by
   funext y;unfold e_;split<;>rfl
  rw[e] at h;rw[show trues ks=ks.map (λ_=>D.bl true) from rfl,h.1,h.2];exact pS l (bP ks x)
def Dl{l ks:List Cell}(h:ks.Nodup):(l.foldl bP ks).Nodup:=(kJ l ks).1 h
section
open Classical
variable{bd:List Str}{W w:Nat}
noncomputable def a9(bd:List Str)(W w:Nat)(m:Cell):List Cell:=(aT bd.length W).filter λx=>decide (Cn bd W w m x)
noncomputable def cG(bd:List Str)(W w:Nat)(l:List Cell):List Cell:=l.filter λx=>decide (Least bd W w x x)
def bM(hw:Ways w){m:Cell}(hm:On bd.length W m):IsPatch bd W w m (a9 bd W w m):=by
 refine⟨(iB _ _).filter _,λx=>?_⟩;unfold a9;rw[V6,aI,abF];exact⟨λh=>h.2,λh=>⟨h.on hw hm,h⟩⟩
def Least.on(hw:Ways w){x m:Cell}(hx:On bd.length W x)(h:Least bd W w x m):On bd.length W m:=h.1.on hw hx
def Least.move(hw:Ways w){x y m:Cell}(hx:On bd.length W x)(h:Least bd W w x m)(hy:Cn bd W w x y):Least bd W w y m:=
 ⟨(hy.symm hw hx).trans h.1,λz hz=>h.2 z (hy.trans hz)⟩
def Least.one(hw:Ways w){x m n:Cell}(hx:On bd.length W x)(h:Least bd W w x m)(h2:Least bd W w x n):m=n:=
 xp (h.on hw hx) (h2.on hw hx) (Xo (h.2 n h2.1) (h2.2 m h.1))
def Least.self(hw:Ways w){x m:Cell}(hx:On bd.length W x)(h:Least bd W w x m):Least bd W w m m:=h.move hw hx h.1
variable(L:Cell->Cell)
def sr(hw:Ways w):∃L:Cell->Cell,∀x,On bd.length W x->Least bd W w x (L x):=by
 have h:∀x,∃m,On bd.length W x->Least bd W w x m:=λx=>by
  by_cases hx:On bd.length W x
  ·have hP:=bM hw hx;cases hp:a9 bd W w x with
   |nil=>have:=(hP.mem x).mpr Cn.refl;rw[hp] at this;cases this
   |cons m r=>
    rw[hp] at hP;have hm:=(hP.mem m).mp (Uv ..);refine⟨m,λ_=>⟨hm,λz hz=>?_⟩⟩;rcases UD.mp ((hP.mem z).mpr hz) with rfl | TH
    ·exact UB _
    ·exact Vt ((gp (hm.on hw hx) (hz.on hw hx)).mp ((U2.mp hP.rise).1 z TH))
  ·exact⟨x,λz=>abE z hx⟩
 exact⟨λx=>X5 (h x),λx=>Xp (h x)⟩
noncomputable def qk(bd:List Str)(W w:Nat):D:= .lst ((cG bd W w (aT bd.length W)).map λm=>cL (a9 bd W w m))
end
section
open Classical
variable{bd:List Str}{W w:Nat}
noncomputable def Bb(bd:List Str)(W w:Nat)(s:List Cell):List D:=(cG bd W w s).map λm=>cL (a9 bd W w m)
noncomputable def Jj(bd:List Str)(W w:Nat)(s ks:List Cell)(x4 x5:Option Sl):bC:=[fz (brd bd),fz (iW w),some (.ow (.lst (Bb bd W w s))),some (.ow (.dct (ks.map keyOf) (trues ks))),x4,x5]
structure Seen (bd:List Str) (W w:Nat) (s ks:List Cell):Prop where
 nd:ks.Nodup
 on:∀y∈ks,On bd.length W y
 mem:∀y,y∈ks↔∃m∈cG bd W w s,Cn bd W w m y
def FE(h0:ρ[i]? =some (some (.ow (.dct (ks.map keyOf) (trues ks)))))(hd:δ ρ=aa (yP l))(hz:ks.length+l.length<=4096)(hh:ks=[]->((bH l).map λc=>fU (ic c)).Nodup):
 E8 i δ ρ=aa (.nx (ρ.set i (some (.ow (.dct (((bH l).foldl bP ks).map keyOf) (trues ((bH l).foldl bP ks))))))):=by
 unfold E8 rl;rw[h0];show (δ ρ>>=λd=>match FD (ks.map keyOf) (trues ks) d with | some c'=>aa (Out.nx (ρ.set i (some (.ow c')))) | none=>af)=_;rw[hd,au];have:FD (ks.map keyOf) (trues ks) (yP l)=some (.dct (((bH l).foldl bP ks).map keyOf) (trues ((bH l).foldl bP ks))):=by
  show (match d_ ((bH l).map keyOf) with | some ns=>if (trues ks).length+(trues (bH l)).length<=lim/\((ks.map keyOf).isEmpty=true->(ns.map fU).Nodup) then some (C.dct (cB (ks.map keyOf) (trues ks) ((bH l).map keyOf) (trues (bH l))).1 (cB (ks.map keyOf) (trues ks) ((bH l).map keyOf) (trues (bH l))).2) else none | none=>none)=_;rw[jA];show (if (trues ks).length+(trues (bH l)).length<=lim/\((ks.map keyOf).isEmpty=true->(((bH l).map ic).map fU).Nodup) then some (C.dct (cB (ks.map keyOf) (trues ks) ((bH l).map keyOf) (trues (bH l))).1 (cB (ks.map keyOf) (trues ks) ((bH l).map keyOf) (trues (bH l))).2) else none)=_;have c1:(trues ks).length+(trues (bH l)).length<=lim:=by
   have:=BP l;unfold trues;rw[Ur,Ur,c5];omega
  have c2:(ks.map keyOf).isEmpty=true->(((bH l).map ic).map fU).Nodup:=λz=>by
   rw[U0];exact hh (by cases ks with | nil=>rfl | cons _ _=>cases z)
  rw[abz ⟨c1,c2⟩,pS]
 rw[this]
def xM(hg:Brd bd W)(hs:bd.length*W<64)(hw:Ways w)(hx:On bd.length W x)(h0:dV 0 ρ=aa (brd bd))(h1:dV 1 ρ=aa (iW w))(h4:dV 4 ρ=aa (cD x)):
 dA xN (aC (ay 3 cY (aC (dV 0) (aC (dV 4) (aC (dV 1) aN)))) aN) ρ=aa (cL (a9 bd W w x)):=by
 obtain⟨k,ks,ps,q1,q2,q3⟩:=qG hg hw hx;have e1:ay 3 cY (aC (dV 0) (aC (dV 4) (aC (dV 1) aN))) ρ=aa (Ik ks ps):=(aw (aE h0 (aE h4 (aE h1 rfl))) rfl).trans q3;refine(a8 (aE e1 rfl)).trans ((Fh q1.nd (X3 (tm q1.nd q2) hs)).trans ?_);have:jX ks=a9 bd W w x:=IsPatch.one ⟨kx q1.nd,λx=>gD.trans (q1.last x)⟩ (bM hw hx);rw[this]
def gU(s:List Cell)(x:Cell):cG bd W w (s++[x])=if Least bd W w x x then cG bd W w s++[x] else cG bd W w s:=by
 unfold cG;rw[List.filter_append];by_cases h:Least bd W w x x
 ·rw[abz h,List.filter_cons_of_pos (by rw[abF];exact h),List.filter_nil]
 ·rw[abA h,List.filter_cons_of_neg (by rw[abF];exact h),List.filter_nil,V7]
def FW(hg:Brd bd W)(hs:bd.length*W<64)(hw:Ways w){L:Cell->Cell}(hL:∀x,On bd.length W x->Least bd W w x (L x))(e:s++x::r=aT bd.length W)(h:Seen bd W w s ks):
 ∃ks',Seen bd W w (s++[x]) ks'/\O7 (Jj bd W w s ks (fz (cD x)) none)=aa (.nx (Jj bd W w (s++[x]) ks' none none)):=by
 have hx:On bd.length W x:=aI.mp (by rw[<-e];simp);have DP:=iB bd.length W;rw[<-e] at DP;have IF:∀y∈s,On bd.length W y:=λy hy=>aI.mp (by rw[<-e];simp[hy]);have MR:∀y∈r,On bd.length W y:=λy hy=>aI.mp (by rw[<-e];simp[hy]);have Gr:∀y∈s,rank W y<rank W x:=λy hy=>(gp (IF y hy) hx).mp ((aaR.mp DP).2.2 y hy x (Uv ..));have JN:∀y∈r,rank W x<rank W y:=λy hy=>(gp hx (MR y hy)).mp ((U2.mp (aaR.mp DP).2.1).1 y hy);have OA:ks.length<=64:=by have:=tm h.nd h.on;omega
 have nX:s.length<64:=by
  have:=abG aa0 e;rw[cz,UN,UI] at this;omega
 have ht:Jf (eO (d2 (nW true) (dV 4) (dV 3))) (Jj bd W w s ks (fz (cD x)) none)=aa (!decide (x∈ks)):=
  Fv (fS ((aH rfl rfl).trans (Ak (by simp[trues]))))
 by_cases hl:Least bd W w x x
 ·have FQ:x∉ks:=λz=>by
   obtain⟨m,hm,hc⟩:=(h.mem x).mp z;unfold cG at hm;rw[V6,abF] at hm;have h1:=Gr m hm.1;have h2:=hl.2 m (hc.symm hw (IF m hm.1));omega
  rw[abD FQ] at ht;have hP:=bM hw hx;have JK:∀y∈a9 bd W w x,On bd.length W y:=λy hy=>((hP.mem y).mp hy).on hw hx;have Gp:(a9 bd W w x).length<=64:=by have:=tm hP.rise.nodup JK;omega
  have Ox:(Bb bd W w s).length<lim:=by
   unfold Bb;rw[Ur,c5];have:=XB (λx=>decide (Least bd W w x x)) s;unfold cG;omega
  refine⟨(bH (a9 bd W w x)).foldl bP ks,⟨Dl h.nd,λy hy=>?_,λy=>?_⟩,?_⟩
  ·rcases((kJ (bH (a9 bd W w x)) ks).2.1 y).mp hy with q | q
   ·exact h.on y q
   ·exact JK y (mr.mp q)
  ·rw[(kJ (bH (a9 bd W w x)) ks).2.1 y,mr,h.mem y,gU,abz hl,hP.mem y];constructor
   ·rintro(⟨m,hm,hc⟩ | hc)
    ·exact⟨m,Vd.mpr (.inl hm),hc⟩
    ·exact⟨x,by simp,hc⟩
   ·rintro⟨m,hm,hc⟩;rcases Vd.mp hm with hm | hm
    ·exact .inl ⟨m,hm,hc⟩
    ·rw[Ve.mp hm] at hc;exact .inr hc
  ·have ef:Bb bd W w (s++[x])=Bb bd W w s++[cL (a9 bd W w x)]:=by
    unfold Bb;rw[gU,abz hl,Vl];rfl
   refine(a7 (ρ':=[fz (brd bd),fz (iW w),some (.ow (.lst (Bb bd W w s++[cL (a9 bd W w x)]))),some (.ow (.dct (((bH (a9 bd W w x)).foldl bP ks).map keyOf) (trues ((bH (a9 bd W w x)).foldl bP ks)))),fz (cD x),fz (cL (a9 bd W w x))]) (ja ht (ak ((aJ (xM hg hs hw hx rfl rfl rfl)).trans rfl) (ak (ρ':=[fz (brd bd),fz (iW w),some (.ow (.lst (Bb bd W w s++[cL (a9 bd W w x)]))),some (.ow (.dct (ks.map keyOf) (trues ks))),fz (cD x),fz (cL (a9 bd W w x))]) ?_ ?_)))).trans ?_
   ·show (if (Bb bd W w s).length<lim then aa (Out.nx [fz (brd bd),fz (iW w),some (.ow (.lst (Bb bd W w s++[cL (a9 bd W w x)]))),some (.ow (.dct (ks.map keyOf) (trues ks))),fz (cD x),fz (cL (a9 bd W w x))]) else af)=_;rw[abz Ox]
   ·exact(FE rfl ((aw rfl rfl).trans (BN (by omega))) (by omega) (λ_=>Gq hg.r8 hg.w8 (Eb _) λy hy=>JK y (mr.mp hy))).trans rfl
   ·unfold Jj;rw[ef];rfl
 ·have hm:=hL x hx;have fI:L x≠x:=λz=>hl (by rw[z] at hm;exact hm);have cI:rank W (L x)<rank W x:=by
   have h1:=hm.2 x Cn.refl;have h2:rank W (L x)≠rank W x:=λz=>fI (xp (hm.on hw hx) hx z);omega
  have S_:L x∈s:=by
   have:L x∈s++x::r:=by rw[e];exact aI.mpr (hm.on hw hx)
   rcases Vd.mp this with q | q
   ·exact q
   ·rcases UD.mp q with q | q
    ·exact abE q fI
    ·have:=JN _ q;omega
  have FQ:x∈ks:=(h.mem x).mpr ⟨L x,by unfold cG;rw[V6,abF];exact⟨S_,hm.self hw hx⟩,hm.1.symm hw hx⟩;rw[abB FQ] at ht;refine⟨ks,⟨h.nd,h.on,λy=>by rw[gU,abA hl];exact h.mem y⟩,?_⟩;have ef:Bb bd W w (s++[x])=Bb bd W w s:=by
   unfold Bb;rw[gU,abA hl]
  refine(a7 (d3 ht rfl)).trans ?_;unfold Jj;rw[ef];rfl
def zM(hg:Brd bd W)(hs:bd.length*W<64)(hw:Ways w){L:Cell->Cell}(hL:∀x,On bd.length W x->Least bd W w x (L x)):∀(r s ks:List Cell),s++r=aT bd.length W->Seen bd W w s ks->
 ∃ks',forL (putN 4) O7 (r.map cD) (Jj bd W w s ks none none)=aa (.nx (Jj bd W w (aT bd.length W) ks' none none))
 |[],s,ks,e,h=>by
  rw[V7] at e;exact⟨ks,by rw[e];rfl⟩
 |x::r,s,ks,e,h=>by
  obtain⟨Qw,h1,e1⟩:=FW hg hs hw hL e h;obtain⟨Qx,e2⟩:=zM hg hs hw hL r (s++[x]) Qw (by rw[Zm];exact e) h1;exact⟨Qx,(cH rfl e1).trans e2⟩
def di(hg:Brd bd W)(hs:bd.length*W<64)(hw:Ways w):a_ [brd bd,iW w]=aa (qk bd W w):=by
 obtain⟨L,hL⟩:=sr hw;obtain⟨ks,e⟩:=zM hg hs hw hL (aT bd.length W) [] [] rfl ⟨WU,(λy hy=>(by cases hy)),(λy=>⟨λz=>(by cases z),λ⟨m,hm,_⟩=>(by cases hm)⟩)⟩;refine aY (ak rfl (ak rfl (ak (dX (eV (Ke ((aw rfl rfl).trans (f9 hg))) e)) rfl)))
end
structure NumOk (R W:Nat) (Ps:List (List Cell)) (ks:List Cell) (f:Cell->Nat):Prop where
 nd:ks.Nodup
 on:∀y∈ks,On R W y
 num:∀y∈ks,∃P,Ps[f y]? =some P/\y∈P
def RZ:DS:=c_ [4] (gN 1 (dV 4) (dV 2))
def OM(Ps:List (List Cell))(ks:List Cell)(f:Cell->Nat)(x2 x3 x4:Option Sl):bC:=[fz (.lst (Ps.map cL)),some (.ow (F9 ks λy=> .int (f y:Int))),x2,x3,x4]
def rG:x∈bP ks x:=dJ.mpr (.inr rfl)
def IQ(hm:R*W<=64){i:Nat}(hP:Ps[i]? =some P)(jN:∀y∈P,On R W y):∀(l ks:List Cell) (f:Cell->Nat),(∀y∈l,y∈P)->NumOk R W Ps ks f->
 ∃ks' f',NumOk R W Ps ks' f'/\(∀y∈ks,y∈ks')/\(∀y∈l,y∈ks')/\forL (putN 4) RZ (l.map cD) (OM Ps ks f (fz (.int (i:Int))) x3 none)=aa (.nx (OM Ps ks' f' (fz (.int (i:Int))) x3 none))
 |[],ks,f,_,h=>⟨ks,f,h,λy hy=>hy,(λy hy=>(by cases hy)),rfl⟩
 |x::l,ks,f,hl,h=>by
  have hx:=hl x (Uv ..);have OA:ks.length<=64:=by
   have h1:=bQ h.nd λy hy=>aI.mpr (h.on y hy);rw[cz] at h1;omega
  have h1:NumOk R W Ps (bP ks x) (λy=>if y=x then i else f y):=by
   refine⟨(kJ [x] ks).1 h.nd,λy hy=>?_,λy hy=>?_⟩
   ·rcases dJ.mp hy with q | q
    ·exact h.on y q
    ·rw[q];exact jN x hx
   ·by_cases e:y=x
    ·refine⟨P,?_,by rw[e];exact hx⟩;show Ps[if y=x then i else f y]? =_;rw[abz e];exact hP
    ·rcases dJ.mp hy with q | q
     ·obtain⟨Q,q1,q2⟩:=h.num y q;refine⟨Q,?_,q2⟩;show Ps[if y=x then i else f y]? =_;rw[abA e];exact q1
     ·exact abE q e
  obtain⟨ks',f',a1,a2,a3,a4⟩:=IQ hm hP jN l (bP ks x) _ (λy hy=>hl y (Uu _ hy)) h1;refine⟨ks',f',a1,λy hy=>a2 y (dJ.mpr (.inl hy)),λy hy=>?_,?_⟩
  ·rcases UD.mp hy with rfl | hy
   ·exact a2 _ rG
   ·exact a3 y hy
  ·refine(cH rfl ?_).trans a4;refine(a7 ((AV rfl rfl rfl (by rw[c5];omega)).trans rfl)).trans ?_;have ef:e_ (λy=>D.int (f y:Int)) x (.int (i:Int))=λy=>D.int ((if y=x then i else f y:Nat):Int):=by
    funext y;unfold e_;by_cases e:y=x
    ·rw[abz e,abz e]
    ·rw[abA e,abA e]
   show aa (Out.nx [fz (.lst (Ps.map cL)),some (.ow (F9 (bP ks x) (e_ (λy=>D.int (f y:Int)) x (.int (i:Int))))),fz (.int (i:Int)),x3,none])=_;rw[ef];rfl
def O_(q:Nat×List Cell):D:= .tup [.int (q.1:Int),cL q.2]
def Ef(hm:R*W<=64){Ps:List (List Cell)}(jN:∀P∈Ps,∀y∈P,On R W y):∀(qs:List (Nat×List Cell)) (ks:List Cell) (f:Cell->Nat),(∀q∈qs,Ps[q.1]? =some q.2)->NumOk R W Ps ks f->
 ∃ks' f',NumOk R W Ps ks' f'/\(∀y∈ks,y∈ks')/\(∀q∈qs,∀y∈q.2,y∈ks')/\forL (AW [2,3]) (c_ [2,3,4] (d5 (putN 4) (cW (dV 3)) RZ)) (qs.map O_) (OM Ps ks f none none none)=aa (.nx (OM Ps ks' f' none none none))
 |[],ks,f,_,h=>⟨ks,f,h,λy hy=>hy,(λq hq=>(by cases hq)),rfl⟩
 |q::qs,ks,f,hq,h=>by
  have hP:=hq q (Uv ..);obtain⟨Qw,f1,a1,a2,a3,a4⟩:=IQ hm hP (jN q.2 (UZ hP)) q.2 ks f (λy hy=>hy) h;obtain⟨Qx,f2,b1,b2,b3,b4⟩:=Ef hm jN qs Qw f1 (λq' J4=>hq q' (Uu _ J4)) a1;refine⟨Qx,f2,b1,λy hy=>b2 y (a2 y hy),λq' J4 y hy=>?_,?_⟩
  ·rcases UD.mp J4 with rfl | J4
   ·exact b2 y (a3 y hy)
   ·exact b3 q' J4 y hy
  ·exact(cH rfl ((a7 (eV (TL rfl) a4)).trans rfl)).trans b4
def BU(Ps:List (List Cell)):(Ps.map cL).mapIdx (λi d=>D.tup [.int (i:Int),d])=(Ps.zipIdx.map λq:List Cell×Nat=>(q.2,q.1)).map O_:=by
 apply abw;intro i;simp only[aaS,UG,List.getElem?_zipIdx,Option.map_map,Zu];cases Ps[i]? <;>simp[O_]
def iS(hm:R*W<=64)(jN:∀P∈Ps,∀y∈P,On R W y):∃ks f,NumOk R W Ps ks f/\(∀P∈Ps,∀y∈P,y∈ks)/\cy [.lst (Ps.map cL)]=aa (vL ks λy=> .int (f y:Int)):=by
 have hq:∀q∈Ps.zipIdx.map (λq:List Cell×Nat=>(q.2,q.1)),Ps[q.1]? =some q.2:=λq hq=>by
  obtain⟨⟨P,i⟩,h1,rfl⟩:=UC.mp hq;exact ZJ.mp h1
 obtain⟨ks,f,a1,a2,a3,a4⟩:=Ef hm jN (Ps.zipIdx.map λq:List Cell×Nat=>(q.2,q.1)) [] (λ_=>0) hq ⟨WU,(λy hy=>(by cases hy)),(λy hy=>(by cases hy))⟩;refine⟨ks,f,a1,λP hP y hy=>?_,?_⟩
 ·obtain⟨i,hi,rfl⟩:=VL hP;refine a3 (i,Ps[i]) (UC.mpr ⟨(Ps[i],i),ZJ.mpr (by rw[Us hi]),rfl⟩) y hy
 ·refine aY (ak rfl (ak (dX (eV ?_ a4)) rfl));show aa ((Ps.map cL).mapIdx λi d=>D.tup [.int (i:Int),d])=_;rw[BU]
section
open Classical
variable{bd:List Str}{W w:Nat}
noncomputable def av(bd:List Str)(W w:Nat):List (List Cell):=(cG bd W w (aT bd.length W)).map (a9 bd W w)
def gZ:qk bd W w= .lst ((av bd W w).map cL):=by
 unfold qk av;rw[U0];rfl
def cS(h:m∈cG bd W w (aT bd.length W)):On bd.length W m:=by
 unfold cG at h;exact aI.mp (V6.mp h).1
def sG(hw:Ways w):∀P∈av bd W w,∀y∈P,On bd.length W y:=λP hP y hy=>by
 unfold av at hP;obtain⟨m,hm,rfl⟩:=UC.mp hP;exact(((bM hw (cS hm)).mem y).mp hy).on hw (cS hm)
def qi(hg:Brd bd W)(hw:Ways w)(hx:On bd.length W x):∃P∈av bd W w,x∈P:=by
 obtain⟨L,hL⟩:=sr hw;have hm:=hL x hx;have RH:=hm.on hw hx;refine⟨a9 bd W w (L x),UC.mpr ⟨L x,?_,rfl⟩,((bM hw RH).mem x).mpr (hm.1.symm hw hx)⟩;unfold cG;rw[V6,abF];exact⟨aI.mpr RH,hm.self hw hx⟩
def fJ:(av bd W w).length<=bd.length*W:=by
 unfold av cG;rw[Ur,<-cz bd.length W];exact XB ..
def kS(hg:Brd bd W)(hs:bd.length*W<64)(hw:Ways w):dB [brd bd,iW w]=aa (.int ((av bd W w).length:Int)):=by
 refine aY (ak (cT ((aw rfl rfl).trans hg.nb)) (ak (cT ((aw rfl rfl).trans hw.nw)) (aS ((a8 (aE ((aw rfl rfl).trans (di hg hs hw)) rfl)).trans ?_))));rw[gZ];show aa (D.int (((av bd W w).map cL).length:Int))=_;rw[Ur]
end
end K1
namespace K1
open PySem L2 L3 HT
end K1
namespace K1
open PySem PySem.Spec L2 L3
open PyProof.Rows hiding St
section
open Classical
variable{bd:List Str}{W w:Nat}
def GV:(cG bd W w (aT bd.length W)).Nodup:=by
 unfold cG;exact(RiseC.nodup (iB _ _)).filter _
def wz:m∈cG bd W w l↔m∈l/\Least bd W w m m:=by
 unfold cG;rw[V6,abF]
def wo(hw:Ways w){m x:Cell}(hm:m∈cG bd W w (aT bd.length W))(hx:x∈a9 bd W w m):Least bd W w x m:=
 (wz.mp hm).2.move hw (cS hm) (((bM hw (cS hm)).mem x).mp hx)
def fe{i:Nat}(h:(av bd W w)[i]? =some P):∃m,(cG bd W w (aT bd.length W))[i]? =some m/\P=a9 bd W w m:=by
 unfold av at h;rw[UG] at h;cases q:(cG bd W w (aT bd.length W))[i]? with
 |none=>rw[q] at h;cases h
 |some m=>rw[q] at h;cases h;exact⟨m,rfl,rfl⟩
def D9{i j:Nat}(h:(cG bd W w (aT bd.length W))[i]? =some m)(h2:(cG bd W w (aT bd.length W))[j]? =some m):i=j:=
 (Zl (UA.mp h).1 GV).mp (h.trans h2.symm)
def mq{l:List α}{i:Nat}(h:l[i]? =some x):x∈l:=UZ h
def oy(hw:Ways w){i j:Nat}(hi:(av bd W w)[i]? =some P)(hj:(av bd W w)[j]? =some Q)(hx:x∈P)(hy:x∈Q):i=j:=by
 obtain⟨m,e1,rfl⟩:=fe hi;obtain⟨n,e2,rfl⟩:=fe hj;have hm:=mq e1;have hn:=mq e2;have jN:On bd.length W x:=(((bM hw (cS hm)).mem x).mp hx).on hw (cS hm);have:=(wo hw hm hx).one hw jN (wo hw hn hy);subst this;exact D9 e1 e2
def qj(hw:Ways w){m:Cell}(hm:m∈cG bd W w (aT bd.length W)):∃r,a9 bd W w m=m::r:=by
 have ho:=cS hm;have hP:=bM hw ho;cases hp:a9 bd W w m with
 |nil=>have:=(hP.mem m).mpr Cn.refl;rw[hp] at this;cases this
 |cons a r=>
  refine⟨r,?_⟩;rw[hp] at hP;by_cases e:a=m
  ·rw[e]
  ·have mf:m∈a::r:=(hP.mem m).mpr Cn.refl;have mf:m∈r:=by
    cases mf with
    |head=>exact abE rfl e
    |tail _ q=>exact q
   have hc:=(hP.mem a).mp (Uv ..);have h1:=(gp (hc.on hw ho) ho).mp ((U2.mp hP.rise).1 m mf);have:=(wz.mp hm).2.2 a hc;omega
end
end K1
namespace K1
open PySem L2 L3
abbrev NT:=List (Nat×List Nat)
def cw(p:Nat×List Nat):Key×List Key:=(kN p.1,p.2.map kN)
def E9(l:NT)(n:Nat):NT:=if n∈l.map (·.1) then l else l++[(n,[])]
def CS(l:NT)(n m:Nat):NT:=l.map λp=>if p.1=n then(p.1,if m∈p.2 then p.2 else p.2++[m]) else p
def Ab(ks:List Nat)(n:Nat):qY (ks.map kN) (kN n)=decide (n∈ks):=by
 rw[XT,kP,abF,UC];exact⟨λ⟨a,h,e⟩=>tW _ _ e▸h,λh=>⟨n,h,rfl⟩⟩
def z_(l:NT):(l.map cw).map (·.1)=(l.map (·.1)).map kN:=by rw[U0,U0];rfl
def Fb(l:NT)(n:Nat):uQ (l.map cw) (kN n)=(E9 l n).map cw:=by
 unfold uQ E9;rw[z_,Ab];by_cases h:n∈l.map (·.1)
 ·rw[abz h,abz (abB h)]
 ·rw[abA h,abA (λz=>h (abC z)),Vl];rfl
def CT(l:NT)(n m:Nat):oR (l.map cw) (kN n) (kN m)=(CS l n m).map cw:=by
 unfold oR CS;rw[U0,U0];refine Vp λp _=>?_;show (if kN p.1=kN n then(kN p.1,if qY (p.2.map kN) (kN m) then p.2.map kN else p.2.map kN++[kN m]) else cw p)=cw (if p.1=n then(p.1,if m∈p.2 then p.2 else p.2++[m]) else p);by_cases h:p.1=n
 ·rw[abz (by rw[h]),abz h,Ab];by_cases q:m∈p.2
  ·rw[abz (abB q),abz q];rfl
  ·rw[abA (λz=>q (abC z)),abA q];show _=(kN p.1,(p.2++[m]).map kN)
   rw[Vl];rfl
 ·rw[abA (λz=>h (tW _ _ z)),abA h]
structure NrS (T:Nat->Prop) (E:Nat->Nat->Prop) (l:NT):Prop where
 nd:(l.map (·.1)).Nodup
 key:∀n,n∈l.map (·.1)↔T n
 nb:∀p∈l,p.2.Nodup/\∀m,m∈p.2↔E p.1 m
 hT:∀n,T n->n<64
 hE:∀n m,E n m->m<64
def le64{l:List Nat}(hn:l.Nodup)(h:∀n∈l,n<64):l.length<=64:=by
 have:=bQ (U:=UH 64) hn λx hx=>UP.mpr (h x hx);simpa using this
section
variable{T:Nat->Prop}{E:Nat->Nat->Prop}{l:NT}
def NrS.ok(h:NrS T E l):vm (l.map cw)=true:=by
 unfold vm;rw[WC,abF,UT];have:=le64 h.nd λn hn=>h.hT n ((h.key n).mp hn);refine⟨by rw[Ur] at this⊢;rw[c5];omega,λp hp=>?_⟩;obtain⟨q,hq,rfl⟩:=UC.mp hp;have:=le64 (h.nb q hq).1 λm hm=>h.hE q.1 m (((h.nb q hq).2 m).mp hm);show decide ((q.2.map kN).length<lim)=true;rw[abF,Ur,c5];omega
def NrS.cong{T':Nat->Prop}{E':Nat->Nat->Prop}(h:NrS T E l)(h1:∀n,T n↔T' n)(h2:∀n m,E n m↔E' n m):NrS T' E' l:=
 ⟨h.nd,λn=>(h.key n).trans (h1 n),λp hp=>⟨(h.nb p hp).1,λm=>((h.nb p hp).2 m).trans (h2 _ _)⟩,λn hn=>h.hT n ((h1 n).mpr hn),λn m hm=>h.hE n m ((h2 n m).mpr hm)⟩
def NrS.set(h:NrS T E l){n:Nat}(hn:n<64)(hE:∀m,E n m->T n):NrS (λk=>T k\/k=n) E (E9 l n):=by
 unfold E9;split
 ·rename_i q;have hq:=(h.key n).mp q;exact h.cong (λk=>⟨.inl,λz=>z.elim id λe=>e▸hq⟩) λ_ _=>Yq
 ·rename_i q;refine⟨?_,λk=>?_,λp hp=>?_,λk hk=>hk.elim (h.hT k) λe=>e▸hn,h.hE⟩
  ·rw[Vl,VA];exact⟨h.nd,by simp,λx hx y hy z=>q (by rw[z] at hx;cases Ve.mp hy;exact hx)⟩
  ·rw[Vl,Vd,h.key];exact or_congr Yq (by simp)
  ·rcases Vd.mp hp with z | z
   ·exact h.nb p z
   ·cases Ve.mp z;exact⟨WU,λm=>⟨λz=>(nomatch z),λz=>abE ((h.key n).mpr (hE m z)) q⟩⟩
def vv(l:NT)(n m:Nat):(CS l n m).map (·.1)=l.map (·.1):=by
 unfold CS;rw[U0];refine Vp λp _=>?_;show (if p.1=n then(p.1,_) else p).1=p.1;split<;>rfl
def NrS.add(h:NrS T E l){n m:Nat}(hm:m<64):NrS T (λa b=>E a b\/(a=n/\b=m)) (CS l n m):=by
 refine⟨by rw[vv];exact h.nd,λk=>by rw[vv];exact h.key k,λp hp=>?_,h.hT,λa b q=>q.elim (h.hE a b) λe=>e.2▸hm⟩;obtain⟨q,hq,rfl⟩:=UC.mp hp;have:=h.nb q hq;by_cases e:q.1=n
 ·rw[abz e];by_cases z:m∈q.2
  ·rw[abz z];exact⟨this.1,λb=>⟨λy=> .inl ((this.2 b).mp y),λy=>y.elim (λy=>(this.2 b).mpr y) λy=>y.2▸z⟩⟩
  ·rw[abA z];refine⟨VA.mpr ⟨this.1,by simp,λx hx y hy e=>z (by rw[e] at hx;cases Ve.mp hy;exact hx)⟩,λb=>?_⟩;show b∈q.2++[m]↔E q.1 b\/(q.1=n/\b=m);rw[Vd,this.2 b,Ve];exact or_congr Yq ⟨λy=>⟨e,y⟩,λy=>y.2⟩
 ·rw[abA e];exact⟨this.1,λb=>(this.2 b).trans ⟨.inl,λy=>y.elim id λy=>abE y.1 e⟩⟩
end
def Ek{oi:Nat}{tc:DT}{δk:DE}{ρ:bC}{f:Cell->Nat}{n:Nat}(jM:∀y,f y<64):∀(ys:List Cell) {T:Nat->Prop}{E:Nat->Nat->Prop}{l:NT},NrS T E l->
 (∀y∈ys,tc (ρ.set oi (fz (cD y)))=aa (!decide (f y=n))/\δk (ρ.set oi (fz (cD y)))=aa (nI (f y)))->
 ∃l',kg oi tc δk (kN n) ρ (ys.map cD) (l.map cw)=aa (l'.map cw)/\NrS T (λa b=>E a b\/(a=n/\b≠n/\∃y∈ys,f y=b)) l'
 |[],T,E,l,h,_=>⟨l,rfl,h.cong (λ_=>Yq) λa b=>⟨.inl,λz=>z.elim id λ⟨_,_,y,hy,_⟩=>nomatch hy⟩⟩
 |y::ys,T,E,l,h,Mz=>by
  obtain⟨h1,h2⟩:=Mz y Uv;have MA:=λz hz=>Mz z (Uu _ hz);by_cases e:f y=n
  ·rw[abB e] at h1;obtain⟨l',g1,g2⟩:=Ek (n:=n) jM ys h MA;refine⟨l',?_,g2.cong (λ_=>Yq) λa b=>or_congr Yq (and_congr_right λ_=>and_congr_right λhb=>?_)⟩
   ·rw[Uz];unfold kg;rw[show some (Sl.fz (cD y))=fz (cD y) from rfl,h1];exact g1
   ·exact⟨λ⟨z,hz,q⟩=>⟨z,Uu _ hz,q⟩,λ⟨z,hz,q⟩=>(UD.mp hz).elim (λx=>abE (q.symm.trans (by rw[x,e])) hb) λx=>⟨z,x,q⟩⟩
  ·rw[abD e] at h1;obtain⟨l',g1,g2⟩:=Ek (n:=n) jM ys (h.add (n:=n) (jM y)) MA;refine⟨l',?_,g2.cong (λ_=>Yq) λa b=>?_⟩
   ·rw[Uz];unfold kg;rw[show some (Sl.fz (cD y))=fz (cD y) from rfl,h1,h2];show (if vm (l.map cw) then kg oi tc δk (kN n) ρ (ys.map cD) (oR (l.map cw) (kN n) (kN (f y))) else af)=_;rw[abz h.ok,CT];exact g1
   ·constructor
    ·rintro((q | ⟨q1,q2⟩) | ⟨q1,q2,z,hz,q3⟩)
     ·exact .inl q
     ·exact .inr ⟨q1,λz=>e (q2.symm.trans z),y,Uv,q2.symm⟩
     ·exact .inr ⟨q1,q2,z,Uu _ hz,q3⟩
    ·rintro(q | ⟨q1,q2,z,hz,q3⟩)
     ·exact .inl (.inl q)
     ·rcases UD.mp hz with x | x
      ·exact .inl (.inr ⟨q1,by rw[<-q3,x]⟩)
      ·exact .inr ⟨q1,q2,z,x,q3⟩
def El{ci oi:Nat}{δk:DE}{δj:DA}{tc:DT}{δk2:DE}{ρ:bC}{f:Cell->Nat}{nx:Cell->List Cell}(jM:∀y,f y<64):∀(xs:List Cell) {T:Nat->Prop}{E:Nat->Nat->Prop}{l:NT},NrS T E l->(∀n m,E n m->T n)->
 (∀x∈xs,δk (ρ.set ci (fz (cD x)))=aa (nI (f x))/\δj (ρ.set ci (fz (cD x)))=aa ((nx x).map cD)/\∀y∈nx x,tc ((ρ.set ci (fz (cD x))).set oi (fz (cD y)))=aa (!decide (f y=f x))/\δk2 ((ρ.set ci (fz (cD x))).set oi (fz (cD y)))=aa (nI (f y)))->
 ∃l',fN ci oi δk δj tc δk2 ρ (xs.map cD) (l.map cw)=aa (l'.map cw)/\NrS (λn=>T n\/∃x∈xs,f x=n) (λa b=>E a b\/(a≠b/\∃x∈xs,f x=a/\∃y∈nx x,f y=b)) l'
 |[],T,E,l,h,_,_=>⟨l,rfl,h.cong (λn=>⟨.inl,λz=>z.elim id λ⟨_,hx,_⟩=>nomatch hx⟩) λa b=>⟨.inl,λz=>z.elim id λ⟨_,_,hx,_⟩=>nomatch hx⟩⟩
 |x::xs,T,E,l,h,Rm,Mz=>by
  obtain⟨h1,h2,h3⟩:=Mz x Uv;obtain⟨l1,g1,g2⟩:=Ek (n:=f x) jM (nx x) (h.set (jM x) λm hm=>Rm _ m hm) h3;obtain⟨l2,k1,k2⟩:=El jM xs g2 (λn m z=>z.elim (λz=> .inl (Rm n m z)) λz=> .inr z.1) λz hz=>Mz z (Uu _ hz);refine⟨l2,?_,k2.cong (λn=>?_) λa b=>?_⟩
  ·rw[Uz];unfold fN;rw[show some (Sl.fz (cD x))=fz (cD x) from rfl,h1];show (if vm (l.map cw) then noex (δj (ρ.set ci (fz (cD x))))>>=λes=>kg oi tc δk2 (kN (f x)) (ρ.set ci (fz (cD x))) es (uQ (l.map cw) (kN (f x)))>>=λir=>fN ci oi δk δj tc δk2 ρ (xs.map cD) ir else af)=_;rw[abz h.ok,h2,Fb];show (kg oi tc δk2 (kN (f x)) (ρ.set ci (fz (cD x))) ((nx x).map cD) ((E9 l (f x)).map cw)>>=λir=>fN ci oi δk δj tc δk2 ρ (xs.map cD) ir)=_;rw[g1];exact k1
  ·constructor
   ·rintro((q | q) | ⟨z,hz,q⟩)
    ·exact .inl q
    ·exact .inr ⟨x,Uv,q.symm⟩
    ·exact .inr ⟨z,Uu _ hz,q⟩
   ·rintro(q | ⟨z,hz,q⟩)
    ·exact .inl (.inl q)
    ·rcases UD.mp hz with e | e
     ·exact .inl (.inr (by rw[<-q,e]))
     ·exact .inr ⟨z,e,q⟩
  ·constructor
   ·rintro((q | ⟨q1,q2,y,hy,q3⟩) | ⟨q1,z,hz,q2⟩)
    ·exact .inl q
    ·exact .inr ⟨λe=>q2 (e.symm.trans q1),x,Uv,q1.symm,y,hy,q3⟩
    ·exact .inr ⟨q1,z,Uu _ hz,q2⟩
   ·rintro(q | ⟨q1,z,hz,q2,y,hy,q3⟩)
    ·exact .inl (.inl q)
    ·rcases UD.mp hz with e | e
     ·subst e;exact .inl (.inr ⟨q2.symm,λe=>q1 (q2.symm.trans e.symm),y,hy,q3⟩)
     ·exact .inr ⟨q1,z,e,q2,y,hy,q3⟩
def Ck{ni ci mi oi:Nat}{δi:DA}{δk:DE}{δj:DA}{tc:DT}{δk2:DE}{ρ ρ0:bC}{ds:List D}{ps:oQ}(h0:rl ρ ni=some (.dci [] []))(h1:fgt [ni,ci,mi,oi] ρ=ρ0)(h2:oT ρ0=true)(h3:δi ρ0=aa ds)
 (h4:fN ci oi δk δj tc δk2 ρ0 ds []=aa ps)(h5:vm ps=true):xA ni ci mi oi δi δk δj tc δk2 ρ=aa (.nx (ρ0.set ni (fz (kB ps)))):=by
 unfold xA;rw[h0,h1];show (if oT ρ0=true then noex (δi ρ0)>>=_ else af)=_;rw[abz h2,h3];show (noex (fN ci oi δk δj tc δk2 ρ0 ds [])>>=_)=_;rw[h4];show (if vm ps=true then _ else af)=_;rw[abz h5]
def q_(l:NT)(n:Nat):List Nat:=match l.find? (λp=>p.1==n) with
 |some p=>p.2
 |none=>[]
def Ay{l:NT}{p:Nat×List Nat}(hn:(l.map (·.1)).Nodup)(hp:p∈l):q_ l p.1=p.2:=by
 unfold q_;cases q:l.find? (λr=>r.1==p.1) with
 |none=>have:=List.find?_eq_none.mp q p hp;simp at this
 |some r=>
  have h1:=List.find?_some q;have h2:=List.mem_of_find?_eq_some q;have h1:r.1=p.1:=by simpa using h1
  have:r=p:=mw (f:=(·.1)) hn r h2 p hp h1;rw[this]
def NrS.mem{T:Nat->Prop}{E:Nat->Nat->Prop}{l:NT}(h:NrS T E l){n m:Nat}(hn:T n):m∈q_ l n↔E n m:=by
 obtain⟨p,hp,rfl⟩:=UC.mp ((h.key n).mpr hn);rw[Ay h.nd hp];exact(h.nb p hp).2 m
def uF(l:NT):kB (l.map cw)=(RW (l.map (·.1)) (l.map λp=>inD (p.2.map kN))).d:=by
 unfold kB;rw[z_];exact abG (D.dci _) (U0 ..)
def D4(ks:List Nat):ij (inD (ks.map kN))=aa (ks.map nI):=by
 show (if (ks.map kN).all wO then aa ((ks.map kN).map D2) else af)=_;rw[abz (UT.mpr λk hk=>by obtain⟨n,_,rfl⟩:=UC.mp hk;rfl),U0];rfl
def NrS.near{T:Nat->Prop}{E:Nat->Nat->Prop}{l:NT}(h:NrS T E l):oO nI (l.map (·.1)) (q_ l) (kB (l.map cw)):=λn hn=>by
 rw[uF];obtain⟨d,h1,h2⟩:=D1.ix (ds:=l.map λp=>inD (p.2.map kN)) (by simp) hn;refine⟨d,h2,?_⟩;rw[List.zip_map'] at h1;obtain⟨p,hp,e⟩:=UC.mp h1;cases e;rw[Ay h.nd hp];exact D4 p.2
section
variable{α:Type}{E E':α->α->Prop}{a b x:α}
def Rr(E:α->α->Prop)(a:α):Nat->α->Prop
 |0,x=>x=a
 |k+1,x=>Rr E a k x\/∃y,Rr E a k y/\E y x
def Dr(E:α->α->Prop)(a x:α)(n:Nat):Prop:=Rr E a n x/\∀j,Rr E a j x->n<=j
def Rr.mono{i j:Nat}(h:i<=j)(r:Rr E a i x):Rr E a j x:=by
 induction h with
 |refl=>exact r
 |step _ ih=>exact .inl ih
def Rr.sub(h:∀y x,E y x->E' y x):∀{j:Nat}{x:α},Rr E a j x->Rr E' a j x
 |0,_,r=>r
 |_+1,_, .inl r=> .inl (Rr.sub h r)
 |_+1,_, .inr ⟨y,r,e⟩=> .inr ⟨y,Rr.sub h r,h _ _ e⟩
def Rr.trans{i:Nat}(h:Rr E a i b):∀{j:Nat}{x:α},Rr E b j x->Rr E a (i+j) x
 |0,_,r=>by cases r;exact h
 |_+1,_, .inl r=> .inl (Rr.trans h r)
 |_+1,_, .inr ⟨y,r,e⟩=> .inr ⟨y,Rr.trans h r,e⟩
def Rr.symm(hs:∀x y,E x y->E y x):∀{j:Nat}{x:α},Rr E a j x->Rr E x j a
 |0,_,r=>Eq.symm r
 |_+1,_, .inl r=> .inl (Rr.symm hs r)
 |j+1,x, .inr ⟨y,r,e⟩=>by
  have h1:Rr E x 1 y:= .inr ⟨x,rfl,hs _ _ e⟩;have:=h1.trans (Rr.symm hs r);rw[Nat.add_comm] at this;exact this
def Dr.one{n m:Nat}(h:Dr E a x n)(h2:Dr E a x m):n=m:=Xo (h.2 _ h2.1) (h2.2 _ h.1)
def Dr.symm(hs:∀x y,E x y->E y x){n:Nat}(h:Dr E a x n):Dr E x a n:=⟨h.1.symm hs,λj r=>h.2 j (r.symm hs)⟩
def Dr.zero{n:Nat}(h:Dr E a x n):n=0↔x=a:=
 ⟨λe=>by have:=h.1;rw[e] at this;exact this,λe=>abf.mp (h.2 0 e)⟩
def gH{nb:α->List α}{P:α->Prop}(ha:P a)(hP:∀y,P y->∀x,x∈nb y->P x)(h:∀y,P y->∀x,x∈nb y↔E y x):∀{j:Nat}{x:α},(Rb nb a j x↔Rr E a j x)/\(Rb nb a j x->P x)
 |0,x=>⟨Yq,λr=>by cases (show x=a from r);exact ha⟩
 |j+1,x=>by
  refine⟨⟨λr=>?_,λr=>?_⟩,λr=>?_⟩
  ·rcases r with r | ⟨y,r,q⟩
   ·exact .inl ((gH ha hP h).1.mp r)
   ·exact .inr ⟨y,(gH ha hP h).1.mp r,(h y ((gH ha hP h).2 r) x).mp q⟩
  ·rcases r with r | ⟨y,r,q⟩
   ·exact .inl ((gH ha hP h).1.mpr r)
   ·have r':=(gH (nb:=nb) ha hP h).1.mpr r;exact .inr ⟨y,r',(h y ((gH ha hP h).2 r') x).mpr q⟩
  ·rcases r with r | ⟨y,r,q⟩
   ·exact(gH ha hP h).2 r
   ·exact hP y ((gH ha hP h).2 r) x q
def Dg[DecidableEq α]{nb:α->List α}{P:α->Prop}(ha:P a)(hP:∀y,P y->∀x,x∈nb y->P x)(h:∀y,P y->∀x,x∈nb y↔E y x){n:Nat}:Ds nb a x n↔Dr E a x n:=
 and_congr (gH ha hP h).1 (forall_congr' λj=>imp_congr (gH ha hP h).1 Yq)
end
def gd(w:Nat)(a b:Cell):Nat:=if w=4 then bB a.1 b.1+bB a.2 b.2 else max (bB a.1 b.1) (bB a.2 b.2)
def Nx(R W w:Nat)(y x:Cell):Prop:=On R W y/\On R W x/\iq w y x=true
def Nx.symm{R W w:Nat}(x y:Cell)(h:Nx R W w x y):Nx R W w y x:=⟨h.2.1,h.1,by rw[wJ];exact h.2.2⟩
def ft(a:Nat):bB a a=0:=by unfold bB;rw[Nat.max_self,aaP,Nat.sub_self]
def fq{a b:Nat}(h:a<=b):bB a b=b - a:=by unfold bB;rw[ZI h,Xn h]
def fo{a b:Nat}(h:b<=a):bB a b=a - b:=by unfold bB;rw[Z0 h,Nat.min_eq_right h]
def zV(a b c:Nat):bB a c<=bB a b+bB b c:=by
 rcases YH a b with h | h<;>rcases YH b c with h2 | h2
 ·rw[fq h,fq h2,fq (U1 h h2)];omega
 ·rw[fq h,fo h2];rcases YH a c with h3 | h3
  ·rw[fq h3];omega
  ·rw[fo h3];omega
 ·rw[fo h,fq h2];rcases YH a c with h3 | h3
  ·rw[fq h3];omega
  ·rw[fo h3];omega
 ·rw[fo h,fo h2,fo (U1 h2 h)];omega
def Dw{R W w:Nat}(hw:Ways w){a:Cell}:∀{j:Nat}{x:Cell},Rr (Nx R W w) a j x->gd w a x<=j
 |0,x,r=>by
  cases (show x=a from r);rcases hw with rfl | rfl
  ·show bB a.1 a.1+bB a.2 a.2<=0;rw[ft,ft];exact UB _
  ·show max (bB a.1 a.1) (bB a.2 a.2)<=0;rw[ft,ft];exact UB _
 |j+1,x, .inl r=>Nat.le_succ_of_le (Dw hw r)
 |j+1,x, .inr ⟨y,r,e⟩=>by
  have h:=Dw hw r;have e:=e.2.2;have t1:=zV a.1 y.1 x.1;have t2:=zV a.2 y.2 x.2;rcases hw with rfl | rfl
  ·have e:bB y.1 x.1+bB y.2 x.2=1:=abC e;show bB a.1 x.1+bB a.2 x.2<=j+1;have h:bB a.1 y.1+bB a.2 y.2<=j:=h;omega
  ·have e:max (bB y.1 x.1) (bB y.2 x.2)=1:=abC e;have h:max (bB a.1 y.1) (bB a.2 y.2)<=j:=h;have e1:=YI (bB y.1 x.1) (bB y.2 x.2);have e2:=Yr (bB y.1 x.1) (bB y.2 x.2);have e3:=U1 (YI ..) h;have e4:=U1 (Yr ..) h;rw[e] at e1 e2;exact Nat.max_le.mpr ⟨U1 t1 (Nat.add_le_add e3 e1),U1 t2 (Nat.add_le_add e4 e2)⟩
def toward(a b:Nat):Nat:=if b<a then b+1 else if a<b then b - 1 else b
def mN(a b:Nat):(toward a b<=max a b)/\bB a (toward a b)=bB a b - 1/\bB (toward a b) b=min 1 (bB a b):=by
 unfold toward;by_cases h:b<a
 ·rw[abz h,fo h,fo (Vt h),fo (XU b),Z0 (Vt h),Xn (by omega)];omega
 ·rw[abA h];by_cases h2:a<b
  ·rw[abz h2,fq (show a<=b - 1 by omega),fq (Vt h2),fq (Nat.sub_le b 1),ZI (Vt h2),Xn (by omega)];omega
  ·rw[abA h2];have:a=b:=by omega
   subst this;rw[ft,Nat.max_self];exact⟨UB _,rfl,rfl⟩
def jF{a b R:Nat}(ha:a<R)(hb:b<R):toward a b<R:=X3 (mN a b).1 (Nat.max_lt.mpr ⟨ha,hb⟩)
def Gk{R W w:Nat}(hw:Ways w){a b:Cell}(ha:On R W a)(hb:On R W b){n:Nat}(h:gd w a b=n+1):∃c,Nx R W w c b/\gd w a c=n:=by
 obtain⟨a1,a2⟩:=a;obtain⟨b1,b2⟩:=b;obtain⟨_,t2,t3⟩:=mN a1 b1;obtain⟨_,u2,u3⟩:=mN a2 b2;rcases hw with rfl | rfl
 ·have h:bB a1 b1+bB a2 b2=n+1:=h;by_cases e:bB a1 b1=0
  ·refine⟨(b1,toward a2 b2),⟨⟨hb.1,jF ha.2 hb.2⟩,hb,abB (show bB b1 b1+bB (toward a2 b2) b2=1 from ?_)⟩,show bB a1 b1+bB a2 (toward a2 b2)=n from ?_⟩
   ·rw[ft,u3,Xn (by omega)]
   ·rw[u2];omega
  ·refine⟨(toward a1 b1,b2),⟨⟨jF ha.1 hb.1,hb.2⟩,hb,abB (show bB (toward a1 b1) b1+bB b2 b2=1 from ?_)⟩,show bB a1 (toward a1 b1)+bB a2 b2=n from ?_⟩
   ·rw[ft,t3,Xn (by omega)]
   ·rw[t2];omega
 ·have h:max (bB a1 b1) (bB a2 b2)=n+1:=h;refine⟨(toward a1 b1,toward a2 b2),⟨⟨jF ha.1 hb.1,jF ha.2 hb.2⟩,hb,abB (show max (bB (toward a1 b1) b1) (bB (toward a2 b2) b2)=1 from ?_)⟩,show max (bB a1 (toward a1 b1)) (bB a2 (toward a2 b2))=n from ?_⟩
  ·rw[t3,u3];generalize bB a1 b1=p at*;generalize bB a2 b2=q at*;omega
  ·rw[t2,u2];generalize bB a1 b1=p at*;generalize bB a2 b2=q at*;omega
def vO{a b:Nat}(h:bB a b=0):b=a:=by
 rcases YH a b with q | q
 ·rw[fq q] at h;omega
 ·rw[fo q] at h;omega
def Gm{w:Nat}(hw:Ways w){a b:Cell}(h:gd w a b=0):b=a:=by
 have:bB a.1 b.1=0/\bB a.2 b.2=0:=by
  rcases hw with rfl | rfl
  ·exact Nat.add_eq_zero_iff.mp h
  ·have h:max (bB a.1 b.1) (bB a.2 b.2)=0:=h;exact⟨abf.mp (h▸YI ..),abf.mp (h▸Yr ..)⟩
 exact Yl (vO this.1) (vO this.2)
def IA{R W w:Nat}(hw:Ways w){a:Cell}(ha:On R W a):∀(n:Nat) {b:Cell},On R W b->gd w a b=n->Rr (Nx R W w) a n b
 |0,b,_,h=>Gm hw h
 |n+1,b,hb,h=>by
  obtain⟨c,e,h2⟩:=Gk hw ha hb h;exact .inr ⟨c,IA hw ha n e.1 h2,e⟩
def Iz{R W w:Nat}(hw:Ways w){a b:Cell}(ha:On R W a)(hb:On R W b):Dr (Nx R W w) a b (gd w a b):=⟨IA hw ha _ hb rfl,λj r=>Dw hw r⟩
section
variable{bd:List Str}{W w v:Nat}{f g:Cell->Nat}
def NumF(bd:List Str)(W w:Nat)(f:Cell->Nat):Prop:=∀x,On bd.length W x->∃P,(av bd W w)[f x]? =some P/\x∈P
def NumF.eq(hw:Ways w)(hf:NumF bd W w f)(hg:NumF bd W w g){x:Cell}(hx:On bd.length W x):f x=g x:=by
 obtain⟨P,h1,h2⟩:=hf x hx;obtain⟨Q,h3,h4⟩:=hg x hx;exact oy hw h1 h3 h2 h4
def NumF.lt(hf:NumF bd W w f){x:Cell}(hx:On bd.length W x):f x<(av bd W w).length:=by
 obtain⟨P,h1,_⟩:=hf x hx;exact(UA.mp h1).1
def NumF.cn(hw:Ways w)(hf:NumF bd W w f){x y:Cell}(hx:On bd.length W x)(hy:On bd.length W y):f x=f y↔Cn bd W w x y:=by
 obtain⟨P,h1,h2⟩:=hf x hx;obtain⟨Q,h3,h4⟩:=hf y hy;obtain⟨m,e1,rfl⟩:=fe h1;obtain⟨n,e2,rfl⟩:=fe h3;have om:=cS (mq e1);have on:=cS (mq e2);constructor
 ·intro e;rw[e,h3] at h1;have h1:a9 bd W w n=a9 bd W w m:=U9 h1;rw[h1] at h4;exact((((bM hw om).mem x).mp h2).symm hw om).trans (((bM hw om).mem y).mp h4)
 ·intro e;have:y∈a9 bd W w m:=((bM hw om).mem y).mpr ((((bM hw om).mem x).mp h2).trans e);exact oy hw h1 h3 this h4
def Ad(R W v:Nat)(f:Cell->Nat)(n m:Nat):Prop:=n≠m/\∃x y,Nx R W v x y/\f x=n/\f y=m
def Ad.symm{R W v:Nat}{f:Cell->Nat}(n m:Nat)(h:Ad R W v f n m):Ad R W v f m n:=let ⟨h1,x,y,h2,h3,h4⟩:=h;⟨λe=>h1 e.symm,y,x,h2.symm,h4,h3⟩
def qy{R W v:Nat}{f:Cell->Nat}{a:Cell}:∀{j:Nat}{x:Cell},Rr (Nx R W v) a j x->Rr (Ad R W v f) (f a) j (f x)
 |0,x,r=>by cases (show x=a from r);rfl
 |j+1,x, .inl r=> .inl (qy r)
 |j+1,x, .inr ⟨y,r,e⟩=>by
  by_cases q:f y=f x
  ·rw[<-q];exact .inl (qy r)
  ·exact .inr ⟨f y,qy r,q,y,x,e,rfl,rfl⟩
end
section
variable{bd:List Str}{W w v:Nat}{f:Cell->Nat}
def wI(hg:Brd bd W)(hs:bd.length*W<64)(hw:Ways w):∃ks f,NumF bd W w f/\(∀x,On bd.length W x->x∈ks)/\cy [.lst ((av bd W w).map cL)]=aa (vL ks λy=>nI (f y)):=by
 obtain⟨ks,f,a1,a2,a3⟩:=iS (R:=bd.length) (W:=W) (by omega) (sG (bd:=bd) hw);have CJ:∀x,On bd.length W x->x∈ks:=λx hx=>by
  obtain⟨P,hP,h⟩:=qi hg hw hx;exact a2 P hP x h
 exact⟨ks,f,λx hx=>a1.num x (CJ x hx),CJ,a3⟩
def gF(hg:Brd bd W)(hs:bd.length*W<64)(hw:Ways w)(hv:Ways v)(hf:NumF bd W w f):
 ∃l,NrS (λn=>∃x,On bd.length W x/\f x=n) (Ad bd.length W v f) l/\dR [brd bd, .int (v:Int), .lst ((av bd W w).map cL)]=aa (kB (l.map cw)):=by
 obtain⟨ks,g,RC,CJ,e0⟩:=wI hg hs hw;have RB:∀x,On bd.length W x->f x % 64=g x:=λx hx=>by
  have:=hf.lt hx;have:=fJ (bd:=bd) (W:=W) (w:=w);rw[Nat.mod_eq_of_lt (by omega)];exact hf.eq hw RC hx
 have LJ:∀x,On bd.length W x->f x % 64=f x:=λx hx=>(RB x hx).trans (RC.eq hw hf hx);have ev:∀{ρ:bC}{i:Nat}{x:Cell},ρ[3]? =some (fz (vL ks λy=>nI (g y)))->ρ[i]? =some (fz (cD x))->On bd.length W x->d2 df (dV 3) (dV i) ρ=aa (nI (f x % 64)):=λh3 hi hx=>by
  rw[RB _ hx];exact(aH (dw h3) (dw hi)).trans (yO (f:=λy=>nI (g y)) (CJ _ hx))
 obtain⟨l,k1,k2⟩:=El (ci:=5) (oi:=7) (δk:=d2 df (dV 3) (dV 5)) (δj:=cW (ay 3 aP (aC (dV 0) (aC (dV 5) (aC (dV 1) aN))))) (tc:=eO (d2 qX (d2 df (dV 3) (dV 7)) (d2 df (dV 3) (dV 5)))) (δk2:=d2 df (dV 3) (dV 7))
  (ρ:=[fz (brd bd),fz (.int (v:Int)),fz (.lst ((av bd W w).map cL)),fz (vL ks λy=>nI (g y)),none,none,none,none]) (f:=λx=>f x % 64) (nx:=fZ bd.length W v) (λy=>aan _ (by decide)) (aT bd.length W) (T:=λ_=>False) (E:=λ_ _=>False) (l:=[])
  ⟨WU,λn=>by simp,λp hp=>(nomatch hp),λn h=>h.elim,λn m h=>h.elim⟩ (λ_ _ h=>h.elim) λx hx=>by
   have hx:=aI.mp hx;refine⟨ev rfl rfl hx,?_,λy hy=>?_⟩
   ·exact Ke ((aw (ds:=[brd bd,cD x, .int (v:Int)]) rfl rfl).trans (fM hg hv hx))
   ·have hy:=((eh hv).mp hy).1;refine⟨fS ((aH (ev rfl rfl hy) (ev rfl rfl hx)).trans ((Nk _ _).trans ?_)),ev rfl rfl hy⟩;by_cases e:f y % 64=f x % 64
    ·rw[e];simp
    ·rw[abD e,abH.mpr e]
 refine⟨l,k2.cong (λn=>?_) (λn m=>?_),aY (ak (ρ':=[fz (brd bd),fz (.int (v:Int)),fz (.lst ((av bd W w).map cL)),fz (vL ks λy=>nI (g y)),none,none,none,none]) ((aJ ((aw (ds:=[.lst ((av bd W w).map cL)]) rfl rfl).trans e0)).trans rfl) (ak (ρ':=[fz (brd bd),fz (.int (v:Int)),fz (.lst ((av bd W w).map cL)),fz (vL ks λy=>nI (g y)),some (.ow (.dci [] [])),none,none,none]) rfl (ak (ρ':=[fz (brd bd),fz (.int (v:Int)),fz (.lst ((av bd W w).map cL)),fz (vL ks λy=>nI (g y)),fz (kB (l.map cw)),none,none,none]) (dX ?_) rfl)))⟩
 ·constructor
  ·rintro(z | ⟨x,hx,e⟩)
   ·exact z.elim
   ·have hx:=aI.mp hx;exact⟨x,hx,(LJ x hx).symm.trans e⟩
  ·rintro⟨x,hx,e⟩;exact .inr ⟨x,aI.mpr hx,(LJ x hx).trans e⟩
 ·constructor
  ·rintro(z | ⟨fI,x,hx,e,y,hy,e2⟩)
   ·exact z.elim
   ·have hx:=aI.mp hx;have hy:=(eh hv).mp hy;exact⟨fI,x,y,⟨hx,hy.1,hy.2⟩,(LJ x hx).symm.trans e,(LJ y hy.1).symm.trans e2⟩
  ·rintro⟨fI,x,y,⟨hx,hy,q⟩,e,e2⟩;exact .inr ⟨fI,x,aI.mpr hx,(LJ x hx).trans e,y,(eh hv).mpr ⟨hy,q⟩,(LJ y hy).trans e2⟩
 ·exact Ck rfl rfl rfl (Ke ((aw (ds:=[brd bd]) rfl rfl).trans (f9 hg))) k1 k2.ok
end
section
variable{α:Type}[DecidableEq α]{v6:α->D}{mk:List α->List D->C}
structure SokG (S:List α) (s:Bk α):Prop where
 len:s.ks.length=s.ps.length
 nd:s.ks.Nodup
 on:∀x∈s.ks,x∈S
 fu:s.fu.length<=s.ks.length
def SokG.step{S:List α}{s:Bk α}(h:SokG S s){c x:α}(hx:x∈S):SokG S (ck c s x):=by
 unfold ck;split
 ·exact h
 ·rename_i hn;refine⟨by simp[h.len],?_,λy hy=>?_,by simp;exact h.fu⟩
  ·refine VA.mpr ⟨h.nd,by simp,λy hy z hz e=>?_⟩;have hz:z=x:=by simpa using hz
   rw[e,hz] at hy;exact hn hy
  ·rcases Vd.mp hy with q | q
   ·exact h.on y q
   ·have:y=x:=by simpa using q
    rw[this];exact hx
abbrev gR(mk:List α->List D->C)(nr a:D)(ks:List α)(vs:List Nat)(x3 x4 x5 x6:Option Sl):bC:=[fz nr,fz a,some (.ow (mk ks (vs.map nI))),x3,x4,x5,x6]
def Val(nb:α->List α)(a:α)(ks:List α)(vs:List Nat):Prop:=ks.length=vs.length/\∀x n,(x,n)∈ks.zip vs->Ds nb a x n
variable{S:List α}{nb:α->List α}{a0:α}
def Gb(kk:KOk v6 mk)(jM:S.length<=64){nr a:D}{c x:α}{r:Option Sl}{s:Bk α}{k:Nat}(h:SokG S s)(hc:c∈s.ks)(hk:Ds nb a0 c k)(me:∀y,Rb nb a0 k y->y∈s.ks)(hx:x∈nb c){vs:List Nat}(hv:Val nb a0 s.ks vs):
 ∃gO,Val nb a0 (ck c s x).ks gO/\Jx (gR mk nr a s.ks vs r (some (.ow (.lst (s.fu.map v6)))) (fz (v6 c)) (fz (v6 x)))=aa (.nx (gR mk nr a (ck c s x).ks gO r (some (.ow (.lst ((ck c s x).fu.map v6)))) (fz (v6 c)) none)):=by
 have hle:s.ks.length<=S.length:=bQ h.nd h.on;have hl:s.ks.length=(vs.map nI).length:=by rw[Ur];exact hv.1
 have ht:Jf (eO (d2 (nW true) (dV 6) (dV 2))) (gR mk nr a s.ks vs r (some (.ow (.lst (s.fu.map v6)))) (fz (v6 c)) (fz (v6 x)))=aa (!decide (x∈s.ks)):=
  Fv (fS ((aH (x:=v6 x) (y:=(mk s.ks (vs.map nI)).d) rfl rfl).trans (kk.inn (neg:=true) hl)))
 by_cases FQ:x∈s.ks
 ·rw[abB FQ] at ht;have e:ck c s x=s:=abz FQ;rw[e];exact⟨vs,hv,(a7 (d3 ht rfl)).trans rfl⟩
 ·rw[abD FQ] at ht;have e:ck c s x=⟨s.ks++[x],s.ps++[some c],s.fu++[x]⟩:=abA FQ;rw[e];obtain⟨d,hd,hi⟩:=kk.ix hl hc;obtain⟨n,rfl,hn⟩:=zE hd;have Tc:n=k:=Xo ((hv.2 c n hn).2 k hk.1) (hk.2 n (hv.2 c n hn).1);subst Tc;have hp:i7 (mk s.ks (vs.map nI)) (v6 x) (nI (n+1))=some (mk (s.ks++[x]) ((vs++[n+1]).map nI)):=by
   rw[kk.put _ _ _ _ FQ (by rw[Ur,<-hv.1,c5];omega),Vl];rfl
  refine⟨vs++[n+1],⟨by simp[hv.1],λy m hy=>?_⟩,(a7 (ρ':=gR mk nr a (s.ks++[x]) (vs++[n+1]) r (some (.ow (.lst ((s.fu++[x]).map v6)))) (fz (v6 c)) (fz (v6 x))) (ja ht (ak (ρ':=gR mk nr a (s.ks++[x]) (vs++[n+1]) r (some (.ow (.lst (s.fu.map v6)))) (fz (v6 c)) (fz (v6 x))) ((HI (c:=mk s.ks (vs.map nI)) (k:=v6 x) (d:=nI (n+1)) rfl (Ip ((aH (x:=nI n) (y:= .int 1) ((aH (x:=(mk s.ks (vs.map nI)).d) (y:=v6 c) rfl rfl).trans hi) rfl).trans rfl) rfl) rfl hp).trans rfl) ?_))).trans rfl⟩
  ·rw[Yz hv.1] at hy;rcases Vd.mp hy with q | q
   ·exact hv.2 y m q
   ·cases Ve.mp q;refine⟨.inr ⟨c,hk.1,hx⟩,λj hj=>Nat.lt_of_not_le λz=>FQ (me _ (Rb.mono z hj))⟩
  ·show (if (s.fu.map v6).length<lim then aa (Out.nx (gR mk nr a (s.ks++[x]) (vs++[n+1]) r (some (.ow (.lst (s.fu.map v6++[v6 x])))) (fz (v6 c)) (fz (v6 x)))) else af)=_;have:=h.fu;rw[abz (by rw[Ur,c5];omega),show s.fu.map v6++[v6 x]=(s.fu++[x]).map v6 by simp]
def pq{c x y:α}{s:Bk α}(h:y∈s.ks):y∈(ck c s x).ks:=(rK s).mpr (.inl h)
def pk{y c:α}{s:Bk α}(h:y∈s.ks):y∈(fT nb s c).ks:=((foldStep (P:=λ_ _=>True) (nb c) s λ_ _=>trivial).2 y).mpr (.inl h)
def F_(kk:KOk v6 mk)(jM:S.length<=64)(hS:∀y∈S,∀x∈nb y,x∈S){nr:D}(hN:oO v6 S nb nr){a:D}{c:α}{r:Option Sl}{s:Bk α}{k:Nat}(h:SokG S s)(hc:c∈s.ks)(hk:Ds nb a0 c k)(me:∀y,Rb nb a0 k y->y∈s.ks){vs:List Nat}(hv:Val nb a0 s.ks vs):
 SokG S (fT nb s c)/\∃gO,Val nb a0 (fT nb s c).ks gO/\Jw (gR mk nr a s.ks vs r (some (.ow (.lst (s.fu.map v6)))) (fz (v6 c)) none)=aa (.nx (gR mk nr a (fT nb s c).ks gO r (some (.ow (.lst ((fT nb s c).fu.map v6)))) none none)):=by
 have Ru:=h.on c hc;obtain⟨ρ',e,h1,h2,h4,gO,h3,rfl⟩:=pj (put:=putN 6) (body:=Jx) v6 (λ(s:Bk α) ρ=>SokG S s/\c∈s.ks/\(∀y,Rb nb a0 k y->y∈s.ks)/\∃vs:List Nat,Val nb a0 s.ks vs/\ρ=gR mk nr a s.ks vs r (some (.ow (.lst (s.fu.map v6)))) (fz (v6 c)) none) (ck c) (nb c) s _ ⟨h,hc,me,vs,hv,rfl⟩ λs ρ ⟨h,hc,me,vs,hv,e⟩ x hx=>by
  subst e;obtain⟨gO,h1,h2⟩:=Gb (nr:=nr) (a:=a) (x:=x) (r:=r) kk jM h hc hk me hx hv;exact⟨_,_,rfl,h2,h.step (hS c Ru x hx),pq hc,λy hy=>pq (me y hy),gO,h1,rfl⟩
 refine⟨h1,gO,h3,(a7 (eV ?_ e)).trans rfl⟩;obtain⟨d,hd,hd2⟩:=hN c Ru;have e0:d2 df (dV 0) (dV 5) (gR mk nr a s.ks vs r (some (.ow (.lst (s.fu.map v6)))) (fz (v6 c)) none)=aa d:=(aH (x:=nr) (y:=v6 c) rfl rfl).trans hd;show orM (d2 df (dV 0) (dV 5) _>>=lstM) (d2 df (dV 0) (dV 5) _>>=ij)=_;rw[e0];exact hd2
def Ga(kk:KOk v6 mk)(jM:S.length<=64)(hS:∀y∈S,∀x∈nb y,x∈S){nr:D}(hN:oO v6 S nb nr){a:D}{v4:List α}{s:Bk α}{k:Nat}(hr:∀c∈v4,c∈s.ks/\Ds nb a0 c k)(me:∀y,Rb nb a0 k y->y∈s.ks)(h:SokG S s)(hf:s.fu=[]){vs:List Nat}(hv:Val nb a0 s.ks vs):
 SokG S (bz nb s v4)/\∃gO,Val nb a0 (bz nb s v4).ks gO/\Jv (gR mk nr a s.ks vs (fz (.lst (v4.map v6))) none none none)=aa (.nx (gR mk nr a (bz nb s v4).ks gO (fz (.lst ((bz nb s v4).fu.map v6))) none none none)):=by
 obtain⟨ρ',e,h1,h2,h4,gO,h3,rfl⟩:=pj (put:=putN 5) (body:=Jw) v6 (λ(s:Bk α) ρ=>SokG S s/\(∀c∈v4,c∈s.ks/\Ds nb a0 c k)/\(∀y,Rb nb a0 k y->y∈s.ks)/\∃vs:List Nat,Val nb a0 s.ks vs/\ρ=gR mk nr a s.ks vs (fz (.lst (v4.map v6))) (some (.ow (.lst (s.fu.map v6)))) none none) (fT nb) v4 s _ ⟨h,hr,me,vs,hv,rfl⟩ λs ρ ⟨h,hr,me,vs,hv,e⟩ c hc=>by
  subst e;obtain⟨g1,gO,g2,g3⟩:=F_ (nb:=nb) (a:=a) (r:=fz (.lst (v4.map v6))) kk jM hS hN h (hr c hc).1 (hr c hc).2 me hv;exact⟨_,_,rfl,g3,g1,λc' r9=>⟨pk (hr c' r9).1,(hr c' r9).2⟩,λy hy=>pk (me y hy),gO,g2,rfl⟩
 rw[hf] at e;refine⟨h1,gO,h3,(a7 (ρ':=gR mk nr a (bz nb s v4).ks gO (fz (.lst ((bz nb s v4).fu.map v6))) (fz (.lst ((bz nb s v4).fu.map v6))) none none) ?_).trans rfl⟩;refine ak (ρ':=gR mk nr a s.ks vs (fz (.lst (v4.map v6))) (some (.ow (.lst []))) none none) rfl (ak (ρ':=gR mk nr a (bz nb s v4).ks gO (fz (.lst (v4.map v6))) (some (.ow (.lst ((bz nb s v4).fu.map v6)))) none none) ?_ rfl);exact eV rfl e
def vM(kk:KOk v6 mk)(jM:S.length<=64)(hS:∀y∈S,∀x∈nb y,x∈S){nr:D}(hN:oO v6 S nb nr)(ha:a0∈S):∀(fuel k:Nat) (ks:List α) (ps:List (Option α)) (v4:List α) (vs:List Nat),S.length+2<=fuel+k->Rng nb a0 k ks ps v4->(∀x∈ks,x∈S)->Val nb a0 ks vs->
 ∃k' ks' ir gO,Rng nb a0 k' ks' ir []/\(∀x∈ks',x∈S)/\Val nb a0 ks' gO/\ez (d8 (dV 3)) Jv fuel (gR mk nr (v6 a0) ks vs (fz (.lst (v4.map v6))) none none none)=aa (.nx (gR mk nr (v6 a0) ks' gO (fz (.lst [])) none none none))
 |0,k,ks,ps,v4,vs,hf,hR,jN,hv=>by
  have h1:ks.length<=S.length:=bQ hR.nd jN;have:=hR.sz.1;omega
 |fuel+1,k,ks,ps,[],vs,hf,hR,jN,hv=>⟨k,ks,ps,vs,hR,jN,hv,xT rfl⟩
 |fuel+1,k,ks,ps,c::v4,vs,hf,hR,jN,hv=>by
  have Sy:=hR.next (by simp);have MR:∀x∈c::v4,x∈ks/\Ds nb a0 x k:=λx hx=>⟨(hR.mem x).mpr ((hR.rg x).mp hx).1,(hR.rg x).mp hx⟩
  obtain⟨hb,Ud,Tv,e⟩:=Ga (nb:=nb) (a:=v6 a0) kk jM hS hN (s:=⟨ks,ps,[]⟩) MR (λy hy=>(hR.mem y).mpr hy) ⟨hR.len,hR.nd,jN,U3 _⟩ rfl hv;obtain⟨k',ks',ir,gO,q1,q2,q3,q4⟩:=vM kk jM hS hN ha fuel (k+1) _ _ _ Ud (by omega) Sy hb.on Tv;exact⟨k',ks',ir,gO,q1,q2,q3,xU rfl e q4⟩
def pb(kk:KOk v6 mk)(jM:S.length<=64)(hS:∀y∈S,∀x∈nb y,x∈S){nr:D}(hN:oO v6 S nb nr)(ha:a0∈S):
 ∃(ks:List α) (vs:List Nat),(∀x,x∈ks↔∃j,Rb nb a0 j x)/\Val nb a0 ks vs/\bF [nr,v6 a0]=aa (mk ks (vs.map nI)).d:=by
 obtain⟨k,ks,ps,vs,h1,h2,h3,h4⟩:=vM (nb:=nb) kk jM hS hN ha lim 0 [a0] [none] [a0] [0] (by rw[c5];omega) (Rng.zero _ _) (λx hx=>(show x=a0 by simpa using hx)▸ha) ⟨rfl,λx n h=>by
  have h:x=a0/\n=0:=by simpa using h
  rw[h.1,h.2];exact⟨rfl,λj _=>U3 _⟩⟩
 refine⟨ks,vs,h1.last,h3,aY (ak (ρ':=gR mk nr (v6 a0) [a0] [0] none none none none) ?_ (ak (ρ':=gR mk nr (v6 a0) [a0] [0] (fz (.lst [v6 a0])) none none none) rfl (ak (ρ':=gR mk nr (v6 a0) ks vs (fz (.lst [])) none none none) (dX h4) rfl)))⟩;show (orM (kF (v6 a0) (.int 0)) (mU (v6 a0) (.int 0))>>=_)=_;rw[kk.ini];rfl
end
section
variable{bd:List Str}{W v:Nat}{f:Cell->Nat}
def Em(hv:Ways v){l:NT}(hl:NrS (λn=>∃x,On bd.length W x/\f x=n) (Ad bd.length W v f) l){a b:Cell}(ha:On bd.length W a)(hb:On bd.length W b):
 ∃n,Dr (Ad bd.length W v f) (f a) (f b) n/\∃d,bF [kB (l.map cw),nI (f a)]=aa d/\df d (nI (f b))=aa (nI n):=by
 have hP:∀y,(∃x,On bd.length W x/\f x=y)->∀x,x∈q_ l y->∃z,On bd.length W z/\f z=x:=λy hy x hx=>by
  obtain⟨_,p,q,h1,_,h2⟩:=(hl.mem hy).mp hx;exact⟨q,h1.2.1,h2⟩
 have hE:∀y,(∃x,On bd.length W x/\f x=y)->∀x,x∈q_ l y↔Ad bd.length W v f y x:=λy hy x=>hl.mem hy;have jM:(l.map (·.1)).length<=64:=le64 hl.nd λn hn=>hl.hT n ((hl.key n).mp hn);obtain⟨ks,vs,h1,h2,h3⟩:=pb (nb:=q_ l) D1 jM (λy hy x hx=>(hl.key x).mpr (hP y ((hl.key y).mp hy) x hx)) hl.near ((hl.key (f a)).mpr ⟨a,ha,rfl⟩);have hr:=qy (f:=f) (Iz hv ha hb).1;have mf:f b∈ks:=(h1 _).mpr ⟨_,(gH ⟨a,ha,rfl⟩ hP hE).1.mpr hr⟩;obtain⟨d,e1,e2⟩:=D1.ix (ds:=vs.map nI) (by rw[Ur];exact h2.1) mf;obtain⟨n,rfl,e3⟩:=zE e1;exact⟨n,(Dg ⟨a,ha,rfl⟩ hP hE).mp (h2.2 _ _ e3),_,h3,e2⟩
end
section
variable{bd:List Str}{W w v:Nat}{f:Cell->Nat}
def ik{n i:Nat}(h:i<n):bG [nI n,nI i]=aa .non:=by
 refine A2 (ρ:=[fz (nI n),fz (nI i)]) (d3 (zT (p:=false) (q:=false) (yo (b:=true) (yp ((aw (ds:=[nI i]) rfl rfl).trans ((CF (d:=nI i) trivial).trans rfl)))) (yo (b:=true) (fS ?_))) rfl);show (if decide ((0:Int)<=(i:Int))=true then aa (D.bl (decide ((i:Int)<(n:Int)))) else aa (D.bl false))=_;rw[abz (by rw[abF];omega),abB (by omega)]
def AE(hw:Ways w)(hf:NumF bd W w f){E:Nat->Nat->Prop}{l:NT}(hl:NrS (λn=>∃x,On bd.length W x/\f x=n) E l):(av bd W w).length<=l.length:=by
 have:=bQ (l:=UH (av bd W w).length) (U:=l.map (·.1)) XF λi hi=>by
  have hi:=UP.mp hi;obtain⟨m,e1,e2⟩:=fe (Us hi);have hm:=mq e1;have ho:=cS hm;obtain⟨r,hr⟩:=qj hw hm;obtain⟨P,h1,h2⟩:=hf m ho;have h3:(av bd W w)[i]? =some (m::r):=by rw[Us hi,e2,hr]
  exact(hl.key i).mpr ⟨m,ho,oy hw h1 h3 h2 Uv⟩
 simpa using this
def vA(hg:Brd bd W)(hs:bd.length*W<64)(hw:Ways w)(hf:NumF bd W w f){a b:Cell}(ha:On bd.length W a)(hb:On bd.length W b):
 ∃n,Dr (Ad bd.length W 4 f) (f a) (f b) n/\cX [brd bd,iW w,nI (f a),nI (f b)]=aa (nI n):=by
 obtain⟨l,hl,e1⟩:=gF (v:=4) hg hs hw (.inl rfl) hf;obtain⟨n,hn,d,e2,e3⟩:=Em (.inl rfl) hl ha hb;have P3:=AE hw hf hl;have la:=hf.lt ha;have lb:=hf.lt hb;have em:dQ [brd bd,iW w]=aa (kB (l.map cw)):=aY (ak (cT ((aw (ds:=[brd bd]) rfl rfl).trans hg.nb)) (ak (cT ((aw (ds:=[iW w]) rfl rfl).trans hw.nw)) (aS ((aw (ds:=[brd bd, .int 4, .lst ((av bd W w).map cL)]) (aE rfl (aE rfl (aE ((aw (ds:=[brd bd,iW w]) rfl rfl).trans ((di hg hs hw).trans (by rw[gZ]))) rfl))) rfl).trans e1))));have el:kZ [kB (l.map cw)]=aa (nI l.length):=by
  rw[uF];show aa (D.int (((l.map (·.1)).map kN).length:Int))=_;rw[Ur,Ur];rfl
 have nn:∀{i:Nat}{ρ:bC}{k:Nat},ρ[4]? =some (fz (kB (l.map cw)))->ρ[k]? =some (fz (nI i))->i<(av bd W w).length->kj (ay 2 bG (aC (dA kZ (aC (dV 4) aN)) (aC (dV k) aN))) ρ=aa (.nx ρ):=λh4 hk hi=>
  cT ((aw (ds:=[nI l.length,nI _]) (aE ((a8 (xs:=[kB (l.map cw)]) (aE (dw h4) rfl)).trans el) (aE (dw hk) rfl)) rfl).trans (ik (by omega)))
 exact⟨n,hn,aY (ak (ρ':=[fz (brd bd),fz (iW w),fz (nI (f a)),fz (nI (f b)),fz (kB (l.map cw))]) ((aJ ((aw (ds:=[brd bd,iW w]) rfl rfl).trans em)).trans rfl) (ak (nn rfl rfl la) (ak (nn rfl rfl lb) (aS ((aH (x:=d) (y:=nI (f b)) ((aw (ds:=[kB (l.map cw),nI (f a)]) rfl rfl).trans e2) rfl).trans e3)))))⟩
end
section
open Classical
variable{bd:List Str}{W w:Nat}
abbrev FT(bd:List Str)(S:D)(nk:List Cell)(f:Cell->Nat)(ks:List Cell)(g:Cell->Int)(x4 x5 x6:Option Sl):bC:=[fz (brd bd),fz S,fz (vL nk λy=> .int (f y:Int)),some (.ow (F9 ks λk=> .int (g k))),x4,x5,x6]
structure SOk (bd:List Str) (W n:Nat) (f:Cell->Nat) (ks:List Cell):Prop where
 nd:ks.Nodup
 is:∀k∈ks,∃x y,On bd.length W x/\On bd.length W y/\iq 4 x y=true/\f x<f y/\k=(f x,f y)
noncomputable def Iw(ks:List Cell)(g:Cell->Int)(k:Cell):Int:=if k∈ks then g k else 0
def IZ(f:Cell->Nat)(k x y:Cell):Bool:=decide (f x<f y/\(f x,f y)=k)
def HW(hn:∀z,On bd.length W z->z∈nk/\f z<64)(hx:On bd.length W x)(hy:On bd.length W y)(GC:iq 4 x y=true)(h:SOk bd W 64 f ks):
 ∃ks' g',SOk bd W 64 f ks'/\(∀k∈ks,k∈ks')/\(f x<f y->(f x,f y)∈ks')/\(∀k,Iw ks' g' k=Iw ks g k+(if IZ f k x y then 1 else 0))/\OQ (FT bd S nk f ks g (fz (cD x)) (fz (cD y)) none)=aa (.nx (FT bd S nk f ks' g' (fz (cD x)) none none)):=by
 have i4:∀{o x6:Option Sl},d2 df (dV 2) (dV 4) [fz (brd bd),fz S,fz (vL nk λy=> .int (f y:Int)),o,fz (cD x),fz (cD y),x6]=aa (.int (f x:Int)):=(aH rfl rfl).trans (yO (hn x hx).1);have i5:∀{o x6:Option Sl},d2 df (dV 2) (dV 5) [fz (brd bd),fz S,fz (vL nk λy=> .int (f y:Int)),o,fz (cD x),fz (cD y),x6]=aa (.int (f y:Int)):=(aH rfl rfl).trans (yO (hn y hy).1);have OU:eO (d2 Pc (d2 df (dV 2) (dV 4)) (d2 df (dV 2) (dV 5))) (FT bd S nk f ks g (fz (cD x)) (fz (cD y)) none)=aa (decide (f x<f y)):=by
  refine fS ((aH i4 i5).trans ?_);show aa (D.bl (decide ((f x:Int)<(f y:Int))))=_;congr 2;exact abI.mpr (by omega)
 have OA:ks.length<lim:=by
  have:ks.length<=(aT 63 64).length:=bQ h.nd λk hk=>by
   obtain⟨a,b,ha,hb,_,Ow,rfl⟩:=h.is k hk;have:=(hn b hb).2;exact aI.mpr ⟨by show f a<63;omega,this⟩
  rw[cz] at this;rw[c5];omega
 by_cases cI:f x<f y
 ·rw[abB cI] at OU;refine⟨bP ks (f x,f y),λk=>if k=(f x,f y) then(if (f x,f y)∈ks then g (f x,f y) else 0)+1 else g k,⟨(kJ [(f x,f y)] ks).1 h.nd,λk hk=>?_⟩,λk hk=>dJ.mpr (.inl hk),λ_=>rG,λk=>?_,?_⟩
  ·rcases dJ.mp hk with q | q
   ·exact h.is k q
   ·exact⟨x,y,hx,hy,GC,cI,q⟩
  ·unfold Iw IZ;by_cases e:k=(f x,f y)
   ·subst e;rw[abz (dJ.mpr (.inr rfl)),abB ⟨cI,rfl⟩];simp only[if_true]
   ·rw[abD λq=>e q.2.symm];have:k∈bP ks (f x,f y)↔k∈ks:=dJ.trans ⟨λq=>q.resolve_right e, .inl⟩;simp only[this,abA e];simp
  ·have hv:L5 (d2 dU (zS (dV 3) (dV 6) (dC (.int 0))) (dC (.int 1))) (FT bd S nk f ks g (fz (cD x)) (fz (cD y)) (fz (cD (f x,f y))))=aa (.int ((if (f x,f y)∈ks then g (f x,f y) else 0)+1)):=by
    refine Ip ?_ rfl;have e:zS (dV 3) (dV 6) (dC (.int 0)) (yy (FT bd S nk f ks g (fz (cD x)) (fz (cD y)) (fz (cD (f x,f y)))))=aa (.int (if (f x,f y)∈ks then g (f x,f y) else 0)):=by
     show getM (vL ks λk=> .int (g k)) (cD (f x,f y)) (.int 0)=_;by_cases q:(f x,f y)∈ks
     ·rw[Gn q,abz q]
     ·rw[Dx q,abA q]
    exact(aH e rfl).trans rfl
   refine(a7 (ρ':=FT bd S nk f (bP ks (f x,f y)) (λk=>if k=(f x,f y) then(if (f x,f y)∈ks then g (f x,f y) else 0)+1 else g k) (fz (cD x)) (fz (cD y)) (fz (cD (f x,f y)))) (ja OU (ak ((aJ ((a8 (aE i4 (aE i5 rfl))).trans rfl)).trans rfl) ?_))).trans rfl;refine(AV rfl hv rfl OA).trans ?_;have ef:e_ (λk=>D.int (g k)) (f x,f y) (.int ((if (f x,f y)∈ks then g (f x,f y) else 0)+1))=λk=>D.int (if k=(f x,f y) then(if (f x,f y)∈ks then g (f x,f y) else 0)+1 else g k):=by
    funext k;unfold e_;by_cases e:k=(f x,f y)
    ·rw[abz e,abz e]
    ·rw[abA e,abA e]
   rw[ef];rfl
 ·rw[abD cI] at OU;exact⟨ks,g,h,λk hk=>hk,λq=>abE q cI,λk=>by unfold IZ;rw[abD λq=>cI q.1];simp,(a7 (d3 OU rfl)).trans rfl⟩
def Jb(hn:∀z,On bd.length W z->z∈nk/\f z<64)(hx:On bd.length W x):∀(l:List Cell) (ks:List Cell) (g:Cell->Int),(∀y∈l,On bd.length W y/\iq 4 x y=true)->SOk bd W 64 f ks->
 ∃ks' g',SOk bd W 64 f ks'/\(∀k∈ks,k∈ks')/\(∀y∈l,f x<f y->(f x,f y)∈ks')/\(∀k,Iw ks' g' k=Iw ks g k+((l.filter (IZ f k x)).length:Int))/\forL (putN 5) OQ (l.map cD) (FT bd S nk f ks g (fz (cD x)) none none)=aa (.nx (FT bd S nk f ks' g' (fz (cD x)) none none))
 |[],ks,g,_,h=>⟨ks,g,h,λk hk=>hk,(λy hy=>(by cases hy)),λk=>by simp,rfl⟩
 |y::l,ks,g,hl,h=>by
  obtain⟨y1,y2⟩:=hl y (Uv ..);obtain⟨k1,g1,a1,a2,a3,a5,a4⟩:=HW hn hx y1 y2 h;obtain⟨k2,g2,b1,b2,b3,b5,b4⟩:=Jb hn hx l k1 g1 (λz hz=>hl z (Uu _ hz)) a1;refine⟨k2,g2,b1,λk hk=>b2 k (a2 k hk),λz hz q=>?_,λk=>?_,(cH rfl a4).trans b4⟩
  ·rcases UD.mp hz with e | hz
   ·subst e;exact b2 _ (a3 q)
   ·exact b3 z hz q
  ·rw[b5 k,a5 k,Zy];cases IZ f k x y
   ·simp
   ·simp;omega
def Fl(hg:Brd bd W)(hn:∀z,On bd.length W z->z∈nk/\f z<64):∀(l:List Cell) (ks:List Cell) (g:Cell->Int),(∀x∈l,On bd.length W x)->SOk bd W 64 f ks->
 ∃ks' g',SOk bd W 64 f ks'/\(∀k∈ks,k∈ks')/\(∀x∈l,∀y,On bd.length W y->iq 4 x y=true->f x<f y->(f x,f y)∈ks')/\(∀k,Iw ks' g' k=Iw ks g k+(((l.map λx=>((fZ bd.length W 4 x).filter (IZ f k x)).length).sum:Nat):Int))/\
  forL (putN 4) (c_ [4,5,6] (d5 (putN 5) (cW (ay 3 aP (aC (dV 0) (aC (dV 4) (aC (dC (.int 4)) aN))))) OQ)) (l.map cD) (FT bd S nk f ks g none none none)=aa (.nx (FT bd S nk f ks' g' none none none))
 |[],ks,g,_,h=>⟨ks,g,h,λk hk=>hk,(λy hy=>(by cases hy)),λk=>by simp,rfl⟩
 |x::l,ks,g,hl,h=>by
  have hx:=hl x (Uv ..);have M0:Ways 4:= .inl rfl;obtain⟨k1,g1,a1,a2,a3,a5,a4⟩:=Jb hn hx (fZ bd.length W 4 x) ks g (λy hy=>(eh M0).mp hy) h;obtain⟨k2,g2,b1,b2,b3,b5,b4⟩:=Fl hg hn l k1 g1 (λz hz=>hl z (Uu _ hz)) a1;refine⟨k2,g2,b1,λk hk=>b2 k (a2 k hk),λz hz y hy q1 q2=>?_,λk=>by rw[b5 k,a5 k,Uz,Xj,Int.natCast_add,Int.add_assoc],(cH rfl ((a7 (eV ?_ a4)).trans rfl)).trans b4⟩
  ·rcases UD.mp hz with e | hz
   ·subst e;exact b2 _ (a3 y ((eh M0).mpr ⟨hy,q1⟩) q2)
   ·exact b3 z hz y hy q1 q2
  ·show (ay 3 aP (aC (dV 0) (aC (dV 4) (aC (dC (.int 4)) aN))) _>>=lstM)=_;rw[(aw (ds:=[brd bd,cD x, .int ((4:Nat):Int)]) rfl rfl:ay 3 aP (aC (dV 0) (aC (dV 4) (aC (dC (.int 4)) aN))) _=_),fM hg M0 hx];rfl
def zt(hg:Brd bd W)(hs:bd.length*W<64)(hw:Ways w):∃(f:Cell->Nat) (ks:List Cell) (g:Cell->Int),(∀x,On bd.length W x->∃P,(av bd W w)[f x]? =some P/\x∈P)/\SOk bd W 64 f ks/\(∀x y,On bd.length W x->On bd.length W y->iq 4 x y=true->f x<f y->(f x,f y)∈ks)/\(∀k∈ks,g k=((((aT bd.length W).map λx=>((fZ bd.length W 4 x).filter (IZ f k x)).length).sum:Nat):Int))/\
 b_ [brd bd, .lst ((av bd W w).map cL)]=aa (vL ks λk=> .int (g k)):=by
 obtain⟨nk,f,h1,h2,h3⟩:=iS (Vt hs) (sG hw);have hf:∀x,On bd.length W x->x∈nk/\∃P,(av bd W w)[f x]? =some P/\x∈P:=λx hx=>by
  obtain⟨P,p1,p2⟩:=qi hg hw hx;have:=h2 P p1 x p2;exact⟨this,h1.num x this⟩
 have hl:=fJ (bd:=bd) (W:=W) (w:=w);obtain⟨ks,g,a1,a2,a3,a5,a4⟩:=Fl hg (f:=f) (λz hz=>⟨(hf z hz).1,by
  obtain⟨P,e,_⟩:=(hf z hz).2;have:=(UA.mp e).1;omega⟩) (aT bd.length W) [] (λ_=>0) (λx hx=>aI.mp hx) ⟨WU,(λk hk=>(by cases hk))⟩
 refine⟨f,ks,g,λx hx=>(hf x hx).2,a1,λx y hx hy=>a3 x (aI.mpr hx) y hy,λk hk=>by have:=a5 k;unfold Iw at this;rw[abz hk] at this;simpa using this,?_⟩;refine aY (ak ((aJ ((aw rfl rfl).trans h3)).trans rfl) (ak rfl (ak (dX (eV ?_ a4)) rfl)));show (ay 1 bE (aC (dV 0) aN) _>>=lstM)=_;rw[(aw rfl rfl:ay 1 bE (aC (dV 0) aN) _=_),f9 hg];rfl
end
def sh(P Q:List Cell):Nat:=(P.map λx=>(Q.filter λy=>iq 4 x y).length).sum
section
open Classical
end
section
open Classical
variable{bd:List Str}{W w:Nat}
def Jy(x:Cell):List Cell:=[(x.1+1,x.2),(x.1,x.2+1)]
def D8{x y:Cell}:y∈Jy x↔(y.1=x.1+1/\y.2=x.2)\/(y.1=x.1/\y.2=x.2+1):=by
 unfold Jy;obtain⟨y1,y2⟩:=y;simp
def Ku{x y:Cell}:iq 4 x y=true↔y∈Jy x\/x∈Jy y:=by
 rw[D8,D8];unfold iq bB;rw[abz rfl,abF];omega
def Od(ks:List Cell)(g:Cell->Int):D:= .lst (ks.map λk=> .tup [cD k, .int (g k)])
def AF{g:α->Int}:∀ks:List α,nums (ks.map λk=> .int (g k))=some (ks.map g)
 |[]=>rfl
 |k::ks=>by
  show (nums (ks.map λk=> .int (g k))).map _=_;rw[AF ks];rfl
def A_(g:Cell->Int):∀ks:List Cell,kz (ks.map ic) (ks.map g)=ks.map λk=>ic k++[g k]
 |[]=>rfl
 |k::ks=>by
  show (ic k++[g k])::kz (ks.map ic) (ks.map g)=_;rw[A_ g ks];rfl
def Ia{g:Cell->Int}{a b:Cell}(h:ic a++[g a]=ic b++[g b]):a=b:=pD (List.append_inj_left h rfl)
def Cu{g:Cell->Int}(hn:ks.Nodup)(hl:ks.length<64):mM (vL ks λk=> .int (g k))=aa (Od (jX ks) g):=by
 show (match d_ (ks.map keyOf),nums (ks.map λk=> .int (g k)) with
  |some kk,some ns=>if kk.length=ns.length/\kk.all (λk=>decide (k.length=2))=true/\eS (kz kk ns)=true then aa (D.lst ((sortI (kz kk ns)).map AH)) else af
  |_,_=>af)=_
 rw[jA,AF]
 dsimp only
 rw[A_];have JX:(ks.map λk=>ic k++[g k]).Nodup:=by
  rw[VC,V_];exact Xc (λh z=>h (Ia z)) hn
 rw[abz ⟨by rw[Ur,Ur],UT.mpr λk hk=>by obtain⟨c,_,rfl⟩:=UC.mp hk;rfl,by
  unfold eS;rw[UY,UY];refine⟨⟨abB JX,abB (by rw[Ur];exact hl)⟩,UT.mpr λk hk=>?_⟩;obtain⟨c,_,rfl⟩:=UC.mp hk;rfl⟩]
 have e:sortI (ks.map λk=>ic k++[g k])=(jX ks).map λk=>ic k++[g k]:=by
  refine lL (ib JX) ?_ λx=>?_
  ·unfold vq;rw[V_];refine Xc (λ{a b} h=>?_) (V_.mp (oI.mpr (kx hn)));rw[ml _ _ (show (ic a).length=(ic b).length from rfl),abA λz=>by rw[z] at h;have:=eJ _ _ h;rw[h] at this;cases this];exact h
  ·rw[eu,UC,UC];constructor
   ·rintro⟨c,hc,e⟩;exact⟨c,gD.mpr hc,e⟩
   ·rintro⟨c,hc,e⟩;exact⟨c,gD.mp hc,e⟩
 rw[e,U0];rfl
def O1(R W:Nat)(f:Cell->Nat)(k:Cell):Prop:=∃x y,On R W x/\On R W y/\iq 4 x y=true/\f x<f y/\k=(f x,f y)
def A8{ks:List Cell}(hn:ks.Nodup)(h:∀k∈ks,O1 R W f k):ks.length<=2*(R*W):=by
 have:ks.length<=((aT R W).flatMap λx=>(Jy x).map λy=>((min (f x) (f y),max (f x) (f y)):Cell)).length:=bQ hn λk hk=>by
  obtain⟨x,y,hx,hy,h1,h2,rfl⟩:=h k hk;rcases Ku.mp h1 with q | q
  ·exact XG.mpr ⟨x,aI.mpr hx,UC.mpr ⟨y,q,by rw[Xn (by omega),ZI (by omega)]⟩⟩
  ·exact XG.mpr ⟨y,aI.mpr hy,UC.mpr ⟨x,q,by rw[Nat.min_eq_right (by omega),Z0 (by omega)]⟩⟩
 have l2:=wq (n:=2) (λx=>(Jy x).map λy=>((min (f x) (f y),max (f x) (f y)):Cell)) (λx=>by unfold Jy;simp) (aT R W);rw[cz] at l2;omega
noncomputable def R3(R W:Nat)(f:Cell->Nat)(k:Cell):Nat:=((aT R W).map λx=>((fZ R W 4 x).filter (IZ f k x)).length).sum
def lR(hg:Brd bd W)(h2:2*(bd.length*W)<64)(hw:Ways w):∃(f:Cell->Nat) (ks:List Cell),(∀x,On bd.length W x->∃P,(av bd W w)[f x]? =some P/\x∈P)/\RiseC ks/\(∀k,k∈ks↔O1 bd.length W f k)/\fE [brd bd,iW w]=aa (Od ks λk=>(R3 bd.length W f k:Int)):=by
 have hs:bd.length*W<64:=by omega
 obtain⟨f,ks,g,hf,hS,mf,SV,e⟩:=zt hg hs hw;have hl:=A8 hS.nd hS.is;refine⟨f,jX ks,hf,kx hS.nd,λk=>gD.trans ⟨hS.is k,λ⟨x,y,a,b,c,d,e⟩=>by rw[e];exact mf x y a b c d⟩,?_⟩;refine aY (ak (cT ((aw rfl rfl).trans hg.nb)) (ak (cT ((aw rfl rfl).trans hw.nw)) (aS ?_)));show (ay 2 b_ (aC (dV 0) (aC (ay 2 a_ (aC (dV 0) (aC (dV 1) aN))) aN)) _>>=mM)=_;rw[show ay 2 b_ (aC (dV 0) (aC (ay 2 a_ (aC (dV 0) (aC (dV 1) aN))) aN)) _=aa (vL ks λk=> .int (g k)) from(aw (ds:=[brd bd, .lst ((av bd W w).map cL)]) (aE rfl (aE ((aw rfl rfl).trans ((di hg hs hw).trans (by rw[gZ]))) rfl)) rfl).trans e,au,Cu hS.nd (by omega)];refine abG (λl=>aa (D.lst l)) (Vp λk hk=>?_);rw[SV k (gD.mp hk)];rfl
end
end K1
namespace K1
open PySem PySem.Spec L2 L3
open PyProof.Rows hiding St
def BI(h:δ ρ=aa (.lst ds)):cW δ ρ=aa ds:=by
 unfold cW;rw[h];rfl
def rS(v6 g:α->D)(p:α->Bool):∀xs:List α,(∀x∈xs,f (v6 x)=aa (if p x then some (g x) else none))->bY f (xs.map v6)=aa (xs.flatMap λx=>if p x then [g x] else [])
 |[],_=>rfl
 |x::xs,h=>by
  rw[Uz,dq,h x (Uv ..),rS v6 g p xs λy hy=>h y (Uu _ hy),W2];cases p x<;>rfl
def eM:∀l:List Int,nums (l.map D.int)=some l
 |[]=>rfl
 |x::l=>by
  show (nums (l.map D.int)).map _=_;rw[eM l];rfl
def GS(h:0<l.length):k7 [.lst (l.map D.int)]=aa (.int (eR l)):=by
 show (match nums (l.map D.int) with | some ns=>if 0<ns.length then aa (D.int (eR ns)) else af | none=>af)=_;rw[eM];exact abz h
def Qz(h:0<l.length):wu [.lst (l.map D.int)]=aa (.int (eQ l)):=by
 show (match nums (l.map D.int) with | some ns=>if 0<ns.length then aa (D.int (eQ ns)) else af | none=>af)=_;rw[eM];exact abz h
def ne_self{d:D}(h:jH 6 d d=some true):qX d d=aa (.bl false):=by
 unfold qX;rw[h];rfl
def HZ{l:List Int}(h:δ ρ=aa (.lst (l.map D.int))):dA A7 (aC δ aN) ρ=aa (.int l.sum):=by
 refine(a8 (aE h rfl)).trans ?_;show (match nums (l.map D.int) with | some ns=>aa (D.int ns.sum) | none=>af)=_;rw[eM]
def Gf(a b:Int):md (.int a) (.int b)=aa (.bl (a==b)):=by
 unfold md;rw[oj]
def t9{α β:Type}{f:α->β}{l:List α}(hn:l.Nodup)(h:∀a∈l,∀b∈l,f a=f b->a=b):(l.map f).Nodup:=by
 refine V_.mpr ?_;induction l with
 |nil=>exact .nil
 |cons x l ih=>
  have hn:=Vk.mp hn;exact U2.mpr ⟨λb hb z=>hn.1 (by rw[h x (Uv ..) b (Uu _ hb) z];exact hb),ih hn.2 λa ha b hb=>h a (Uu _ ha) b (Uu _ hb)⟩
def tT{i:Nat}(h:l[i]? =some d):dg (.lst l) (.int (i:Int))=aa d:=by
 show (match L2.atI l (i:Int) with | some x=>aa x | none=>af)=_;rw[gm h]
def rV{α:Type}{xs:List α}{t:DT}(v6:α->D)(hi:cW δ ρ=aa (xs.map v6))(h:∀x∈xs,t (fz (v6 x)::ρ)=aa false):aV 0 (cW δ) t (dV 0) ρ=aa (.lst []):=
 bu hi ((rS v6 v6 (λ_=>false) xs λx hx=>by rw[C7,h x hx];rfl).trans (abG aa (List.flatMap_eq_nil_iff.mpr λ_ _=>rfl))) (U3 _)
def AA:qX (.lst []) (.lst [])=aa (.bl false):=rfl
def Au(m:Nat)(hm:m<=64)(hn:δn ρ=aa (.int (m:Int)))(h:∀k:Nat,k<m->δ (fz (.int (k:Int))::ρ)=aa (g k)):aV 0 (λρ=>(aC δn aN) ρ>>=c0) bw δ ρ=aa (.lst ((UH m).map g)):=by
 refine bu (zm hn (by omega)) (du (λ(k:Nat)=>D.int (k:Int)) g (UH m) λk hk=>?_) (by rw[Ur,Vi,c5];omega);rw[f_,h k (UP.mp hk)];rfl
end K1
namespace K1
open PySem L2 L3
section
open Classical
variable{bd:List Str}{W w:Nat}{f:Cell->Nat}
def eL(hw:Ways w)(hf:NumF bd W w f){i:Nat}(hi:i<(av bd W w).length):∃x,On bd.length W x/\f x=i:=by
 obtain⟨m,e1,e2⟩:=fe (Us hi);have hm:=mq e1;have ho:=cS hm;obtain⟨r,hr⟩:=qj hw hm;obtain⟨P,h1,h2⟩:=hf m ho;have h3:(av bd W w)[i]? =some (m::r):=by rw[Us hi,e2,hr]
 exact⟨m,ho,oy hw h1 h3 h2 Uv⟩
def yU(hf:NumF bd W w f){i:Nat}(h:∃x,On bd.length W x/\f x=i):i<(av bd W w).length:=by
 obtain⟨x,hx,rfl⟩:=h;exact hf.lt hx
def CQ(hf:NumF bd W w f){i j:Nat}(h:Ad bd.length W 4 f i j):i<(av bd W w).length/\j<(av bd W w).length:=by
 obtain⟨_,x,y,⟨hx,hy,_⟩,rfl,rfl⟩:=h;exact⟨hf.lt hx,hf.lt hy⟩
noncomputable def dN(E:Nat->Nat->Prop)(i j:Nat):Nat:=if h:∃m,Dr E i j m then X5 h else 0
def rW{E:Nat->Nat->Prop}(h:Dr E i j m):dN E i j=m:=by
 unfold dN;have q:∃m,Dr E i j m:=⟨m,h⟩
 rw[dif_pos q];exact(Xp q).one h
noncomputable def uc(E:Nat->Nat->Prop)(n i:Nat):List Nat:=(UH n).filter λj=>decide (E i j)
def eC{E:Nat->Nat->Prop}:j∈uc E n i↔j<n/\E i j:=by
 unfold uc;rw[V6,UP,abF]
def E3(n:Nat):(UH n).Pairwise (· < ·):=List.pairwise_lt_range
def gi(l:List Nat):List Int:=l.map λ(j:Nat)=>(j:Int)
def Ly{l:List Nat}(h:l.Pairwise (· < ·)):(gi l).Pairwise (· <= ·):=by
 unfold gi;rw[V_];exact h.imp λ{a b} q=>by omega
def ud{E:Nat->Nat->Prop}:(uc E n i).Pairwise (· < ·):=(E3 n).filter _
def Az{l:List Nat}(h:l.Pairwise (· < ·)):l.Nodup:=h.imp λ{a b} q=>by omega
def A6{l m:List Nat}(hl:l.Nodup)(hm:m.Pairwise (· < ·))(h:∀j,j∈l↔j∈m):cg (gi l)=gi m:=by
 have p:l.Perm m:=(W3 hl (Az hm)).mpr h;exact lx ((bJ _).trans (p.map _)) (fi _) (Ly hm)
def Cs{m:List Nat}(hm:m.Pairwise (· < ·)):cg (gi m)=gi m:=A6 (Az hm) hm λ_=>Yq
def pO(hg:Brd bd W)(hs:bd.length*W<64)(hw:Ways w)(hf:NumF bd W w f):∃l,NrS (λn=>∃x,On bd.length W x/\f x=n) (Ad bd.length W 4 f) l/\l.length=(av bd W w).length/\dQ [brd bd,iW w]=aa (kB (l.map cw))/\kZ [kB (l.map cw)]=aa (nI (av bd W w).length):=by
 obtain⟨l,hl,e1⟩:=gF (v:=4) hg hs hw (.inl rfl) hf;have h1:=AE hw hf hl;have h2:=bQ (U:=UH (av bd W w).length) hl.nd λn hn=>UP.mpr (yU hf ((hl.key n).mp hn));rw[Ur,Vi] at h2;have P3:l.length=(av bd W w).length:=by omega
 refine⟨l,hl,P3,?_,?_⟩
 ·exact aY (ak (cT ((aw (ds:=[brd bd]) rfl rfl).trans hg.nb)) (ak (cT ((aw (ds:=[iW w]) rfl rfl).trans hw.nw)) (aS ((aw (ds:=[brd bd, .int 4, .lst ((av bd W w).map cL)]) (aE rfl (aE rfl (aE ((aw (ds:=[brd bd,iW w]) rfl rfl).trans ((di hg hs hw).trans (by rw[gZ]))) rfl))) rfl).trans e1))))
 ·rw[uF,<-P3];show aa (D.int (((l.map (·.1)).map kN).length:Int))=_;rw[Ur,Ur];rfl
def wg:∀ks:List Nat,jO (ks.map kN)=some (gi ks)
 |[]=>rfl
 |k::ks=>by
  show (jO (ks.map kN)).map ((k:Int):: ·)=_;rw[wg ks];rfl
def k8(l:List Nat):(gi l).map D.int=l.map nI:=by unfold gi;rw[U0];rfl
def BY(hg:Brd bd W)(hs:bd.length*W<64)(hw:Ways w)(hf:NumF bd W w f){i:Nat}(hi:i<(av bd W w).length):dS [brd bd,iW w,nI i]=aa (.lst ((uc (Ad bd.length W 4 f) (av bd W w).length i).map nI)):=by
 obtain⟨l,hl,P3,em,el⟩:=pO hg hs hw hf;obtain⟨p,hp,rfl⟩:=UC.mp ((hl.key i).mpr (eL hw hf hi));have LM:=hl.nb p hp;have ou:=fJ (bd:=bd) (W:=W) (w:=w);obtain⟨d,d1,d2⟩:=D1.ix (ds:=l.map λp=>inD (p.2.map kN)) (by rw[Ur,Ur]) (UC.mpr ⟨p,hp,rfl⟩:p.1∈l.map (·.1));have ed:d=inD (p.2.map kN):=by
  have:∀(l:NT),(l.map (·.1)).Nodup->p∈l->(p.1,d)∈(l.map (·.1)).zip (l.map λp=>inD (p.2.map kN))->d=inD (p.2.map kN):=λl=>by
   induction l with
   |nil=>intro _ h;cases h
   |cons q l ih=>
    intro hn J3 hz;rw[Uz,Uz,VW] at hz;rw[Uz,Vk] at hn;rcases UD.mp hz with z | z
    ·have z1:p.1=q.1:=(Prod.mk.inj z).1;have z2:d=inD (q.2.map kN):=(Prod.mk.inj z).2;rcases UD.mp J3 with y | y
     ·rw[y];exact z2
     ·exact abE (UC.mpr ⟨p,y,z1⟩) hn.1
    ·rcases UD.mp J3 with y | y
     ·have:=(YA z).1;rw[y] at this;exact abE this hn.1
     ·exact ih hn.2 y z
  exact this l hl.nd hp d1
 subst ed;have Uo:=le64 LM.1 λm hm=>hl.hE p.1 m ((LM.2 m).mp hm);have hb:p.2.length<64:=by
  have:=bQ (U:=UH (av bd W w).length) LM.1 λm hm=>UP.mpr (CQ hf ((LM.2 m).mp hm)).2;rw[Vi] at this;omega
 refine aY (ak (ρ':=[fz (brd bd),fz (iW w),fz (nI p.1),fz (kB (l.map cw))]) ((aJ ((aw (ds:=[brd bd,iW w]) rfl rfl).trans em)).trans rfl) (ak (cT ((aw (ds:=[nI (av bd W w).length,nI p.1]) (aE ((a8 (xs:=[kB (l.map cw)]) (aE rfl rfl)).trans el) (aE rfl rfl)) rfl).trans (ik hi))) (aS ((a8 (xs:=[inD (p.2.map kN)]) (aE ((aH (x:=kB (l.map cw)) (y:=nI p.1) rfl rfl).trans (by rw[uF];exact d2)) rfl)).trans ?_))));show (match jO (p.2.map kN) with | some ns=>if ns.length<64 then aa (D.lst ((cg ns).map D.int)) else af | none=>af)=_;rw[wg];show (if (gi p.2).length<64 then aa (D.lst ((cg (gi p.2)).map D.int)) else af)=_;rw[abz (by unfold gi;rw[Ur];exact hb),A6 LM.1 ud λj=>?_,k8];rw[LM.2,eC];exact⟨λh=>⟨(CQ hf h).2,h⟩,λh=>h.2⟩
def Df(hw:Ways w)(hf:NumF bd W w f){i j:Nat}(hi:i<(av bd W w).length)(hj:j<(av bd W w).length):Dr (Ad bd.length W 4 f) i j (dN (Ad bd.length W 4 f) i j):=by
 obtain⟨x,hx,rfl⟩:=eL hw hf hi;obtain⟨y,hy,rfl⟩:=eL hw hf hj;have r:=qy (f:=f) (Iz (.inl rfl) hx hy).1;obtain⟨m,hm,h⟩:∃m,Rr (Ad bd.length W 4 f) (f x) m (f y)/\∀j,Rr (Ad bd.length W 4 f) (f x) j (f y)->m<=j:=by
  have:∀k,Rr (Ad bd.length W 4 f) (f x) k (f y)->∃m,Rr (Ad bd.length W 4 f) (f x) m (f y)/\∀j,Rr (Ad bd.length W 4 f) (f x) j (f y)->m<=j:=λk=>by
   induction k with
   |zero=>exact λh=>⟨0,h,λj _=>U3 _⟩
   |succ k ih=>
    intro h;by_cases q:Rr (Ad bd.length W 4 f) (f x) k (f y)
    ·exact ih q
    ·refine⟨k+1,h,λj hj=>?_⟩;apply byContradiction;intro z;exact q (hj.mono (by omega))
  exact this _ r
 rw[rW ⟨hm,h⟩];exact⟨hm,h⟩
def CY(hg:Brd bd W)(hs:bd.length*W<64)(hw:Ways w)(hf:NumF bd W w f){i j:Nat}(hi:i<(av bd W w).length)(hj:j<(av bd W w).length):cX [brd bd,iW w,nI i,nI j]=aa (nI (dN (Ad bd.length W 4 f) i j)):=by
 obtain⟨x,hx,rfl⟩:=eL hw hf hi;obtain⟨y,hy,rfl⟩:=eL hw hf hj;obtain⟨n,h1,h2⟩:=vA hg hs hw hf hx hy;rw[rW h1,h2]
end
section
open Classical
variable{bd:List Str}{W w:Nat}{f:Cell->Nat}
noncomputable def fO(E:Nat->Nat->Prop)(n i:Nat):List Nat:=(UH n).map (dN E i)
noncomputable def l7(E:Nat->Nat->Prop)(n:Nat):List Int:=(UH n).map λi=>eQ (gi (fO E n i))
def BV{a b:List Int}(ha:0<a.length)(h:∀x,x∈a↔x∈b):eQ a=eQ b:=by
 have hb:0<b.length:=by
  obtain⟨x,hx⟩:∃x,x∈a:=⟨a[0],VM ha⟩
  exact Ys ((h x).mp hx)
 obtain⟨a1,a2⟩:=gB ha;obtain⟨b1,b2⟩:=gB hb;exact YJ (b2 _ ((h _).mp a1)) (a2 _ ((h _).mpr b1))
def oC(l:List Nat):nums (l.map nI)=some (gi l):=by rw[<-k8];exact eM _
def Gi(hw:Ways w)(hf:NumF bd W w f){l:NT}(hl:NrS (λn=>∃x,On bd.length W x/\f x=n) (Ad bd.length W 4 f) l){i:Nat}(hi:i<(av bd W w).length):
 d1 sx δ ρ=aa (.int (eQ (gi (fO (Ad bd.length W 4 f) (av bd W w).length i))))\/δ ρ≠bF [kB (l.map cw),nI i]:=by
 by_cases hδ:δ ρ=bF [kB (l.map cw),nI i]
 ·refine .inl ?_;have hP:∀y,(∃x,On bd.length W x/\f x=y)->∀x,x∈q_ l y->∃z,On bd.length W z/\f z=x:=λy hy x hx=>by
   obtain⟨_,p,q,h1,_,h2⟩:=(hl.mem hy).mp hx;exact⟨q,h1.2.1,h2⟩
  have hE:∀y,(∃x,On bd.length W x/\f x=y)->∀x,x∈q_ l y↔Ad bd.length W 4 f y x:=λy hy x=>hl.mem hy;have jM:(l.map (·.1)).length<=64:=le64 hl.nd λn hn=>hl.hT n ((hl.key n).mp hn);have Mu:=eL hw hf hi;obtain⟨ks,vs,h1,h2,h3⟩:=pb (nb:=q_ l) D1 jM (λy hy x hx=>(hl.key x).mpr (hP y ((hl.key y).mp hy) x hx)) hl.near ((hl.key i).mpr Mu);have MH:∀m,m∈vs↔m∈fO (Ad bd.length W 4 f) (av bd W w).length i:=λm=>by
   unfold fO;rw[UC];constructor
   ·intro hm;obtain⟨k,hk,rfl⟩:=VL hm;have q0:k<ks.length:=by rw[h2.1];exact hk
    have hz:(ks[k],vs[k])∈ks.zip vs:=VS.mpr ⟨k,by rw[WE];omega,by rw[List.getElem_zip]⟩;have hd:=(Dg (P:=λy=>∃x,On bd.length W x/\f x=y) Mu hP hE).mp (h2.2 _ _ hz);obtain⟨j',JT⟩:=(h1 _).mp (VM q0);have:=(gH (P:=λy=>∃x,On bd.length W x/\f x=y) (x:=ks[k]) Mu hP hE).2 JT;exact⟨ks[k],UP.mpr (yU hf this),rW hd⟩
   ·rintro⟨j,hj,rfl⟩;have hj:=UP.mp hj;have hd:=Df hw hf hi hj;have mf:j∈ks:=(h1 _).mpr ⟨_,(gH (P:=λy=>∃x,On bd.length W x/\f x=y) Mu hP hE).1.mpr hd.1⟩;obtain⟨k,hk,rfl⟩:=VL mf;have q0:k<vs.length:=by rw[<-h2.1];exact hk
    have hz:(ks[k],vs[k])∈ks.zip vs:=VS.mpr ⟨k,by rw[WE];omega,by rw[List.getElem_zip]⟩;rw[rW ((Dg (P:=λy=>∃x,On bd.length W x/\f x=y) Mu hP hE).mp (h2.2 _ _ hz))];exact VM q0
  have P7:0<vs.length:=by
   rw[<-h2.1];exact Ys ((h1 i).mpr ⟨0,rfl⟩)
  show (δ ρ>>=sx)=_;rw[hδ,h3,au];show (match nums (vs.map nI) with | some ns=>if 0<ns.length then aa (D.int (eQ ns)) else af | none=>af)=_;rw[oC];show (if 0<(gi vs).length then aa (D.int (eQ (gi vs))) else af)=_;have hz:0<(gi vs).length:=by unfold gi;rw[Ur];exact P7
  rw[abz hz,BV hz λx=>?_];unfold gi;rw[UC,UC];exact⟨λ⟨m,a,b⟩=>⟨m,(MH m).mp a,b⟩,λ⟨m,a,b⟩=>⟨m,(MH m).mpr a,b⟩⟩
 ·exact .inr hδ
def GU{L:List Int}(hl:0<L.length)(h:ρ[i]? =some (fz (.lst (L.map D.int)))):dM se wb (dV i) (aC (dA k7 (aC (dV i) aN)) aN) ρ=aa (nI (L.idxOf (eR L))):=by
 show (dV i ρ>>=λd=>if se d then(aC (dA k7 (aC (dV i) aN)) aN ρ>>=λds=>wb d ds) else af)=_;rw[dw h,au,abz (show se (.lst (L.map D.int))=true from rfl),aE ((a8 (aE (dw h) rfl)).trans (GS hl)) rfl,au];show (match nums (L.map D.int) with | some ns=>if ns.contains (eR L) then aa (D.int (ns.idxOf (eR L))) else af | none=>af)=_;rw[eM];exact abz (by simpa using (gE hl).1)
noncomputable def k0(E:Nat->Nat->Prop)(n:Nat):Nat:=(l7 E n).idxOf (eR (l7 E n))
def yS(hg:Brd bd W)(hs:bd.length*W<64)(hw:Ways w)(hf:NumF bd W w f):iE [brd bd,iW w]=aa (nI (k0 (Ad bd.length W 4 f) (av bd W w).length))/\0<(av bd W w).length:=by
 obtain⟨l,hl,P3,em,el⟩:=pO hg hs hw hf;have ou:=fJ (bd:=bd) (W:=W) (w:=w);have hn:0<(av bd W w).length:=yU hf ⟨(0,0),⟨hg.r1,hg.w1⟩,rfl⟩ |>λh=>by omega
 have BC:0<(l7 (Ad bd.length W 4 f) (av bd W w).length).length:=by unfold l7;rw[Ur,Vi];exact hn
 refine⟨aY (ak (ρ':=[fz (brd bd),fz (iW w),fz (kB (l.map cw)),none]) ((aJ ((aw (ds:=[brd bd,iW w]) rfl rfl).trans em)).trans rfl) (ak (ρ':=[fz (brd bd),fz (iW w),fz (kB (l.map cw)),fz (.lst ((l7 (Ad bd.length W 4 f) (av bd W w).length).map D.int))]) ((aJ ((bu (zm ((a8 (xs:=[kB (l.map cw)]) (aE rfl rfl)).trans el) (by omega)) (du (λ(k:Nat)=>D.int (k:Int)) (λk=> .int (eQ (gi (fO (Ad bd.length W 4 f) (av bd W w).length k)))) (UH (av bd W w).length) λk hk=>?_) (by rw[Ur,Vi,c5];omega)).trans (by unfold l7;rw[U0];rfl))).trans rfl) (aS ?_))),hn⟩
 ·rw[f_,(Gi (δ:=ay 2 bF (aC (dV 3) (aC (dV 0) aN))) hw hf hl (UP.mp hk)).resolve_right λz=>z (aw (ds:=[kB (l.map cw),nI k]) rfl rfl)];rfl
 ·exact GU BC rfl
end
structure Iso (a a':List Str) (W W' w:Nat) (φ:Cell->Cell):Prop where
 on:∀x,On a.length W x->On a'.length W' (φ x)
 nx:∀x y,On a.length W x->On a.length W y->iq w x y=true->iq w (φ x) (φ y)=true
 lt:∀x,On a.length W x->lt a' (φ x)=lt a x
section
open Classical
variable{a a':List Str}{W W' w:Nat}{φ ψ:Cell->Cell}
def Iso.rb(h:Iso a a' W W' w φ)(hw:Ways w){x:Cell}(hx:On a.length W x):∀{j:Nat}{y:Cell},Rb (ba a W w) x j y->Rb (ba a' W' w) (φ x) j (φ y)
 |0,y,q=>abG φ q
 |j+1,y,q=>q.elim (λq=> .inl (h.rb hw hx q)) λ⟨z,q1,q2⟩=>by
  have hz:=AZ hw hx q1;have hy:=(fc hw).mp q2;exact .inr ⟨φ z,h.rb hw hx q1,(fc hw).mpr ⟨h.on y hy.1,h.nx z y hz hy.1 hy.2.1,by rw[h.lt y hy.1,h.lt z hz,hy.2.2]⟩⟩
def Iso.cn(h:Iso a a' W W' w φ)(hw:Ways w){x y:Cell}(hx:On a.length W x)(q:Cn a W w x y):Cn a' W' w (φ x) (φ y):=let ⟨j,q⟩:=q;⟨j,h.rb hw hx q⟩
structure Iso2 (a a':List Str) (W W' w:Nat) (φ ψ:Cell->Cell):Prop where
 f:Iso a a' W W' w φ
 g:Iso a' a W' W w ψ
 fg:∀x,On a.length W x->ψ (φ x)=x
 gf:∀x,On a'.length W' x->φ (ψ x)=x
def Iso2.symm(h:Iso2 a a' W W' w φ ψ):Iso2 a' a W' W w ψ φ:=⟨h.g,h.f,h.gf,h.fg⟩
def Dc{V i j:Nat}(hi:i<V)(hj:j<V):bB (V - 1 - i) (V - 1 - j)=bB i j:=by unfold bB;omega
end
end K1
namespace K1
open PySem L2 L3 HT
abbrev Ug:List Nat:=[97,98,99,100,101,102]
def zN{bd:List Str}{i j:Nat}(hi:i<bd.length)(hj:j<bd[i].cps.toList.length):at2 bd i j=bd[i].cps.toList[j]:=by
 unfold at2 ch;rw[Uy (l:=bd),Us hi,abd,Uy,Us hj,abd]
def JF{α:Type}{l:List α}{i:Nat}{x:α}(h:l[i]? =some x)(hi:i<l.length):l[i]=x:=by
 rw[Us hi] at h;exact U9 h
def eK(bd:List Str):List Str:=bd.map uK
def ua{bd:List Str}{W:Nat}(hg:Brd bd W):fC [brd bd]=aa (brd (eK bd)):=by
 refine aY (ak (cT ((aw (ds:=[brd bd]) rfl rfl).trans hg.nb)) (aS ?_));refine(a8 (xs:=[.lst ((eK bd).map D.str)]) (aE (bu (TM (i:=0) rfl) (ys:=(eK bd).map D.str) ?_ (by unfold eK;rw[Ur,Ur,c5];have:=hg.r8;omega)) rfl)).trans rfl;unfold eK;rw[U0];have:∀l:List Str,bY (dP 0 bw (Js (dV 0) (d1 Kt (dC (.int 1)))) [fz (brd bd)]) (l.map D.str)=aa (l.map (D.str∘uK)):=by
  intro l;induction l with
  |nil=>rfl
  |cons r l ih=>rw[Uz,dq,f_,ih];rfl
 exact this bd
def BW{bd:List Str}{W:Nat}(hG:Good bd W):Good (eK bd) W:=by
 refine⟨by unfold eK;rw[Ur];exact hG.r1,by unfold eK;rw[Ur];exact hG.r5,hG.w1,hG.w5,λr hr=>?_⟩;obtain⟨q,hq,rfl⟩:=UC.mp hr;refine⟨by rw[qw];exact(hG.rows q hq).len,λc hc=>(hG.rows q hq).let' c ?_⟩;unfold uK at hc;simpa using hc
def Aw{bd:List Str}{W i j:Nat}(hr:∀r∈bd,r.length=W)(hi:i<bd.length)(hj:j<W):at2 (eK bd) i j=at2 bd i (W - 1 - j):=by
 have hw:bd[i].cps.toList.length=W:=hr _ (VM hi);have h1:i<(eK bd).length:=by unfold eK;rw[Ur];exact hi
 have e0:(eK bd)[i]? =some (uK bd[i]):=by
  unfold eK;rw[UG,Us hi];rfl
 have e1:(eK bd)[i].cps.toList=bd[i].cps.toList.reverse:=by
  rw[JF e0 h1];unfold uK;simp
 have h2:j<(eK bd)[i].cps.toList.length:=by rw[e1,YR,hw];exact hj
 rw[zN h1 h2,zN hi (by rw[hw];omega)];have:(eK bd)[i].cps.toList[j]? =bd[i].cps.toList[W - 1 - j]? :=by rw[e1,List.getElem?_reverse (by rw[hw];exact hj),hw]
 rw[Us h2,Us (by rw[hw];omega)] at this;exact U9 this
end K1
namespace K1
open PySem L2 L3
section
open Classical
variable{a a':List Str}{W W' w:Nat}{φ ψ:Cell->Cell}{f f':Cell->Nat}
def Rr.over{E E':Nat->Nat->Prop}{π:Nat->Nat}(h:∀n m,E n m->E' (π n) (π m)){i:Nat}:∀{k:Nat}{j:Nat},Rr E i k j->Rr E' (π i) k (π j)
 |0,_,r=>abG π r
 |_+1,_, .inl r=> .inl (Rr.over h r)
 |_+1,_, .inr ⟨y,r,e⟩=> .inr ⟨π y,Rr.over h r,h _ _ e⟩
noncomputable def AO(R W:Nat)(f f':Cell->Nat)(φ:Cell->Cell)(i:Nat):Nat:=if h:∃x,On R W x/\f x=i then f' (φ (X5 h)) else 0
def xi(h:Iso2 a a' W W' w φ ψ)(hw:Ways w)(hf:NumF a W w f)(ig:NumF a' W' w f'){x:Cell}(hx:On a.length W x):AO a.length W f f' φ (f x)=f' (φ x):=by
 have q:∃y,On a.length W y/\f y=f x:=⟨x,hx,rfl⟩
 unfold AO;rw[dif_pos q];obtain⟨h1,h2⟩:=Xp q;have c:=(hf.cn hw h1 hx).mp h2;exact(ig.cn hw (h.f.on _ h1) (h.f.on _ hx)).mpr (h.f.cn hw h1 c)
def IW(h:Iso2 a a' W W' w φ ψ)(h4:Iso2 a a' W W' 4 φ ψ)(hw:Ways w)(hf:NumF a W w f)(ig:NumF a' W' w f')(n m:Nat)(e:Ad a.length W 4 f n m):Ad a'.length W' 4 f' (AO a.length W f f' φ n) (AO a.length W f f' φ m):=by
 obtain⟨fI,x,y,⟨hx,hy,hn⟩,rfl,rfl⟩:=e;rw[xi h hw hf ig hx,xi h hw hf ig hy];refine⟨λz=>fI ?_,φ x,φ y,⟨h.f.on _ hx,h.f.on _ hy,h4.f.nx _ _ hx hy hn⟩,rfl,rfl⟩;have c:=h.g.cn hw (h.f.on _ hx) ((ig.cn hw (h.f.on _ hx) (h.f.on _ hy)).mp z);rw[h.fg _ hx,h.fg _ hy] at c;exact(hf.cn hw hx hy).mpr c
def g6(h:Iso2 a a' W W' w φ ψ)(hw:Ways w)(hf:NumF a W w f)(ig:NumF a' W' w f'){i:Nat}(hi:i<(av a W w).length):AO a'.length W' f' f ψ (AO a.length W f f' φ i)=i:=by
 obtain⟨x,hx,rfl⟩:=eL hw hf hi;rw[xi h hw hf ig hx,xi h.symm hw ig hf (h.f.on _ hx),h.fg _ hx]
def EM(h:Iso2 a a' W W' w φ ψ)(hw:Ways w)(hf:NumF a W w f)(ig:NumF a' W' w f'){i:Nat}(hi:i<(av a W w).length):AO a.length W f f' φ i<(av a' W' w).length:=by
 obtain⟨x,hx,rfl⟩:=eL hw hf hi;rw[xi h hw hf ig hx];exact ig.lt (h.f.on _ hx)
def Hw(h:Iso2 a a' W W' w φ ψ)(h4:Iso2 a a' W W' 4 φ ψ)(hw:Ways w)(hf:NumF a W w f)(ig:NumF a' W' w f'){i j:Nat}(hi:i<(av a W w).length)(hj:j<(av a W w).length):dN (Ad a'.length W' 4 f') (AO a.length W f f' φ i) (AO a.length W f f' φ j)=dN (Ad a.length W 4 f) i j:=by
 have hd:=Df hw hf hi hj;refine rW ⟨hd.1.over (IW h h4 hw hf ig),λk r=>?_⟩;have r:=r.over (IW h.symm h4.symm hw ig hf);rw[g6 h hw hf ig hi,g6 h hw hf ig hj] at r;exact hd.2 k r
def IX(h:Iso2 a a' W W' w φ ψ)(hw:Ways w)(hf:NumF a W w f)(ig:NumF a' W' w f'):(av a W w).length<=(av a' W' w).length:=by
 have:=bQ (l:=(UH (av a W w).length).map (AO a.length W f f' φ)) (U:=UH (av a' W' w).length) (t9 XF λi hi j hj e=>by
  rw[<-g6 h hw hf ig (UP.mp hi),e,g6 h hw hf ig (UP.mp hj)]) λk hk=>by
  obtain⟨i,hi,rfl⟩:=UC.mp hk;exact UP.mpr (EM h hw hf ig (UP.mp hi))
 simpa using this
def K4(h:Iso2 a a' W W' w φ ψ)(hw:Ways w)(hf:NumF a W w f)(ig:NumF a' W' w f'):(av a' W' w).length=(av a W w).length:=Xo (IX h.symm hw ig hf) (IX h hw hf ig)
def Hy(h:Iso2 a a' W W' w φ ψ)(hw:Ways w)(hf:NumF a W w f)(ig:NumF a' W' w f')(hn:(av a' W' w).length=(av a W w).length):((UH (av a W w).length).map (AO a.length W f f' φ)).Perm (UH (av a W w).length):=by
 refine(W3 (t9 XF λi hi j hj e=>?_) XF).mpr λk=>?_
 ·rw[<-g6 h hw hf ig (UP.mp hi),e,g6 h hw hf ig (UP.mp hj)]
 ·rw[UC,UP];constructor
  ·rintro⟨i,hi,rfl⟩;rw[<-hn];exact EM h hw hf ig (UP.mp hi)
  ·intro hk;have q0:k<(av a' W' w).length:=by omega
   exact⟨AO a'.length W' f' f ψ k,UP.mpr (EM h.symm hw ig hf q0),g6 h.symm hw ig hf q0⟩
noncomputable def ye(E:Nat->Nat->Prop)(n:Nat):List (List Int):=(UH n).map λi=>cg (gi (fO E n i))
def Cv{a b:List Int}(h:a.Perm b):cg a=cg b:=lx ((bJ a).trans (h.trans (bJ b).symm)) (fi a) (fi b)
def Iso2.fars(h:Iso2 a a' W W' w φ ψ)(h4:Iso2 a a' W W' 4 φ ψ)(hw:Ways w)(hf:NumF a W w f)(ig:NumF a' W' w f')(hn:(av a' W' w).length=(av a W w).length):sortI (ye (Ad a'.length W' 4 f') (av a W w).length)=sortI (ye (Ad a.length W 4 f) (av a W w).length):=by
 have p:=Hy h hw hf ig hn;refine xJ (((p.map λi=>cg (gi (fO (Ad a'.length W' 4 f') (av a W w).length i))).symm.trans (.of_eq ?_)));rw[U0];unfold ye;refine Vp λi hi=>?_;have hi:=UP.mp hi;show cg (gi (fO _ _ (AO a.length W f f' φ i)))=_;refine Cv (List.Perm.map _ ?_);unfold fO;refine((p.map (dN (Ad a'.length W' 4 f') (AO a.length W f f' φ i))).symm.trans (.of_eq ?_));rw[U0];exact Vp λj hj=>Hw h h4 hw hf ig hi (UP.mp hj)
def IL(V:Nat)(x:Cell):Cell:=(x.1,V - 1 - x.2)
def Nj{V:Nat}{x:Cell}(h:x.2<V):IL V (IL V x)=x:=Yl rfl (by show V - 1 - (V - 1 - x.2)=x.2;omega)
def iP(bd:List Str):(eK bd).length=bd.length:=Ur ..
def Kd(hr:∀r∈a,r.length=W):Iso2 a (eK a) W W w (IL W) (IL W) where
 f:=⟨λx h=>⟨by rw[iP];exact h.1,by show W - 1 - x.2<W;have:=h.2;omega⟩,λx y hx hy h=>by unfold iq IL at*;simp only[Dc hx.2 hy.2];exact h,λx h=>by
  have h2:=h.2;show at2 (eK a) x.1 (W - 1 - x.2)=at2 a x.1 x.2;rw[Aw hr h.1 (by omega)];congr 1;omega⟩
 g:=⟨λx h=>by
  rw[iP] at h;exact⟨h.1,by show W - 1 - x.2<W;have:=h.2;omega⟩,λx y hx hy h=>by unfold iq IL at*;simp only[Dc hx.2 hy.2];exact h,λx h=>by
  rw[iP] at h;exact(Aw hr h.1 h.2).symm⟩
 fg:=λx h=>Nj h.2
 gf:=λx h=>Nj h.2
end
end K1
namespace K1
open PySem PySem.Spec L2 L3
open PyProof.Rows hiding St
section
open Classical
variable{bd:List Str}{W w:Nat}{f:Cell->Nat}
def tO(i:Nat)(l:List Nat)(neg:Bool):jK neg (nI i) (.lst (l.map nI))=aa (.bl (if neg then !decide (i∈l) else decide (i∈l))):=by
 show (match nums (l.map nI) with | some ns=>aa (D.bl (if neg then !ns.contains (i:Int) else ns.contains (i:Int))) | none=>af)=_;rw[oC];have:(gi l).contains (i:Int)=decide (i∈l):=by
  rw[XT,aaF,abF];unfold gi;rw[UC];exact⟨λ⟨j,h1,h2⟩=>by rw[show i=j by omega];exact h1,λh=>⟨i,h,rfl⟩⟩
 show aa (D.bl (if neg then !(gi l).contains (i:Int) else(gi l).contains (i:Int)))=_;rw[this]
def z6(a b:Nat):md (nI a) (nI b)=aa (.bl (decide (a=b))):=(Gf _ _).trans (by rw[show ((a:Int)==(b:Int))=decide (a=b) by rw[XT];simp;omega])
def Nm(a b:Nat):qX (nI a) (nI b)=aa (.bl (!decide (a=b))):=by
 show (match jH 6 (nI a) (nI b) with | some b=>aa (D.bl (!b)) | none=>af)=_;rw[show jH 6 (nI a) (nI b)=some (decide (a=b)) from(oj 6 _ _).trans (by rw[show ((a:Int)==(b:Int))=decide (a=b) by rw[XT];simp;omega])]
def HQ(l:List Nat):qX (.lst (l.map nI)) (.lst (l.map nI))=aa (.bl false):=by
 rw[<-k8];exact ne_self ((jw 5 (gi l) (gi l)).trans (by simp))
noncomputable def Ea(E:Nat->Nat->Prop)(n:Nat):D:= .lst ((UH n).map λi=> .lst ((uc E n i).map nI))
noncomputable def j9(E:Nat->Nat->Prop)(n:Nat):D:= .lst ((UH n).map λi=> .lst ((fO E n i).map nI))
def tV{n i:Nat}(g:Nat->D)(h:i<n):dg (.lst ((UH n).map g)) (nI i)=aa (g i):=tT (by rw[UG,Xd h];rfl)
def tU{E:Nat->Nat->Prop}{n i j:Nat}(hi:i<n)(hj:j<n)(h1:δ1 ρ=aa (j9 E n))(h2:δ2 ρ=aa (nI i))(h3:δ3 ρ=aa (nI j)):d2 dg (d2 dg δ1 δ2) δ3 ρ=aa (nI (dN E i j)):=
 (aH ((aH h1 h2).trans (tV _ hi)) h3).trans (tT (by unfold fO;rw[UG,UG,Xd hj];rfl))
def GY{E:Nat->Nat->Prop}{n:Nat}{ks:List Cell}(hn:ks.Nodup)(hs:∀i j,E i j->E j i)(hi:∀i,¬E i i)(cI:∀i j,E i j->i<n/\j<n)(hk:∀k,k∈ks↔k.1<k.2/\E k.1 k.2):((UH n).map λi=>(uc E n i).length).sum=2*ks.length:=by
 let L:List Cell:=(UH n).flatMap λi=>(uc E n i).map λj=>(i,j)
 have e1:L.length=((UH n).map λi=>(uc E n i).length).sum:=by
  show ((UH n).flatMap λi=>(uc E n i).map λj=>((i,j):Cell)).length=_;rw[YS];congr 1;refine Vp λi _=>?_;rw[Ur]
 have hm:∀k:Cell,k∈L↔E k.1 k.2:=λk=>by
  show k∈(UH n).flatMap _↔_;rw[XG];constructor
  ·rintro⟨i,_,h⟩;obtain⟨j,hj,rfl⟩:=UC.mp h;exact(eC.mp hj).2
  ·intro h;obtain⟨a,b⟩:=cI _ _ h;exact⟨k.1,UP.mpr a,UC.mpr ⟨k.2,eC.mpr ⟨b,h⟩,rfl⟩⟩
 have hL:L.Nodup:=by
  refine aaE.mpr ⟨λi _=>t9 (Az ud) λa _ b _ e=>abG Prod.snd e,?_⟩;exact List.nodup_range.imp λ{i j} iu x hx y hy e=>by
   obtain⟨_,_,rfl⟩:=UC.mp hx;obtain⟨_,_,rfl⟩:=UC.mp hy;exact iu (abG Prod.fst e)
 have p:L.Perm (ks++ks.map λk=>((k.2,k.1):Cell)):=by
  refine(W3 hL (VA.mpr ⟨hn,t9 hn λa _ b _ e=>Yl (abG Prod.snd e) (abG Prod.fst e),λx hx y hy e=>?_⟩)).mpr λk=>?_
  ·obtain⟨z,hz,rfl⟩:=UC.mp hy;have h1:=((hk x).mp hx).1;have h2:=((hk z).mp hz).1;rw[e] at h1;have h1:z.2<z.1:=h1;omega
  ·rw[hm,Vd,UC];constructor
   ·intro h;rcases Nat.lt_trichotomy k.1 k.2 with q | q | q
    ·exact .inl ((hk k).mpr ⟨q,h⟩)
    ·rw[q] at h;exact abE h (hi _)
    ·exact .inr ⟨(k.2,k.1),(hk _).mpr ⟨q,hs _ _ h⟩,rfl⟩
   ·rintro(h | ⟨z,hz,rfl⟩)
    ·exact((hk k).mp h).2
    ·exact hs _ _ ((hk z).mp hz).2
 rw[<-e1,p.length_eq,UN,Ur];omega
def Ls{f:Cell->Nat}{k:Cell}:O1 bd.length W f k↔k.1<k.2/\Ad bd.length W 4 f k.1 k.2:=by
 constructor
 ·rintro⟨x,y,hx,hy,h1,h2,rfl⟩;exact⟨h2,UW h2,x,y,⟨hx,hy,h1⟩,rfl,rfl⟩
 ·rintro⟨h2,_,x,y,⟨hx,hy,h1⟩,e1,e2⟩;exact⟨x,y,hx,hy,h1,by rw[e1,e2];exact h2,Yl e1.symm e2.symm⟩
def Jr{E:Nat->Nat->Prop}(hi:∀i,¬E i i)(h:Dr E i j m):m=1↔E i j:=by
 constructor
 ·rintro rfl;rcases h.1 with q | ⟨y,q,e⟩
  ·have:=h.2 0 q;omega
  ·have q:y=i:=q;rw[<-q];exact e
 ·intro e;have h1:=h.2 1 (.inr ⟨i,rfl,e⟩);have:m≠0:=λz=>by
   have:=h.zero.mp z;rw[this] at e;exact hi _ e
  omega
def Aj{x:Int}:∀{L:List Int}{k:Nat}(hk:k<L.length),L[k]=x->L.idxOf x<=k
 |a::r,0,_,e=>by
  have e:a=x:=e;rw[List.idxOf_cons,e];simp
 |a::r,k+1,hk,e=>by
  have:=Aj (L:=r) (k:=k) (Yx hk) e;rw[List.idxOf_cons];cases a==x
  ·simpa using this
  ·simp
def GZ{k:Int}(h:δ ρ=aa (.int k)):oS δ ρ=aa (some k):=by
 unfold oS;rw[h];rfl
def uR{L:List Int}{k:Nat}(h0:ρ[i]? =some (fz (.lst (L.map D.int))))(hk:k<=L.length)(hδ:δ ρ=aa (nI k)):Oo (dV i) oN (oS δ) ρ=aa (.lst ((L.take k).map D.int)):=by
 have e1:HT.sIx L.length L.length (some (k:Int))=k:=by rw[HT.sIx_nat];omega
 have e3:HT.sIx L.length 0 none=0:=rfl;unfold Oo;rw[dw h0,au,show oN ρ=aa none from rfl,au,GZ (k:=(k:Int)) hδ,au];show aa (D.lst (cutD (L.map D.int) none (some (k:Int))))=_;unfold L3.cutD;rw[Ur,e1,e3,YM,Zv,<-List.map_take]
def HV{l:List Nat}(hl:l.length<64)(hu:l.Pairwise (· < ·))(h:δ ρ=aa (.lst (l.map nI))):dA lP (aC δ aN) ρ=aa (.lst (l.map nI)):=by
 refine(a8 (aE h rfl)).trans ?_;show (match nums (l.map nI) with | some ns=>if ns.length<64 then aa (D.lst ((cg ns).map D.int)) else af | none=>af)=_;rw[oC];show (if (gi l).length<64 then aa (D.lst ((cg (gi l)).map D.int)) else af)=_;rw[abz (by unfold gi;rw[Ur];exact hl),Cs hu,k8]
def Fi{l:List Nat}(hl:l.length<64)(h:δ ρ=aa (.lst (l.map nI))):dA lP (aC δ aN) ρ=aa (gA (cg (gi l))):=by
 refine(a8 (aE h rfl)).trans ?_;show (match nums (l.map nI) with | some ns=>if ns.length<64 then aa (D.lst ((cg ns).map D.int)) else af | none=>af)=_;rw[oC];show (if (gi l).length<64 then aa (D.lst ((cg (gi l)).map D.int)) else af)=_;rw[abz (by unfold gi;rw[Ur];exact hl)];rfl
def mX:∀ks:List (List Int),kc (ks.map gA)=some ks
 |[]=>rfl
 |k::ks=>by
  rw[Uz];unfold kc;rw[mX ks,show II (gA k)=some k from eM k]
def oz{E:Nat->Nat->Prop}{n:Nat}:(ye E n).length=n/\∀k∈ye E n,k.length=n:=by
 unfold ye;refine⟨by rw[Ur,Vi],λk hk=>?_⟩;obtain⟨i,_,rfl⟩:=UC.mp hk;rw[(bJ _).length_eq];unfold gi fO;rw[Ur,Ur,Vi]
def qF{E:Nat->Nat->Prop}{n:Nat}(hn:n<64)(h:ρ[i]? =some (fz (j9 E n))):dA xO (aC (aV 0 (cW (dV i)) bw (dA lP (aC (dV 0) aN))) aN) ρ=aa (.lst ((sortI (ye E n)).map gA)):=by
 have cm:aV 0 (cW (dV i)) bw (dA lP (aC (dV 0) aN)) ρ=aa (.lst ((ye E n).map gA)):=by
  refine bu (BI (dw h)) ((du (λk=>D.lst ((fO E n k).map nI)) (λk=>gA (cg (gi (fO E n k)))) (UH n) λk _=>?_).trans (by unfold ye;rw[U0];rfl)) (by rw[Ur,oz.1,c5];omega);rw[f_,Fi (l:=fO E n k) (by unfold fO;rw[Ur,Vi];exact hn) rfl];rfl
 refine(a8 (aE cm rfl)).trans ?_;show (match kc ((ye E n).map gA) with | some ks=>if Nv ks then aa (D.lst ((sortI ks).map gA)) else af | none=>af)=_;rw[mX];refine abz ?_;unfold Nv;rw[UY];refine⟨abB (by rw[oz.1];exact hn),UT.mpr λk hk=>abB ?_⟩;rw[oz.2 k hk];have hd:(ye E n).headD []∈ye E n:=by
  cases hs:ye E n with
  |nil=>rw[hs] at hk;cases hk
  |cons a r=>exact Uv ..
 exact(oz.2 _ hd).symm
def Di:CN 1 gA:=λk x y=>by
 rw[Nat.add_comm];exact(jw k x y).trans (by congr)
def Cq(l:List (List Int)):md (.lst (l.map gA)) (.lst (l.map gA))=aa (.bl true):=by
 show (match jH 6 (.lst (l.map gA)) (.lst (l.map gA)) with | some b=>aa (D.bl b) | none=>af)=_;rw[show jH 6 (.lst (l.map gA)) (.lst (l.map gA))=some true from((Gd Di) 4 l l).trans (by simp)]
noncomputable abbrev zj(s:D)(bd:List Str)(w:Nat)(E:Nat->Nat->Prop)(n:Nat)(ks:List Cell)(c6 c7 c8 c9 Sb Sd Se Sf Sg:Option Sl):bC:=[fz s,fz (brd bd),fz (iW w),fz (nI n),fz (Ea E n),fz (cL ks),c6,c7,c8,c9,Sb,Sd,Se,Sf,Sg]
def GP{E:Nat->Nat->Prop}{n i:Nat}:(uc E n i).length<=n:=by
 have:=bQ (U:=UH n) (Az (ud (E:=E) (n:=n) (i:=i))) λj hj=>UP.mpr (eC.mp hj).1;simpa using this
def Nh{E:Nat->Nat->Prop}{n:Nat}{ks:List Cell}(hn:n<64)(hs:∀i j,E i j->E j i)(hi:∀i,¬E i i)(hk:∀k,k∈ks↔k.1<k.2/\E k.1 k.2):jq (zj s bd w E n ks none none none none none none none none none)=aa (.nx (zj s bd w E n ks none none none none none none none none none)):=by
 refine dX (eV (zm rfl (by omega)) (jy (λk:Nat=>D.int (k:Int)) _ (UH n) λi qZ=>⟨_,rfl,?_⟩));have mf:=UP.mp qZ;have hl:=GP (E:=E) (n:=n) (i:=i);have er:∀{ρ:bC}{a b:Nat},ρ[a]? =some (fz (Ea E n))->ρ[b]? =some (fz (nI i))->d2 dg (dV a) (dV b) ρ=aa (.lst ((uc E n i).map nI)):=λh1 h2=>(aH (dw h1) (dw h2)).trans (tV _ mf);refine(a7 (ρ':=zj s bd w E n ks (fz (nI i)) none none none none none none none none) ?_).trans rfl;refine ak (d3 (zT (p:=false) (q:=false) (fS ((aH (er rfl rfl) (HV (by omega) ud (er rfl rfl))).trans (HQ _))) (fS ((aH (x:=nI i) rfl (er rfl rfl)).trans ((tO _ _ _).trans ?_)))) rfl) ?_
 ·rw[abA (by decide),abD λq=>hi i (eC.mp q).2]
 refine ak (d3 (fS ((aH (rV nI (BI (er rfl rfl)) λj hj=>?_) rfl).trans AA)) rfl) ?_
 ·obtain⟨FL,he⟩:=eC.mp hj;refine(fS ((aH (x:=cD (if j<i then j else i,if i<j then j else i)) (y:=cL ks) ((a8 (aE ((a8 (aE (x:=nI i) rfl (aE (x:=nI j) rfl rfl))).trans (show _=aa (nI (if j<i then j else i)) from ?_)) (aE ((a8 (aE (x:=nI i) rfl (aE (x:=nI j) rfl rfl))).trans (show _=aa (nI (if i<j then j else i)) from ?_)) rfl))).trans rfl) rfl).trans GH)).trans ?_
  ·show aa (D.int (if (j:Int)<(i:Int) then(j:Int) else(i:Int)))=_;by_cases q:j<i
   ·rw[abz (by omega),abz q];rfl
   ·rw[abA (by omega),abA q];rfl
  ·show aa (D.int (if (j:Int)>(i:Int) then(j:Int) else(i:Int)))=_;by_cases q:i<j
   ·rw[abz (by omega),abz q];rfl
   ·rw[abA (by omega),abA q];rfl
  ·rw[abz rfl,abB ((hk _).mpr ?_)]
   ·rfl
   ·have fI:i≠j:=λz=>hi i (by rw[z] at he⊢;exact he);by_cases q:j<i
    ·rw[abz q,abA (by omega)];exact⟨q,hs _ _ he⟩
    ·rw[abA q,abz (by omega)];exact⟨by show i<j;omega,he⟩
 ·refine d3 (fS ((aH (rV nI (BI (er rfl rfl)) λj hj=>?_) rfl).trans AA)) rfl;obtain⟨FL,he⟩:=eC.mp hj;refine(fS ((aH (x:=nI i) rfl ((aH (x:=Ea E n) (y:=nI j) rfl rfl).trans (tV _ FL))).trans (tO _ _ _))).trans ?_;rw[abz rfl,abB (eC.mpr ⟨mf,hs _ _ he⟩)];rfl
def Ni{E:Nat->Nat->Prop}{n:Nat}{ks:List Cell}(hn:n<64)(hs:∀i j,E i j->E j i)(hi:∀i,¬E i i)(hd:∀i j,i<n->j<n->Dr E i j (dN E i j)):jr (zj s bd w E n ks none (fz (j9 E n)) none none none none none none none)=aa (.nx (zj s bd w E n ks none (fz (j9 E n)) none none none none none none none)):=by
 refine dX (eV (zm rfl (by omega)) (jy (λk:Nat=>D.int (k:Int)) _ (UH n) λi qZ=>⟨_,rfl,?_⟩));have mf:=UP.mp qZ;refine(a7 (ρ':=zj s bd w E n ks none (fz (j9 E n)) (fz (nI i)) none none none none none none) (eV (zm rfl (by omega)) (jy (λk:Nat=>D.int (k:Int)) _ (UH n) λj JT=>⟨_,rfl,?_⟩))).trans rfl;have FL:=UP.mp JT;have O9:=hd i j mf FL;have Sj:=hd j i FL mf;refine(a7 (ρ':=zj s bd w E n ks none (fz (j9 E n)) (fz (nI i)) (fz (nI j)) (fz (nI (dN E i j))) none none none none) ?_).trans rfl;refine ak ((aJ (tU mf FL rfl rfl rfl)).trans rfl) ?_;refine ak (d3 (zT (p:=false) (q:=false) (fS ((aH (x:=nI (dN E i j)) rfl (tU FL mf rfl rfl rfl)).trans ((Nm _ _).trans ?_))) (fS ((aH ((aH (x:=nI (dN E i j)) (y:=nI 0) rfl rfl).trans (z6 _ _)) ((aH (x:=nI i) (y:=nI j) rfl rfl).trans (z6 _ _))).trans ((IM _ _).trans ?_)))) rfl) ?_
 ·rw[abB (rW (Sj.symm hs))];rfl
 ·rw[show decide (dN E i j=0)=decide (i=j) from abI.mpr (O9.zero.trans ⟨Eq.symm,Eq.symm⟩)];simp
 refine ak (d3 (fS ((aH ((aH (x:=nI (dN E i j)) (y:=nI 1) rfl rfl).trans (z6 _ _)) ((aH (x:=nI j) rfl ((aH (x:=Ea E n) (y:=nI i) rfl rfl).trans (tV _ mf))).trans (tO _ _ _))).trans ((IM _ _).trans ?_))) rfl) ?_
 ·rw[abA (by decide),show decide (dN E i j=1)=decide (j∈uc E n i) from abI.mpr ((Jr hi O9).trans ⟨λh=>eC.mpr ⟨FL,h⟩,λh=>(eC.mp h).2⟩)];simp
 have cm:∀ρ:bC,ρ=zj s bd w E n ks none (fz (j9 E n)) (fz (nI i)) (fz (nI j)) (fz (nI (dN E i j))) none none none none->aV 0 (λρ=>(aC (dV 3) aN) ρ>>=c0) bw (d2 dU (d2 dg (d2 dg (dV 8) (dV 9)) (dV 0)) (d2 dg (d2 dg (dV 8) (dV 0)) (dV 10))) ρ=aa (.lst (((UH n).map λk=>((dN E i k:Int)+(dN E k j:Int))).map D.int)):=λρ hρ=>by
  subst hρ;refine(Au n (by omega) rfl (g:=λk=> .int ((dN E i k:Int)+(dN E k j:Int))) λk hk=>(aH (tU mf hk rfl rfl rfl) (tU hk FL rfl rfl rfl)).trans rfl).trans (by rw[U0];rfl)
 have BC:0<((UH n).map λk=>((dN E i k:Int)+(dN E k j:Int))).length:=by rw[Ur,Vi];omega
 obtain⟨m1,_⟩:=gE BC;obtain⟨k,hk,ek⟩:=UC.mp m1;have hk:=UP.mp hk;have Up:=O9.2 _ ((hd i k mf hk).1.trans (hd k j hk FL).1);refine d3 (fS ((aH (x:=nI (dN E i j)) (y:= .int (eR ((UH n).map λk=>((dN E i k:Int)+(dN E k j:Int))))) rfl ((a8 (aE (cm _ rfl) rfl)).trans (GS BC))).trans (abG (λb=>aa (D.bl b)) (abD ?_)))) rfl;rw[<-ek];omega
end
def D5(ns:List Int)(hl:ns.length<=63):jx [.scr ns]=aa (.bl true):=by
 obtain⟨bd,W,hG,h3,w3,eb⟩:=yi ns hl 0 3 (by decide) (by decide);have hg:=hG.brd;have h9:bd.length*W<=9:=YQ h3 w3;have hs:bd.length*W<64:=by omega
 refine aY ?_;refine ak ((aJ ((aw rfl rfl).trans eb)).trans rfl) ?_;obtain⟨v,hv,ev⟩:=gr ns hl 60 2 (by decide);obtain⟨w,hw,ew⟩:∃w,Ways w/\dg (.lst [.int 4, .int 8]) (.int (v:Int))=aa (iW w):=by
  match v,hv with
  |0,_=>exact⟨4, .inl rfl,rfl⟩
  |1,_=>exact⟨8, .inr rfl,rfl⟩
 refine ak ((aJ ((aH rfl ((aw rfl rfl).trans ev)).trans ew)).trans rfl) ?_;refine ak ((aJ ((aw rfl rfl).trans (kS hg hs hw))).trans rfl) ?_;obtain⟨f,ks,hf,hr,hk,et⟩:=lR hg (by omega) hw;have LL:=RiseC.nodup hr;have OA:=A8 LL λk h=>(hk k).mp h;have ou:=fJ (bd:=bd) (W:=W) (w:=w);generalize hE:Ad bd.length W 4 f=E;generalize yF:(av bd W w).length=n at ou;have yH:∀i j,E i j->E j i:=λi j h=>by rw[<-hE] at h⊢;exact h.symm
 have qZ:∀i,¬E i i:=λi h=>by rw[<-hE] at h;exact h.1 rfl
 have q0:∀k,k∈ks↔k.1<k.2/\E k.1 k.2:=λk=>by rw[hk,Ls,hE]
 have cI:∀i j,E i j->i<n/\j<n:=λi j h=>by rw[<-hE] at h;rw[<-yF];exact CQ hf h
 have hd:∀i j,i<n->j<n->Dr E i j (dN E i j):=λi j h1 h2=>by rw[<-hE];exact Df hw hf (yF▸h1) (yF▸h2)
 refine ak (ρ':=[fz (.scr ns),fz (brd bd),fz (iW w),fz (nI n),fz (Ea E n),none,none,none,none,none,none,none,none,none,none]) ((aJ (Au n (by omega) rfl (g:=λi=> .lst ((uc E n i).map nI)) λk hk=>(aw (ds:=[brd bd,iW w,nI k]) rfl rfl).trans ((BY hg hs hw hf (yF▸hk)).trans (by rw[hE,yF])))).trans rfl) ?_;refine ak (ρ':=zj (.scr ns) bd w E n ks none none none none none none none none none) ((aJ (bu (BI ((aw rfl rfl).trans et)) ((du (λk=> .tup [cD k, .int (R3 bd.length W f k:Int)]) cD ks λk _=>rfl)) (by rw[Ur,c5];omega))).trans rfl) ?_;refine ak (Nh (by omega) yH qZ q0) ?_;refine ak (d3 (fS ((aH (x:= .int ((2*ks.length:Nat):Int)) ((HZ (l:=(UH n).map λi=>((uc E n i).length:Int)) (bu (BI rfl) ((du (λi=>D.lst ((uc E n i).map nI)) (λi=> .int ((uc E n i).length:Int)) (UH n) λi _=>?_).trans (by rw[U0];rfl)) (by rw[Ur,Ur,Vi,c5];omega))).trans ?_) ((aH (x:= .int 2) (y:= .int (ks.length:Int)) rfl ((a8 rfl).trans (Kr _))).trans (fF (.inl ⟨by decide,by decide⟩)))).trans ?_)) rfl) ?_
 ·rw[f_,show dA cF (aC (dV 0) aN) _=aa (.int ((uc E n i).length:Int)) from(a8 (xs:=[.lst ((uc E n i).map nI)]) rfl).trans (by show aa (D.int (((uc E n i).map nI).length:Int))=_;rw[Ur])];rfl
 ·rw[<-GY LL yH qZ cI q0];congr 2;induction UH n with
  |nil=>rfl
  |cons x l ih=>rw[Uz,Xj,ih,Uz,Xj];omega
 ·rw[show ((2*ks.length:Nat):Int)=2*(ks.length:Int) by omega];exact ne_self ((oj 6 _ _).trans (by simp))
 have Rf:∀{Il:List Str}{W':Nat}{f':Cell->Nat}{E':Nat->Nat->Prop}{ρ:bC}{δa δb δn δm:DE},Brd Il W'->Il.length*W'<64->NumF Il W' w f'->Ad Il.length W' 4 f'=E'->(av Il W' w).length=n->δn ρ=aa (nI n)->(∀x,δm (x::ρ)=aa (nI n))->(∀x y,δa (y::x::ρ)=aa (brd Il))->(∀x y,δb (y::x::ρ)=aa (iW w))->
  aV 0 (λρ=>(aC δn aN) ρ>>=c0) bw (aV 0 (λρ=>(aC δm aN) ρ>>=c0) bw (ay 4 cX (aC δa (aC δb (aC (dV 1) (aC (dV 0) aN)))))) ρ=aa (j9 E' n):=λ{Il W' f' E' ρ δa δb δn δm} DG BD ig Sv OD h1 h2 h3 h4=>by
  refine Au n (by omega) h1 (g:=λi=> .lst ((fO E' n i).map nI)) λi hi=>?_;refine(Au n (by omega) (h2 _) (g:=λj=>nI (dN E' i j)) λj hj=>?_).trans (by unfold fO;rw[U0];rfl);exact(aw (ds:=[brd Il,iW w,nI i,nI j]) (aE (h3 _ _) (aE (h4 _ _) (aE rfl (aE rfl rfl)))) rfl).trans ((CY DG BD hw ig (by rw[OD];exact hi) (by rw[OD];exact hj)).trans (by rw[Sv]))
 refine ak (ρ':=zj (.scr ns) bd w E n ks none (fz (j9 E n)) none none none none none none none) ((aJ (Rf hg hs hf hE yF rfl (λ_=>rfl) (λ_ _=>rfl) (λ_ _=>rfl))).trans rfl) ?_;refine ak (Ni (by omega) yH qZ hd) ?_;obtain⟨em,P2⟩:=yS hg hs hw hf;rw[hE,yF] at em;rw[yF] at P2;refine ak (ρ':=zj (.scr ns) bd w E n ks none (fz (j9 E n)) none none none (fz (nI (k0 E n))) none none none) ((aJ ((aw rfl rfl).trans em)).trans rfl) ?_;have BC:0<(l7 E n).length:=by unfold l7;rw[Ur,Vi];exact P2
 refine ak (ρ':=zj (.scr ns) bd w E n ks none (fz (j9 E n)) none none none (fz (nI (k0 E n))) (fz (.lst ((l7 E n).map D.int))) none none) ((aJ (bu (BI rfl) ((du (λi=>D.lst ((fO E n i).map nI)) (λi=> .int (eQ (gi (fO E n i)))) (UH n) λi _=>?_).trans (by unfold l7;rw[U0];rfl)) (by rw[Ur];unfold l7;rw[Ur,Vi,c5];omega))).trans rfl) ?_
 ·rw[f_,show dA wu (aC (dV 0) aN) _=aa (.int (eQ (gi (fO E n i)))) from(a8 (xs:=[.lst ((fO E n i).map nI)]) rfl).trans (by rw[<-k8];exact Qz (by unfold gi fO;rw[Ur,Ur,Vi];exact P2))];rfl
 obtain⟨m1,m2⟩:=gE BC;have RF:k0 E n<(l7 E n).length:=aak.mpr m1;have S9:(l7 E n)[k0 E n]=eR (l7 E n):=abh RF;refine ak (d3 (zT (p:=false) (q:=false) (fS ((aH (x:= .int (eR (l7 E n))) ((aH (x:= .lst ((l7 E n).map D.int)) (y:=nI (k0 E n)) rfl rfl).trans (tT (by rw[UG,Us RF,S9];rfl))) ((a8 rfl).trans (GS BC))).trans (ne_self ((oj 6 _ _).trans (by simp))))) (fS ((aH ((a8 rfl).trans (GS BC)) (uR (k:=k0 E n) rfl (by omega) rfl)).trans ?_))) rfl) ?_
 ·show (match nums (((l7 E n).take (k0 E n)).map D.int) with | some ns=>aa (D.bl (if false then !ns.contains (eR (l7 E n)) else ns.contains (eR (l7 E n)))) | none=>af)=_;rw[eM];show aa (D.bl (((l7 E n).take (k0 E n)).contains (eR (l7 E n))))=_;rw[show ((l7 E n).take (k0 E n)).contains (eR (l7 E n))=false from ?_];rw[Bool.eq_false_iff];intro z;obtain⟨k,hk,e⟩:=VL (aaF.mp z);rw[List.getElem_take] at e;rw[Xa] at hk;have:=Aj (L:=l7 E n) (x:=eR (l7 E n)) (k:=k) (by omega) e;have:k0 E n<=k:=this;omega
 refine ak (ρ':=zj (.scr ns) bd w E n ks none (fz (j9 E n)) none none none (fz (nI (k0 E n))) (fz (.lst ((l7 E n).map D.int))) (fz (brd (eK bd))) none) ((aJ ((aw rfl rfl).trans (ua hg))).trans rfl) ?_;refine ak (ρ':=zj (.scr ns) bd w E n ks none (fz (j9 E n)) none none none (fz (nI (k0 E n))) (fz (.lst ((l7 E n).map D.int))) (fz (brd (eK bd))) (fz (.lst ((sortI (ye E n)).map gA)))) ((aJ (qF (by omega) rfl)).trans rfl) ?_;have Sw:=BW hG;have DG:=Sw.brd;have BD:(eK bd).length*W<64:=by rw[iP];exact hs
 obtain⟨f',ks',ig,_,_,_⟩:=lR DG (by rw[iP];omega) hw;have iso:∀{w:Nat},Iso2 bd (eK bd) W W w (IL W) (IL W):=Kd λr hr=>(hg.rows r hr).len;have P3:=K4 iso hw hf ig;rw[yF] at P3;refine ak (ρ':=zj (.scr ns) bd w E n ks none (fz (j9 E n)) none (fz (j9 (Ad (eK bd).length W 4 f') n)) none (fz (nI (k0 E n))) (fz (.lst ((l7 E n).map D.int))) (fz (brd (eK bd))) (fz (.lst ((sortI (ye E n)).map gA)))) ((aJ (Rf DG BD ig rfl P3 rfl (λ_=>rfl) (λ_ _=>rfl) (λ_ _=>rfl))).trans rfl) ?_;have al:=Iso2.fars iso iso hw hf ig (by rw[P3,yF]);rw[yF,hE] at al;refine aS (F4 ((aH (x:=nI n) (y:=nI n) ((aw rfl rfl).trans ((kS DG BD hw).trans (by rw[P3];rfl))) rfl).trans ((z6 _ _).trans (by rw[abB rfl]))) ((aH (y:= .lst ((sortI (ye E n)).map gA)) (qF (E:=Ad (eK bd).length W 4 f') (n:=n) (by omega) rfl) rfl).trans (by rw[al];exact Cq _)))
def DF(K:UJ)(x:Str)(s:Stmt):Prop:=∃(f:Addr) (oc:Value) (od an:Option Addr) (sl:Array (Option Value)) (kV dc pm cd ct:Value),Vy K U4 x=some (some (.ref f))/\K.lookup f=some ⟨oc,od, .func (Wr x x (eB s) (aO s) (ah s) .none kV dc pm an cd ct),sl⟩/\Xr K cd x=true/\WJ K (.ref f)=true
def DF.mk{K:UJ}{x:Str}{s:Stmt}{f:Addr}{oc:Value}{od an:Option Addr}{sl:Array (Option Value)}{kV dc pm cd ct:Value}(a:Vy K U4 x=some (some (.ref f)))(l:K.lookup f=some ⟨oc,od, .func (Wr x x (eB s) (aO s) (ah s) .none kV dc pm an cd ct),sl⟩)(c:Xr K cd x=true)(k:WJ K (.ref f)=true):DF K x s:=⟨f,oc,od,an,sl,kV,dc,pm,cd,ct,a,l,c,k⟩
def DF.at{K:UJ}{x:Str}{s:Stmt}{h:Heap}{mg:Str->Option Value}(X:K.In h)(G:h.Ns U4 mg)(d:DF K x s):∃f,bD K mg x s f:=by
 obtain⟨f,oc,od,an,sl,kV,dc,pm,cd,ct,a,l,c,k⟩:=d;exact⟨f,Yb X G a,_,Dp (st:=s) l c k⟩
def all_mk{P:Vf}{w:World}{K:UJ}{h:Heap}{mg:Str->Option Value}{fa:Addr}(X:K.In h)(G:h.Ns U4 mg)(SO:mg "law"=some (.ref fa))
 {j8:Addr}{y8 oU:Option Addr}{zv:Array (Option Value)}{y7 pJ o9 qp j4 o8:Value}
 {Cy:Tok}
 {xQ:Tok}
 {qI:Tok}
 (d_is_whole:DF K "is_whole" kq)
 (d_is_letter:DF K "is_letter" jd)
 (d_cells_of_row:DF K "cells_of_row" d4)
 (d_letter_of:DF K "letter_of" jf)
 (d_are_next:DF K "are_next" kl)
 (d_keyed:DF K "keyed" uM)
 (d_numbers_of:DF K "numbers_of" hJ)
 (d_distances:DF K "distances" jc)
 (d_law_cell:DF K "_law_cell" kr)
 (d_is_row:DF K "is_row" lM)
 (d_need_ways:DF K "need_ways" jg)
 (d_all_cells:DF K "all_cells" jb)
 (d_next_cells:DF K "next_cells" g_)
 (d_need_number:DF K "need_number" gh)
 (d_law_drawn:DF K "_law_drawn" je)
 (d_is_board:DF K "is_board" fP)
 (d_like_cells:DF K "like_cells" e9)
 (d_near_numbers:DF K "near_numbers" fQ)
 (d_shared_sides:DF K "shared_sides" fR)
 (d_law_board:DF K "_law_board" f7)
 (d_need_board:DF K "need_board" g8)
 (d_steps_back:DF K "steps_back" hX)
 (d_mirrored:DF K "mirrored" g7)
 (d_all_patches:DF K "all_patches" gg)
 (d_how_many:DF K "how_many" km)
 (d_touching:DF K "touching" ku)
 (d_map_of:DF K "map_of" qz)
 (d_neighbours:DF K "neighbours" g9)
 (d_borders:DF K "borders" mK)
 (d_middle:DF K "middle" lN)
 (a_law_k73:Vy K U4 "law"=some (some (.ref j8)))(l_law_k73:K.lookup j8=some ⟨y7,y8, .func (Wr "law" "law" (eB ai) (aO ai) (ah ai) .none pJ o9 qp oU j4 o8),zv⟩)(c_law_k73:Xr K j4 "law"=true)(k_law_k73:WJ K (.ref j8)=true)
 (z_len:Vy K U4 "len"=some none)
 (z_isinstance:Vy K U4 "isinstance"=some none)
 (z_all:Vy K U4 "all"=some none)
 (z_abs:Vy K U4 "abs"=some none)
 (z_max:Vy K U4 "max"=some none)
 (z_min:Vy K U4 "min"=some none)
 (z_sum:Vy K U4 "sum"=some none)
 (z_range:Vy K U4 "range"=some none)
 (z_str:Vy K U4 "str"=some none)
 (z_int:Vy K U4 "int"=some none)
 (z_bool:Vy K U4 "bool"=some none)
 (z_tuple:Vy K U4 "tuple"=some none)
 (z_sorted:Vy K U4 "sorted"=some none)
 (z_enumerate:Vy K U4 "enumerate"=some none)
 (y_LETTERS:Vy K U4 "LETTERS"=some (some (.str "abcdef" Cy)))
 (y_MOST_ROWS:Vy K U4 "MOST_ROWS"=some (some (.int 8 xQ)))
 (y_MOST_COLUMNS:Vy K U4 "MOST_COLUMNS"=some (some (.int 8 qI))):
 ∃(cv:Nat->Value) (fd:Xm),(∀(s:Ux) (u:Value),abl s fd ⟨[u],[]⟩ [("_law_script",u)])/\∀base:Heap,K.In base->base.Ns U4 mg->FnOk P w K mg base (jJ P w cv) 8 fa fd ["_law_script"] (LR K cv 1 jx):=by
 have ea:=SO.symm.trans (Yb X G a_law_k73);cases ea;refine⟨λ_=> .none,Wr "law" "law" (eB ai) (aO ai) (ah ai) .none pJ o9 qp oU j4 o8,λs v=> .of_eq rfl,λbase KB GB=>?_⟩;have B:Bl K mg base (λ_=> .none) (λ_=>U4) U4:=⟨Vo X G z_len,Vo X G z_isinstance,Vo X G z_all,Vo X G z_abs,Vo X G z_max,Vo X G z_min,Vo X G z_sum,Vo X G z_range,Vo X G z_str,Vo X G z_int,Vo X G z_bool,Vo X G z_tuple,Vo X G z_sorted,Vo X G z_enumerate,⟨_,Yb X G y_LETTERS⟩,⟨_,Yb X G y_MOST_ROWS⟩,⟨_,Yb X G y_MOST_COLUMNS⟩⟩
 have pZ:=(DF.at X G d_is_whole).elim λ_ t=>wV (P:=P) (w:=w) B t;have wK:=(DF.at X G d_is_letter).elim λ_ t=>um (P:=P) (w:=w) B t;have pY:=(DF.at X G d_cells_of_row).elim λ_ t=>nZ (P:=P) (w:=w) B t;have wM:=(DF.at X G d_letter_of).elim λ_ t=>ur (P:=P) (w:=w) B t;have yV:=(DF.at X G d_are_next).elim λ_ t=>wQ (P:=P) (w:=w) B t;have G0:=(DF.at X G d_keyed).elim λ_ t=>Ep (P:=P) (w:=w) B t;have lr:=(DF.at X G d_numbers_of).elim λ_ t=>rj (P:=P) (w:=w) B t;have nq:=(DF.at X G d_distances).elim λ_ t=>uk (P:=P) (w:=w) B t;have yY:=(DF.at X G d_law_cell).elim λ_ t=>wW (P:=P) (w:=w) B t;have En:=(DF.at X G d_is_row).elim λ_ t=>B2 (P:=P) (w:=w) B wK t;have iU:=(DF.at X G d_need_ways).elim λ_ t=>uu (P:=P) (w:=w) B pZ t;have iT:=(DF.at X G d_all_cells).elim λ_ t=>uh (P:=P) (w:=w) B pY t;have gX:=(DF.at X G d_next_cells).elim λ_ t=>ri (P:=P) (w:=w) B yV t;have jS:=(DF.at X G d_need_number).elim λ_ t=>qa (P:=P) (w:=w) B pZ t;have nu:=(DF.at X G d_law_drawn).elim λ_ t=>uq (P:=P) (w:=w) B yY t;have yX:=(DF.at X G d_is_board).elim λ_ t=>wU (P:=P) (w:=w) B En t;have ue:=(DF.at X G d_like_cells).elim λ_ t=>ra (P:=P) (w:=w) B wM gX t;have p8:=(DF.at X G d_near_numbers).elim λ_ t=>n0 (P:=P) (w:=w) B lr iT gX t;have p9:=(DF.at X G d_shared_sides).elim λ_ t=>n9 (P:=P) (w:=w) B lr iT gX t;have wL:=(DF.at X G d_law_board).elim λ_ t=>uo (P:=P) (w:=w) B nu t;have eX:=(DF.at X G d_need_board).elim λ_ t=>rf (P:=P) (w:=w) B yX t;have ug:=(DF.at X G d_steps_back).elim λ_ t=>rk (P:=P) (w:=w) B ue t;have yZ:=(DF.at X G d_mirrored).elim λ_ t=>wX (P:=P) (w:=w) B eX t;have gc:=(DF.at X G d_all_patches).elim λ_ t=>p_ (P:=P) (w:=w) B iT ug G0 t;have yW:=(DF.at X G d_how_many).elim λ_ t=>wR (P:=P) (w:=w) B eX iU gc t;have y6:=(DF.at X G d_touching).elim λ_ t=>wY (P:=P) (w:=w) B eX iU p9 gc t;have p0:=(DF.at X G d_map_of).elim λ_ t=>B3 (P:=P) (w:=w) B eX iU p8 gc t;have uf:=(DF.at X G d_neighbours).elim λ_ t=>rh (P:=P) (w:=w) B p0 jS t;have B0:=(DF.at X G d_borders).elim λ_ t=>y9 (P:=P) (w:=w) B p0 jS nq t;have Eo:=(DF.at X G d_middle).elim λ_ t=>B4 (P:=P) (w:=w) B p0 nq t;exact wN B wL yW Eo yZ nu uf y6 B0 (Dp (st:=ai) l_law_k73 c_law_k73 k_law_k73)
end K1
open PySem PySem.W PyProof.Rows
theorem PySem.Challenge.cw_cellpatches_k73_whole_maps_holds : PySem.Challenge.rw_cellpatches_k73_whole_maps.Holds := by
 w_on;refine holds_law (by kernel_rfl) λT3=>?_
 refine holds_open (q:=K1.xS) (loose:=[]) (Xt:=λs=>xlAt K1.xS [] s&&recOk (RowW.records (OpenRow.toRowW _)) s) (XP:=XL K1.xS []) (Yf:=Hook.obs (kHook K1.pA K1.pz (λ_=>by kernel_rfl))) (Ya:=Hook.val (kHook K1.pA K1.pz (λ_=>by kernel_rfl))) (YP:=Hook.says (kHook K1.pA K1.pz (λ_=>by kernel_rfl))) (N:=3816) ?hl (Hook.of (kHook K1.pA K1.pz (λ_=>by kernel_rfl))) (Hook.keeps (kHook K1.pA K1.pz (λ_=>by kernel_rfl))) (λs e=>xl_of s (WC.mp e).1) XL.keeps (by rfl) (by rfl) (by rfl) (λs e=>recFacts_of (WC.mp e).2) (by rfl) (by first | assumption | decide+kernel) (by decide+kernel) ⟨rfl,rfl,rfl,rfl,rfl,by decide+kernel⟩ ?hw ?hc
 case hl=>exact K1.MC
 (case hw=>w_witness2)
 k_fill
 refine L3.Og (l:=PySem.Challenge.rw_cellpatches_k73_whole_maps) (k:=8) (n:=63) (x:="_law_script") (g:=K1.jx) rfl (by decide) rfl ⟨rfl,by decide,by decide⟩ (λw h Y=>PySem.W.kIn_of Y) K1.D5 ?F
 case F=>
  intro w mg fa h KX G JW;refine' K1.all_mk KX G JW ?d_is_whole ?d_is_letter ?d_cells_of_row ?d_letter_of ?d_are_next ?d_keyed ?d_numbers_of ?d_distances ?d_law_cell ?d_is_row ?d_need_ways ?d_all_cells ?d_next_cells ?d_need_number ?d_law_drawn ?d_is_board ?d_like_cells ?d_near_numbers ?d_shared_sides ?d_law_board ?d_need_board ?d_steps_back ?d_mirrored ?d_all_patches ?d_how_many ?d_touching ?d_map_of ?d_neighbours ?d_borders ?d_middle ?a_law_k73 ?l_law_k73 ?c_law_k73 ?k_law_k73 ?z_len ?z_isinstance ?z_all ?z_abs ?z_max ?z_min ?z_sum ?z_range ?z_str ?z_int ?z_bool ?z_tuple ?z_sorted ?z_enumerate ?y_LETTERS ?y_MOST_ROWS ?y_MOST_COLUMNS
  any_goals (refine' K1.DF.mk ?a ?l ?c ?k;(case a=>k_is);(case l=>k_is);(case c=>k_is);(case k=>k_is))
  any_goals first | k_is | kit_is | k_exc | rfl
