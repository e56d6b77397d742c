import PyProof.Rows.All
import KE.KDictSum
import KE.KSortTup
import KE.KStateDown
import KE.RegKIsAll
import Lean
import PySem.Challenge.RW_cellpatches_k82_whole_back
open PySem renaming wpAny_bind->Td,Shared->Tp,starEach->Tq,wpAny_pure->Tu,sizeLine->TK,mainGlobals->TN,Program->T3,Around->Uu,bootBuiltins->Uw,keywordEach->Ux,compareOp->Uy,behindInMarks->Uz,attributeBase->UJ,backTo->UM,wpAny_mono->UO,mem_of_lookup->UY,wpAny_newObj_type->U3,sysModules->U9,wpAny_truthy_bool->Vc,wpAny_dictEntries->Vd,backToKw->Vg,Keyword->Vo,wpAny_typeNameOfWhole_keyiter->Vt,wpAny_call_entry->Vu,FuncData->Vz,wpAny_passesOwn->VA,foldedSetIterable->VF,swapsWith->VL,wpAny_typeNameOf_keyiter->VQ,wpAny_holding->VT,wpAny_getItem_str_slice->VU,wpAny_callSpecial?_slot->VW,tupleKind->VX,getMethod->Wc,binaryOp->Wk,wpAny_dictEpoch->Wu,sliceBounds->Wv,sizeLine_eq->Ww,importedModules->Wx,wpAny_Call_Name_kw->WI,bindArgs->WJ,NameKind->WK,wpAny_comprehension_free->WT,typeIs_str->WU,DictEntry->WW,storedH->WZ,standAt->W0,codeAny->W2,callWith->W3,wpAny_execs_nil->Xk,post_val_or_str->Xl,letOwnedTupleGo->Xm,tupleKind_room_in1->XO,treeTable->XQ,swapsWithSole->XR,dictSetHashed->XU,Paired->XZ,wpAny_assign_Name->X_,callerA->Yb,wpAny_typeOf->Yi,rawInt->Yj,codeAny_mono->Yk,IsPart->Yp,noFill_tuple_add->Ys,size_of_entries->YA,getItem->YB,Within->YC,PassesOwn->YD,IsRangeIter->YG,recursionLimit->YL,pyNext->YV,entryOfKey->YW,builtinsNs->YX,Params->YZ,valueAt->Y4,seq_tuple_add->Y5,notedBy->Y6,compEnvC->Y7,OsState->Y9,wpAny_pyNext_range_end->Zd,wpAny_pyIter_rangeiter->Ze,wpAny_Call_method_late->Zf,codeAny_compStart_list->Zh
open List renaming length_map->Te,mem_cons_of_mem->Tf,getElem?_eq_getElem->Tg,mem_cons_self->Th,length_cons->Tn,getElem?_eq_some_iff->To,map_cons->Ts,length_append->Tt,size_toArray->Tv,getD_eq_getElem?_getD->Tw,getElem?_map->Tx,mem_cons->Tz,range->TB,getElem?_append_left->TF,replicate->TH,mem_append_right->TL,mem_singleton->TQ,getElem?_append_right->TR,mem_of_getElem?->TU,mem_map->TV,getElem?_set_self->TY,getElem?_cons_succ->T4,getElem?_set_ne->T5,map_map->T7,append_nil->T_,mem_append->Ud,getElem?_cons_zero->Ue,nodup_cons->Ul,getElem?_replicate->Um,range'->Uq,nil_append->UA,mem_filter->UE,all_eq_true->UG,nodup_append->UI,mem_range->UP,pairwise_cons->UQ,map_append->UR,Nodup->US,lookup_cons->UT,length_take->UU,map_congr_left->UZ,length_range->U0,length_replicate->U1,length_filter_le->U2,toArray->U_,getElem?_range->Vb,mem_append_left->Vj,length_nil->Vk,flatMap_cons->Vl,getElem_map->Vp,range_succ_eq_map->Vr,pairwise_iff_getElem->VC,drop_eq_getElem_cons->VD,range'_succ->VG,cons_append->VH,map_nil->VJ,sum_cons->VN,find?_cons->VO,getElem?_eq_none->V0,filter_cons->V4,ext_getElem->V5,countP_cons->V6,mem_iff_getElem->V7,any_cons->V_,all_cons->Wa,range_succ->Wf,lookup->Wg,zip_cons_cons->Wm,set_cons_succ->Wn,all_map->Wo,nodup_nil->Ws,pairwise_map->WD,append_assoc->WE,length_eq_zero_iff->WL,drop_length->WQ,forIn_cons->WY,range_eq_range'->W_,drop_zero->Xc,getElem_of_mem->Xg,filterMap_cons->Xh,set_cons_zero->Xv,length_range'->Xx,getElem_range->Xy,length_drop->XM,getElem_mem->XN,countP_eq_length_filter->X0,of_mem_zip->X4,length_zip->X5,foldl_cons->X6,filter_map->X7,getElem?_zip_eq_some->Yo,length_erase_of_mem->Yv,getElem?_take_of_lt->Yw,map_take->Yx,take_of_length_le->YF,mem_iff_getElem?->YJ,pairwise_append->YT,mem_of_mem_take->YU,length_pos_iff->Y1,length_flatMap->Y2,mem_filterMap->Zb,countP_congr->Zl
open PySem.W renaming Frag->Ti,mg_none_of->Ug,nsIn->Ui,fnOf->Uj,keepIn->Uk,findIn->Uo,kia_one->UN,emptyDict->UW,codeIn->U8,instObj->Vi,mg_of->Vv,isFn->VR,plainGet->WC,methodCall_KW->WM,makesIn->WN,lookIn->WX,plainGet_of->W5,callWith_K->Xb,methodObj->Xn,hasDictIn->Xo,takerIn->XH,kitOne->XX,cellsFrom_some->Ym,plainOver->YN,kitx_list->YO,kitx_dict->YQ,handedIn->YY
open PySem.Heap renaming get?_push_of_some->Tj,lt_size->TJ,get?_push_size->TM,SameBut->Vw,get?_update_self->V1,get?_none_of_le->Xa,size_push->Xd
open Nat renaming le_refl->Tr,ne_of_lt->T1,le_trans->T2,lt_of_lt_of_le->T8,zero_le->Ur,lt_irrefl->Uv,lt_trans->UK,le_of_lt->U6,lt_succ_self->VI,lt_of_le_of_lt->VP,ne_of_gt->V2,zero_add->Wr,mul_le_mul->WA,ble->WO,le_of_ble_eq_true->W6,le_antisymm->Yd,succ->YE,div_div_eq_div_mul->YI,sub_zero->YR,le_of_eq->YS,mul_le_mul_right->Y0,add_right_comm->Zj
open PySem.Str renaming ofString->TC
open Array renaming length_toList->TZ,getElem?_toList->VZ,getElem?_eq_getElem->Wq,append_assoc->Xr,isEmpty_iff->Zc
open Bool renaming false_ne_true->T6,false_eq_true->Uc,and_eq_true->Uh,and_eq_true_iff->UC,not_false->Xf,true_and->Xz,and_true->Yy
open Option renaming map_eq_some_iff->T9,isSome_iff_exists->U4,isSome_map->Xu,getD_some->Y_,getD_none->Za
open PySem.Value renaming ref->Ua,none->UX,bool->V8,int->We,str->XW,type->Yl,float->YM
open Option.some renaming inj->Ub
open PySem.Heap.SameBut renaming update->Us,refl->Yq
open PySem.PassesOwn renaming never->Ut
open ForInStep renaming yield->UB
open PySem.Data renaming fields->UH,func->VE,dict->Wh
open PySem.FuncBody renaming stmts->UL
open PySem.Builtin.Str renaming occurrences->U7
open False renaming elim->Va
open PyProof.Rows renaming slot_tuple_getitem->Ve,callWith_type1->Vn,envOfC->VB,seqObj->VY,IntsAre->WB,kindOf->W9,AllBare->Xs,subscriptTail_builtinR->Zg
open True renaming intro->Vf
open Ne renaming symm->Vh
open PySem.Paired renaming length->Vm
open PySem.Obj renaming mapSeq->Vq,data_mapDictKeys->V9,isFreed_of_dict->Xp,data_mapFields->Zi
open PySem.Builtin.Slice renaming slicePlaces->Vs,sliceAdjust->V3,sliceApplied->Xj
open PySem.F renaming slot_dict_keyiterator_next->Vx,plainAttrs_str->VM,args_tuple_add_2->Wl,plainAttrs_list->Wy,entry_tuple_add->Wz,slot_tuple_add->WH,type_list_append->X1,slot_list_append->X2,slot_dict_update->X3,args_dict_keyiterator_next_1->X8,entry_dict_keyiterator_next->Yh
open PySem.Builtin.Tuple renaming tupleExact->Vy,tupleItemsOf->Xi,tupleHashOf->Xq
open PUnit renaming unit->VS
open PySem.Builtin.List renaming listTooLong->Wb
open PySem.Txt renaming replace->Wi,rjustF->WG,slice_le->W4
open PySem.Calls renaming spliced_cons->Wj,callWith_builtin->WR,evalArgs_plain->W8,spliced_nil->XB,Name_function_global->X9,Constant_str->Y3
open PySem.Builtin.Dict renaming showsAll->Wt,entriesForEmpty->Xe,updateFrom->XD,mergeDict->XJ
open PySem.Builtin.Dict_items renaming ownsTuple->WS
open List.Pairwise renaming imp->WV,nil->Ye
open Int.ofNat renaming inj->W7
open Int renaming emod_lt_of_pos->XA,toNat_natCast->XI,emod_nonneg->Yg
open PySem.Builtin.Range renaming rangeSize->XC
open Sum renaming inl->XG,inr->Yc
open Prod renaming ext->XY
open PyProof renaming noPylong_small->Yn
open Classical renaming not_forall->Yr,not_imp->YH
open PySem.SeqAt.EqAt renaming str_int->Yt,int_str->Yu
open PySem.Around renaming under->Yz
open PySem.Code renaming isFrame->YK
open PySem.StrLaws renaming occBody->Y8
open PySem.NameKind renaming free->Zk
open Function renaming comp->Zm
set_option maxHeartbeats 0
set_option compiler.extract_closed false
noncomputable section
set_option Elab.async false
set_option linter.all false
set_option maxRecDepth 100000
abbrev Zn:=@if_pos
abbrev Zo:=@if_neg
abbrev Zp:=@absurd
abbrev Zq:=@decide_eq_true
abbrev Zr:=@decide_eq_false
abbrev Zs:=@decide_eq_true_eq
abbrev Zt:=@of_decide_eq_true
abbrev Zu:=@beq_eq_false_iff_ne
abbrev Zv:=@congrArg
namespace L2
open PySem
def aS(s:Stmt):Arguments:=match s with
 | .FunctionDef _ a _ _ _ _ _ _ _ _=>a
 |_=>{posonlyargs:=[],args:=[],vararg:=none,kwonlyargs:=[],kw_defaults:=[],kwarg:=none,defaults:=[]}
def aB(s:Stmt):List Stmt:=match s with
 | .FunctionDef _ _ b _ _ _ _ _ _ _=>b
 |_=>[]
def ag(s:Stmt):Scope:=match s with
 | .FunctionDef _ _ _ _ _ _ sc _ _ _=>sc
 |_=>{kind:= .function,names:=[],isGenerator:=false,isCoroutine:=false}
end L2
namespace L3
open PySem
def aD:Stmt->List Stmt
 | .ClassDef _ _ _ b _ _ _ _ _ _ _=>b
 |_=>[]
end L3
namespace K1
open PySem PySem.Spec
def top(i:Nat):Stmt:=PySem.Challenge.pw_cellpatches_k82_whole_back.main.body.getD i (.Pass ⟨0,0,0,0⟩)
abbrev hS(s:String)(t:Tok):Value:= .str (TC s) t
abbrev hE(P:YZ)(s:String)(t:Tok)(v:Value):WW:={hash:=PyData.keyHash P (TC s),key:=hS s t,val:=v}
abbrev hT(xs:Array Value):Obj:={cls:= .type "tuple",data:=Data.seq xs}
abbrev hF(s:String)(t:Stmt)(m:Value)(c:Addr):Obj:={cls:= .type "function",data:=VE {name:=TC s,qualname:=TC s,params:=L2.aS t,body:=UL (L2.aB t),scope:=L2.ag t,globals:=3,closure:=[],defaults:= .none,kwdefaults:= .none,pyModule:=m,code:= .ref c} }
abbrev l5(s:String)(t1 t2 t3:Tok)(l n f:Int)(a:Addr)(v:Int)(b:Addr)(x y:Value)(d:Addr)(p:Int)(t4:Tok):Obj:={cls:= .type "code",data:=UH #[hS s t1,hS s t2,hS "/claim/cut.py" t3, .int l 0, .int n 0, .int 0 0, .int 0 0, .int f 0, .ref a, .bool true, .int v 0, .ref b, .none,x,y, .ref d, .int p 0, .int l 0,hS "/claim/cut.py" t4]}
abbrev zk:Value:=hS "cellpatches.boards" 271
abbrev IH:Value:=hS "law_cellpatches_k82_whole_back" 575
abbrev K9:Value:=hS "cellpatches.games" 430
abbrev LK:Value:=hS "cellpatches.errors" 187
abbrev Ou:Value:=hS "cellpatches.patches" 396
abbrev Nt(n:String)(b a ns r:Addr)(t1 t2:Tok):Obj:={cls:= .type "type",data:=Data.cls {name:=TC n,bases:=[.ref b],mro:=[.ref a, .ref b, .type "ValueError", .type "Exception", .type "BaseException", .type "object"],ns:=ns,qualname:=TC n},slots:= #[some (.ref r),none,some (hS n t1),some (hS n t2),some (.builtin "ValueError.__new__"),some (.bool true)]}
noncomputable def jE:YZ->Ti:=λP=>(nat_lit 2,{cls:= .none,data:=Wh #[]})::
 (nat_lit 3,{cls:= .type "dict",data:=Wh #[hE P "__name__" 165 IH,hE P "__doc__" 166 .none,hE P "__package__" 167 .none,hE P "__loader__" 168 (.builtin "__main__.__loader__#opaque"),hE P "__spec__" 169 .none,hE P "__annotations__" 170 (.ref 6),hE P "__builtins__" 171 (.ref 4),hE P "__file__" 173 (hS "/claim/cut.py" 172),hE P "__cached__" 174 .none,hE P "PatchError" 206 (.ref 24),hE P "NoBoard" 222 (.ref 37),hE P "NoWays" 238 (.ref 49),hE P "NoCell" 254 (.ref 61),hE P "Nothing" 270 (.ref 73),hE P "LETTERS" 274 (hS "abcdef" 273),hE P "MOST_ROWS" 276 (.int 8 275),hE P "MOST_COLUMNS" 278 (.int 8 277),hE P "is_whole" 285 (.ref 82),hE P "is_letter" 292 (.ref 89),hE P "is_row" 298 (.ref 94),hE P "is_board" 304 (.ref 99),hE P "is_cell" 312 (.ref 106),hE P "need_board" 319 (.ref 113),hE P "need_cell" 327 (.ref 120),hE P "need_ways" 334 (.ref 127),hE P "cells_of_row" 340 (.ref 132),hE P "all_cells" 349 (.ref 139),hE P "letter_of" 357 (.ref 146),hE P "are_next" 368 (.ref 153),hE P "next_cells" 380 (.ref 160),hE P "keyed" 389 (.ref 167),hE P "with_letters" 395 (.ref 172),hE P "like_cells" 403 (.ref 177),hE P "steps_back" 417 (.ref 184),hE P "all_patches" 429 (.ref 191),hE P "EMPTY" 433 (hS "." 432),hE P "can_be_taken" 441 (.ref 198),hE P "patch_to_take" 451 (.ref 205),hE P "fallen_column" 457 (.ref 210),hE P "fallen" 463 (.ref 215),hE P "many_letters" 469 (.ref 220),hE P "Game" 574 (.ref 303),hE P "_law_cell" 584 (.ref 314),hE P "_law_drawn" 594 (.ref 321),hE P "_law_board" 600 (.ref 326),hE P "_law_play" 611 (.ref 333),hE P "_law_now" 618 (.ref 340),hE P "_law_go_apart" 631 (.ref 347),hE P "law" 637 (.ref 352)] 49})::
 (nat_lit 15,hT #[.type "ValueError"])::
 (nat_lit 22,hT #[])::
 (nat_lit 23,{cls:= .type "dict",data:=Wh #[hE P "__module__" 196 LK,hE P "__firstlineno__" 200 (.int 2 199),hE P "__static_attributes__" 201 (.ref 22),hE P "__weakref__" 203 (.ref 25),hE P "__doc__" 204 .none] 3})::
 (nat_lit 24,{cls:= .type "type",data:=Data.cls {name:=TC "PatchError",bases:=[.type "ValueError"],mro:=[.ref 24, .type "ValueError", .type "Exception", .type "BaseException", .type "object"],ns:=23,qualname:=TC "PatchError",subclasses:=[.ref 37, .ref 49, .ref 61, .ref 73]},slots:= #[some (.ref 15),none,some (hS "PatchError" 189),some (hS "PatchError" 197),some (.builtin "ValueError.__new__"),some (.bool true)]})::
 (nat_lit 25,{cls:= .type "getset_descriptor",data:=UH #[hS "__weakref__" 202, .ref 24, .builtin "ExceptionGroup.__weakref__", .none]})::
 (nat_lit 28,hT #[.ref 24])::
 (nat_lit 35,hT #[])::
 (nat_lit 36,{cls:= .type "dict",data:=Wh #[hE P "__module__" 214 LK,hE P "__firstlineno__" 218 (.int 4 217),hE P "__static_attributes__" 219 (.ref 35),hE P "__doc__" 220 .none] 2})::
 (nat_lit 37,Nt "NoBoard" 24 37 36 28 207 215)::
 (nat_lit 40,hT #[.ref 24])::
 (nat_lit 47,hT #[])::
 (nat_lit 48,{cls:= .type "dict",data:=Wh #[hE P "__module__" 230 LK,hE P "__firstlineno__" 234 (.int 6 233),hE P "__static_attributes__" 235 (.ref 47),hE P "__doc__" 236 .none] 2})::
 (nat_lit 49,Nt "NoWays" 24 49 48 40 223 231)::
 (nat_lit 52,hT #[.ref 24])::
 (nat_lit 59,hT #[])::
 (nat_lit 60,{cls:= .type "dict",data:=Wh #[hE P "__module__" 246 LK,hE P "__firstlineno__" 250 (.int 8 249),hE P "__static_attributes__" 251 (.ref 59),hE P "__doc__" 252 .none] 2})::
 (nat_lit 61,Nt "NoCell" 24 61 60 52 239 247)::
 (nat_lit 64,hT #[.ref 24])::
 (nat_lit 71,hT #[])::
 (nat_lit 72,{cls:= .type "dict",data:=Wh #[hE P "__module__" 262 LK,hE P "__firstlineno__" 266 (.int 10 265),hE P "__static_attributes__" 267 (.ref 71),hE P "__doc__" 268 .none] 2})::
 (nat_lit 73,Nt "Nothing" 24 73 72 64 255 263)::
 (nat_lit 76,hT #[])::
 (nat_lit 78,hT #[hS "thing" 282])::
 (nat_lit 79,hT #[])::
 (nat_lit 81,l5 "is_whole" 279 280 281 16 1 3 76 181 77 (.ref 78) (.ref 79) 80 283 284)::
 (nat_lit 82,hF "is_whole" (top 10) zk 81)::
 (nat_lit 83,hT #[])::
 (nat_lit 85,hT #[hS "thing" 289])::
 (nat_lit 86,hT #[])::
 (nat_lit 88,l5 "is_letter" 286 287 288 18 1 3 83 181 84 (.ref 85) (.ref 86) 87 290 291)::
 (nat_lit 89,hF "is_letter" (top 11) zk 88)::
 (nat_lit 90,hT #[])::
 (nat_lit 93,l5 "is_row" 293 294 295 20 1 3 90 181 91 .none .none 92 296 297)::
 (nat_lit 94,hF "is_row" (top 12) zk 93)::
 (nat_lit 95,hT #[])::
 (nat_lit 98,l5 "is_board" 299 300 301 24 1 3 95 181 96 .none .none 97 302 303)::
 (nat_lit 99,hF "is_board" (top 13) zk 98)::
 (nat_lit 100,hT #[])::
 (nat_lit 102,hT #[hS "board" 308,hS "thing" 309])::
 (nat_lit 103,hT #[])::
 (nat_lit 105,l5 "is_cell" 305 306 307 30 2 3 100 181 101 (.ref 102) (.ref 103) 104 310 311)::
 (nat_lit 106,hF "is_cell" (top 14) zk 105)::
 (nat_lit 107,hT #[])::
 (nat_lit 109,hT #[hS "thing" 316])::
 (nat_lit 110,hT #[])::
 (nat_lit 112,l5 "need_board" 313 314 315 36 1 3 107 181 108 (.ref 109) (.ref 110) 111 317 318)::
 (nat_lit 113,hF "need_board" (top 15) zk 112)::
 (nat_lit 114,hT #[])::
 (nat_lit 116,hT #[hS "board" 323,hS "thing" 324])::
 (nat_lit 117,hT #[])::
 (nat_lit 119,l5 "need_cell" 320 321 322 39 2 3 114 181 115 (.ref 116) (.ref 117) 118 325 326)::
 (nat_lit 120,hF "need_cell" (top 16) zk 119)::
 (nat_lit 121,hT #[])::
 (nat_lit 123,hT #[hS "thing" 331])::
 (nat_lit 124,hT #[])::
 (nat_lit 126,l5 "need_ways" 328 329 330 42 1 3 121 181 122 (.ref 123) (.ref 124) 125 332 333)::
 (nat_lit 127,hF "need_ways" (top 17) zk 126)::
 (nat_lit 128,hT #[])::
 (nat_lit 131,l5 "cells_of_row" 335 336 337 45 2 3 128 181 129 .none .none 130 338 339)::
 (nat_lit 132,hF "cells_of_row" (top 18) zk 131)::
 (nat_lit 133,hT #[])::
 (nat_lit 135,hT #[hS "board" 344,hS "found" 345,hS "row" 346])::
 (nat_lit 136,hT #[])::
 (nat_lit 138,l5 "all_cells" 341 342 343 47 1 3 133 181 134 (.ref 135) (.ref 136) 137 347 348)::
 (nat_lit 139,hF "all_cells" (top 19) zk 138)::
 (nat_lit 140,hT #[])::
 (nat_lit 142,hT #[hS "board" 353,hS "cell" 354])::
 (nat_lit 143,hT #[])::
 (nat_lit 145,l5 "letter_of" 350 351 352 52 2 3 140 181 141 (.ref 142) (.ref 143) 144 355 356)::
 (nat_lit 146,hF "letter_of" (top 20) zk 145)::
 (nat_lit 147,hT #[])::
 (nat_lit 149,hT #[hS "one" 361,hS "other" 362,hS "ways" 363,hS "down" 364,hS "along" 365])::
 (nat_lit 150,hT #[])::
 (nat_lit 152,l5 "are_next" 358 359 360 54 3 3 147 181 148 (.ref 149) (.ref 150) 151 366 367)::
 (nat_lit 153,hF "are_next" (top 21) zk 152)::
 (nat_lit 154,hT #[])::
 (nat_lit 156,hT #[hS "board" 372,hS "cell" 373,hS "ways" 374,hS "found" 375,hS "row" 376,hS "column" 377])::
 (nat_lit 157,hT #[])::
 (nat_lit 159,l5 "next_cells" 369 370 371 60 3 3 154 181 155 (.ref 156) (.ref 157) 158 378 379)::
 (nat_lit 160,hF "next_cells" (top 22) zk 159)::
 (nat_lit 161,hT #[])::
 (nat_lit 163,hT #[hS "things" 384,hS "found" 385,hS "thing" 386])::
 (nat_lit 164,hT #[])::
 (nat_lit 166,l5 "keyed" 381 382 383 67 1 3 161 181 162 (.ref 163) (.ref 164) 165 387 388)::
 (nat_lit 167,hF "keyed" (top 23) zk 166)::
 (nat_lit 168,hT #[])::
 (nat_lit 171,l5 "with_letters" 390 391 392 72 3 3 168 181 169 .none .none 170 393 394)::
 (nat_lit 172,hF "with_letters" (top 24) zk 171)::
 (nat_lit 173,hT #[])::
 (nat_lit 176,l5 "like_cells" 398 399 400 80 3 3 173 181 174 .none .none 175 401 402)::
 (nat_lit 177,hF "like_cells" (top 26) Ou 176)::
 (nat_lit 178,hT #[])::
 (nat_lit 180,hT #[hS "board" 407,hS "start" 408,hS "ways" 409,hS "back" 410,hS "ring" 411,hS "further" 412,hS "cell" 413,hS "near" 414])::
 (nat_lit 181,hT #[])::
 (nat_lit 183,l5 "steps_back" 404 405 406 83 3 3 178 181 179 (.ref 180) (.ref 181) 182 415 416)::
 (nat_lit 184,hF "steps_back" (top 27) Ou 183)::
 (nat_lit 185,hT #[])::
 (nat_lit 187,hT #[hS "board" 421,hS "ways" 422,hS "found" 423,hS "seen" 424,hS "cell" 425,hS "patch" 426])::
 (nat_lit 188,hT #[])::
 (nat_lit 190,l5 "all_patches" 418 419 420 95 2 3 185 181 186 (.ref 187) (.ref 188) 189 427 428)::
 (nat_lit 191,hF "all_patches" (top 28) Ou 190)::
 (nat_lit 192,hT #[])::
 (nat_lit 194,hT #[hS "rows" 437,hS "patch" 438])::
 (nat_lit 195,hT #[])::
 (nat_lit 197,l5 "can_be_taken" 434 435 436 106 2 3 192 181 193 (.ref 194) (.ref 195) 196 439 440)::
 (nat_lit 198,hF "can_be_taken" (top 31) K9 197)::
 (nat_lit 199,hT #[])::
 (nat_lit 201,hT #[hS "rows" 445,hS "cell" 446,hS "ways" 447,hS "patch" 448])::
 (nat_lit 202,hT #[])::
 (nat_lit 204,l5 "patch_to_take" 442 443 444 108 3 3 199 181 200 (.ref 201) (.ref 202) 203 449 450)::
 (nat_lit 205,hF "patch_to_take" (top 32) K9 204)::
 (nat_lit 206,hT #[])::
 (nat_lit 209,l5 "fallen_column" 452 453 454 114 2 3 206 181 207 .none .none 208 455 456)::
 (nat_lit 210,hF "fallen_column" (top 33) K9 209)::
 (nat_lit 211,hT #[])::
 (nat_lit 214,l5 "fallen" 458 459 460 117 1 3 211 181 212 .none .none 213 461 462)::
 (nat_lit 215,hF "fallen" (top 34) K9 214)::
 (nat_lit 216,hT #[])::
 (nat_lit 219,l5 "many_letters" 464 465 466 123 1 3 216 181 217 .none .none 218 467 468)::
 (nat_lit 220,hF "many_letters" (top 35) K9 219)::
 (nat_lit 228,hT #[])::
 (nat_lit 230,hT #[hS "self" 485,hS "board" 486,hS "ways" 487])::
 (nat_lit 231,hT #[])::
 (nat_lit 233,{cls:= .type "code",data:=UH #[hS "__init__" 482,hS "Game.__init__" 483,hS "/claim/cut.py" 484, .int 127 0, .int 3 0, .int 0 0, .int 0 0, .int 3 0, .ref 228, .bool true, .int 181 0, .ref 229, .none, .ref 230, .ref 231, .ref 232, .int 488 0, .int 127 0,hS "/claim/cut.py" 489]})::
 (nat_lit 234,{cls:= .type "function",data:=VE {name:=TC "__init__",qualname:=TC "Game.__init__",params:=L2.aS ((L3.aD (top 36)).getD 0 (.Pass ⟨0,0,0,0⟩)),body:=UL (L2.aB ((L3.aD (top 36)).getD 0 (.Pass ⟨0,0,0,0⟩))),scope:=L2.ag ((L3.aD (top 36)).getD 0 (.Pass ⟨0,0,0,0⟩)),globals:=3,closure:=[],defaults:= .none,kwdefaults:= .none,pyModule:=hS "cellpatches.games" 430,code:= .ref 233} })::
 (nat_lit 235,hT #[])::
 (nat_lit 237,hT #[hS "self" 494])::
 (nat_lit 238,hT #[])::
 (nat_lit 240,{cls:= .type "code",data:=UH #[hS "rows" 491,hS "Game.rows" 492,hS "/claim/cut.py" 493, .int 134 0, .int 1 0, .int 0 0, .int 0 0, .int 3 0, .ref 235, .bool true, .int 181 0, .ref 236, .none, .ref 237, .ref 238, .ref 239, .int 495 0, .int 134 0,hS "/claim/cut.py" 496]})::
 (nat_lit 241,{cls:= .type "function",data:=VE {name:=TC "rows",qualname:=TC "Game.rows",params:=L2.aS ((L3.aD (top 36)).getD 1 (.Pass ⟨0,0,0,0⟩)),body:=UL (L2.aB ((L3.aD (top 36)).getD 1 (.Pass ⟨0,0,0,0⟩))),scope:=L2.ag ((L3.aD (top 36)).getD 1 (.Pass ⟨0,0,0,0⟩)),globals:=3,closure:=[],defaults:= .none,kwdefaults:= .none,pyModule:=hS "cellpatches.games" 430,code:= .ref 240} })::
 (nat_lit 242,hT #[])::
 (nat_lit 244,hT #[hS "self" 501,hS "cell" 502,hS "patch" 503,hS "then" 504])::
 (nat_lit 245,hT #[])::
 (nat_lit 247,{cls:= .type "code",data:=UH #[hS "take" 498,hS "Game.take" 499,hS "/claim/cut.py" 500, .int 137 0, .int 2 0, .int 0 0, .int 0 0, .int 3 0, .ref 242, .bool true, .int 181 0, .ref 243, .none, .ref 244, .ref 245, .ref 246, .int 505 0, .int 137 0,hS "/claim/cut.py" 506]})::
 (nat_lit 248,{cls:= .type "function",data:=VE {name:=TC "take",qualname:=TC "Game.take",params:=L2.aS ((L3.aD (top 36)).getD 2 (.Pass ⟨0,0,0,0⟩)),body:=UL (L2.aB ((L3.aD (top 36)).getD 2 (.Pass ⟨0,0,0,0⟩))),scope:=L2.ag ((L3.aD (top 36)).getD 2 (.Pass ⟨0,0,0,0⟩)),globals:=3,closure:=[],defaults:= .none,kwdefaults:= .none,pyModule:=hS "cellpatches.games" 430,code:= .ref 247} })::
 (nat_lit 249,hT #[])::
 (nat_lit 252,{cls:= .type "code",data:=UH #[hS "can_take" 508,hS "Game.can_take" 509,hS "/claim/cut.py" 510, .int 144 0, .int 1 0, .int 0 0, .int 0 0, .int 3 0, .ref 249, .bool true, .int 181 0, .ref 250, .none, .none, .none, .ref 251, .int 511 0, .int 144 0,hS "/claim/cut.py" 512]})::
 (nat_lit 253,{cls:= .type "function",data:=VE {name:=TC "can_take",qualname:=TC "Game.can_take",params:=L2.aS ((L3.aD (top 36)).getD 3 (.Pass ⟨0,0,0,0⟩)),body:=UL (L2.aB ((L3.aD (top 36)).getD 3 (.Pass ⟨0,0,0,0⟩))),scope:=L2.ag ((L3.aD (top 36)).getD 3 (.Pass ⟨0,0,0,0⟩)),globals:=3,closure:=[],defaults:= .none,kwdefaults:= .none,pyModule:=hS "cellpatches.games" 430,code:= .ref 252} })::
 (nat_lit 254,hT #[])::
 (nat_lit 256,hT #[hS "self" 517])::
 (nat_lit 257,hT #[])::
 (nat_lit 259,{cls:= .type "code",data:=UH #[hS "left" 514,hS "Game.left" 515,hS "/claim/cut.py" 516, .int 148 0, .int 1 0, .int 0 0, .int 0 0, .int 3 0, .ref 254, .bool true, .int 181 0, .ref 255, .none, .ref 256, .ref 257, .ref 258, .int 518 0, .int 148 0,hS "/claim/cut.py" 519]})::
 (nat_lit 260,{cls:= .type "function",data:=VE {name:=TC "left",qualname:=TC "Game.left",params:=L2.aS ((L3.aD (top 36)).getD 4 (.Pass ⟨0,0,0,0⟩)),body:=UL (L2.aB ((L3.aD (top 36)).getD 4 (.Pass ⟨0,0,0,0⟩))),scope:=L2.ag ((L3.aD (top 36)).getD 4 (.Pass ⟨0,0,0,0⟩)),globals:=3,closure:=[],defaults:= .none,kwdefaults:= .none,pyModule:=hS "cellpatches.games" 430,code:= .ref 259} })::
 (nat_lit 261,hT #[])::
 (nat_lit 263,hT #[hS "self" 524,hS "place" 525])::
 (nat_lit 264,hT #[])::
 (nat_lit 266,{cls:= .type "code",data:=UH #[hS "taken_behind" 521,hS "Game.taken_behind" 522,hS "/claim/cut.py" 523, .int 151 0, .int 2 0, .int 0 0, .int 0 0, .int 3 0, .ref 261, .bool true, .int 181 0, .ref 262, .none, .ref 263, .ref 264, .ref 265, .int 526 0, .int 151 0,hS "/claim/cut.py" 527]})::
 (nat_lit 267,{cls:= .type "function",data:=VE {name:=TC "taken_behind",qualname:=TC "Game.taken_behind",params:=L2.aS ((L3.aD (top 36)).getD 5 (.Pass ⟨0,0,0,0⟩)),body:=UL (L2.aB ((L3.aD (top 36)).getD 5 (.Pass ⟨0,0,0,0⟩))),scope:=L2.ag ((L3.aD (top 36)).getD 5 (.Pass ⟨0,0,0,0⟩)),globals:=3,closure:=[],defaults:= .none,kwdefaults:= .none,pyModule:=hS "cellpatches.games" 430,code:= .ref 266} })::
 (nat_lit 268,hT #[])::
 (nat_lit 271,{cls:= .type "code",data:=UH #[hS "points" 529,hS "Game.points" 530,hS "/claim/cut.py" 531, .int 154 0, .int 1 0, .int 0 0, .int 0 0, .int 3 0, .ref 268, .bool true, .int 181 0, .ref 269, .none, .none, .none, .ref 270, .int 532 0, .int 154 0,hS "/claim/cut.py" 533]})::
 (nat_lit 272,{cls:= .type "function",data:=VE {name:=TC "points",qualname:=TC "Game.points",params:=L2.aS ((L3.aD (top 36)).getD 6 (.Pass ⟨0,0,0,0⟩)),body:=UL (L2.aB ((L3.aD (top 36)).getD 6 (.Pass ⟨0,0,0,0⟩))),scope:=L2.ag ((L3.aD (top 36)).getD 6 (.Pass ⟨0,0,0,0⟩)),globals:=3,closure:=[],defaults:= .none,kwdefaults:= .none,pyModule:=hS "cellpatches.games" 430,code:= .ref 271} })::
 (nat_lit 273,hT #[])::
 (nat_lit 275,hT #[hS "self" 538])::
 (nat_lit 276,hT #[])::
 (nat_lit 278,{cls:= .type "code",data:=UH #[hS "back" 535,hS "Game.back" 536,hS "/claim/cut.py" 537, .int 158 0, .int 1 0, .int 0 0, .int 0 0, .int 3 0, .ref 273, .bool true, .int 181 0, .ref 274, .none, .ref 275, .ref 276, .ref 277, .int 539 0, .int 158 0,hS "/claim/cut.py" 540]})::
 (nat_lit 279,{cls:= .type "function",data:=VE {name:=TC "back",qualname:=TC "Game.back",params:=L2.aS ((L3.aD (top 36)).getD 7 (.Pass ⟨0,0,0,0⟩)),body:=UL (L2.aB ((L3.aD (top 36)).getD 7 (.Pass ⟨0,0,0,0⟩))),scope:=L2.ag ((L3.aD (top 36)).getD 7 (.Pass ⟨0,0,0,0⟩)),globals:=3,closure:=[],defaults:= .none,kwdefaults:= .none,pyModule:=hS "cellpatches.games" 430,code:= .ref 278} })::
 (nat_lit 280,hT #[])::
 (nat_lit 282,hT #[hS "self" 545])::
 (nat_lit 283,hT #[])::
 (nat_lit 285,{cls:= .type "code",data:=UH #[hS "forth" 542,hS "Game.forth" 543,hS "/claim/cut.py" 544, .int 164 0, .int 1 0, .int 0 0, .int 0 0, .int 3 0, .ref 280, .bool true, .int 181 0, .ref 281, .none, .ref 282, .ref 283, .ref 284, .int 546 0, .int 164 0,hS "/claim/cut.py" 547]})::
 (nat_lit 286,{cls:= .type "function",data:=VE {name:=TC "forth",qualname:=TC "Game.forth",params:=L2.aS ((L3.aD (top 36)).getD 8 (.Pass ⟨0,0,0,0⟩)),body:=UL (L2.aB ((L3.aD (top 36)).getD 8 (.Pass ⟨0,0,0,0⟩))),scope:=L2.ag ((L3.aD (top 36)).getD 8 (.Pass ⟨0,0,0,0⟩)),globals:=3,closure:=[],defaults:= .none,kwdefaults:= .none,pyModule:=hS "cellpatches.games" 430,code:= .ref 285} })::
 (nat_lit 287,hT #[])::
 (nat_lit 289,hT #[hS "self" 552])::
 (nat_lit 290,hT #[])::
 (nat_lit 292,{cls:= .type "code",data:=UH #[hS "steps" 549,hS "Game.steps" 550,hS "/claim/cut.py" 551, .int 170 0, .int 1 0, .int 0 0, .int 0 0, .int 3 0, .ref 287, .bool true, .int 181 0, .ref 288, .none, .ref 289, .ref 290, .ref 291, .int 553 0, .int 170 0,hS "/claim/cut.py" 554]})::
 (nat_lit 293,{cls:= .type "function",data:=VE {name:=TC "steps",qualname:=TC "Game.steps",params:=L2.aS ((L3.aD (top 36)).getD 9 (.Pass ⟨0,0,0,0⟩)),body:=UL (L2.aB ((L3.aD (top 36)).getD 9 (.Pass ⟨0,0,0,0⟩))),scope:=L2.ag ((L3.aD (top 36)).getD 9 (.Pass ⟨0,0,0,0⟩)),globals:=3,closure:=[],defaults:= .none,kwdefaults:= .none,pyModule:=hS "cellpatches.games" 430,code:= .ref 292} })::
 (nat_lit 294,hT #[])::
 (nat_lit 296,hT #[hS "self" 559,hS "other" 560])::
 (nat_lit 297,hT #[])::
 (nat_lit 299,{cls:= .type "code",data:=UH #[hS "twin" 556,hS "Game.twin" 557,hS "/claim/cut.py" 558, .int 173 0, .int 1 0, .int 0 0, .int 0 0, .int 3 0, .ref 294, .bool true, .int 181 0, .ref 295, .none, .ref 296, .ref 297, .ref 298, .int 561 0, .int 173 0,hS "/claim/cut.py" 562]})::
 (nat_lit 300,{cls:= .type "function",data:=VE {name:=TC "twin",qualname:=TC "Game.twin",params:=L2.aS ((L3.aD (top 36)).getD 10 (.Pass ⟨0,0,0,0⟩)),body:=UL (L2.aB ((L3.aD (top 36)).getD 10 (.Pass ⟨0,0,0,0⟩))),scope:=L2.ag ((L3.aD (top 36)).getD 10 (.Pass ⟨0,0,0,0⟩)),globals:=3,closure:=[],defaults:= .none,kwdefaults:= .none,pyModule:=hS "cellpatches.games" 430,code:= .ref 299} })::
 (nat_lit 301,hT #[hS "place" 564,hS "stages" 565,hS "ways" 566])::
 (nat_lit 302,{cls:= .type "dict",data:=Wh #[hE P "__module__" 477 K9,hE P "__firstlineno__" 481 (.int 125 480),hE P "__init__" 490 (.ref 234),hE P "rows" 497 (.ref 241),hE P "take" 507 (.ref 248),hE P "can_take" 513 (.ref 253),hE P "left" 520 (.ref 260),hE P "taken_behind" 528 (.ref 267),hE P "points" 534 (.ref 272),hE P "back" 541 (.ref 279),hE P "forth" 548 (.ref 286),hE P "steps" 555 (.ref 293),hE P "twin" 563 (.ref 300),hE P "__static_attributes__" 567 (.ref 301),hE P "__dict__" 569 (.ref 304),hE P "__weakref__" 571 (.ref 305),hE P "__doc__" 572 .none] 4})::
 (nat_lit 303,{cls:= .type "type",data:=Data.cls {name:=TC "Game",bases:=[.type "object"],mro:=[.ref 303, .type "object"],ns:=302,qualname:=TC "Game"},slots:= #[none,none,some (hS "Game" 470),some (hS "Game" 478),some (.builtin "object.__new__"),some (.bool true)]})::
 (nat_lit 304,{cls:= .type "getset_descriptor",data:=UH #[hS "__dict__" 568, .ref 303, .builtin "function.__dict__", .builtin "function.__dict__#set"]})::
 (nat_lit 305,{cls:= .type "getset_descriptor",data:=UH #[hS "__weakref__" 570, .ref 303, .builtin "ExceptionGroup.__weakref__", .none]})::
 (nat_lit 308,hT #[])::
 (nat_lit 310,hT #[hS "_law_script" 580,hS "_law_k" 581])::
 (nat_lit 311,hT #[])::
 (nat_lit 313,l5 "_law_cell" 577 578 579 179 2 3 308 181 309 (.ref 310) (.ref 311) 312 582 583)::
 (nat_lit 314,hF "_law_cell" (top 38) IH 313)::
 (nat_lit 315,hT #[])::
 (nat_lit 317,hT #[hS "_law_script" 588,hS "_law_k" 589,hS "_law_many" 590,hS "_law_cell_here" 591])::
 (nat_lit 318,hT #[])::
 (nat_lit 320,l5 "_law_drawn" 585 586 587 183 3 3 315 181 316 (.ref 317) (.ref 318) 319 592 593)::
 (nat_lit 321,hF "_law_drawn" (top 39) IH 320)::
 (nat_lit 322,hT #[])::
 (nat_lit 325,l5 "_law_board" 595 596 597 187 3 3 322 181 323 .none .none 324 598 599)::
 (nat_lit 326,hF "_law_board" (top 40) IH 325)::
 (nat_lit 327,hT #[])::
 (nat_lit 329,hT #[hS "_law_script" 604,hS "_law_at" 605,hS "_law_game" 606,hS "_law_some" 607,hS "_law_before" 608])::
 (nat_lit 330,hT #[])::
 (nat_lit 332,l5 "_law_play" 601 602 603 196 3 3 327 181 328 (.ref 329) (.ref 330) 331 609 610)::
 (nat_lit 333,hF "_law_play" (top 41) IH 332)::
 (nat_lit 334,hT #[])::
 (nat_lit 336,hT #[hS "_law_game" 615])::
 (nat_lit 337,hT #[])::
 (nat_lit 339,l5 "_law_now" 612 613 614 202 1 3 334 181 335 (.ref 336) (.ref 337) 338 616 617)::
 (nat_lit 340,hF "_law_now" (top 42) IH 339)::
 (nat_lit 341,hT #[])::
 (nat_lit 343,hT #[hS "_law_script" 622,hS "_law_game" 623,hS "_law_twin" 624,hS "_law_rows" 625,hS "_law_many" 626,hS "_law_back" 627,hS "_law_third" 628])::
 (nat_lit 344,hT #[])::
 (nat_lit 346,l5 "_law_go_apart" 619 620 621 204 6 3 341 181 342 (.ref 343) (.ref 344) 345 629 630)::
 (nat_lit 347,hF "_law_go_apart" (top 43) IH 346)::
 (nat_lit 348,hT #[])::
 (nat_lit 351,l5 "law" 632 633 634 218 1 3 348 181 349 .none .none 350 635 636)::
 (nat_lit 352,hF "law" (top 44) IH 351)::[]
def jC:List Nat:=[2,3,15,22,23,24,25,28,35,36,37,40,47,48,49,52,59,60,61,64,71,72,73,76,78,79,81,82,83,85,86,88,89,90,93,94,95,98,99,100,102,103,105,106,107,109,110,112,113,114,116,117,119,120,121,123,124,126,127,128,131,132,133,135,136,138,139,140,142,143,145,146,147,149,150,152,153,154,156,157,159,160,161,163,164,166,167,168,171,172,173,176,177,178,180,181,183,184,185,187,188,190,191,192,194,195,197,198,199,201,202,204,205,206,209,210,211,214,215,216,219,220,228,230,231,233,234,235,237,238,240,241,242,244,245,247,248,249,252,253,254,256,257,259,260,261,263,264,266,267,268,271,272,273,275,276,278,279,280,282,283,285,286,287,289,290,292,293,294,296,297,299,300,301,302,303,304,305,308,310,311,313,314,315,317,318,320,321,322,325,326,327,329,330,332,333,334,336,337,339,340,341,343,344,346,347,348,351,352]
def oY:T3:={PySem.Challenge.pw_cellpatches_k82_whole_back with main:={PySem.Challenge.pw_cellpatches_k82_whole_back.main with body:=[top 1,top 2,top 3,top 4,top 5,top 7,top 8,top 9,top 10,top 11,top 12,top 13,top 14,top 15,top 16,top 17,top 18,top 19,top 20,top 21,top 22,top 23,top 24,top 26,top 27,top 28,top 30,top 31,top 32,top 33,top 34,top 35,top 36,top 38,top 39,top 40,top 41,top 42,top 43,top 44]} }
section
open PySem PySem.W PyProof.Rows
set_option maxHeartbeats 0
def Ie(p:T3)(w:World)(ZE:Nat)(ann:Option Value):Nat->SharedT->Thread->Option SharedT
 |0,_,_=>none
 |n+1,s,t=>match through t with
  |true=>some s
  |false=>match stepOk ZE ann t with
   |false=>none
   |true=>match stepT (denote XQ) p w s t with
    |some (s',t')=>Ie p w ZE ann n s' t'
    |none=>none
theorem Bt{p:T3}{w:World}{ZE:Nat}{ann:Option Value}:∀{n:Nat}{s s':SharedT}{t:Thread},Ie p w ZE ann n s t=some s'->topRun XQ p w ZE ann n s.abs t=some s'.abs
 |0,_,_,_,h=>by cases h
 |n+1,s,s',t,h=>by
  unfold Ie at h;unfold topRun;cases he:through t with
  |true=>rw[he] at h;cases h;rfl
  |false=>
   rw[he] at h;cases hk:stepOk ZE ann t with
   |false=>rw[hk] at h;cases h
   |true=>
    rw[hk] at h;cases hs:stepT (denote XQ) p w s t with
    |none=>rw[hs] at h;cases h
    |some r=>obtain⟨v4,ZP⟩:=r;rw[hs] at h;rw[stepT_spec hs];exact Bt h
def treeOf(l:List Obj):BT:=(l.foldl (λ(x:BT×Nat) o=>(x.1.ins x.2 o,x.2+1)) (.nil,0)).1
noncomputable def Iy(P:YZ):BT:=treeOf (boot_heap P).objs.toList
def boot_abs(P:YZ):boot_heap P=absHeap (Iy P) 11 (boot_heap P).life:=by kernel_rfl
def BH(P:YZ):((boot_heap P).isNs TN,(boot_heap P).objs.size,(boot_heap P).nsMap TN "__annotations__")=(true,11,some (.ref 6)):=by kernel_rfl
noncomputable abbrev yE(p:T3)(w:World)(N:Nat)(os:Y9):Option SharedT:=Ie p w 11 (some (.ref 6)) N ⟨Iy w.params,11,(boot_heap w.params).life,#[],boot_drawn,boot_toks,os⟩ (topStub p)
def G4{p q:T3}{loose:List Str}{Xt:Tp->Bool}{α:Type}{Yf:Tp->α}{Ya:World->α}{N:Nat}{g0:Bool}
 (e:opening p=plainProg p.main.scope.names)(hN:WO 600 N=true)(f:∀s,fenceModules? p s=some s)
 (h1:∀w os,(yE p w N os).map (λs=>Yf s.abs)=some (Ya w))
 (h2:∀w os,(yE p w N os).map (λs=>openSeen q loose (Wx p.main.body) Xt g0 s.abs)=some (openGood q loose))
 (h3:∀w os,(yE p w N os).map (λs=>staticsOk (Wx p.main.body) (boot_heap w.params) s.abs.heap&&namesBound p s.abs.heap&&gensDone s.abs&&laidKept (boot_heap w.params) s.abs.heap)=some true):
 LeftO p q loose Xt Yf Ya N g0:=λw=>by
 obtain⟨⟨h,gs,d,k,os⟩,e,e'⟩:=T9.mp (boot_open e hN f w);obtain⟨rfl,rfl,rfl,rfl⟩:h=boot_heap w.params/\gs=Array.mk []/\d=boot_drawn/\k=boot_toks:=by simpa using e'
 obtain⟨s,a,l3⟩:=T9.mp (h1 w os);obtain⟨s',a',l2⟩:=T9.mp (h2 w os);cases Ub (a.symm.trans a');obtain⟨s',a',l1⟩:=T9.mp (h3 w os);cases Ub (a.symm.trans a');obtain⟨z1,z2,z3⟩:_/\_/\_:=by simpa only[Prod.mk.injEq] using BH w.params
 have r:=Bt a;unfold SharedT.abs at r
 dsimp only at r
 rw[<-boot_abs] at r;unfold openEnds;rw[e];show (topFrom XQ p w N _).map _=_;have t:topFrom XQ p w N ⟨boot_heap w.params,Array.mk [],boot_drawn,boot_toks,os⟩=some s.abs:=by
  unfold topFrom
  dsimp only
  rw[z1,z2,z3];show (topRun XQ p w 11 _ N _ _).bind _=_;rw[r];show (match staticsOk (Wx p.main.body) (boot_heap w.params) s.abs.heap&&namesBound p s.abs.heap&&gensDone s.abs&&laidKept (boot_heap w.params) s.abs.heap with | true=>_ | false=>_)=_;rw[l1];rfl
 rw[t];exact Zv some (XY l2 l3)
def OO(w:World)(os:Y9):(yE PySem.Challenge.rw_cellpatches_k82_whole_back.row.prog w 5204 os).map (λs=>(kHook jE jC (λ_=>by kernel_rfl)).obs s.abs)=some ((kHook jE jC (λ_=>by kernel_rfl)).val w):=by kernel_rfl
def OP(w:World)(os:Y9):(yE PySem.Challenge.rw_cellpatches_k82_whole_back.row.prog w 5204 os).map (λs=>openSeen oY [] (Wx PySem.Challenge.rw_cellpatches_k82_whole_back.row.prog.main.body) (λs=>xlAt oY [] s&&recOk PySem.Challenge.rw_cellpatches_k82_whole_back.row.records s) true s.abs)=some (openGood oY []):=by kernel_rfl
def OQ(w:World)(os:Y9):(yE PySem.Challenge.rw_cellpatches_k82_whole_back.row.prog w 5204 os).map (λs=>staticsOk (Wx PySem.Challenge.rw_cellpatches_k82_whole_back.row.prog.main.body) (boot_heap w.params) s.abs.heap&&namesBound PySem.Challenge.rw_cellpatches_k82_whole_back.row.prog s.abs.heap&&gensDone s.abs&&laidKept (boot_heap w.params) s.abs.heap)=some true:=by kernel_rfl
def OR(w:World)(os:Y9):(yE PySem.Challenge.rw_cellpatches_k82_whole_back.row.prog w 5204 os).map (λs=>WO 600 s.toks)=some true:=by kernel_rfl
def OS(w:World)(os:Y9):(yE PySem.Challenge.rw_cellpatches_k82_whole_back.row.prog w 5204 os).map (λs=>((kHook jE jC (λ_=>by kernel_rfl)).obs s.abs,WO 600 s.abs.toks))=some ((kHook jE jC (λ_=>by kernel_rfl)).val w,true):=by
 obtain⟨s,a,e⟩:=T9.mp (OO w os);obtain⟨s',a',e'⟩:=T9.mp (OR w os);cases Ub (a.symm.trans a');exact T9.mpr ⟨s,a,XY e e'⟩
def LW:LeftO PySem.Challenge.rw_cellpatches_k82_whole_back.row.prog oY [] (λs=>xlAt oY [] s&&recOk PySem.Challenge.rw_cellpatches_k82_whole_back.row.records s) (λs=>((kHook jE jC (λ_=>by kernel_rfl)).obs s,WO 600 s.toks)) (λw=>((kHook jE jC (λ_=>by kernel_rfl)).val w,true)) 5204:=G4 (by kernel_rfl) (by decide) (λ_=>by kernel_rfl) OS OP OQ
end
end K1
namespace L2
open PySem PySem.Spec PyProof.Rows
abbrev Key:=Sum Int Str
def qC:Key->Value->Bool
 | .inl k,v=>Value.isInt k v
 | .inr x,v=>Value.isStrOf x v
def Mj(w:World):Key->Int
 | .inl k=>hashInt k
 | .inr x=>hashStr w x
def bR:∀{k:Key}{v:Value},qC k v=true->(∃i t,k=XG i/\v=We i t)\/(∃x t,k=Yc x/\v=XW x t)
 | .inl i,v,h=>by
   obtain⟨t,e⟩:=Value.isInt_shape (k:=i) (v:=v) h;exact .inl ⟨i,t,rfl,e⟩
 | .inr x,v,h=>by
   obtain⟨t,e⟩:=Value.isStrOf_shape (x:=x) (v:=v) h;exact .inr ⟨x,t,rfl,e⟩
def B_(i:Int)(t:Tok):qC (.inl i) (.int i t)=true:=by simp[qC,Value.isInt]
def Ca(x:Str)(t:Tok):qC (.inr x) (.str x t)=true:=by simp[qC,Value.isStrOf]
def J3(a b:Int):decide ((XG a:Key)=XG b)=(a==b):=by
 by_cases e:a=b
 ·subst e;simp
 ·have h:¬(XG a:Key)=XG b:=λq=>e (Sum.inl.inj q);rw[Zr h];exact(Zu.mpr e).symm
def J6(a b:Str):decide ((Yc a:Key)=Yc b)=decide (a=b):=by
 by_cases e:a=b
 ·subst e;simp
 ·have h:¬(Yc a:Key)=Yc b:=λq=>e (Sum.inr.inj q);rw[Zr h,Zr e]
def J4(a:Int)(b:Str):decide ((XG a:Key)=Yc b)=false:=Zr (λq=>nomatch q)
def J5(a:Str)(b:Int):decide ((Yc a:Key)=XG b)=false:=Zr (λq=>nomatch q)
def bJ(prog:T3)(w:World):PySem.KeyKind prog w Key where
 is:=qC
 hash:=Mj w
 inj:=λv a b ha hb=>by
  rcases bR ha with⟨i,t,rfl,rfl⟩ | ⟨x,t,rfl,rfl⟩
  ·rcases bR hb with⟨j,u,rfl,e⟩ | ⟨y,u,rfl,e⟩
   ·injection e with e1 _;rw[e1]
   ·exact nomatch e
  ·rcases bR hb with⟨j,u,rfl,e⟩ | ⟨y,u,rfl,e⟩
   ·exact nomatch e
   ·injection e with e1 _;rw[e1]
 byValue:=λk v h=>by
  rcases bR h with⟨i,t,rfl,rfl⟩ | ⟨x,t,rfl,rfl⟩<;>rfl
 pyHash:=λhv h=>by
  rcases bR hv with⟨i,t,rfl,rfl⟩ | ⟨x,t,rfl,rfl⟩
  ·exact wpAny_pyHash_int h
  ·exact wpAny_pyHash_str h
 eqBool:=λhu hv h=>by
  rcases bR hu with⟨i,t,rfl,rfl⟩ | ⟨x,t,rfl,rfl⟩
  ·rcases bR hv with⟨j,u,rfl,rfl⟩ | ⟨y,u,rfl,rfl⟩
   ·rw[J3] at h;exact wpAny_eqBool_int h
   ·rw[J4] at h;exact Yu i t y u _ _ _ _ h
  ·rcases bR hv with⟨j,u,rfl,rfl⟩ | ⟨y,u,rfl,rfl⟩
   ·rw[J5] at h;exact Yt x t j u _ _ _ _ h
   ·rw[J6] at h;exact wpAny_eqBool_str h
 «strs» :=λk x t v h=>by
  rcases bR h with⟨i,u,rfl,e⟩ | ⟨y,u,rfl,e⟩
  ·exact nomatch e
  ·injection e with e1 _
   subst e1;cases v<;>rfl
def xG(prog:T3)(w:World)(i:Int)(t:Tok):(bJ prog w).is (.inl i) (.int i t)=true:=B_ i t
def xH(prog:T3)(w:World)(x:Str)(t:Tok):(bJ prog w).is (.inr x) (.str x t)=true:=Ca x t
inductive V where
 |non | bl (b:Bool) | int (i:Int) | str (x:Str) | byt (b:Array UInt8) | flt (b:UInt64) | ref (a:Addr) | ty (n:String)
 deriving DecidableEq
def RelV:V->Value->Prop
 | .non,u=>u=UX
 | .bl b,u=>u=V8 b
 | .int i,u=>∃t,u=We i t
 | .str x,u=>∃t,u=XW x t
 | .byt b,u=>∃t,u=Value.bytes b t
 | .flt b,u=>∃t,u=YM b t
 | .ref a,u=>u=Ua a
 | .ty n,u=>u=Yl n
abbrev Vals:List V->List Value->Prop:=XZ RelV
theorem Vals.length{xs:List V}{us:List Value}(r:Vals xs us):xs.length=us.length:=Vm r
theorem Vals.get:∀{xs:List V}{us:List Value}{i:Nat}{x:V},Vals xs us->xs[i]? =some x->∃u,us[i]? =some u/\RelV x u
 |_,_,_,_, .nil,e=>by simp at e
 |_,_,0,_, .cons r _,e=>by simp at e;subst e;exact⟨_,rfl,r⟩
 |_,_,i+1,x, .cons _ t,e=>by
  obtain⟨u,h1,h2⟩:=Vals.get (i:=i) (x:=x) t (by simpa using e);exact⟨u,by simpa using h1,h2⟩
theorem Vals.set{x:V}{u:Value}(r:RelV x u):∀{xs:List V}{us:List Value}(i:Nat),Vals xs us->Vals (xs.set i x) (us.set i u)
 |_,_,_, .nil=> .nil
 |_,_,0, .cons _ t=> .cons r t
 |_,_,i+1, .cons q t=> .cons q (Vals.set r i t)
theorem Vals.append:∀{xs ys:List V}{us ws:List Value},Vals xs us->Vals ys ws->Vals (xs++ys) (us++ws)
 |_,_,_,_, .nil,s=>s
 |_,_,_,_, .cons r t,s=> .cons r (Vals.append t s)
theorem Vals.take:∀{xs:List V}{us:List Value}(n:Nat),Vals xs us->Vals (xs.take n) (us.take n)
 |_,_,0,_=> .nil
 |_,_,_+1, .nil=> .nil
 |_,_,n+1, .cons r t=> .cons r (Vals.take n t)
theorem Vals.drop:∀{xs:List V}{us:List Value}(n:Nat),Vals xs us->Vals (xs.drop n) (us.drop n)
 |_,_,0,r=>r
 |_,_,_+1, .nil=> .nil
 |_,_,n+1, .cons _ t=>Vals.drop n t
def RelO:Option V->Option Value->Prop
 |some v,some u=>RelV v u
 |none,none=>True
 |_,_=>False
def KV{κ:Type}:List (κ×V)->List (κ×Value)->Prop:=XZ λ(p:κ×V) (q:κ×Value)=>p.1=q.1/\RelV p.2 q.2
def kV:Key->V
 | .inl i=> .int i
 | .inr x=> .str x
inductive HO where
 |lst (xs:List V)
 |tup (xs:List V)
 |dK (ay:List (Key×V)) | dT (ay:List (List Key×V))
 |set (S:Int->Bool) (n:Nat)
 |ins (C dx:Addr) (fs:List (Str×V))
 |own (x:Addr)
 |xd (fs:List (Str×V))
 |met (f x:Addr)
 |rng (lo hi:Int)
 |frz (o:Obj) (u:HO)
 |tbl (ps:Array Value)
 |ext (φ:Heap->Prop)
abbrev Hp:=Addr->Option HO
def upd(H:Hp)(a:Addr)(o:HO):Hp:=λb=>if b=a then some o else H b
def ar{H:Hp}{a:Addr}{o:HO}:upd H a o a=some o:=by unfold upd;rw[Zn rfl]
def aj{H:Hp}{a b:Addr}{o:HO}(h:b≠a):upd H a o b=H b:=by unfold upd;rw[Zo h]
def Eu{H:Hp}{a b:Addr}{o u:HO}(h:H a=some o)(h':H b=some u)(d:o≠u):a≠b:=by
 intro e;subst e;rw[h] at h';exact d (Ub h')
def b5{H:Hp}{a b:Addr}{o:HO}(h:H a=some o)(h':H b=none):a≠b:=by
 intro e;subst e;rw[h] at h';cases h'
section
variable(P:T3)(w:World)
def ObjOk(H:Hp)(h:Heap)(a:Addr):HO->Prop
 | .lst xs=>xs.length<=TK/\∃(aO:List Value) (n:Nat),Vals xs aO/\h.get? a=some {cls:= .type "list",data:= .seq aO.toArray n}
 | .tup xs=>xs.length<=TK/\∃aO:List Value,Vals xs aO/\IsTup h a aO.toArray
 | .dK ay=>ay.length<=TK/\(a==U9)=false/\∃vs,KV ay vs/\h.DictOf (bJ P w) a vs
 | .dT ay=>ay.length<=TK/\(a==U9)=false/\∃xs:List (List Key×Addr×Value),
    XZ (λ(p:List Key×V) (q:List Key×Addr×Value)=>p.1=q.1/\H q.2.1=some (.tup (p.1.map kV))/\RelV p.2 q.2.2) ay xs/\
    ∃o es ep,h.get? a=some o/\o.ExactDict/\o.data= .dict es ep/\es.toList=xs.map (YW (VX (bJ P w)))/\(xs.map (·.1)).Nodup
 | .set S n=>h.SetOf (intKind P w) a S n
 | .ins C dx fs=>H dx=some (.own a)/\fs.length<=1000/\dx≠a/\h.get? a=some (Vi C dx)/\
    ∃mA,h.Ns1 dx mA/\(∀f,RelO (fs.lookup f) (mA f))/\YC mA (fs.map (·.1))
 | .own _=>∃o,h.get? a=some o
 | .xd fs=>∃mA,h.Ns1 a mA/\∀f,RelO (fs.lookup f) (mA f)
 | .rng lo hi=>∃t u v,h.get? a=some {cls:= .type "range",data:= .fields #[.int lo t, .int hi u, .int 1 v]}
 | .frz o u=>h.get? a=some o/\ObjOk H h a u
 | .tbl ps=>h.get? a=some {cls:= .none,data:= .fields ps}
 | .met f x=>h.get? a=some (Xn (.ref f) (.ref x))
 | .ext φ=>φ h/\(∃o,h.get? a=some o)/\∀h1 h2:Heap,φ h1->(∀o,h1.get? a=some o->h2.get? a=some o)->φ h2
def HOk(H:Hp)(h:Heap):Prop:=∀a o,H a=some o->ObjOk P w H h a o
end
section
variable{P:T3}{w:World}{H H':Hp}{h h':Heap}{a:Addr}{o:HO}
theorem ObjOk.lt(x:ObjOk P w H h a o):a<h.objs.size:=by
 cases o with
 |lst xs=>obtain⟨_,_,_,_,e⟩:=x;exact TJ e
 |tup xs=>obtain⟨_,_,_,p⟩:=x;exact p.lt
 |dK ay=>obtain⟨_,_,_,_,o,_,_,e,_⟩:=x;exact TJ e
 |dT ay=>obtain⟨_,_,_,_,o,_,_,e,_⟩:=x;exact TJ e
 |set S n=>obtain⟨o,_,_,_,e,_⟩:=x;exact TJ e
 |ins C dx fs=>obtain⟨_,_,_,e,_⟩:=x;exact TJ e
 |own y=>obtain⟨_,e⟩:=x;exact TJ e
 |xd fs=>obtain⟨_,⟨_,_,_,e,_⟩,_⟩:=x;exact TJ e
 |rng lo hi=>obtain⟨_,_,_,e⟩:=x;exact TJ e
 |frz ob u=>obtain⟨e,_⟩:=x;exact TJ e
 |tbl ps=>exact TJ (show h.get? a=some _ from x)
 |met f y=>exact TJ (show h.get? a=some _ from x)
 |ext φ=>obtain⟨_,⟨_,e⟩,_⟩:=x;exact TJ e
theorem Paired.mapP{α β:Type}{F G:α->β->Prop}:∀{ZI:List α}{ZJ:List β},XZ F ZI ZJ->(∀a b,F a b->G a b)->XZ G ZI ZJ
 |_,_, .nil,_=> .nil
 |_,_, .cons r t,f=> .cons (f _ _ r) (Paired.mapP t f)
def ObjOk.stay(x:ObjOk P w H h a o)(k:∀b u,(b=a\/H b=some (.own a))->h.get? b=some u->h'.get? b=some u)
 (ho:∀b,H b=some (.own a)->H' b=some (.own a))(ht:∀b xs,H b=some (.tup xs)->H' b=some (.tup xs)):ObjOk P w H' h' a o:=by
 induction o with
 |lst xs=>obtain⟨z,aO,n,r,e⟩:=x;exact⟨z,aO,n,r,k _ _ (.inl rfl) e⟩
 |tup xs=>obtain⟨z,aO,r,ob,e,c⟩:=x;exact⟨z,aO,r,ob,k _ _ (.inl rfl) e,c⟩
 |dK ay=>obtain⟨z,y,vs,r,ob,es,ep,e,c⟩:=x;exact⟨z,y,vs,r,ob,es,ep,k _ _ (.inl rfl) e,c⟩
 |dT ay=>
  obtain⟨z,y,xs,r,ob,es,ep,e,c⟩:=x;exact⟨z,y,xs,Paired.mapP r λp q z=>⟨z.1,ht _ _ z.2.1,z.2.2⟩,ob,es,ep,k _ _ (.inl rfl) e,c⟩
 |set S n=>obtain⟨ob,es,ep,t,e,c⟩:=x;exact⟨ob,es,ep,t,k _ _ (.inl rfl) e,c⟩
 |ins C dx fs=>
  obtain⟨d,z,ne,e,mA,⟨od,es,ep,e2,c⟩,r⟩:=x;exact⟨ho _ d,z,ne,k _ _ (.inl rfl) e,mA,⟨od,es,ep,k _ _ (.inr d) e2,c⟩,r⟩
 |own y=>obtain⟨ob,e⟩:=x;exact⟨ob,k _ _ (.inl rfl) e⟩
 |xd fs=>obtain⟨mA,⟨od,es,ep,e,c⟩,r⟩:=x;exact⟨mA,⟨od,es,ep,k _ _ (.inl rfl) e,c⟩,r⟩
 |rng lo hi=>obtain⟨t,u,v,e⟩:=x;exact⟨t,u,v,k _ _ (.inl rfl) e⟩
 |frz ob u ih=>obtain⟨e,q⟩:=x;exact⟨k _ _ (.inl rfl) e,ih q⟩
 |tbl ps=>
  have e:h.get? a=some {cls:= .none,data:= .fields ps}:=x;show h'.get? a=some {cls:= .none,data:= .fields ps};exact k a _ (.inl rfl) e
 |met f y=>
  have e:h.get? a=some (Xn (.ref f) (.ref y)):=x;show h'.get? a=some (Xn (.ref f) (.ref y));exact k a _ (.inl rfl) e
 |ext φ=>obtain⟨p,⟨o,e⟩,st⟩:=x;exact⟨st _ _ p λo q=>k _ _ (.inl rfl) q,⟨o,k _ _ (.inl rfl) e⟩,st⟩
theorem HOk.lt(x:HOk P w H h)(e:H a=some o):a<h.objs.size:=(x a o e).lt
def HOk.fresh(x:HOk P w H h)(e:h.objs.size<=a):H a=none:=by
 cases q:H a with
 |none=>rfl
 |some u=>exact Zp (T8 (x.lt q) e) (Uv _)
def HOk.kept(x:HOk P w H h)(k:∀b u,h.get? b=some u->h'.get? b=some u):HOk P w H h':=λa o e=>
 (x a o e).stay (λb u _ q=>k b u q) (λ_ q=>q) λ_ _ q=>q
def HOk.laid(x:HOk P w H h)(k:∀b u,h.get? b=some u->h'.get? b=some u)(hp:h.objs.size<=a)(new:ObjOk P w (upd H a o) h' a o):HOk P w (upd H a o) h':=λb u e=>by
 have hn:=x.fresh hp;by_cases hb:b=a
 ·subst hb;rw[ar] at e;cases e;exact new
 ·rw[aj hb] at e;exact(x b u e).stay (λc v _ q=>k c v q) (λc q=>by rw[aj (b5 q hn)];exact q) λc xs q=>by rw[aj (b5 q hn)];exact q
end
def Rd(H:Hp)(a:Addr)(u:HO):Prop:=H a=some u\/∃o,H a=some (.frz o u)
def Rd.ok{P:T3}{w:World}{H:Hp}{h:Heap}{a:Addr}{u:HO}(r:Rd H a u)(x:HOk P w H h):ObjOk P w H h a u:=by
 rcases r with r | ⟨o,r⟩
 ·exact x a u r
 ·obtain⟨_,q⟩:=x a _ r;exact q
def Lj:Option HO->Prop
 |some (.lst _)=>True
 |some (.dK _)=>True
 |some (.dT _)=>True
 |some (.set _ _)=>True
 |some (.ins _ _ _)=>True
 |some (.ext _)=>True
 |_=>False
section
variable{P:T3}{w:World}{H:Hp}{h h':Heap}{x e:Addr}{o':HO}
def HOk.write(ok:HOk P w H h)(mu:Lj (H x))(he:e=x\/H e=some (.own x))(k:∀b u,b≠e->h.get? b=some u->h'.get? b=some u)(C6:∃u,h'.get? e=some u)
 (new:ObjOk P w (upd H x o') h' x o'):HOk P w (upd H x o') h':=λb u q=>by
 have Mt:∀c y,H c=some (.own y)->c≠x:=λc y r z=>by subst z;rw[r] at mu;exact mu
 have Pm:∀c xs,H c=some (.tup xs)->c≠x:=λc xs r z=>by subst z;rw[r] at mu;exact mu
 by_cases hb:b=x
 ·subst hb;rw[ar] at q;cases q;exact new
 ·rw[aj hb] at q;by_cases JE:b=e
  ·have q':H b=some (.own x):=by
    rcases he with z | z
    ·exact Zp (JE.trans z) hb
    ·rw[JE];exact z
   rw[q] at q';cases q';obtain⟨v,hv⟩:=C6;exact⟨v,by rw[JE];exact hv⟩
  ·refine(ok b u q).stay (λc v hc r=>k c v ?_ r) (λc r=>by rw[aj (Mt c b r)];exact r) λc xs r=>by rw[aj (Pm c xs r)];exact r
   rcases hc with rfl | hc
   ·exact JE
   ·rintro rfl;rcases he with z | z
    ·exact Mt c b hc z
    ·rw[hc] at z;cases z;exact hb rfl
end
structure Un (fs ex:List Addr) (H H':Hp) (h h':Heap):Prop where
 keep:∀b o,h.get? b=some o->H b=none->b∉fs->b∉ex->h'.get? b=some o
 slot:∀b o,h.get? b=some o->H b=none->b∈fs->b∉ex->∃sl,h'.get? b=some {o with slots:=sl}
 free:∀b o,h.get? b=some o->H b=none->b∉ex->H' b=none
 there:∀b o,h.get? b=some o->b∉ex->∃o',h'.get? b=some o'
 tups:∀b xs,H b=some (.tup xs)->H' b=some (.tup xs)
 frzs:∀b o u,H b=some (.frz o u)->H' b=some (.frz o u)
 tbls:∀b ps,H b=some (.tbl ps)->∃more,H' b=some (.tbl (ps++more))
section
variable{fs JA ex zd:List Addr}{H H1 H2:Hp}{h h1 h2 h':Heap}{a x e:Addr}{o:HO}
def Un.any(u:Un fs ex H H1 h h1){b:Addr}{ob:Obj}(q:h.get? b=some ob)(n:H b=none)(hx:b∉ex):∃sl,h1.get? b=some {ob with slots:=sl}:=by
 by_cases hb:b∈fs
 ·exact u.slot b ob q n hb hx
 ·exact⟨ob.slots,u.keep b ob q n hb hx⟩
def Un.trans(a:Un fs ex H H1 h h1)(b:Un fs ex H1 H2 h1 h2):Un fs ex H H2 h h2 where
 keep:=λc ob q n hc hx=>b.keep c ob (a.keep c ob q n hc hx) (a.free c ob q n hx) hc hx
 slot:=λc ob q n hc hx=>by
  obtain⟨sl,e1⟩:=a.slot c ob q n hc hx;obtain⟨fG,e2⟩:=b.slot c _ e1 (a.free c ob q n hx) hc hx;exact⟨fG,e2⟩
 free:=λc ob q n hx=>by
  obtain⟨o',e1⟩:=a.there c ob q hx;exact b.free c o' e1 (a.free c ob q n hx) hx
 there:=λc ob q hx=>by
  obtain⟨o',e1⟩:=a.there c ob q hx;exact b.there c o' e1 hx
 tups:=λc xs q=>b.tups c xs (a.tups c xs q)
 frzs:=λc ob xs q=>b.frzs c ob xs (a.frzs c ob xs q)
 tbls:=λc ps q=>by
  obtain⟨m1,e1⟩:=a.tbls c ps q;obtain⟨m2,e2⟩:=b.tbls c _ e1;exact⟨m1++m2,by rw[e2,Xr]⟩
def Un.kept(k:∀b u,h.get? b=some u->h'.get? b=some u):Un fs ex H H h h':=
 ⟨λb ob q _ _ _=>k b ob q,λb ob q _ _ _=>⟨ob.slots,k b ob q⟩,λ_ _ _ n _=>n,λb ob q _=>⟨ob,k b ob q⟩,λ_ _ q=>q,λ_ _ _ q=>q,λ_ ps q=>⟨#[],by rw[q];simp⟩⟩
def Un.refl:Un fs ex H H h h:=Un.kept λ_ _ q=>q
def Un.laid(k:∀b u,h.get? b=some u->h'.get? b=some u)(hp:h.objs.size<=a)(hn:H a=none):Un fs ex H (upd H a o) h h' where
 keep:=λb u q _ _ _=>k b u q
 slot:=λb u q _ _ _=>⟨u.slots,k b u q⟩
 free:=λb u q n _=>by rw[aj (T1 (T8 (TJ q) hp))];exact n
 there:=λb u q _=>⟨u,k b u q⟩
 tups:=λb xs q=>by rw[aj (b5 q hn)];exact q
 frzs:=λb u xs q=>by rw[aj (b5 q hn)];exact q
 tbls:=λb ps q=>⟨#[],by rw[aj (b5 q hn),q];simp⟩
def Un.write(mu:Lj (H x))(he:e=x\/H e=some (.own x))(k:∀b u,b≠e->h.get? b=some u->h'.get? b=some u)(C6:∃u,h'.get? e=some u):Un fs ex H (upd H x o) h h':=by
 have hx:∀b,H b=none->b≠x:=λb n z=>by subst z;rw[n] at mu;exact mu
 have hb:∀b,H b=none->b≠e:=λb n z=>by
  subst z;rcases he with r | r
  ·exact hx b n r
  ·rw[n] at r;cases r
 have hm:∀b u,H b=some u->¬Lj (some u)->b≠x:=λb u q nm z=>by subst z;rw[q] at mu;exact nm mu
 refine⟨λb u q n _ _=>k b u (hb b n) q,λb u q n _ _=>⟨u.slots,k b u (hb b n) q⟩,λb u q n _=>by rw[aj (hx b n)];exact n,λb u q _=>?_,
  λb xs q=>by rw[aj (hm b _ q λz=>z)];exact q,λb u xs q=>by rw[aj (hm b _ q λz=>z)];exact q,λb ps q=>⟨#[],by rw[aj (hm b _ q λz=>z),q];simp⟩⟩
 by_cases JE:b=e
 ·subst JE;exact C6
 ·exact⟨u,k b u JE q⟩
def Un.mono(u:Un fs ex H H1 h h1)(hs:∀b∈fs,b∈JA)(hx:∀b∈ex,b∈zd):Un JA zd H H1 h h1:=
 ⟨λb ob q n hb he=>u.keep b ob q n (λz=>hb (hs b z)) λz=>he (hx b z),λ_ _ q n _ he=>u.any q n λz=>he (hx _ z),λb ob q n he=>u.free b ob q n λz=>he (hx b z),λb ob q he=>u.there b ob q λz=>he (hx b z),u.tups,u.frzs,u.tbls⟩
end
def NW(h:Heap)(H:Hp):List Addr:=(TB h.objs.size).filter λa=>(H a).isSome
def uU(h:Heap)(H:Hp):Heap:=PySem.W.hideAll h (NW h H)
def B4(h:Heap)(H:Hp):(uU h H).objs.size=h.objs.size:=PySem.W.hideAll_size _ _
def D5{h:Heap}{H:Hp}{b:Addr}{o:Obj}(e:h.get? b=some o)(n:H b=none):(uU h H).get? b=some o:=
 PySem.W.hideAll_get _ e λhm=>by
  have q:(H b).isSome=true:=(UE.mp hm).2;rw[n] at q;simp at q
def Hc{h:Heap}{H:Hp}{b:Addr}{o:Obj}(e:(uU h H).get? b=some o):h.get? b=some o/\H b=none:=by
 have e':h.get? b=some o:=PySem.W.of_hideAll (NW h H) e;refine⟨e',?_⟩;cases q:H b with
 |none=>rfl
 |some x=>
  have hm:b∈NW h H:=UE.mpr ⟨UP.mpr (TJ e'),by simp[q]⟩;have z:(uU h H).get? b=none:=PySem.W.hideAll_none (NW h H) hm;rw[z] at e;cases e
def Gh(g h:Heap)(L:Addr):List (Addr×Obj):=(TB h.objs.size).filterMap λa=>if a=L\/(g.get? a).isSome=true then none else(h.get? a).map λo=>(a,o)
def Zw(g h:Heap)(L d:Addr):List (Addr×Obj):=(Gh g h L).filter λp=>decide (p.1≠d)
structure Mod (K:Ti) (mg:Str->Option Value) (base:Heap):Prop where
 kin:K.In base
 glob:base.Ns TN mg
 blt:∃mb,base.Ns YX mb/\∀x:Str,x≠"__name__"->mb x=Uw x
 nolimit:base.NoLimit
structure Cx where
 prog:T3
 w:World
 K:Ti
 mg:Str->Option Value
 base:Heap
 A:Uu
 N:List Str
 ZR:Tp
 ZQ:Hp
 env:Env
 outer:List Env
 stack:List Env
 ex:List Addr
 fn:Str->Bool
 calm:Bool
 pn:List (Addr×Obj)
 xe:Value->Tp->Prop
def o9(l:List Env):List Addr:=l.filterMap (·.frame)
abbrev Cx.fs(X:Cx):List Addr:=o9 X.outer
def N9(sc:Scope)(x:Str):Prop:=sc.names.lookup x=some .local\/sc.names.lookup x=some .cell\/sc.names.lookup x=some .free
def Loc(sc:Scope)(x:Str):Prop:=sc.names.lookup x=some .local\/sc.names.lookup x=some .cell
def Look(env:Env)(h:Heap)(m:Str->Option Value)(x:Str)(u:Value):Prop:=
 (env.kindOf x=some .local/\m x=some u)\/((env.kindOf x=some .cell\/env.kindOf x=some .free)/\∃c,env.cells.lookup x=some c/\h.IsCell c (some u))
structure Cx.Ok (X:Cx):Prop where
 mod:Mod X.K X.mg X.base
 kind:X.env.scope.kind= .function
 glob:X.env.globals=TN
 blt:X.env.builtins=YX
 above:X.ZR.heap.objs.size<=X.env.locals
 inj:∀x y c,X.env.cells.lookup x=some c->X.env.cells.lookup y=some c->x=y
 has:∀x,(X.env.kindOf x=some .cell\/X.env.kindOf x=some .free)->∃c,X.env.cells.lookup x=some c
 cab:∀x c,X.fn x=true->X.env.cells.lookup x=some c->X.ZR.heap.objs.size<=c
 hd:X.calm=true->X.A.handled=none
 frames:X.A.frames=some X.stack
 stk:X.stack=X.outer\/(X.stack=X.env::X.outer/\X.env.frame=some X.env.locals)
 exf:∀b∈X.ex,b≠X.env.locals/\∀x c,X.env.cells.lookup x=some c->c≠b
 bs:∀b o,X.base.get? b=some o->X.ZR.heap.get? b=some o/\X.ZQ b=none
 bsz:X.base.objs.size<=X.ZR.heap.objs.size
 noex:∀b o,X.base.get? b=some o->b∉X.ex
 exfs:∀b∈X.ex,b∉X.fs
 funs:X.ZR.heap.FunFrames X.base X.outer
 frf:∀b∈X.fs,X.ZQ b=none
structure Inv (X:Cx) (f8:List (Addr×Obj)) (σ:List (Option V)) (H:Hp) (s:Tp):Prop where
 ok:X.Ok
 os:s.os=X.ZR.os
 bare:Xs s.gens
 base:Un X.fs X.ex X.ZQ H X.ZR.heap s.heap
 loc:∃m,s.heap.Ns X.env.locals m/\∀(i:Nat) (x:Str) (v:V),X.N[i]? =some x->σ[i]? =some (some v)->N9 X.env.scope x->∃u,RelV v u/\Look X.env s.heap m x u
 cell:∀x c,X.env.cells.lookup x=some c->∃v,s.heap.IsCell c v
 free:H X.env.locals=none
 freeC:∀x c,X.env.cells.lookup x=some c->H c=none
 pin:∀p∈X.pn++f8,s.heap.get? p.1=some p.2/\H p.1=none/\p.1≠X.env.locals/\p.1∉X.fs/\∀v,p.2.data≠ .cell v
 hok:HOk X.prog X.w H s.heap
 len:σ.length=X.N.length
section
variable{X:Cx}{f8:List (Addr×Obj)}{σ:List (Option V)}{H H':Hp}{s:Tp}{h':Heap}
def Cx.Ok.nofr(ok:X.Ok){b:Addr}{o:Obj}(e:X.base.get? b=some o):b∉X.fs:=λhb=>by
 have:=(ok.funs.mem hb).1;rw[e] at this;cases this
theorem Inv.bs(I:Inv X f8 σ H s):∀b o,X.base.get? b=some o->s.heap.get? b=some o/\H b=none:=λb o e=>
 ⟨I.base.keep b o (I.ok.bs b o e).1 (I.ok.bs b o e).2 (I.ok.nofr e) (I.ok.noex b o e),I.base.free b o (I.ok.bs b o e).1 (I.ok.bs b o e).2 (I.ok.noex b o e)⟩
def Inv.bk(I:Inv X f8 σ H s):∀b o,X.base.get? b=some o->s.heap.get? b=some o:=λb o e=>(I.bs b o e).1
theorem Inv.mod(I:Inv X f8 σ H s):Mod X.K X.mg X.base:=I.ok.mod
def Inv.kIn(I:Inv X f8 σ H s):X.K.In s.heap:=I.ok.mod.kin.keeps I.bk
theorem Inv.lt(I:Inv X f8 σ H s):X.env.locals<s.heap.objs.size:=let ⟨_,hn,_⟩:=I.loc;hn.lt
def Inv.sz(I:Inv X f8 σ H s):X.ZR.heap.objs.size<=s.heap.objs.size:=T2 I.ok.above (U6 I.lt)
def Inv.nofs(I:Inv X f8 σ H s){a:Addr}(h:s.heap.objs.size<=a):a∉X.fs:=λhb=>by
 obtain⟨_,o,ho,_⟩:=I.ok.funs.mem hb;exact Zp (T8 (TJ ho) (T2 I.sz h)) (Uv _)
def Inv.cne(I:Inv X f8 σ H s):∀x c,X.env.cells.lookup x=some c->c≠X.env.locals:=λx c e z=>by
 obtain⟨v,o,ho,hd⟩:=I.cell x c e;obtain⟨m,⟨o',es,ep,tx,wz,_⟩,_⟩:=I.loc;rw[z,tx] at ho;cases ho;rw[wz] at hd;cases hd
theorem Inv.funs(I:Inv X f8 σ H s):s.heap.FunFrames X.base X.outer:=by
 have all:∀(l:List Env),(∀b∈o9 l,b∈X.fs)->X.ZR.heap.FunFrames X.base l->s.heap.FunFrames X.base l:=by
  intro l;induction l with
  |nil=>intro _ _;trivial
  |cons env r ih=>
   intro hs hl;obtain⟨hk,⟨L,o,hf,hn,ho,hd⟩,hr⟩:=hl;have hL:L∈X.fs:=hs L (by unfold o9;rw[Xh,hf];exact Th);obtain⟨sl,e⟩:=I.base.slot L o ho (I.ok.frf L hL) hL λz=>I.ok.exfs L z hL;exact⟨hk,⟨L,_,hf,hn,e,hd⟩,ih (λb hb=>hs b (by unfold o9;rw[Xh,hf];exact Tf _ hb)) hr⟩
 exact all X.outer (λ_ hb=>hb) I.ok.funs
theorem Inv.stack(I:Inv X f8 σ H s):s.heap.FunFrames X.base X.stack:=by
 rcases I.ok.stk with e | ⟨e,hf⟩
 ·rw[e];exact I.funs
 ·rw[e];obtain⟨m,hn,_⟩:=I.loc;refine .cons (by rw[I.ok.kind];decide) hf hn ?_ I.funs;exact Xa (T2 I.ok.bsz I.ok.above)
def Inv.stkSub(I:Inv X f8 σ H s):∀b∈o9 X.stack,b∈X.env.locals::X.fs:=λb hb=>by
 rcases I.ok.stk with e | ⟨e,hf⟩
 ·rw[e] at hb;exact Tf _ hb
 ·rw[e] at hb;unfold o9 at hb;rw[Xh,hf] at hb;exact hb
def Inv.stkFree(I:Inv X f8 σ H s):∀b∈o9 X.stack,H b=none:=λb hb=>by
 rcases Tz.mp (I.stkSub b hb) with e | hb
 ·rw[e];exact I.free
 ·obtain⟨_,o,ho,_⟩:=I.ok.funs.mem hb;exact I.base.free b o ho (I.ok.frf b hb) λz=>I.ok.exfs b z hb
def Inv.step{g':Array GenState}{t':Nat}{d':Drawn}{ch:List Addr}(I:Inv X f8 σ H s)
 (B2:∀b∈ch,(b∈X.ex\/X.ZR.heap.objs.size<=b)/\b≠X.env.locals/\(∀x c,X.env.cells.lookup x=some c->c≠b)/\∀p∈X.pn++f8,p.1≠b)
 (keep:∀b o,b≠X.env.locals->b∉X.fs->b∉ch->s.heap.get? b=some o->H b=none->h'.get? b=some o)
 (slot:∀b o,b≠X.env.locals->b∈X.fs->b∉ch->s.heap.get? b=some o->H b=none->∃sl,h'.get? b=some {o with slots:=sl})(free:∀b o,b∉ch->s.heap.get? b=some o->H b=none->H' b=none)
 (there:∀b o,b∉ch->s.heap.get? b=some o->∃o',h'.get? b=some o')
 (tups:∀b xs,H b=some (.tup xs)->H' b=some (.tup xs))(frzs:∀b o u,H b=some (.frz o u)->H' b=some (.frz o u))(tbls:∀b ps,H b=some (.tbl ps)->∃more,H' b=some (.tbl (ps++more)))
 (ns:∀m,s.heap.Ns X.env.locals m->h'.Ns X.env.locals m)(hok:HOk X.prog X.w H' h')(hg:Xs g'):
 Inv X f8 σ H' {s with heap:=h',gens:=g',drawn:=d',toks:=t'}:=by
 have QU:∀b o,X.ZR.heap.get? b=some o->b≠X.env.locals:=λb o e=>T1 (T8 (TJ e) I.ok.above);have NQ:∀b o,X.ZR.heap.get? b=some o->b∉X.ex->b∉ch:=λb o e hx hb=>by
  rcases(B2 b hb).1 with z | z
  ·exact hx z
  ·exact Zp (T8 (TJ e) z) (Uv _)
 have cellK:∀x c,X.env.cells.lookup x=some c->∀v,s.heap.IsCell c v->h'.IsCell c v:=λx c e v ⟨o,ho,hd⟩=>by
  have Mp:c∉ch:=λz=>(B2 c z).2.2.1 x c e rfl;by_cases hc:c∈X.fs
  ·obtain⟨sl,q⟩:=slot c o (I.cne x c e) hc Mp ho (I.freeC x c e);exact⟨_,q,hd⟩
  ·exact⟨o,keep c o (I.cne x c e) hc Mp ho (I.freeC x c e),hd⟩
 refine⟨I.ok,I.os,hg,⟨λb o e n hb hx=>?_,λb o e n hb hx=>?_,λb o e n hx=>?_,λb o e hx=>?_,λb xs e=>tups b xs (I.base.tups b xs e),λb o xs e=>frzs b o xs (I.base.frzs b o xs e),λb ps e=>?_⟩,?_,λx c e=>?_,?_,λx c e=>?_,λp hp=>?_,hok,I.len⟩
 ·exact keep b o (QU b o e) hb (NQ b o e hx) (I.base.keep b o e n hb hx) (I.base.free b o e n hx)
 ·obtain⟨sl,e1⟩:=I.base.slot b o e n hb hx;obtain⟨fG,e2⟩:=slot b _ (QU b o e) hb (NQ b o e hx) e1 (I.base.free b o e n hx);exact⟨fG,e2⟩
 ·obtain⟨o',e1⟩:=I.base.there b o e hx;exact free b o' (NQ b o e hx) e1 (I.base.free b o e n hx)
 ·obtain⟨o',e1⟩:=I.base.there b o e hx;exact there b o' (NQ b o e hx) e1
 ·obtain⟨m1,e1⟩:=I.base.tbls b ps e;obtain⟨m2,e2⟩:=tbls b _ e1;exact⟨m1++m2,by rw[e2,Xr]⟩
 ·obtain⟨m,hn,hl⟩:=I.loc;refine⟨m,ns m hn,λi x v e1 e2 e3=>?_⟩;obtain⟨u,r,l⟩:=hl i x v e1 e2 e3;refine⟨u,r,?_⟩;rcases l with l | ⟨k,c,e,z⟩
  ·exact .inl l
  ·exact .inr ⟨k,c,e,cellK x c e _ z⟩
 ·obtain⟨v,z⟩:=I.cell x c e;exact⟨v,cellK x c e v z⟩
 ·obtain⟨m,⟨o,_,_,ho,_⟩,_⟩:=I.loc;exact free _ o (λz=>(B2 _ z).2.1 rfl) ho I.free
 ·obtain⟨v,o,ho,hd⟩:=I.cell x c e;exact free c o (λz=>(B2 c z).2.2.1 x c e rfl) ho (I.freeC x c e)
 ·obtain⟨e,n,ne,nf,d⟩:=I.pin p hp;have Mp:p.1∉ch:=λz=>(B2 p.1 z).2.2.2 p hp rfl;exact⟨keep p.1 p.2 ne nf Mp e n,free p.1 p.2 Mp e n,ne,nf,d⟩
def Inv.un{t':Nat}(I:Inv X f8 σ H s)(u:Un X.fs [] H H' s.heap h')(hok:HOk X.prog X.w H' h'):Inv X f8 σ H' {s with heap:=h',toks:=t'}:=by
 obtain⟨m,⟨o,es,ep,ho,r⟩,_⟩:=id I.loc;obtain⟨sl,hL⟩:=u.any ho I.free (by simp);exact I.step (g':=s.gens) (d':=s.drawn) (ch:=[]) (λ_ z=>nomatch z) (λb o _ hb _ e n=>u.keep b o e n hb (by simp)) (λb o _ hb _ e n=>u.slot b o e n hb (by simp)) (λb o _ e n=>u.free b o e n (by simp)) (λb o _ e=>u.there b o e (by simp)) u.tups u.frzs u.tbls (λm' hm=>by
  obtain⟨o',K7,GF,tx,r'⟩:=hm;rw[ho] at tx;cases tx;exact⟨_,K7,GF,hL,r'⟩) hok I.bare
def Inv.call{g':Array GenState}{t':Nat}{d':Drawn}{ch:List Addr}(I:Inv X f8 σ H s)(u:Un (o9 X.stack) ch H H' s.heap h')(hok:HOk X.prog X.w H' h')(hg:Xs g')
 (B2:∀b∈ch,(b∈X.ex\/X.ZR.heap.objs.size<=b)/\b≠X.env.locals/\(∀x c,X.env.cells.lookup x=some c->c≠b)/\∀p∈X.pn++f8,p.1≠b):
 Inv X f8 σ H' {s with heap:=h',gens:=g',drawn:=d',toks:=t'}:=by
 obtain⟨m,⟨o,es,ep,ho,r⟩,_⟩:=id I.loc;obtain⟨sl,hL⟩:=u.any ho I.free λz=>(B2 _ z).2.1 rfl;exact I.step (ch:=ch) B2 (λb o hL hb hc e n=>u.keep b o e n (λz=>(Tz.mp (I.stkSub b z)).elim hL hb) hc) (λb o _ _ hc e n=>u.any e n hc) (λb o hc e n=>u.free b o e n hc) (λb o hc e=>u.there b o e hc) u.tups u.frzs u.tbls (λm' hm=>by
  obtain⟨o',K7,GF,tx,r'⟩:=hm;rw[ho] at tx;cases tx;exact⟨_,K7,GF,hL,r'⟩) hok hg
def Inv.turned{t':Nat}{it:Addr}(I:Inv X f8 σ H s)(k:∀b o,b≠it->s.heap.get? b=some o->h'.get? b=some o)(hn:H it=none)(hL:it≠X.env.locals)
 (h1:it∈X.ex\/X.ZR.heap.objs.size<=it)(h2:∀x c,X.env.cells.lookup x=some c->c≠it)(h3:∀p∈X.pn++f8,p.1≠it):Inv X f8 σ H {s with heap:=h',toks:=t'}:=by
 have QV:∀b u,H b=some u->b≠it:=λb u e z=>by rw[z,hn] at e;cases e
 refine I.step (g':=s.gens) (d':=s.drawn) (ch:=[it]) (λb hb=>?_) (λb o _ _ hc e _=>k b o (λz=>hc (by simp[z])) e) (λb o _ _ hc e _=>⟨o.slots,k b o (λz=>hc (by simp[z])) e⟩) (λ_ _ _ _ n=>n)
  (λb o hc e=>⟨o,k b o (λz=>hc (by simp[z])) e⟩) (λ_ _ e=>e) (λ_ _ _ e=>e) (λb ps e=>⟨#[],by rw[e];simp⟩) (λm hm=>?_) (λb u e=>?_) I.bare
 ·have e:b=it:=by simpa using hb
  subst e;exact⟨h1,hL,h2,h3⟩
 ·obtain⟨o,es,ep,ho,r⟩:=hm;exact⟨o,es,ep,k _ o (Vh hL) ho,r⟩
 ·refine(I.hok b u e).stay (λc v hc q=>k c v ?_ q) (λ_ q=>q) λ_ _ q=>q;rcases hc with z | z
  ·rw[z];exact QV b u e
  ·exact QV c _ z
def Inv.tok(I:Inv X f8 σ H s)(t:Nat):Inv X f8 σ H {s with toks:=t}:=I.un (h':=s.heap) (t':=t) Un.refl I.hok
theorem Inv.kept{t':Nat}(I:Inv X f8 σ H s)(k:∀b u,s.heap.get? b=some u->h'.get? b=some u):Inv X f8 σ H {s with heap:=h',toks:=t'}:=I.un (Un.kept k) (I.hok.kept k)
theorem Inv.laid{a:Addr}{o:HO}{t':Nat}(I:Inv X f8 σ H s)(k:∀b u,s.heap.get? b=some u->h'.get? b=some u)(hp:s.heap.objs.size<=a)(new:ObjOk X.prog X.w (upd H a o) h' a o):
 Inv X f8 σ (upd H a o) {s with heap:=h',toks:=t'}:=I.un (Un.laid k hp (I.hok.fresh hp)) (I.hok.laid k hp new)
theorem Inv.write{x e:Addr}{o:HO}{t':Nat}(I:Inv X f8 σ H s)(mu:Lj (H x))(he:e=x\/H e=some (.own x))(k:∀b u,b≠e->s.heap.get? b=some u->h'.get? b=some u)(C6:∃u,h'.get? e=some u)
 (new:ObjOk X.prog X.w (upd H x o) h' x o):Inv X f8 σ (upd H x o) {s with heap:=h',toks:=t'}:=I.un (Un.write mu he k C6) (I.hok.write mu he k C6 new)
def Inv.pins_of{I_:List (Addr×Obj)}(I:Inv X f8 σ H s)(h:∀p∈I_,s.heap.get? p.1=some p.2/\H p.1=none/\p.1≠X.env.locals/\p.1∉X.fs/\∀v,p.2.data≠ .cell v):Inv X I_ σ H s:=
 ⟨I.ok,I.os,I.bare,I.base,I.loc,I.cell,I.free,I.freeC,λp hp=>(Ud.mp hp).elim (λz=>I.pin p (Vj _ z)) (h p),I.hok,I.len⟩
def xK{N:List Str}(hN:N.Nodup){i j:Nat}{x:Str}(a:N[i]? =some x)(b:N[j]? =some x):i=j:=by
 obtain⟨h1,e1⟩:=To.mp a;obtain⟨h2,e2⟩:=To.mp b;exact(List.getElem_inj hN).mp (e1.trans e2.symm)
def ug{M:Model}{A:Uu}{E:Value->Tp->Prop}{i:Nat}{x:Str}{v:V}{u:Value}{Q:Unit->Tp->Prop}(I:Inv X f8 σ H s)(hN:X.N.Nodup)(hi:X.N[i]? =some x)(hx:Loc X.env.scope x)(r:RelV v u)
 (h:∀s',Inv X f8 (σ.set i (some v)) H s'->(∃a,Vw a s.heap s'.heap/\(a=X.env.locals\/X.env.cells.lookup x=some a))->Q () s')(hf:X.fn x=true\/X.env.scope.names.lookup x=some .local:=by first | exact .inl rfl | exact .inr rfl | assumption):wpAny M A (storeName X.env x u) Q E s:=by
 obtain⟨m,hn,hl⟩:=id I.loc;have OB:(X.env.scope.kind== .class||(X.env.scope.kind== .module&&X.env.locals !=X.env.globals))=false:=by rw[I.ok.kind];rfl
 have QB:i<σ.length:=by rw[I.len];exact(To.mp hi).1
 have cne:=I.cne;have tracked:∀{a:Addr}{h':Heap},(∃o,s.heap.get? a=some o/\H a=none)->Vw a s.heap h'->HOk X.prog X.w H h':=λ{a h'} ha hs b ob e=>by
  obtain⟨_,_,IK⟩:=ha;refine(I.hok b ob e).stay (λc w' hc q=>(hs.2 c ?_).trans q) (λ_ q=>q) λ_ _ q=>q;rintro rfl;rcases hc with rfl | hc
  ·rw[IK] at e;cases e
  ·rw[IK] at hc;cases hc
 rcases hx with hk | hk
 ·refine wpAny_storeName_local hk hn (λh' RZ hs=>?_) OB;obtain⟨oL,_,_,NG,_⟩:=id hn;refine h _ ⟨I.ok,I.os,I.bare,⟨λb o e n hb hx=>?_,λb o e n hb hx=>?_,I.base.free,λb o e hx=>?_,I.base.tups,I.base.frzs,I.base.tbls⟩,⟨_,RZ,λj y v' e1 e2 e3=>?_⟩,λy c e=>?_,I.free,I.freeC,λp hp=>?_,tracked ⟨oL,NG,I.free⟩ hs,by simpa using I.len⟩ ⟨_,hs, .inl rfl⟩
  ·exact(hs.2 b (T1 (T8 (TJ e) I.ok.above))).trans (I.base.keep b o e n hb hx)
  ·obtain⟨sl,e1⟩:=I.base.slot b o e n hb hx;exact⟨sl,(hs.2 b (T1 (T8 (TJ e) I.ok.above))).trans e1⟩
  ·obtain⟨o',e1⟩:=I.base.there b o e hx;exact⟨o',(hs.2 b (T1 (T8 (TJ e) I.ok.above))).trans e1⟩
  ·by_cases hj:j=i
   ·subst hj;rw[hi] at e1;cases e1;rw[TY QB] at e2;cases e2;exact⟨u,r, .inl ⟨hk,by simp⟩⟩
   ·rw[T5 (Vh hj)] at e2;obtain⟨u',r',q⟩:=hl j y v' e1 e2 e3;refine⟨u',r',?_⟩;rcases q with⟨k,e⟩ | ⟨k,c,e,z⟩
    ·refine .inl ⟨k,?_⟩;have:y≠x:=λe=>hj (xK hN e1 (e▸hi));simp[this,e]
    ·exact .inr ⟨k,c,e,z.sameBut hs (cne y c e)⟩
  ·obtain⟨w',z⟩:=I.cell y c e;exact⟨w',z.sameBut hs (cne y c e)⟩
  ·obtain⟨e,n,ne,nf,d⟩:=I.pin p hp;exact⟨(hs.2 p.1 ne).trans e,n,ne,nf,d⟩
 ·have OH:X.fn x=true:=by
   rcases hf with z | z
   ·exact z
   ·rw[z] at hk;cases hk
  obtain⟨c,hc⟩:=I.ok.has x (.inl hk);obtain⟨w',z⟩:=I.cell x c hc;refine wpAny_storeName_cell I.ok.kind hk hc z (λh' zo hs=>?_);obtain⟨oc,NH,O0⟩:=id z;refine h {s with heap:=h'} ⟨I.ok,I.os,I.bare,⟨λb o e n hb hx=>?_,λb o e n hb hx=>?_,I.base.free,λb o e hx=>?_,I.base.tups,I.base.frzs,I.base.tbls⟩,⟨m,hn.sameBut hs (Vh (cne x c hc)),λj y v' e1 e2 e3=>?_⟩,λy c' e=>?_,I.free,I.freeC,λp hp=>?_,tracked ⟨oc,NH,I.freeC x c hc⟩ hs,by simpa using I.len⟩ ⟨c,hs, .inr hc⟩
  ·exact(hs.2 b (T1 (T8 (TJ e) (I.ok.cab x c OH hc)))).trans (I.base.keep b o e n hb hx)
  ·obtain⟨sl,e1⟩:=I.base.slot b o e n hb hx;exact⟨sl,(hs.2 b (T1 (T8 (TJ e) (I.ok.cab x c OH hc)))).trans e1⟩
  ·obtain⟨o',e1⟩:=I.base.there b o e hx;exact⟨o',(hs.2 b (T1 (T8 (TJ e) (I.ok.cab x c OH hc)))).trans e1⟩
  ·by_cases hj:j=i
   ·subst hj;rw[hi] at e1;cases e1;rw[TY QB] at e2;cases e2;exact⟨u,r, .inr ⟨.inl hk,c,hc,zo⟩⟩
   ·rw[T5 (Vh hj)] at e2;obtain⟨u',r',q⟩:=hl j y v' e1 e2 e3;refine⟨u',r',?_⟩;rcases q with q | ⟨k,c',e,z'⟩
    ·exact .inl q
    ·refine .inr ⟨k,c',e,z'.sameBut hs ?_⟩;rintro rfl;exact hj (xK hN e1 (I.ok.inj _ _ _ e hc▸hi))
  ·by_cases Nx:c'=c
   ·subst Nx;exact⟨_,zo⟩
   ·obtain⟨w2,z2⟩:=I.cell y c' e;exact⟨w2,z2.sameBut hs Nx⟩
  ·obtain⟨e,n,ne,nf,d⟩:=I.pin p hp;refine⟨(hs.2 p.1 ?_).trans e,n,ne,nf,d⟩;intro q;rw[q,NH] at e;have q':oc=p.2:=Ub e;exact d w' (by rw[<-q'];exact O0)
def yA{M:Model}{A:Uu}{E:Value->Tp->Prop}{i:Nat}{x:Str}{v:V}{u:Value}{Q:Unit->Tp->Prop}(I:Inv X f8 σ H s)(hN:X.N.Nodup)(hi:X.N[i]? =some x)(hx:Loc X.env.scope x)(r:RelV v u)
 (h:∀s',Inv X f8 (σ.set i (some v)) H s'->Q () s')(hf:X.fn x=true\/X.env.scope.names.lookup x=some .local:=by first | exact .inl rfl | exact .inr rfl | assumption):wpAny M A (storeName X.env x u) Q E s:=
 ug I hN hi hx r (λs' I' _=>h s' I') hf
def Inv.call'{s':Tp}{ch:List Addr}(I:Inv X f8 σ H s)(ho:s'.os=s.os)(u:Un (o9 X.stack) ch H H' s.heap s'.heap)(hok:HOk X.prog X.w H' s'.heap)(hg:Xs s'.gens)
 (B2:∀b∈ch,(b∈X.ex\/X.ZR.heap.objs.size<=b)/\b≠X.env.locals/\(∀x c,X.env.cells.lookup x=some c->c≠b)/\∀p∈X.pn++f8,p.1≠b):Inv X f8 σ H' s':=by
 obtain⟨h',g',d',t',o'⟩:=s';have e:o'=s.os:=ho;subst e;exact I.call (g':=g') (t':=t') (d':=d') u hok hg B2
end
abbrev XK:=Value->Option Addr->Hp->Prop
abbrev St:=List (Option V)
abbrev VK:=V->Hp->Prop
abbrev TE:=St->Hp->VK->Prop
abbrev TT:=St->Hp->(Bool->Hp->Prop)->Prop
abbrev TA:=St->Hp->(List V->Hp->Prop)->Prop
structure Ends where
 nx:St->Hp->Prop
 rt:VK
 bk:St->Hp->Prop:=λ_ _=>False
 ct:St->Hp->Prop:=λ_ _=>False
abbrev TS:=Ends->St->Hp->Prop
def Jg:Nat:=600
class Tk (s:Tp):Prop where
 le:Jg<=s.toks
class Up (s:outParam Tp) (s':Tp):Prop where
 le:s.toks<=s'.toks
instance tkUp {s s':Tp} [u:Up s s'] [k:Tk s]:Tk s':=⟨T2 k.le u.le⟩
instance tkHeap {s:Tp}{h:Heap} [k:Tk s]:Tk ⟨h,s.gens,s.drawn,s.toks,s.os⟩:=⟨k.le⟩
def EP(X:Cx)(f8:List (Addr×Obj))(σ:St)(Q:VK)(u:Value)(s':Tp):Prop:=∃v H',Inv X f8 σ H' s'/\RelV v u/\Q v H'
def TP(X:Cx)(f8:List (Addr×Obj))(σ:St)(Q:Bool->Hp->Prop)(b:Bool)(s':Tp):Prop:=∃H',Inv X f8 σ H' s'/\Q b H'
def AP(X:Cx)(f8:List (Addr×Obj))(σ:St)(Q:List V->Hp->Prop)(us:List Value)(s':Tp):Prop:=∃vs H',Inv X f8 σ H' s'/\Vals vs us/\Q vs H'
def SP(X:Cx)(f8:List (Addr×Obj))(D:Ends)(f:Flow)(s':Tp):Prop:=
 match f with
 | .next=>∃σ' H',Inv X f8 σ' H' s'/\D.nx σ' H'
 | .brk=>∃σ' H',Inv X f8 σ' H' s'/\D.bk σ' H'
 | .cont=>∃σ' H',Inv X f8 σ' H' s'/\D.ct σ' H'
 | .ret u=>∃v σ' H',Inv X f8 σ' H' s'/\RelV v u/\D.rt v H'
def PE(X:Cx)(e:Expr)(t:TE):Prop:=
 ∀(f8:List (Addr×Obj)) (s:Tp) (σ:St) (H:Hp) (Q:VK),Inv X f8 σ H s->t σ H Q->∀[Tk s],wpAny (model X.prog X.w) X.A (eval e X.env) (EP X f8 σ Q) X.xe s
def PT(X:Cx)(e:Expr)(t:TT):Prop:=
 ∀(f8:List (Addr×Obj)) (s:Tp) (σ:St) (H:Hp) (Q:Bool->Hp->Prop),Inv X f8 σ H s->t σ H Q->∀[Tk s],wpAny (model X.prog X.w) X.A (isTrue e X.env (eval e X.env)) (TP X f8 σ Q) X.xe s
def PW(X:Cx)(e:Expr)(t:TT):Prop:=
 ∀(whole:Sem Value) (f8:List (Addr×Obj)) (s:Tp) (σ:St) (H:Hp) (Q:Bool->Hp->Prop),Inv X f8 σ H s->t σ H Q->∀[Tk s],wpAny (model X.prog X.w) X.A (isTrue e X.env whole) (TP X f8 σ Q) X.xe s
def PW.pt{X:Cx}{e:Expr}{t:TT}(h:PW X e t):PT X e t:=h _
def PA(X:Cx)(es:List Expr)(t:TA):Prop:=
 ∀(pos:Pos) (f8:List (Addr×Obj)) (s:Tp) (σ:St) (H:Hp) (Q:List V->Hp->Prop),Inv X f8 σ H s->t σ H Q->∀[Tk s],wpAny (model X.prog X.w) X.A (spliced (UM pos (Tq es X.env))) (AP X f8 σ Q) X.xe s
def PS(X:Cx)(st:Stmt)(t:TS):Prop:=
 ∀(f8:List (Addr×Obj)) (s:Tp) (σ:St) (H:Hp) (D:Ends),Inv X f8 σ H s->t D σ H->∀[Tk s],wpAny (model X.prog X.w) X.A (exec st X.env) (SP X f8 D) X.xe s
def PSs(X:Cx)(st:List Stmt)(t:TS):Prop:=
 ∀(f8:List (Addr×Obj)) (s:Tp) (σ:St) (H:Hp) (D:Ends),Inv X f8 σ H s->t D σ H->∀[Tk s],wpAny (model X.prog X.w) X.A (execs st X.env) (SP X f8 D) X.xe s
def bQ{α:Type}{t:Sem α}{Q Q':α->Tp->Prop}{M:Model}{A:Uu}{E:Value->Tp->Prop}{s:Tp}(h:wpAny M A t Q E s)(hQ:∀a s',Q a s'->∀[Up s s'],Q' a s'):wpAny M A t Q' E s:=UO (wpAny_toks h) (λa s' x=>@hQ a s' x.2 ⟨x.1⟩) λ_ _ x=>x.2
section
variable{X:Cx}
def bin{a b:Expr}{ta tb:TE}(ha:PE X a ta)(hb:PE X b tb){f8:List (Addr×Obj)}{s:Tp}[Tk s]{σ:St}{H:Hp}{R:V->V->Hp->Prop}(I:Inv X f8 σ H s)(h:ta σ H λx H1=>tb σ H1 λy H2=>R x y H2)
 {α:Type}{Q:α->Tp->Prop}{f:Value->Value->Sem α}
 (hf:∀v u s2 x y H2,Inv X f8 σ H2 s2->RelV x v->RelV y u->R x y H2->wpAny (model X.prog X.w) X.A (f v u) Q X.xe s2):
 wpAny (model X.prog X.w) X.A (eval a X.env) (λv T0=>wpAny (model X.prog X.w) X.A (eval b X.env) (λu v4=>wpAny (model X.prog X.w) X.A (f v u) Q X.xe v4) X.xe T0) X.xe s:=by
 refine bQ (ha f8 s σ H _ I h) λv s1 ⟨x,H1,I1,r1,q1⟩=>?_;refine bQ (hb f8 s1 σ H1 _ I1 q1) λu s2 ⟨y,H2,I2,r2,q2⟩=>?_;exact hf v u s2 x y H2 I2 r1 r2 q2
def fE(i:Nat):TE:=λσ H Q=>∃v,σ[i]? =some (some v)/\Q v H
def tC(v:V):TE:=λ_ H Q=>Q v H
def Ku{i:Nat}{x:Str}{pos:Pos}(hN:X.N[i]? =some x)(hv:N9 X.env.scope x)(hd:(x==("__debug__":Str))=false:=by decide)(sj:(x==("__classdict__":Str))=false:=by decide):PE X (.Name x pos) (fE i):=by
 intro f8 s σ H Q I h _;obtain⟨v,e,h⟩:=h;obtain⟨m,hn,hl⟩:=I.loc;obtain⟨u,r,l⟩:=hl i x v hN e hv;have fin:EP X f8 σ Q u s:=⟨v,H,I,r,h⟩
 rcases l with⟨hk,hm⟩ | ⟨hk,c,hc,II⟩
 ·exact wpAny_Name (wpAny_loadName_local I.ok.kind hk hn hm fin) hd
 ·rcases hk with hk | hk
  ·exact wpAny_Name (wpAny_loadName_cell I.ok.kind hk hc II fin) hd
  ·exact wpAny_Name (wpAny_loadName_free I.ok.kind hk hc II fin sj) hd
def z5{i j pos}:PE X (.Constant (.int i) j pos) (tC (.int i)):=λ_ _ _ H _ I h=>wpAny_Constant_int ⟨.int i,H,I.tok _,⟨_,rfl⟩,h⟩
def MG{b j pos}:PE X (.Constant (.bool b) j pos) (tC (.bl b)):=λ_ _ _ H _ I h=>Constant_bool ⟨.bl b,H,I,rfl,h⟩
def Ko{j pos}:PE X (.Constant .none j pos) (tC .non):=λ_ _ _ H _ I h=>Constant_none ⟨.non,H,I,rfl,h⟩
def Kr{x j pos}:PE X (.Constant (.str x) j pos) (tC (.str x)):=λ_ _ _ H _ I h=>Y3 ⟨.str x,H,I.tok _,⟨_,rfl⟩,h⟩
def Gl(X:Cx)(x:Str):Prop:=X.env.kindOf x=some .globalImplicit
def pP{E:Value->Tp->Prop}{f8:List (Addr×Obj)}{s:Tp}{σ:St}{H:Hp}{x:Str}{u:Value}{pos:Pos}{Q:Value->Tp->Prop}(I:Inv X f8 σ H s)(hg:Gl X x)(hm:X.mg x=some u)(h:Q u s)
 (hd:(x==("__debug__":Str))=false:=by decide):wpAny (model X.prog X.w) X.A (eval (.Name x pos) X.env) Q E s:=
 X9 I.ok.kind hg (Calls.loadGlobal_global (by rw[I.ok.glob];exact I.mod.glob.keeps I.bk) hm h) hd
def nu{E:Value->Tp->Prop}{f8:List (Addr×Obj)}{s:Tp}{σ:St}{H:Hp}{x:Str}{u:Value}{pos:Pos}{Q:Value->Tp->Prop}(I:Inv X f8 σ H s)(hg:Gl X x)(hm:X.mg x=none)(hv:Uw x=some u)(h:Q u s)
 (hn:x≠"__name__":=by decide)(hd:(x==("__debug__":Str))=false:=by decide):wpAny (model X.prog X.w) X.A (eval (.Name x pos) X.env) Q E s:=by
 obtain⟨mb,h1,h2⟩:=I.mod.blt;exact X9 I.ok.kind hg (Calls.loadGlobal_builtin (by rw[I.ok.glob];exact I.mod.glob.keeps I.bk) hm (by rw[I.ok.blt];exact h1.keeps I.bk) ((h2 x hn).trans hv) h) hd
def Hx{x:Str}{v:V}{u:Value}{pos:Pos}(hg:Gl X x)(hm:X.mg x=some u)(r:RelV v u)(hd:(x==("__debug__":Str))=false:=by decide):PE X (.Name x pos) (tC v):=
 λ_ _ _ H _ I h=>pP I hg hm ⟨v,H,I,r,h⟩ hd
def Hw{x:Str}{v:V}{u:Value}{pos:Pos}(hg:Gl X x)(hm:X.mg x=none)(hv:Uw x=some u)(r:RelV v u)(hn:x≠"__name__":=by decide)(hd:(x==("__debug__":Str))=false:=by decide):PE X (.Name x pos) (tC v):=
 λ_ _ _ H _ I h=>nu I hg hm hv ⟨v,H,I,r,h⟩ hn hd
variable{a b:Expr}{ta tb:TE}{pos:Pos}
def PC(X:Cx)(op:CmpOp)(a b:Expr)(t:TE):Prop:=
 ∀(f8:List (Addr×Obj)) (s:Tp) (σ:St) (H:Hp) (Q:VK),Inv X f8 σ H s->t σ H Q->
  ∀[Tk s],wpAny (model X.prog X.w) X.A (eval a X.env) (λv T0=>wpAny (model X.prog X.w) X.A (eval b X.env) (λu v4=>wpAny (model X.prog X.w) X.A (Uy op v u) (EP X f8 σ Q) X.xe v4) X.xe T0) X.xe s
def Ey(b:Expr){op:CmpOp}(h:op≠ .In)(h2:op≠ .NotIn):Uz op b=false:=by
 have e1:(op==CmpOp.In)=false:=by cases op<;>first | rfl | exact Zp rfl h
 have e2:(op==CmpOp.NotIn)=false:=by cases op<;>first | rfl | exact Zp rfl h2
 cases b<;>simp[Uz,e1,e2]
def Km{op:CmpOp}{t:TE}(h:PC X op a b t)(h1:Uz op b=false:=by first | exact Ey _ (by decide) (by decide) | rfl):PE X (.Compare a [op] [b] pos) t:=λf8 s σ H Q I hw=>wpAny_Compare1 (h f8 s σ H Q I hw) h1
variable{tA ej:TT}{Zw:List Expr}
def SE(t u:TT):TT:=λσ H Q=>t σ H λc H1=>if c=true then Q true H1 else u σ H1 Q
def P2(t:TT):TT:=λσ H Q=>t σ H λc H1=>Q (!c) H1
def Fb(ha:PT X a tA):PW X (.BoolOp .Or [a] pos) tA:=by
 intro wh f8 s σ H Q I h;refine isTrue_or (bQ (ha f8 s σ H Q I h) λc s1 e=>?_);cases c with
 |false=>exact isTrue_or_nil e
 |true=>exact e
def Jb(ha:PT X a tA)(hb:PW X (.BoolOp .Or (b::Zw) pos) ej):PW X (.BoolOp .Or (a::b::Zw) pos) (SE tA ej):=by
 intro wh f8 s σ H Q I h;refine isTrue_or (bQ (ha f8 s σ H _ I h) λc s1 ⟨H1,I1,q1⟩=>?_);cases c with
 |true=>exact⟨H1,I1,q1⟩
 |false=>exact hb wh f8 s1 σ H1 Q I1 q1
def E6(ha:PT X a tA):PT X (.UnaryOp .Not a pos) (P2 tA):=by
 intro f8 s σ H Q I h;exact isTrue_not (ha f8 s σ H (λc H1=>Q (!c) H1) I h)
def MZ(ta tb:TE):TE:=λσ H Q=>ta σ H λx H1=>∃c,x= .bl c/\if c=true then tb σ H1 Q else Q (.bl false) H1
def M5(ta:TE):TE:=λσ H Q=>ta σ H λx H1=>∃c,x= .bl c/\Q (.bl (!c)) H1
def Kq{op}{t:TE}(h:PE X a t):PE X (.BoolOp op [a] pos) t:=λf8 s σ H Q I hw=>BoolOp_one (h f8 s σ H Q I hw)
def Kl(ha:PE X a ta)(hb:PE X (.BoolOp .And (b::Zw) pos) tb):PE X (.BoolOp .And (a::b::Zw) pos) (MZ ta tb):=by
 intro f8 s σ H Q I h;refine BoolOp_and (bQ (ha f8 s σ H _ I h) λv s1 ⟨x,H1,I1,r1,q1⟩=>?_);obtain⟨c,rfl,q1⟩:=q1;cases r1;refine Vc ?_;cases c with
 |true=>exact hb f8 s1 σ H1 Q I1 q1
 |false=>exact⟨.bl false,H1,I1,rfl,q1⟩
def Kp(ha:PE X a ta):PE X (.UnaryOp .Not a pos) (M5 ta):=by
 intro f8 s σ H Q I h;refine UnaryOp_ (bQ (ha f8 s σ H _ I h) λv s1 ⟨x,H1,I1,r1,q1⟩=>?_);obtain⟨c,rfl,q1⟩:=q1;cases r1;exact not_of (Vc ⟨.bl (!c),H1,I1,rfl,q1⟩)
def SD(t:TT)(ta tb:TE):TE:=λσ H Q=>t σ H λc H1=>if c=true then ta σ H1 Q else tb σ H1 Q
def EW{c:Expr}(hc:PT X c tA)(ha:PE X a ta)(hb:PE X b tb):PE X (.IfExp c a b pos) (SD tA ta tb):=by
 intro f8 s σ H Q I h;refine wpAny_IfExp (bQ (hc f8 s σ H _ I h) λd s1 ⟨H1,I1,q1⟩=>?_);cases d with
 |true=>exact ha f8 s1 σ H1 Q I1 q1
 |false=>exact hb f8 s1 σ H1 Q I1 q1
end
def SqL(K:Ti)(H:Hp)(a:Addr)(xs:List V):Prop:=
 Rd H a (.lst xs)\/
  ∃(o:Obj) (aO:Array Value) (n:Nat),K.lookup a=some o/\o.cls= .type "list"/\o.dict=none/\o.data= .seq aO n/\aO.size<=TK/\Vals xs aO.toList
def SqT(K:Ti)(H:Hp)(a:Addr)(xs:List V):Prop:=
 Rd H a (.tup xs)\/
  ∃(o:Obj) (aO:Array Value) (n:Nat),K.lookup a=some o/\o.cls= .type "tuple"/\o.data= .seq aO n/\aO.size<=TK/\Vals xs aO.toList
def N_:Value->Option V
 | .none=>some .non
 | .bool b=>some (.bl b)
 | .int i _=>some (.int i)
 | .str x _=>some (.str x)
 | .bytes b _=>some (.byt b)
 | .float b _=>some (.flt b)
 | .ref a=>some (.ref a)
 | .type n=>some (.ty n)
 |_=>none
def RelV.abs{x:V}{u:Value}(r:RelV x u):N_ u=some x:=by
 cases x with
 |non=>cases r;rfl
 |bl _=>cases r;rfl
 |int _=>obtain⟨t,rfl⟩:=r;rfl
 |str _=>obtain⟨t,rfl⟩:=r;rfl
 |byt _=>obtain⟨t,rfl⟩:=r;rfl
 |flt _=>obtain⟨t,rfl⟩:=r;rfl
 |ref _=>cases r;rfl
 |ty _=>cases r;rfl
def RelV.inj{x y:V}{u:Value}(r:RelV x u)(q:RelV y u):x=y:=Ub (r.abs.symm.trans q.abs)
theorem Vals.inj:∀{xs ys:List V}{us:List Value},Vals xs us->Vals ys us->xs=ys
 |_,_,_, .nil, .nil=>rfl
 |_,_,_, .cons r t, .cons r' t'=>by rw[r.inj r',Vals.inj t t']
section
variable{X:Cx}{f8:List (Addr×Obj)}{σ:St}{H:Hp}{s:Tp}{a:Addr}{xs ys:List V}
def SqL.of{K:Ti}(h:H a=some (.lst xs)):SqL K H a xs:= .inl (.inl h)
def SqT.of{K:Ti}(h:H a=some (.tup xs)):SqT K H a xs:= .inl (.inl h)
def Inv.list(I:Inv X f8 σ H s)(h:SqL X.K H a xs):∃aO:List Value,Vals xs aO/\PlainL s.heap a aO.toArray/\xs.length<=TK:=by
 rcases h with h | ⟨o,aO,n,hk,hc,hd,hs,hz,r⟩
 ·obtain⟨z,aO,n,r,e⟩:=h.ok I.hok;exact⟨aO,r,⟨_,n,e,rfl,rfl,rfl⟩,z⟩
 ·refine⟨aO.toList,r,⟨o,n,I.kIn a o hk,hc,hd,by simpa using hs⟩,?_⟩;have e:=r.length;simp only[TZ] at e;omega
def Inv.tuple(I:Inv X f8 σ H s)(h:SqT X.K H a xs):∃aO:List Value,Vals xs aO/\IsTup s.heap a aO.toArray/\xs.length<=TK:=by
 rcases h with h | ⟨o,aO,n,hk,hc,hs,hz,r⟩
 ·obtain⟨z,aO,r,p⟩:=h.ok I.hok;exact⟨aO,r,p,z⟩
 ·refine⟨aO.toList,r,⟨o,I.kIn a o hk,hc,n,by simpa using hs⟩,?_⟩;have e:=r.length;simp only[TZ] at e;omega
def Inv.list_inj(I:Inv X f8 σ H s)(h:SqL X.K H a xs)(h':SqL X.K H a ys):xs=ys:=by
 obtain⟨aO,r,⟨o,n,e,_,_,d⟩,_⟩:=I.list h;obtain⟨its',r',⟨o',n',e',_,_,d'⟩,_⟩:=I.list h';rw[e] at e';cases e';rw[d] at d';injection d' with d1 _
 have:aO=its':=by simpa using Zv Array.toList d1
 subst this;exact r.inj r'
def Inv.tuple_inj(I:Inv X f8 σ H s)(h:SqT X.K H a xs)(h':SqT X.K H a ys):xs=ys:=by
 obtain⟨aO,r,⟨o,e,_,n,d⟩,_⟩:=I.tuple h;obtain⟨its',r',⟨o',e',_,n',d'⟩,_⟩:=I.tuple h';rw[e] at e';cases e';rw[d] at d';injection d' with d1 _
 have:aO=its':=by simpa using Zv Array.toList d1
 subst this;exact r.inj r'
end
abbrev Cx.wish(X:Cx)(E:Value->Tp->Prop):Cx:={X with xe:=E}
abbrev Cx.nox(X:Cx):Cx:=X.wish λ_ _=>False
theorem Cx.Ok.wish{X:Cx}(ok:X.Ok)(E:Value->Tp->Prop):(X.wish E).Ok:=
 ⟨ok.mod,ok.kind,ok.glob,ok.blt,ok.above,ok.inj,ok.has,ok.cab,ok.hd,ok.frames,ok.stk,ok.exf,ok.bs,ok.bsz,ok.noex,ok.exfs,ok.funs,ok.frf⟩
def Cx.Ok.unwish{X:Cx}{E:Value->Tp->Prop}(ok:(X.wish E).Ok):X.Ok:=
 ⟨ok.mod,ok.kind,ok.glob,ok.blt,ok.above,ok.inj,ok.has,ok.cab,ok.hd,ok.frames,ok.stk,ok.exf,ok.bs,ok.bsz,ok.noex,ok.exfs,ok.funs,ok.frf⟩
section
variable{X:Cx}{f8:List (Addr×Obj)}{σ:St}{H:Hp}{s:Tp}{E:Value->Tp->Prop}
theorem Inv.wish(I:Inv X f8 σ H s)(E:Value->Tp->Prop):Inv (X.wish E) f8 σ H s:=⟨I.ok.wish E,I.os,I.bare,I.base,I.loc,I.cell,I.free,I.freeC,I.pin,I.hok,I.len⟩
theorem Inv.unwish(I:Inv (X.wish E) f8 σ H s):Inv X f8 σ H s:=⟨I.ok.unwish,I.os,I.bare,I.base,I.loc,I.cell,I.free,I.freeC,I.pin,I.hok,I.len⟩
theorem SP.unwish{D:Ends}{f:Flow}{s':Tp}(h:SP (X.wish E) f8 D f s'):SP X f8 D f s':=by
 cases f with
 |next=>obtain⟨σ',H',I,q⟩:=h;exact⟨σ',H',I.unwish,q⟩
 |brk=>obtain⟨σ',H',I,q⟩:=h;exact⟨σ',H',I.unwish,q⟩
 |cont=>obtain⟨σ',H',I,q⟩:=h;exact⟨σ',H',I.unwish,q⟩
 |ret u=>obtain⟨v,σ',H',I,r,q⟩:=h;exact⟨v,σ',H',I.unwish,r,q⟩
theorem PE.nox{e:Expr}{t:TE}(h:PE X.nox e t):PE X e t:=λf8 s σ H Q I hw=>
 UO (h f8 s σ H Q (I.wish _) hw) (λ_ _ ⟨v,H',I',r,q⟩=>⟨v,H',I'.unwish,r,q⟩) λ_ _ z=>Va z
theorem PT.nox{e:Expr}{t:TT}(h:PT X.nox e t):PT X e t:=λf8 s σ H Q I hw=>
 UO (h f8 s σ H Q (I.wish _) hw) (λ_ _ ⟨H',I',q⟩=>⟨H',I'.unwish,q⟩) λ_ _ z=>Va z
theorem PSs.nox{st:List Stmt}{t:TS}(h:PSs X.nox st t):PSs X st t:=λf8 s σ H D I hw=>
 UO (h f8 s σ H D (I.wish _) hw) (λ_ _ q=>q.unwish) λ_ _ z=>Va z
end
section
variable{X:Cx}{st:Stmt}{Zw:List Stmt}{t u:TS}{e:Expr}{te:TE}{pos:Pos}
def M4:TS:=λD σ H=>D.nx σ H
def P5(t u:TS):TS:=λD σ H=>t {D with nx:=u D} σ H
def Ba:PSs X [] M4:=λ_ _ σ H _ I h=>Xk ⟨σ,H,I,h⟩
def rp(h1:PS X st t)(h2:PSs X Zw u):PSs X (st::Zw) (P5 t u):=by
 intro f8 s σ H D I h;refine wpAny_execs_cons (bQ (h1 f8 s σ H {D with nx:=u D} I h) λf s1 q=>?_);cases f with
 |next=>
  obtain⟨σ',H',I',q⟩:=q;exact h2 f8 s1 σ' H' D I' q
 |ret v=>exact q
 |brk=>exact q
 |cont=>exact q
def pU(h1:PS X st t):PSs X [st] t:=by
 intro f8 s σ H D I h;refine wpAny_execs_cons (bQ (h1 f8 s σ H D I h) λf s1 q=>?_);cases f with
 |next=>exact Xk q
 |ret v=>exact q
 |brk=>exact q
 |cont=>exact q
def Inv.quiet{f8:List (Addr×Obj)}{σ:St}{H:Hp}{s:Tp}(I:Inv X f8 σ H s):interactive X.env=false:=by simp[interactive,I.ok.kind]
def FJ(te:TE):TS:=λD σ H=>te σ H λ_ H1=>D.nx σ H1
def kP(he:PE X e te)(hs:VL e none pos.line X.env=pure false:=by rfl):PS X (.Expr e pos) (FJ te):=by
 intro f8 s σ H D I h;exact wpAny_Expr_any (bQ (he f8 s σ H _ I h) λv s1 ⟨x,H1,I1,r1,q1⟩=>⟨σ,H1,I1,q1⟩) I.quiet hs
def P4(te:TE):TS:=λD σ H=>te σ H D.rt
def vI(he:PE X e te):PS X (.Return (some e) pos) (P4 te):=by
 intro f8 s σ H D I h;exact wpAny_Return_some (bQ (he f8 s σ H _ I h) λv s1 ⟨x,H1,I1,r1,q1⟩=>⟨x,σ,H1,I1,r1,q1⟩)
def PZ(c:TT)(t u:TS):TS:=λD σ H=>c σ H λb H1=>if b=true then t D σ H1 else u D σ H1
def Ja{c:Expr}{a b:List Stmt}{tc:TT}(hc:PT X c tc)(ha:PSs X a t)(hb:PSs X b u):PS X (.If c a b pos) (PZ tc t u):=by
 intro f8 s σ H D I h;refine wpAny_If (bQ (hc f8 s σ H _ I h) λd s1 ⟨H1,I1,q1⟩=>?_);cases d with
 |true=>exact ha f8 s1 σ H1 D I1 q1
 |false=>exact hb f8 s1 σ H1 D I1 q1
end
abbrev TG:=V->St->Hp->(St->Hp->Prop)->Prop
def PG(X:Cx)(target:Expr)(t:TG):Prop:=
 ∀(f8:List (Addr×Obj)) (s:Tp) (σ:St) (H:Hp) (v:V) (u:Value) (Q:St->Hp->Prop),Inv X f8 σ H s->RelV v u->t v σ H Q->
  ∀[Tk s],wpAny (model X.prog X.w) X.A (assign target X.env u) (λ_ s'=>∃σ' H',Inv X f8 σ' H' s'/\Q σ' H') X.xe s
abbrev N6:=V->V->V->Hp->(Hp->Prop)->Prop
section
variable{X:Cx}{pos:Pos}
def D0(i:Nat):TG:=λv σ H Q=>Q (σ.set i (some v)) H
def b_{i:Nat}{x:Str}(hN:X.N.Nodup)(hi:X.N[i]? =some x)(hx:Loc X.env.scope x)(hf:X.fn x=true\/X.env.scope.names.lookup x=some .local:=by first | exact .inl rfl | exact .inr rfl | assumption):PG X (.Name x pos) (D0 i):=by
 intro f8 s σ H v u Q I r h;exact X_ (yA I hN hi hx r (λs' I'=>⟨_,H,I',h⟩) hf)
def c9(to ti:TE)(t:N6):TG:=λv σ H Q=>to σ H λo H1=>ti σ H1 λi H2=>t o i v H2 λH3=>Q σ H3
def PL(te:TE)(g:TG):TS:=λD σ H=>te σ H λx H1=>g x σ H1 D.nx
def ro{tg e:Expr}{te:TE}{g:TG}(he:PE X e te)(hg:PG X tg g)(hs:XR [tg] e pos.line X.env=pure false:=by rfl)(hw:swappedStores [tg] e X.env=pure none:=by rfl)
 (h1:(assignEach [tg] X.env).map (·.2)=[assign tg X.env]:=by rfl):PS X (.Assign [tg] e pos) (PL te g):=by
 intro f8 s σ H D I h;refine wpAny_Assign_stores (bQ (he f8 s σ H _ I h) λv s1 ⟨x,H1,I1,r1,q1⟩=>?_) hs hw;rw[h1];exact bQ (hg f8 s1 σ H1 x v _ I1 r1 q1) λ_ s2 q=>q
end
section
variable{X:Cx}{pos:Pos}
def KW(c:TT)(tb:TS):TS:=λD σ H=>∃W:Nat->St->Hp->Prop,(∃m,W m σ H)/\∀m σ H,W m σ H->
 c σ H λb H1=>if b=true then∃N:St->Hp->Prop,(∀σ' H',N σ' H'->∃m',m'<m/\W m' σ' H')/\tb {D with nx:=N,ct:=N,bk:=D.nx} σ H1 else D.nx σ H1
def E3{c:Expr}{body:List Stmt}{tc:TT}{tb:TS}(hp:YD (model X.prog X.w) X.A X.env X.xe)(hc:PT X c tc)(hb:PSs X body tb):PS X (.While c body [] pos) (KW tc tb):=by
 intro f8 s σ H D I h _;obtain⟨W,⟨m0,w0⟩,turn⟩:=h;refine wpAny_While (codeAny_whileLoop (λn s'=>Tk s'/\∃σ' H',Inv X f8 σ' H' s'/\W n σ' H') ?_ m0 ⟨inferInstance,σ,H,I,w0⟩);rintro n s1 ⟨Q2,σ1,H1,I1,w1⟩;refine VA hp (bQ (hc f8 s1 σ1 H1 _ I1 (turn n σ1 H1 w1)) λb s2 ⟨H2,I2,q2⟩=>?_);cases b with
 |true=>
  obtain⟨N,hN,q2⟩:=q2;rw[Zn rfl];refine VA hp (bQ (hb f8 s2 σ1 H2 _ I2 q2) λf s3 q3=>?_);cases f with
  |next=>
   obtain⟨σ3,H3,I3,n3⟩:=q3;obtain⟨m',hm,w3⟩:=hN σ3 H3 n3;exact⟨m',hm,inferInstance,σ3,H3,I3,w3⟩
  |cont=>
   obtain⟨σ3,H3,I3,n3⟩:=q3;obtain⟨m',hm,w3⟩:=hN σ3 H3 n3;exact⟨m',hm,inferInstance,σ3,H3,I3,w3⟩
  |brk=>exact q3
  |ret v=>exact q3
 |false=>
  rw[Zo T6];exact Xk ⟨σ1,H2,I2,q2⟩
end
structure It where
 go:Nat->Hp->Prop
 yld:Nat->Hp->V->Hp->Prop
 stop:Nat->Hp->Prop
def uy(X:Cx)(f8:List (Addr×Obj))(H:Hp)(b:Addr):Prop:=
 H b=none/\b≠X.env.locals/\b∉X.fs/\(b∈X.ex\/X.ZR.heap.objs.size<=b)/\(∀x c,X.env.cells.lookup x=some c->c≠b)/\∀p∈X.pn++f8,p.1≠b
def Inv.fpOk{X:Cx}{f8:List (Addr×Obj)}{σ:St}{H H':Hp}{s:Tp}{b:Addr}(I:Inv X f8 σ H s)(hb:s.heap.objs.size<=b)(hn:H' b=none):uy X f8 H' b:=by
 refine⟨hn,V2 (T8 I.lt hb),I.nofs hb, .inr (T2 I.sz hb),λx c e z=>?_,λp hp z=>?_⟩
 ·obtain⟨v,q⟩:=I.cell x c e;exact Zp (T8 q.lt (by rw[z];exact hb)) (Uv _)
 ·exact Zp (T8 (TJ (I.pin p hp).1) (by rw[z];exact hb)) (Uv _)
structure Turn (P:T3) (w:World) (K:Ti) (tg:Expr) (J:It) (fp:List Addr) (it:Addr) (tn:Nat->Heap->Prop):Prop where
 mem:it∈fp
 obj:∀i h,tn i h->∀b∈fp,∃o,h.get? b=some o/\∀v,o.data≠ .cell v
 keep:∀i h h',tn i h->(∀b∈fp,∀o,h.get? b=some o->h'.get? b=some o)->tn i h'
 item:∀(X:Cx),X.prog=P->X.w=w->X.K=K->X.calm=true->∀(i:Nat) (f8:List (Addr×Obj)) (s:Tp) (σ:St) (H:Hp) (E:Value->Tp->Prop),Inv X f8 σ H s->(∀b∈fp,uy X f8 H b)->tn i s.heap->J.go i H->
  wpAny (model P w) X.A (YV (.ref it)) (λr s1=>∃u,r=some u/\
   wpAny (model P w) X.A (Xm tg (.ref it) u) (λ_ s2=>∃x H',Inv X f8 σ H' s2/\RelV x u/\J.yld i H x H'/\tn (i+1) s2.heap/\∀b∈fp,H' b=none) E s1) E s
 done:∀(X:Cx),X.prog=P->X.w=w->X.K=K->X.calm=true->∀(i:Nat) (f8:List (Addr×Obj)) (s:Tp) (σ:St) (H:Hp) (E:Value->Tp->Prop),Inv X f8 σ H s->(∀b∈fp,uy X f8 H b)->tn i s.heap->J.stop i H->
  wpAny (model P w) X.A (YV (.ref it)) (λr s1=>r=none/\Inv X f8 σ H s1) E s
 self:∀(A:Uu) (i:Nat) (s:Tp) (Q:Value->Tp->Prop) (E:Value->Tp->Prop),tn i s.heap->Q (.ref it) s->wpAny (model P w) A (pyIter (.ref it)) Q E s
abbrev TI:=St->Hp->(It->Hp->Prop)->Prop
def N2(X:Cx)(f8:List (Addr×Obj))(σ:St)(tg:Expr)(R:It->Hp->Prop)(QP:Value)(s2:Tp):Prop:=
 ∃(it:Addr) (fp:List Addr) (tn:Nat->Heap->Prop) (J:It) (H':Hp),QP= .ref it/\Inv X f8 σ H' s2/\Turn X.prog X.w X.K tg J fp it tn/\tn 0 s2.heap/\(∀b∈fp,uy X f8 H' b)/\R J H'
def PI(X:Cx)(tg iter:Expr)(wi:TI):Prop:=
 ∀(f8:List (Addr×Obj)) (s:Tp) (σ:St) (H:Hp) (R:It->Hp->Prop),Inv X f8 σ H s->wi σ H R->
  ∀[Tk s],wpAny (model X.prog X.w) X.A (eval iter X.env) (λv s1=>wpAny (model X.prog X.w) X.A (pyIter v) (N2 X f8 σ tg R) X.xe s1) X.xe s
def qr{M:Model}{A:Uu}{E:Value->Tp->Prop}{s:Tp}{tg:Expr}{it:Addr}{u:Value}{o:Obj}{n:String}{vs:Array Value}{Q:Unit->Tp->Prop}(ho:s.heap.get? it=some o)(hc:o.cls= .type n)(hd:o.data= .fields vs)
 (hn:["enumerate","zip","dict_itemiterator","dict_reverseitemiterator","odict_iterator","itertools.zip_longest","itertools.pairwise"].contains n=false)(hQ:Q () s):wpAny M A (Xm tg (.ref it) u) Q E s:=by
 unfold Xm;cases tg<;>first
  |exact Tu hQ
  |(cases u<;>first
    |exact Tu hQ
    |(refine Td (wpAny_load ho ?_)
      rw[hc,hd];show wpAny M A (if (["enumerate","zip","dict_itemiterator","dict_reverseitemiterator","odict_iterator","itertools.zip_longest","itertools.pairwise"].contains n&&vs[0]? ==some (Yj _))=true then _ else _) Q E s;rw[Zo (by intro h;rw[hn,Bool.false_and] at h;cases h)];exact Tu hQ))
def NZ(K:Ti)(a:Addr):It:=
 ⟨λi H=>∃xs x,SqL K H a xs/\xs[i]? =some x,λi H x H'=>H'=H/\∀xs,SqL K H a xs->xs[i]? =some x,λi H=>∃xs,SqL K H a xs/\xs.length<=i⟩
def N0(K:Ti)(a:Addr):It:=
 ⟨λi H=>∃xs x,SqT K H a xs/\xs[i]? =some x,λi H x H'=>H'=H/\∀xs,SqT K H a xs->xs[i]? =some x,λi H=>∃xs,SqT K H a xs/\xs.length<=i⟩
def Lg(lo:Int)(n:Nat):It:=⟨λi _=>i<n,λi H x H'=>H'=H/\x= .int (lo+i),λi _=>n<=i⟩
def CV{P:T3}{w:World}{K:Ti}{tg:Expr}(a it:Addr):Turn P w K tg (NZ K a) [it] it (λi h=>h.IsListIter it a i) where
 mem:=by simp
 obj:=λi h st b hb=>by
  have e:b=it:=by simpa using hb
  subst e;obtain⟨o,e,c,d⟩:=st;exact⟨o,e,λv z=>by rw[d] at z;cases z⟩
 keep:=λi h h' st k=>st.at λo e=>k it (by simp) o e
 item:=by
  intro X hP hw hK hc i f8 s σ H E I hf st hg;subst hP hw hK;obtain⟨xs,x,hq,hx⟩:=hg;obtain⟨aO,rv,p,hz⟩:=I.list hq;obtain⟨u,hu,ru⟩:=rv.get hx;obtain⟨f0,f1,f2,f3,f4,f5⟩:=hf it (by simp);refine wpAny_pyNext_list_item st p.isList (x:=u) (by simpa using hu) λh' mV sb=>?_;have I1:Inv X f8 σ H {s with heap:=h'}:=I.turned (t':=s.toks) (λb o hb e=>(sb.2 b hb).trans e) f0 f1 f3 f4 f5;obtain⟨o,e,c,d⟩:=id mV;exact⟨u,rfl,qr (s:={s with heap:=h'}) e c d (by decide) ⟨x,H,I1,ru,⟨rfl,λys hy=>by rw[I.list_inj hy hq];exact hx⟩,mV,λb hb=>(hf b hb).1⟩⟩
 done:=by
  intro X hP hw hK hc i f8 s σ H E I hf st hg;subst hP hw hK;obtain⟨xs,hq,hx⟩:=hg;obtain⟨aO,rv,p,hz⟩:=I.list hq;obtain⟨f0,f1,f2,f3,f4,f5⟩:=hf it (by simp);have hl:=rv.length;exact wpAny_pyNext_list_end (I.ok.hd hc) st p.isList (by simp;omega) λh' eb=>⟨rfl,I.turned (t':=s.toks) (λb o hb e=>eb b o hb e) f0 f1 f3 f4 f5⟩
 self:=λ_ _ _ _ _ st h=>wpAny_pyIter_listiter st h
def Ai{P:T3}{w:World}{K:Ti}{tg:Expr}(a it:Addr):Turn P w K tg (N0 K a) [it] it (λi h=>h.IsTupleIter it a i) where
 mem:=by simp
 obj:=λi h st b hb=>by
  have e:b=it:=by simpa using hb
  subst e;obtain⟨o,e,c,d⟩:=st;exact⟨o,e,λv z=>by rw[d] at z;cases z⟩
 keep:=λi h h' st k=>st.at λo e=>k it (by simp) o e
 item:=by
  intro X hP hw hK hc i f8 s σ H E I hf st hg;subst hP hw hK;obtain⟨xs,x,hq,hx⟩:=hg;obtain⟨aO,rv,p,hz⟩:=I.tuple hq;obtain⟨u,hu,ru⟩:=rv.get hx;obtain⟨f0,f1,f2,f3,f4,f5⟩:=hf it (by simp);refine wpAny_pyNext_tuple_item st (show s.heap.IsTuple a aO.toArray from p) (x:=u) (by simpa using hu) λh' mV sb=>?_;have I1:Inv X f8 σ H {s with heap:=h'}:=I.turned (t':=s.toks) (λb o hb e=>(sb.2 b hb).trans e) f0 f1 f3 f4 f5;obtain⟨o,e,c,d⟩:=id mV;exact⟨u,rfl,qr (s:={s with heap:=h'}) e c d (by decide) ⟨x,H,I1,ru,⟨rfl,λys hy=>by rw[I.tuple_inj hy hq];exact hx⟩,mV,λb hb=>(hf b hb).1⟩⟩
 done:=by
  intro X hP hw hK hc i f8 s σ H E I hf st hg;subst hP hw hK;obtain⟨xs,hq,hx⟩:=hg;obtain⟨aO,rv,p,hz⟩:=I.tuple hq;obtain⟨f0,f1,f2,f3,f4,f5⟩:=hf it (by simp);have hl:=rv.length;exact wpAny_pyNext_tuple_end (I.ok.hd hc) st (show s.heap.IsTuple a aO.toArray from p) (by simp;omega) λh' eb=>⟨rfl,I.turned (t':=s.toks) (λb o hb e=>eb b o hb e) f0 f1 f3 f4 f5⟩
 self:=λ_ _ _ _ _ st h=>wpAny_pyIter_tupleiter st h
def Ah{P:T3}{w:World}{K:Ti}{tg:Expr}(it:Addr)(lo:Int)(n:Nat):Turn P w K tg (Lg lo n) [it] it (λi h=>YG h it (lo+(i:Nat)*1) ((n:Int) - (i:Nat)) 1) where
 mem:=by simp
 obj:=λi h st b hb=>by
  have e:b=it:=by simpa using hb
  subst e;exact⟨_,st,λv z=>by
   have z':UH _=Data.cell v:=z;cases z'⟩
 keep:=λi h h' st k=>k it (by simp) _ st
 item:=by
  intro X hP hw hK hc i f8 s σ H E I hf st hg;subst hP hw hK;obtain⟨f0,f1,f2,f3,f4,f5⟩:=hf it (by simp);have W:=Walks.range (prog:=X.prog) (w:=X.w) (I.ok.hd hc) it lo 1 n;refine W.item i s _ _ hg st λv h' tk hv mV kk=>?_;obtain⟨t,rfl⟩:=hv;have I1:Inv X f8 σ H {s with heap:=h',toks:=tk}:=I.turned (λb o hb e=>kk b o (by simpa using hb) e) f0 f1 f3 f4 f5;refine⟨_,rfl,qr (s:={s with heap:=h',toks:=tk}) (n:="range_iterator") mV rfl rfl (by decide) ⟨.int (lo+i),H,I1,⟨t,?_⟩,⟨rfl,rfl⟩,mV,λb hb=>(hf b hb).1⟩⟩;rw[Int.mul_one]
 done:=by
  intro X hP hw hK hc i f8 s σ H E I hf st hg;subst hP hw hK;obtain⟨f0,f1,f2,f3,f4,f5⟩:=hf it (by simp);exact Zd (I.ok.hd hc) st (by have:n<=i:=hg;omega) λh' eb=>⟨rfl,I.turned (t':=s.toks) (λb o hb e=>eb b o hb e) f0 f1 f3 f4 f5⟩
 self:=λ_ _ _ _ _ st h=>Ze st h
section
variable{X:Cx}{tg:Expr}
def Mc(K:Ti)(tl:TE):TI:=λσ H R=>tl σ H λx H1=>∃a,x= .ref a/\(∃xs,SqL K H1 a xs)/\R (NZ K a) H1
def Pe(K:Ti)(tl:TE):TI:=λσ H R=>tl σ H λx H1=>∃a,x= .ref a/\(∃xs,SqT K H1 a xs)/\R (N0 K a) H1
def Hz{l:Expr}{tl:TE}(hl:PE X l tl):PI X tg l (Mc X.K tl):=by
 intro f8 s σ H R I h;refine bQ (hl f8 s σ H _ I h) λv s1 ⟨x,H1,I1,r1,q1⟩=>?_;obtain⟨a,e,⟨xs,hq⟩,q⟩:=q1;subst e;cases r1;obtain⟨aO,rv,p,hz⟩:=I1.list hq;refine wpAny_pyIter_list p.isList ?_;refine⟨s1.heap.objs.size,[s1.heap.objs.size],_,_,H1,rfl,I1.kept (t':=s1.toks) λb o e=>Tj _ e,CV a _,⟨_,TM _ rfl,rfl,rfl⟩,λb hb=>?_,q⟩;have e:b=s1.heap.objs.size:=by simpa using hb
 subst e;exact I1.fpOk (Tr _) (I1.hok.fresh (Tr _))
def Kw{l:Expr}{tl:TE}(hl:PE X l tl):PI X tg l (Pe X.K tl):=by
 intro f8 s σ H R I h;refine bQ (hl f8 s σ H _ I h) λv s1 ⟨x,H1,I1,r1,q1⟩=>?_;obtain⟨a,e,⟨xs,hq⟩,q⟩:=q1;subst e;cases r1;obtain⟨aO,rv,p,hz⟩:=I1.tuple hq;refine wpAny_pyIter_tuple (show s1.heap.IsTuple a aO.toArray from p) ?_;refine⟨s1.heap.objs.size,[s1.heap.objs.size],_,_,H1,rfl,I1.kept (t':=s1.toks) λb o e=>Tj _ e,Ai a _,⟨_,TM _ rfl,rfl,rfl⟩,λb hb=>?_,q⟩;have e:b=s1.heap.objs.size:=by simpa using hb
 subst e;exact I1.fpOk (Tr _) (I1.hok.fresh (Tr _))
def yi{f8:List (Addr×Obj)}{σ:St}{H:Hp}{s:Tp}{R:It->Hp->Prop}{E:Value->Tp->Prop}{lo hi:Int}{t u v:Tok}{tk:Nat}(I:Inv X f8 σ H s)(h1: -(2 ^ 62)<=lo)(h2:lo<2 ^ 62)(h3: -(2 ^ 62)<=hi)(h4:hi<2 ^ 62)
 (q:R (Lg lo (hi - lo).toNat) H):wpAny (model X.prog X.w) X.A (pyIter (.ref s.heap.objs.size)) (N2 X f8 σ tg R) E {s with heap:=s.heap.push {cls:= .type "range",data:= .fields #[.int lo t, .int hi u, .int 1 v]},toks:=tk}:=by
 refine wpAny_pyIter_range (IsRange.new ..) (small_one h1 h2 h3 h4) ?_;have I1:Inv X f8 σ H {s with heap:=s.heap.push {cls:= .type "range",data:= .fields #[.int lo t, .int hi u, .int 1 v]},toks:=tk}:=I.kept λb o e=>Tj _ e;refine⟨(s.heap.push {cls:= .type "range",data:= .fields #[.int lo t, .int hi u, .int 1 v]}).objs.size,[(s.heap.push {cls:= .type "range",data:= .fields #[.int lo t, .int hi u, .int 1 v]}).objs.size],_,_,H,rfl,
  I1.kept (t':=tk) λb o e=>Tj _ e,Ah _ lo (hi - lo).toNat,?_,λb hb=>?_,q⟩
 ·have e1:lo+((0:Nat):Int)*1=lo:=by simp
  have e2:(((hi - lo).toNat:Nat):Int) - ((0:Nat):Int)=XC lo hi 1:=by rw[rangeSize_one];split<;>omega
  show YG _ _ (lo+((0:Nat):Int)*1) ((((hi - lo).toNat:Nat):Int) - ((0:Nat):Int)) 1;rw[e1,e2];exact TM _ rfl
 ·have e:b=(s.heap.push {cls:= .type "range",data:= .fields #[.int lo t, .int hi u, .int 1 v]}).objs.size:=by simpa using hb
  subst e;exact I1.fpOk (Tr _) (I1.hok.fresh (Tr _))
def Md(ta:TA):TI:=λσ H R=>ta σ H λvs H1=>∃j:Int,vs=[.int j]/\ -(2 ^ 62)<=j/\j<2 ^ 62/\R (Lg 0 j.toNat) H1
def Me(ta:TA):TI:=λσ H R=>ta σ H λvs H1=>∃i j:Int,vs=[.int i, .int j]/\(-(2 ^ 62)<=i/\i<2 ^ 62/\ -(2 ^ 62)<=j/\j<2 ^ 62)/\R (Lg i (j - i).toNat) H1
def CB{a:Expr}{ta:TA}{p pos:Pos}(hg:Gl X "range")(hm:X.mg "range"=none)(ha:PA X [a] ta)(hs:Tq [a] X.env=[(false,eval a X.env)]:=by rfl):PI X tg (.Call (.Name "range" p) [a] [] pos) (Md ta):=by
 intro f8 s σ H R I h;refine Call_ (nu I hg hm boot_range (Vn (bQ (ha pos f8 s σ H _ I h) λus s1 ⟨vs,H1,I1,r1,q1⟩=>?_) hs rfl));obtain⟨j,e,q1,q2,q⟩:=q1;subst e;cases r1 with
 |cons r rr=>
  cases rr;obtain⟨t,rfl⟩:=r;exact call_range_1 (yi I1 (by omega) (by omega) q1 q2 (by simpa using q))
def CC{a b:Expr}{ta:TA}{p pos:Pos}(hg:Gl X "range")(hm:X.mg "range"=none)(ha:PA X [a,b] ta)(hs:Tq [a,b] X.env=[(false,eval a X.env),(false,eval b X.env)]:=by rfl)(C9:Tq [b] X.env=[(false,eval b X.env)]:=by rfl):
 PI X tg (.Call (.Name "range" p) [a,b] [] pos) (Me ta):=by
 intro f8 s σ H R I h;refine Call_ (nu I hg hm boot_range (Vn (bQ (ha pos f8 s σ H _ I h) λus s1 ⟨vs,H1,I1,r1,q1⟩=>?_) (by rw[hs,C9]) (by rw[C9];rfl)));obtain⟨i,j,e,⟨q1,q2,q3,q4⟩,q⟩:=q1;subst e;cases r1 with
 |cons r rr=>
  cases rr with
  |cons r' rr=>
   cases rr;obtain⟨t,rfl⟩:=r;obtain⟨t',rfl⟩:=r';exact call_range_2 (yi I1 q1 q2 q3 q4 q)
def PY(wi:TI)(g:TG)(tb:TS):TS:=λD σ H=>wi σ H λJ H1=>∃W:Nat->Nat->St->Hp->Prop,(∃m,W 0 m σ H1)/\∀i m σ H,W i m σ H->
 (J.stop i H/\D.nx σ H)\/(J.go i H/\∃N:St->Hp->Prop,(∀σ' H',N σ' H'->∃m',m'<m/\W (i+1) m' σ' H')/\∀x H',J.yld i H x H'->g x σ H' λσ2 H2=>tb {D with nx:=N,ct:=N,bk:=D.nx} σ2 H2)
def nI(fp:List Addr)(h:Heap):List (Addr×Obj):=fp.filterMap λb=>(h.get? b).map λo=>(b,o)
def e_{fp:List Addr}{h:Heap}{b:Addr}{o:Obj}(hb:b∈fp)(e:h.get? b=some o):(b,o)∈nI fp h:=Zb.mpr ⟨b,hb,by rw[e];rfl⟩
def Cm{fp:List Addr}{h:Heap}{p:Addr×Obj}(hp:p∈nI fp h):p.1∈fp/\h.get? p.1=some p.2:=by
 obtain⟨b,hb,e⟩:=Zb.mp hp;cases q:h.get? b with
 |none=>rw[q] at e;cases e
 |some o=>
  rw[q] at e;have e':(b,o)=p:=Ub e;subst e';exact⟨hb,q⟩
def Inv.pinned{f8:List (Addr×Obj)}{σ:St}{H:Hp}{s:Tp}{fp:List Addr}(I:Inv X f8 σ H s)(hf:∀b∈fp,uy X f8 H b)(ho:∀b∈fp,∃o,s.heap.get? b=some o/\∀v,o.data≠ .cell v):Inv X (f8++nI fp s.heap) σ H s:=
 I.pins_of λp hp=>(Ud.mp hp).elim (λz=>I.pin p (TL _ z)) λz=>by
  obtain⟨hb,e⟩:=Cm z;obtain⟨f0,f1,f2,_⟩:=hf p.1 hb;obtain⟨o,e',d⟩:=ho p.1 hb;rw[e] at e';cases e';exact⟨e,f0,f1,f2,d⟩
def Inv.unpinned{f8 pl:List (Addr×Obj)}{σ:St}{H:Hp}{s:Tp}(I:Inv X (f8++pl) σ H s):Inv X f8 σ H s:=I.pins_of λp hp=>I.pin p (TL _ (Vj _ hp))
def E2{iter:Expr}{body:List Stmt}{wi:TI}{g:TG}{tb:TS}{pos:Pos}(hp:YD (model X.prog X.w) X.A X.env X.xe)(hc:X.calm=true)(hi:PI X tg iter wi)(hg:PG X tg g)(hb:PSs X body tb)
 (hs:∀x,VF iter X.env x=pure x:=by intro _;rfl):PS X (.For tg iter body [] pos) (PY wi g tb):=by
 intro f8 s σ H D I h;refine wpAny_For (bQ (hi f8 s σ H _ I h) λv s1 h1=>bQ h1 λQP s2 h2=>?_) hs;obtain⟨it,fp,tn,J,H2,e,I2,T,HY,f2,W,⟨m0,w0⟩,turn⟩:=h2;subst e;have KS:∀{H':Hp},(∀b∈fp,H' b=none)->∀b∈fp,uy X f8 H' b:=λhn b hb=>⟨hn b hb,(f2 b hb).2⟩
 intro u2;refine codeAny_forLoop_any (λn s'=>Tk s'/\∃i σ' H',Inv X f8 σ' H' s'/\tn i s'.heap/\(∀b∈fp,H' b=none)/\W i n σ' H') ?_ m0 ⟨inferInstance,0,σ,H2,I2,HY,λb hb=>(f2 b hb).1,w0⟩;rintro n s3 ⟨Ta,i,σ3,H3,I3,Gd,K8,w3⟩;rcases turn i n σ3 H3 w3 with⟨stop,qn⟩ | ⟨go,N,hN,step⟩
 ·refine VA hp (bQ (T.done X rfl rfl rfl hc i f8 s3 σ3 H3 X.xe I3 (KS K8) Gd stop) λr s4 ⟨hr,I4⟩=>?_);subst hr;exact Xk ⟨σ3,H3,I4,qn⟩
 ·refine VA hp (bQ (T.item X rfl rfl rfl hc i f8 s3 σ3 H3 X.xe I3 (KS K8) Gd go) λr s4 ⟨u,hr,h4⟩=>?_);subst hr;refine VA hp (bQ h4 λ_ s5 ⟨x,H5,I5,r5,y5,PK,Rj⟩=>?_);have I5':=I5.pinned (KS Rj) (T.obj _ _ PK);refine VA hp (bQ (hg _ s5 σ3 H5 x u _ I5' r5 (step x H5 y5)) λ_ s6 ⟨σ6,H6,I6,q6⟩=>?_);refine VA hp (bQ (hb _ s6 σ6 H6 _ I6 q6) λf s7 q7=>?_);intro u7;have again:∀{σ7:St}{H7:Hp},Inv X (f8++nI fp s5.heap) σ7 H7 s7->N σ7 H7->∃m,m<n/\Tk s7/\∃i σ' H',Inv X f8 σ' H' s7/\tn i s7.heap/\(∀b∈fp,H' b=none)/\W i m σ' H':=λ{σ7 H7} I7 n7=>by
   obtain⟨m',hm,w7⟩:=hN σ7 H7 n7;refine⟨m',hm,inferInstance,i+1,σ7,H7,I7.unpinned,T.keep _ _ _ PK λb hb o e=>(I7.pin (b,o) (TL _ (TL _ (e_ hb e)))).1,λb hb=>?_,w7⟩;obtain⟨o,e,d⟩:=T.obj _ _ PK b hb;exact(I7.pin (b,o) (TL _ (TL _ (e_ hb e)))).2.1
  cases f with
  |next=>obtain⟨σ7,H7,I7,n7⟩:=q7;exact again I7 n7
  |cont=>obtain⟨σ7,H7,I7,n7⟩:=q7;exact again I7 n7
  |brk=>obtain⟨σ7,H7,I7,q7⟩:=q7;exact⟨σ7,H7,I7.unpinned,q7⟩
  |ret v=>obtain⟨x7,σ7,H7,I7,r7,q7⟩:=q7;exact⟨x7,σ7,H7,I7.unpinned,r7,q7⟩
end
abbrev R2:=V->V->Hp->VK->Prop
def OpR(X:Cx)(f:Value->Value->Sem Value)(r:R2):Prop:=
 ∀(f8:List (Addr×Obj)) (s:Tp) (σ:St) (H:Hp) (x y:V) (v u:Value) (Q:VK),Inv X f8 σ H s->RelV x v->RelV y u->r x y H Q->
  wpAny (model X.prog X.w) X.A (f v u) (EP X f8 σ Q) X.xe s
def N8(X:Cx)(f:Value->Sem Value)(r:V->Hp->VK->Prop):Prop:=
 ∀(f8:List (Addr×Obj)) (s:Tp) (σ:St) (H:Hp) (x:V) (v:Value) (Q:VK),Inv X f8 σ H s->RelV x v->r x H Q->
  wpAny (model X.prog X.w) X.A (f v) (EP X f8 σ Q) X.xe s
def CallR(X:Cx)(f:Value)(r:List V->Hp->VK->Prop):Prop:=
 ∀(f8:List (Addr×Obj)) (s:Tp) (σ:St) (H:Hp) (xs:List V) (us:List Value) (Q:VK),Inv X f8 σ H s->Vals xs us->r xs H Q->
  wpAny (model X.prog X.w) X.A (call f us) (EP X f8 σ Q) X.xe s
def N7(X:Cx)(r:V->Hp->(Bool->Hp->Prop)->Prop):Prop:=
 ∀(f8:List (Addr×Obj)) (s:Tp) (σ:St) (H:Hp) (x:V) (v:Value) (Q:Bool->Hp->Prop),Inv X f8 σ H s->RelV x v->r x H Q->
  wpAny (model X.prog X.w) X.A (truthy v) (TP X f8 σ Q) X.xe s
def M6(r:R2)(ta tb:TE):TE:=λσ H Q=>ta σ H λx H1=>tb σ H1 λy H2=>r x y H2 Q
def SH(r:V->Hp->VK->Prop)(ta:TE):TE:=λσ H Q=>ta σ H λx H1=>r x H1 Q
def rI(C:Int->Int->Prop)(g:Int->Int->V):R2:=λx y H Q=>∃i j,x= .int i/\y= .int j/\C i j/\Q (g i j) H
def Bh(g:Int->Int->V):R2:=λx y H Q=>∃i j,x= .int i/\y= .int j/\Q (g i j) H
def rU(g:Int->V):V->Hp->VK->Prop:=λx H Q=>∃i,x= .int i/\Q (g i) H
section
variable{X:Cx}{a b:Expr}{ta tb:TE}{pos:Pos}
def Jn(ha:PE X a ta)(hb:PE X b tb){f8:List (Addr×Obj)}{s:Tp}[Tk s]{σ:St}{H:Hp}{R:V->V->Hp->Prop}(I:Inv X f8 σ H s)
 (h:ta σ H λx H1=>tb σ H1 λy H2=>R x y H2){Q:Value->Tp->Prop}{f:Value->Value->Sem Value}
 (hf:∀v u s2 x y H2,Inv X f8 σ H2 s2->RelV x v->RelV y u->R x y H2->wpAny (model X.prog X.w) X.A (f v u) Q X.xe s2):
 wpAny (model X.prog X.w) X.A (eval a X.env) (λv T0=>wpAny (model X.prog X.w) X.A (eval b X.env) (λu v4=>wpAny (model X.prog X.w) X.A (f v u) Q X.xe v4) X.xe T0) X.xe s:=by
 refine bQ (ha f8 s σ H _ I h) λv s1 ⟨x,H1,I1,r1,q1⟩=>?_;refine bQ (hb f8 s1 σ H1 _ I1 q1) λu s2 ⟨y,H2,I2,r2,q2⟩=>?_;exact hf v u s2 x y H2 I2 r1 r2 q2
def MI{op:Operator}{r:R2}(ho:OpR X (Wk op) r)(ha:PE X a ta)(hb:PE X b tb):PE X (.BinOp a op b pos) (M6 r ta tb):=by
 intro f8 s σ H Q I h;exact wpAny_BinOp (Jn ha hb I h λv u s2 x y H2 I2 rx ry q=>ho f8 s2 σ H2 x y v u Q I2 rx ry q)
def MJ{op:UnaryOp}{r:V->Hp->VK->Prop}(ho:N8 X (unaryOp op) r)(ha:PE X a ta):PE X (.UnaryOp op a pos) (SH r ta):=by
 intro f8 s σ H Q I h;exact UnaryOp_ (bQ (ha f8 s σ H _ I h) λv s1 ⟨x,H1,I1,r1,q1⟩=>ho f8 s1 σ H1 x v Q I1 r1 q1)
def Po{f:Value->Value->Sem Value}{C:Int->Int->Prop}{g:Int->Int->Int}
 (rule:∀(i j:Int) (t u:Tok) (s:Tp) (Q:Value->Tp->Prop) (E:Value->Tp->Prop),C i j->Q (.int (g i j) s.toks) {s with toks:=s.toks+1}->wpAny (model X.prog X.w) X.A (f (.int i t) (.int j u)) Q E s):
 OpR X f (rI C λi j=> .int (g i j)):=by
 intro f8 s σ H x y v u Q I rx ry h;obtain⟨i,j,rfl,rfl,hc,q⟩:=h;obtain⟨t,rfl⟩:=rx;obtain⟨t',rfl⟩:=ry;exact rule i j t t' s _ _ hc ⟨.int (g i j),H,I.tok _,⟨_,rfl⟩,q⟩
def My{f:Value->Value->Sem Value}{g:Int->Int->Int}
 (rule:∀(i j:Int) (t u:Tok) (s:Tp) (Q:Value->Tp->Prop) (E:Value->Tp->Prop),Q (.int (g i j) s.toks) {s with toks:=s.toks+1}->wpAny (model X.prog X.w) X.A (f (.int i t) (.int j u)) Q E s):
 OpR X f (Bh λi j=> .int (g i j)):=by
 intro f8 s σ H x y v u Q I rx ry h;obtain⟨i,j,rfl,rfl,q⟩:=h;obtain⟨t,rfl⟩:=rx;obtain⟨t',rfl⟩:=ry;exact rule i j t t' s _ _ ⟨.int (g i j),H,I.tok _,⟨_,rfl⟩,q⟩
def J_{f:Value->Value->Sem Value}{g:Int->Int->Bool}
 (rule:∀(i j:Int) (t u:Tok) (s:Tp) (Q:Value->Tp->Prop) (E:Value->Tp->Prop),Q (.bool (g i j)) s->wpAny (model X.prog X.w) X.A (f (.int i t) (.int j u)) Q E s):
 OpR X f (Bh λi j=> .bl (g i j)):=by
 intro f8 s σ H x y v u Q I rx ry h;obtain⟨i,j,rfl,rfl,q⟩:=h;obtain⟨t,rfl⟩:=rx;obtain⟨t',rfl⟩:=ry;exact rule i j t t' s _ _ ⟨.bl (g i j),H,I,rfl,q⟩
def Le(i j:Int):Prop:=0<j/\j<1073741824
def CMul(i j:Int):Prop:=(-(2 ^ 64)<i/\i<2 ^ 64)\/(-(2 ^ 64)<j/\j<2 ^ 64)
def CMul.ok{i j:Int}(h:CMul i j):IntMulOk i j:=by
 rcases h with⟨h1,h2⟩ | ⟨h1,h2⟩
 ·exact .of_left (intBits_le_64 h1 h2)
 ·exact .of_right (intBits_le_64 h1 h2)
def Ka:OpR X (Wk .Add) (Bh λi j=> .int (i+j)):=My λ_ _ _ _ _ _ _ q=>add_int q
def Kf:OpR X (Wk .Sub) (Bh λi j=> .int (i - j)):=My λ_ _ _ _ _ _ _ q=>sub_int q
def Ke:OpR X (Wk .Mult) (rI CMul λi j=> .int (i*j)):=Po λ_ _ _ _ _ _ _ hc q=>mul_int q hc.ok
def Hf:OpR X (Wk .FloorDiv) (rI Le λi j=> .int (i / j)):=Po λi j _ _ _ _ _ hc q=>by
 have h1:(0:Int)<j:=hc.1;have h2:j<1073741824:=hc.2;exact floordiv_int (by omega) (by rw[Int.fdiv_eq_ediv_of_nonneg i (by omega)];exact q) (.inl (Yn (by omega)))
def Kd:OpR X (Wk .Mod) (rI (λ_ j=>0<j) λi j=> .int (i % j)):=Po λi j _ _ _ _ _ hc q=>by
 have h1:(0:Int)<j:=hc;exact mod_int' (by omega) (by rw[Int.fmod_eq_emod_of_nonneg i (by omega)];exact q)
def SK{f:Value->Sem Value}{g:Int->Int}
 (rule:∀(i:Int) (t:Tok) (s:Tp) (Q:Value->Tp->Prop) (E:Value->Tp->Prop),Q (.int (g i) s.toks) {s with toks:=s.toks+1}->wpAny (model X.prog X.w) X.A (f (.int i t)) Q E s):
 N8 X f (rU λi=> .int (g i)):=by
 intro f8 s σ H x v Q I rx h;obtain⟨i,rfl,q⟩:=h;obtain⟨t,rfl⟩:=rx;exact rule i t s _ _ ⟨.int (g i),H,I.tok _,⟨_,rfl⟩,q⟩
def K2:N8 X (unaryOp .USub) (rU λi=> .int (-i)):=SK λ_ _ _ _ _ q=>neg_int q
end
section
variable{X:Cx}{a b c:Expr}{ta tb tc:TE}{pos:Pos}
def Jv{f8:List (Addr×Obj)}{σ:St}{H:Hp}{s:Tp}{Q:VK}{k k':Bool}(I:Inv X f8 σ H s)(q:Q (.bl k) H)(e:k=k'):EP X f8 σ Q (.bool k') s:=by
 subst e;exact⟨.bl k,H,I,rfl,q⟩
def I9:OpR X (Uy .Lt) (Bh λi j=> .bl (decide (i<j))):=J_ λ_ _ _ _ _ _ _ q=>lt_int q
def tW:OpR X (Uy .LtE) (Bh λi j=> .bl (decide (i<=j))):=J_ λ_ _ _ _ _ _ _ q=>le_int q
def Mz:OpR X (Uy .Gt) (Bh λi j=> .bl (decide (j<i))):=J_ λ_ _ _ _ _ _ _ q=>gt_int q
def Cs:OpR X (Uy .In) (λx y H Q=>∃i j,x= .str i/\y= .str j/\Q (.bl (!(U7 j i 0 j.length 1).isEmpty)) H):=by
 intro f8 s σ H x y v u Q I rx ry h;obtain⟨i,j,rfl,rfl,q⟩:=h;obtain⟨t,rfl⟩:=rx;obtain⟨t',rfl⟩:=ry;exact in_str (Jv I q rfl)
def OpR.or{f:Value->Value->Sem Value}{r r':R2}(h:OpR X f r)(h':OpR X f r'):OpR X f (λx y H Q=>r x y H Q\/r' x y H Q):=by
 intro f8 s σ H x y v u Q I rx ry q;rcases q with q | q
 ·exact h f8 s σ H x y v u Q I rx ry q
 ·exact h' f8 s σ H x y v u Q I rx ry q
def vb(b:Expr){op:CmpOp}(h:op≠ .In:=by decide)(h2:op≠ .NotIn:=by decide):Uz op b=false:=by
 have e1:(op==CmpOp.In)=false:=by cases op<;>first | rfl | exact Zp rfl h
 have e2:(op==CmpOp.NotIn)=false:=by cases op<;>first | rfl | exact Zp rfl h2
 cases b<;>simp[Uz,e1,e2]
def A8{op:CmpOp}{r:R2}(ho:OpR X (Uy op) r)(ha:PE X a ta)(hb:PE X b tb)(hm:Uz op b=false):PE X (.Compare a [op] [b] pos) (M6 r ta tb):=by
 intro f8 s σ H Q I h;exact wpAny_Compare1 (Jn ha hb I h λv u s2 x y H2 I2 rx ry q=>ho f8 s2 σ H2 x y v u Q I2 rx ry q) hm
def Je(t:TE):TT:=λσ H Q=>t σ H λx H'=>∃k,x= .bl k/\Q k H'
def Bb{op:CmpOp}{r:R2}(ho:OpR X (Uy op) r)(ha:PE X a ta)(hb:PE X b tb)(hm:Uz op b=false):PT X (.Compare a [op] [b] pos) (Je (M6 r ta tb)):=by
 intro f8 s σ H Q I h;refine wpAny_isTrue_Compare1 (bQ (ha f8 s σ H _ I h) λv s1 ⟨x,H1,I1,r1,q1⟩=>bQ (hb f8 s1 σ H1 _ I1 q1) λu s2 ⟨y,H2,I2,r2,q2⟩=>
  bQ (ho f8 s2 σ H2 x y v u _ I2 r1 r2 q2) λc s3 ⟨z,H3,I3,r3,k,e,q3⟩=>?_) hm
 subst e;cases r3;exact Vc ⟨H3,I3,q3⟩
def Af(r r':R2)(ta tb tc:TE):TE:=λσ H Q=>ta σ H λx H1=>tb σ H1 λy H2=>r x y H2 λz H3=>∃k,z= .bl k/\
 (if k=true then tc σ H3 λw' H4=>r' y w' H4 Q else Q (.bl false) H3)
def EU{op Cr:CmpOp}{r r':R2}(ho:OpR X (Uy op) r)(tx:OpR X (Uy Cr) r')(ha:PE X a ta)(hb:PE X b tb)(hc:PE X c tc)
 (hm:lastMarks [op,Cr] [b,c]=false:=by with_unfolding_all rfl):PE X (.Compare a [op,Cr] [b,c] pos) (Af r r' ta tb tc):=by
 intro f8 s σ H Q I h;refine Compare_chain (bQ (ha f8 s σ H _ I h) λv s1 ⟨x,H1,I1,r1,q1⟩=>chain_link (bQ (hb f8 s1 σ H1 _ I1 q1) λu s2 ⟨y,H2,I2,r2,q2⟩=>
  bQ (ho f8 s2 σ H2 x y v u _ I2 r1 r2 q2) λd s3 ⟨z,H3,I3,r3,k,e,q3⟩=>?_)) hm
 subst e;cases r3;refine Vc ?_;cases k with
 |false=>exact ite_ff ⟨.bl false,H3,I3,rfl,q3⟩
 |true=>exact ite_tt (chain_last (bQ (hc f8 s3 σ H3 _ I3 q3) λw' s4 ⟨z',H4,I4,r4,q4⟩=>tx f8 s4 σ H4 y z' u w' Q I4 r2 r4 q4))
def E5{op Cr:CmpOp}{r r':R2}(ho:OpR X (Uy op) r)(tx:OpR X (Uy Cr) r')(ha:PE X a ta)(hb:PE X b tb)(hc:PE X c tc)
 (hm:lastMarks [op,Cr] [b,c]=false:=by with_unfolding_all rfl):PT X (.Compare a [op,Cr] [b,c] pos) (Je (Af r r' ta tb tc)):=by
 intro f8 s σ H Q I h;refine isTrue_chain (bQ (ha f8 s σ H _ I h) λv s1 ⟨x,H1,I1,r1,q1⟩=>test_link (bQ (hb f8 s1 σ H1 _ I1 q1) λu s2 ⟨y,H2,I2,r2,q2⟩=>
  bQ (ho f8 s2 σ H2 x y v u _ I2 r1 r2 q2) λd s3 ⟨z,H3,I3,r3,k,e,q3⟩=>?_)) hm
 subst e;cases r3;refine Vc ?_;cases k with
 |false=>
  obtain⟨k',e',q'⟩:=q3;cases e';exact ite_ff ⟨H3,I3,q'⟩
 |true=>
  refine ite_tt (test_last (bQ (hc f8 s3 σ H3 _ I3 q3) λw' s4 ⟨z',H4,I4,r4,q4⟩=>bQ (tx f8 s4 σ H4 y z' u w' _ I4 r2 r4 q4) λd' s5 ⟨z2,H5,I5,r5,k2,e2,q5⟩=>?_));subst e2;cases r5;exact Vc ⟨H5,I5,q5⟩
def Lm(K:Ti)(x:V)(H:Hp)(k:Bool):Prop:=
 match x with
 | .non=>k=false
 | .bl b=>k=b
 | .int i=>k=(i !=0)
 | .str y=>y.length<=TK/\k=((y.length:Int) !=0)
 | .byt y=>y.size<=TK/\k=((y.size:Int) !=0)
 | .ref p=>(∃xs,SqL K H p xs/\k=!xs.isEmpty)\/(∃xs,SqT K H p xs/\k=!xs.isEmpty)\/∃ay,H p=some (.dK ay)/\k=!ay.isEmpty
 |_=>False
def zt{κ:Type}{ay:List (κ×V)}{vs:List (κ×Value)}(r:KV ay vs):(!vs.isEmpty)=!ay.isEmpty:=by
 cases r<;>rfl
def qx{xs:List V}{aO:List Value}(r:Vals xs aO):(!aO.toArray.isEmpty)=!xs.isEmpty:=by
 cases r<;>simp
def ny:(TK:Nat)<2 ^ 63:=by rw[Ww];decide
def K0:N7 X (λx H Q=>∃k,Lm X.K x H k/\Q k H):=by
 intro f8 s σ H x v Q I rx h;obtain⟨k,e,q⟩:=h;have hl:=ny;have hs:TK=16777216:=Ww;cases x with
 |non=>
  cases rx;have e':k=false:=e;subst e';exact truthy_none ⟨H,I,q⟩
 |bl b=>
  cases rx;have e':k=b:=e;subst e';exact Vc ⟨H,I,q⟩
 |int i=>
  obtain⟨t,rfl⟩:=rx;have e':k=(i !=0):=e;subst e';exact PySem.P.truthy_int ⟨H,I,q⟩
 |str y=>
  obtain⟨t,rfl⟩:=rx;obtain⟨hy,e'⟩:y.length<=TK/\k=((y.length:Int) !=0):=e;subst e';exact PySem.P.truthy_str (by omega) ⟨H,I.tok _,q⟩
 |byt y=>
  obtain⟨t,rfl⟩:=rx;obtain⟨hy,e'⟩:y.size<=TK/\k=((y.size:Int) !=0):=e;subst e';exact PySem.W.truthy_bytes (by omega) ⟨H,I.tok _,q⟩
 |ref p=>
  cases rx;have e':(∃xs,SqL X.K H p xs/\k=!xs.isEmpty)\/(∃xs,SqT X.K H p xs/\k=!xs.isEmpty)\/∃ay,H p=some (.dK ay)/\k=!ay.isEmpty:=e;rcases e' with⟨xs,hx,e'⟩ | ⟨xs,hx,e'⟩ | ⟨ay,hx,e'⟩
  ·subst e';obtain⟨aO,r,pl,hz⟩:=I.list hx;have P3:=r.length;exact wpAny_truthy_list pl.isList (by simp only[Tv];omega) ⟨H,I.tok _,by rw[qx r];exact q⟩
  ·subst e';obtain⟨aO,r,pl,hz⟩:=I.tuple hx;have P3:=r.length;exact truthy_tuple pl (by simp only[Tv];omega) ⟨H,I.tok _,by rw[qx r];exact q⟩
  ·subst e';obtain⟨hz,hS,vs,r,m⟩:ay.length<=TK/\(p==U9)=false/\∃vs,KV ay vs/\s.heap.DictOf (bJ X.prog X.w) p vs:=I.hok p _ hx;have P3:ay.length=vs.length:=Vm r;exact wpAny_truthy_dict hS m (by omega) ⟨H,I.tok _,by rw[zt r];exact q⟩
 |_=>exact(show False from e).elim
def yf(ha:PE X a ta)(he:∀whole,isTrue a X.env whole=(do let v<-whole;W0 a.pos;holding [v] (truthy v))):
 PT X a (λσ H Q=>ta σ H λx H'=>∃k,Lm X.K x H' k/\Q k H'):=by
 intro f8 s σ H Q I h;exact isTrue_plain (bQ (ha f8 s σ H _ I h) λv s1 ⟨x,H1,I1,r1,q1⟩=>K0 f8 s1 σ H1 x v Q I1 r1 q1) (he _)
def vals1{x:V}{us:List Value}(r:Vals [x] us):∃u,us=[u]/\RelV x u:=by
 cases r with
 |cons r1 r2=>cases r2;exact⟨_,rfl,r1⟩
def vals2{x y:V}{us:List Value}(r:Vals [x,y] us):∃u w',us=[u,w']/\RelV x u/\RelV y w':=by
 cases r with
 |cons r1 r2=>
  cases r2 with
  |cons r3 r4=>cases r4;exact⟨_,_,rfl,r1,r3⟩
def Dj:CallR X (.builtin "abs") (λxs H Q=>∃i,xs=[.int i]/\Q (.int (if i<0 then -i else i)) H):=by
 intro f8 s σ H xs us Q I r h;obtain⟨i,rfl,q⟩:=h;obtain⟨u,rfl,t,rfl⟩:=vals1 r;exact call_abs_int λu tk=>⟨.int (if i<0 then -i else i),H,I.tok _,⟨_,rfl⟩,q⟩
def BL(hc:X.calm=true):CallR X (.builtin "max") (λxs H Q=>∃i j,xs=[.int i, .int j]/\Q (.int (if j>i then j else i)) H):=by
 intro f8 s σ H xs us Q I r h;obtain⟨i,j,rfl,q⟩:=h;obtain⟨u,w',rfl,⟨t,rfl⟩,⟨t',rfl⟩⟩:=vals2 r;refine max_two_ints (I.ok.hd hc) λh' tk k=>⟨_,H,I.kept k,?_,q⟩
 by_cases hj:j>i
 ·rw[Zn hj,Zn hj];exact⟨_,rfl⟩
 ·rw[Zo hj,Zo hj];exact⟨_,rfl⟩
def BM(hc:X.calm=true):CallR X (.builtin "min") (λxs H Q=>∃i j,xs=[.int i, .int j]/\Q (.int (if j<i then j else i)) H):=by
 intro f8 s σ H xs us Q I r h;obtain⟨i,j,rfl,q⟩:=h;obtain⟨u,w',rfl,⟨t,rfl⟩,⟨t',rfl⟩⟩:=vals2 r;refine min_two_ints (I.ok.hd hc) λh' tk k=>⟨_,H,I.kept k,?_,q⟩
 by_cases hj:j<i
 ·rw[Zn hj,Zn hj];exact⟨_,rfl⟩
 ·rw[Zo hj,Zo hj];exact⟨_,rfl⟩
end
structure ObjM (h:Heap) (x dx C:Addr) (mA:Str->Option Value):Prop where
 obj:h.get? x=some (Vi C dx)
 ns:h.Ns1 dx mA
 ne:dx≠x
def Cg{h:Heap}{dx:Addr}{mA:Str->Option Value}(n:h.Ns1 dx mA):∃od,h.get? dx=some od/\∀name,WX name od=some (mA name):=by
 obtain⟨o,es,ep,ho,hd,hk,_,hm⟩:=n;refine⟨o,ho,λname=>?_⟩;have e:=hm name;unfold nsFind findBy at e;rw[<-Array.find?_toList] at e;unfold WX;rw[hd]
 dsimp only
 split
 ·rename_i y q;rw[q] at e;exact Zv some e
 ·rename_i q;rw[q] at e;have a:es.toList.any (·.refKey)=false:=by
   rw[List.any_eq_false];intro y hy;obtain⟨z,t,GQ⟩:=hk y (Array.mem_toList_iff.mp hy);simp[DictEntry.refKey,GQ]
  have a':¬es.toList.any (·.refKey)=true:=by rw[a];exact T6
  rw[Zo a'];exact Zv some e
def ObjM.look{h:Heap}{x dx C:Addr}{mA:Str->Option Value}(I:ObjM h x dx C mA):∃od,PySem.W.InstAt h x (Vi C dx) C (some od)/\∀name,WX name od=some (mA name):=
 let ⟨od,ho,hl⟩:=Cg I.ns
 ⟨od,⟨I.obj,rfl,rfl,ho⟩,hl⟩
section
variable{prog:T3}{w:World}{A:Uu}{E:Value->Tp->Prop}{s:Tp}{K:Ti}{x dx C f:Addr}{mA:Str->Option Value}{name:Str}{v:Value}
def get_map{expr:Bool}{Q:Value->Tp->Prop}(X:K.In s.heap)(I:ObjM s.heap x dx C mA)(hg:WC K C name=true)(hh:Xo K C=true)
 (ha:Uo K (.ref C) name=some none)(hv:mA name=some v)(GV:YY v=true)(h:Q v {s with toks:=s.toks+1}):
 wpAny (model prog w) A (getAttr (.ref x) name expr) Q E s:=by
 obtain⟨od,J,hl⟩:=I.look;exact PySem.W.get_value X J (W5 hg).1 (PySem.W.findObj_own hh ha rfl (by rw[hl,hv])) GV h
def D1{pl:Sem Bool}{Q:Value×List Value->Tp->Prop}(X:K.In s.heap)(I:ObjM s.heap x dx C mA)(hg:WC K C name=true)
 (hf:Uo K (.ref C) name=some (some (.ref f)))(ht:VR K (.ref f)=true)(hv:mA name=none)(h:Q (.ref f,[.ref x]) s):
 wpAny (model prog w) A (Wc (.ref x) name pl) Q E s:=by
 obtain⟨od,J,hl⟩:=I.look;exact PySem.W.method_fn X J (W5 hg).1 (W5 hg).2 hf (beq_iff_eq.mp ht) (by show (WX name od).map (·.isSome)=some false;rw[hl,hv];rfl) h
def HS{ns:List Str}{Q:Unit->Tp->Prop}(X:K.In s.heap)(I:ObjM s.heap x dx C mA)
 (hs:Uo K (.ref C) "__setattr__"=some (some (.builtin "object.__setattr__")))(hp:YN K C=true)(ht:XH K C name=some none)(hh:Xo K C=true)
 (hw:YC mA ns)(hsz:ns.length<=TK)
 (h:∀h',ObjM h' x dx C (λy=>if y=name then some v else mA y)->Vw dx s.heap h'->Q () {s with heap:=h',toks:=s.toks+2}):
 wpAny (model prog w) A (setAttr (.ref x) name v) Q E s:=by
 obtain⟨od,J,hl⟩:=I.look;refine PySem.W.set_plain X J hs (PySem.W.osa_open (s:={s with toks:=s.toks+1}) (r:=none) X J hp ht λb=>?_);obtain⟨cd,hc,wz⟩:=PySem.W.any_some hh;have hx:s.heap.get? x=some ⟨.ref C,some dx, .plain,#[]⟩:=I.obj;refine Td (Tu (Td (Td (wpAny_loadPart hx (Td (PySem.W.Looks.here (s:={s with toks:=s.toks+1}) (PySem.W.looks_clsIn X hc) ?_))))));rw[wz];refine Tu (a:=some dx) (Td (Tu (Td ?_)));refine wpAny_nsSet1 (s:={s with toks:=s.toks+1}) I.ns λh' GR C9=>?_;obtain⟨oD,SW,SV,R1,RD,RC⟩:=GR.count (PySem.Within.cons name v hw);refine Td (wpAny_lookBehind R1 (by rw[RD];exact pastItsLine_dict (T2 RC (by rw[Tn];omega))) ?_);exact Tu (h _ ⟨(C9.2 _ (Vh I.ne)).trans I.obj,GR,I.ne⟩ C9)
def Em{R:Result->Tp->Prop}{vs:List Value}{kw:List (Str×Value)}(X:K.In s.heap)(hm:WN K C=true)
 (hi:Uo K (.ref C) "__init__"=some (some (.ref f)))(hf:PySem.W.typeIn K (.ref f)=some (.type "function"))
 (h:W2 (model prog w) (A.under (.builtin "type.__call__" ⟨.ref C::vs,kw⟩)) (.call (.ref f) ⟨.ref (s.heap.objs.size+1)::vs,kw⟩) (PySem.W.InitBack (s.heap.objs.size+1) R)
  {s with heap:=(s.heap.push UW).push (Vi C s.heap.objs.size)}):
 W2 (model prog w) A (.call (.ref C) ⟨vs,kw⟩) R s:=by
 obtain⟨hh,g,d,t,os⟩:=s;exact PySem.W.make_core (PySem.W.makes_of X hm) (PySem.W.looks_findIn X hi) (λself=>PySem.W.bind_fn X self hf) (.inl rfl) h
end
def ek(f:Str)(v:V):List (Str×V)->List (Str×V)
 |[]=>[(f,v)]
 |(g,x)::r=>if g=f then(g,v)::r else(g,x)::ek f v r
theorem n5(f g:Str)(v:V):∀fs:List (Str×V),(ek f v fs).lookup g=if g=f then some v else fs.lookup g
 |[]=>by
  show Wg g [(f,v)]=_;by_cases h:g=f
  ·have hb:(g==f)=true:=beq_iff_eq.mpr h;simp only[Wg,hb,Zn h]
  ·have hb:(g==f)=false:=Zu.mpr h;simp only[Wg,hb,Zo h]
 |(k,x)::r=>by
  have ih:=n5 f g v r;rw[show ek f v ((k,x)::r)=(if k=f then(k,v)::r else(k,x)::ek f v r) from rfl];by_cases hk:k=f
  ·rw[Zn hk];by_cases h:g=k
   ·have hb:(g==k)=true:=beq_iff_eq.mpr h;simp only[Wg,hb,Zn (h.trans hk)]
   ·have hb:(g==k)=false:=Zu.mpr h;simp only[Wg,hb,Zo (λe:g=f=>h (e.trans hk.symm))]
  ·rw[Zo hk];by_cases h:g=k
   ·have hb:(g==k)=true:=beq_iff_eq.mpr h;simp only[Wg,hb,Zo (λe:g=f=>hk (h.symm.trans e))]
   ·have hb:(g==k)=false:=Zu.mpr h;simp only[Wg,hb];exact ih
theorem nr(f:Str)(v:V):∀fs:List (Str×V),f∈(ek f v fs).map (·.1)/\∀g,g∈fs.map (·.1)->g∈(ek f v fs).map (·.1)
 |[]=>⟨by simp[ek],λg h=>by simp at h⟩
 |(k,x)::r=>by
  obtain⟨i1,i2⟩:=nr f v r;rw[show ek f v ((k,x)::r)=(if k=f then(k,v)::r else(k,x)::ek f v r) from rfl];by_cases hk:k=f
  ·rw[Zn hk];subst hk;exact⟨by simp,λg h=>by simpa using h⟩
  ·rw[Zo hk];refine⟨?_,λg h=>?_⟩
   ·rw[Ts];exact Tf _ i1
   ·rw[Ts] at h⊢;rcases Tz.mp h with e | e
    ·exact Tz.mpr (.inl e)
    ·exact Tf _ (i2 g e)
theorem n0(f:Str)(v:V):∀fs:List (Str×V),(ek f v fs).length<=fs.length+1
 |[]=>by simp[ek]
 |(k,x)::r=>by
  have ih:=n0 f v r;rw[show ek f v ((k,x)::r)=(if k=f then(k,v)::r else(k,x)::ek f v r) from rfl];by_cases hk:k=f
  ·rw[Zn hk,Tn,Tn];omega
  ·rw[Zo hk,Tn,Tn];omega
def RelO.some_of{v:V}{o:Option Value}(r:RelO (some v) o):∃u,o=some u/\RelV v u:=by
 cases o with
 |none=>exact(show False from r).elim
 |some u=>exact⟨u,rfl,r⟩
def RelO.none_of{o:Option Value}(r:RelO none o):o=none:=by
 cases o with
 |none=>rfl
 |some u=>exact(show False from r).elim
def B1{v:V}{u:Value}(r:RelV v u):YY u=true:=by
 cases v with
 |non=>cases (show u=UX from r);rfl
 |bl b=>cases (show u=V8 b from r);rfl
 |int i=>obtain⟨t,e⟩:=(show∃t,u=We i t from r);cases e;rfl
 |str x=>obtain⟨t,e⟩:=(show∃t,u=XW x t from r);cases e;rfl
 |byt b=>obtain⟨t,e⟩:=(show∃t,u=Value.bytes b t from r);cases e;rfl
 |flt b=>obtain⟨t,e⟩:=(show∃t,u=YM b t from r);cases e;rfl
 |ref a=>cases (show u=Ua a from r);rfl
 |ty n=>cases (show u=Yl n from r);rfl
section
variable{P:T3}{w:World}{H:Hp}{h:Heap}{a C dx:Addr}{fs:List (Str×V)}
def pN(hok:HOk P w H h)(e:H a=some (.ins C dx fs)):∃mA,ObjM h a dx C mA/\(∀f,RelO (fs.lookup f) (mA f))/\YC mA (fs.map (·.1))/\fs.length<=1000/\H dx=some (.own a):=by
 obtain⟨d,z,ne,ob,mA,n,r,q⟩:=(show ObjOk P w H h a (.ins C dx fs) from hok a _ e)
 exact⟨mA,⟨ob,n,ne⟩,r,q,z,d⟩
end
structure Cls (K:Ti) (C:Addr):Prop where
 pg:WC K C Str.empty=true
 hd:Xo K C=true
 po:YN K C=true
 sa:Uo K (.ref C) "__setattr__"=some (some (.builtin "object.__setattr__"))
def Cls.get{K:Ti}{C:Addr}(c:Cls K C)(f:Str):WC K C f=true:=c.pg
def NoAttr(K:Ti)(C:Addr)(f:Str):Prop:=Uo K (.ref C) f=some none
def NoAttr.taker{K:Ti}{C:Addr}{f:Str}(n:NoAttr K C f):XH K C f=some none:=by
 unfold XH;rw[show Uo K (.ref C) f=some none from n];rfl
structure Meth (K:Ti) (C:Addr) (m:Str) (f:Addr):Prop where
 at_:Uo K (.ref C) m=some (some (.ref f))
 fn:VR K (.ref f)=true
 kp:Uk K (.ref f)=true
section
variable{X:Cx}{f8:List (Addr×Obj)}{σ:St}{H:Hp}{s:Tp}{a C dx:Addr}{fs:List (Str×V)}{f:Str}{v:V}{A:Uu}{E:Value->Tp->Prop}
def qq{b:Bool}{Q:Value->Tp->Prop}(I:Inv X f8 σ H s)(e:H a=some (.ins C dx fs))(c:Cls X.K C)(n:NoAttr X.K C f)(l:fs.lookup f=some v)
 (h:∀u s',Inv X f8 σ H s'->RelV v u->Q u s'):wpAny (model X.prog X.w) A (getAttr (.ref a) f b) Q E s:=by
 obtain⟨mA,O,r,_,_,_⟩:=pN I.hok e;obtain⟨u,hu,ru⟩:=RelO.some_of (v:=v) (o:=mA f) (by rw[<-l];exact r f);exact get_map I.kIn O (c.get f) c.hd n hu (B1 ru) (h u _ (I.tok _) ru)
def lM{m:Str}{g:Addr}{pl:Sem Bool}{Q:Value×List Value->Tp->Prop}(I:Inv X f8 σ H s)(e:H a=some (.ins C dx fs))(c:Cls X.K C)(k:Meth X.K C m g)(l:fs.lookup m=none)
 (h:Q (.ref g,[.ref a]) s):wpAny (model X.prog X.w) A (Wc (.ref a) m pl) Q E s:=by
 obtain⟨mA,O,r,_,_,_⟩:=pN I.hok e;have hn:mA m=none:=RelO.none_of (by rw[<-l];exact r m);exact D1 I.kIn O (c.get m) k.at_ k.fn hn h
def rO{y:V}{u:Value}{Q:Unit->Tp->Prop}(I:Inv X f8 σ H s)(e:H a=some (.ins C dx fs))(c:Cls X.K C)(n:NoAttr X.K C f)(hl:fs.length<1000)(ry:RelV y u)
 (h:∀s',Inv X f8 σ (upd H a (.ins C dx (ek f y fs))) s'->Q () s'):wpAny (model X.prog X.w) A (setAttr (.ref a) f u) Q E s:=by
 obtain⟨mA,O,r,wi,_,ho⟩:=pN I.hok e;have hz:(fs.map (·.1)).length<=TK:=by rw[Te,Ww];omega
 refine HS I.kIn O c.sa c.po n.taker c.hd wi hz λh' O' sb=>h _ ?_;have hd:∃o,h'.get? dx=some o:=let ⟨o,_,_,e',_⟩:=O'.ns;⟨o,e'⟩
 refine I.write (x:=a) (e:=dx) (by rw[e];exact Vf) (.inr ho) (λb q hb z=>(sb.2 b hb).trans z) hd ?_;refine⟨by rw[aj O.ne];exact ho,?_,O.ne,O'.obj,_,O'.ns,λg=>?_,λg hg=>?_⟩
 ·have:=n0 f y fs;omega
 ·show RelO ((ek f y fs).lookup g) (if g=f then some u else mA g);rw[n5];by_cases q:g=f
  ·rw[Zn q,Zn q];exact ry
  ·rw[Zo q,Zo q];exact r g
 ·by_cases q:g=f
  ·rw[q];exact(nr f y fs).1
  ·refine(nr f y fs).2 g (wi g λz=>hg ?_);show (if g=f then some u else mA g)=none;rw[Zo q];exact z
def Inv.made(I:Inv X f8 σ H s):Inv X f8 σ (upd (upd H s.heap.objs.size (.own (s.heap.objs.size+1))) (s.heap.objs.size+1) (.ins C s.heap.objs.size []))
 {s with heap:=(s.heap.push UW).push (Vi C s.heap.objs.size)}:=by
 have e1:(s.heap.push UW).get? s.heap.objs.size=some UW:=TM s.heap rfl;have e2:((s.heap.push UW).push (Vi C s.heap.objs.size)).get? (s.heap.objs.size+1)=some (Vi C s.heap.objs.size):=by
  have:=TM (s.heap.push UW) (o:=Vi C s.heap.objs.size) rfl
  rwa [Xd] at this
 have e3:(s.heap.push UW).Ns s.heap.objs.size (λ_=>none):=⟨UW,#[],_,e1,rfl,(λe he=>Zp he (by simp)),λ_=>rfl⟩
 have I1:=I.laid (a:=s.heap.objs.size) (o:= .own (s.heap.objs.size+1)) (h':=s.heap.push UW) (t':=s.toks) (λb u q=>Tj _ q) (Tr _) ⟨_,e1⟩;refine I1.laid (a:=s.heap.objs.size+1) (o:= .ins C s.heap.objs.size []) (t':=s.toks) (λb u q=>Tj _ q) (YS (Xd _ _)) ?_;have ne:s.heap.objs.size≠s.heap.objs.size+1:=T1 (VI _);refine⟨by rw[aj ne,ar],Ur _,ne,e2,λ_=>none,(Heap.Ns1.of_empty e3).at λo q=>Tj _ q,λ_=>Vf,λy hy=>Zp rfl hy⟩
def Gm{prog:T3}{w:World}{env:Env}{e:Expr}{f:Str}{pos:Pos}{s:Tp}{Q:Value->Tp->Prop}(hb:UJ e f env (eval e env)=eval e env)
 (h:wpAny (model prog w) A (eval e env) (λo T0=>wpAny (model prog w) A (getAttr o f true) Q E T0) E s):wpAny (model prog w) A (eval (.Attribute e f pos) env) Q E s:=
 Attribute_any_ h (by rw[arm_eval_Attribute,hb])
end
def PV(K:Ti)(ta:TE)(f:Str):TE:=λσ H Q=>ta σ H λx H1=>∃a C dx fs v,x= .ref a/\H1 a=some (.ins C dx fs)/\Cls K C/\NoAttr K C f/\fs.lookup f=some v/\Q v H1
def PF(K:Ti)(ta tv:TE)(f:Str):TS:=λD σ H=>tv σ H λy H1=>ta σ H1 λx H2=>∃a C dx fs,x= .ref a/\H2 a=some (.ins C dx fs)/\Cls K C/\NoAttr K C f/\fs.length<1000/\
 D.nx σ (upd H2 a (.ins C dx (ek f y fs)))
def Gf(X:Cx)(op:Operator)(rd:V->V->Hp->VK->Prop):Prop:=
 ∀(f8:List (Addr×Obj)) (s:Tp) (σ:St) (H:Hp) (x y:V) (u v:Value) (Q:VK),Inv X f8 σ H s->RelV x u->RelV y v->rd x y H Q->wpAny (model X.prog X.w) X.A (inplaceOp op u v) (EP X f8 σ Q) X.xe s
def HP(K:Ti)(ta tv:TE)(rd:V->V->Hp->VK->Prop)(f:Str):TS:=λD σ H=>ta σ H λx H1=>∃a C dx fs v,x= .ref a/\H1 a=some (.ins C dx fs)/\Cls K C/\NoAttr K C f/\fs.lookup f=some v/\
 tv σ H1 λy H2=>rd v y H2 λz H3=>∃Nm JA,H3 a=some (.ins C Nm JA)/\JA.length<1000/\D.nx σ (upd H3 a (.ins C Nm (ek f z JA)))
section
variable{X:Cx}{o e value:Expr}{f:Str}{pos pos' P9:Pos}{ta tv:TE}
def Kn(he:PE X e ta)(hb:UJ e f X.env (eval e X.env)=eval e X.env):PE X (.Attribute e f pos) (PV X.K ta f):=by
 intro f8 s σ H Q I h;refine Gm hb (bQ (he f8 s σ H _ I h) λu s1 ⟨x,H1,I1,rx,a,C,dx,fs,v,ex,ea,c,n,l,q⟩=>?_);subst ex;obtain rfl:u=Ua a:=rx;exact qq I1 ea c n l λu' s2 I2 ru=>⟨v,H1,I2,ru,q⟩
def Kx(ha:PE X o ta)(hv:PE X value tv)(hs:VL value (some (.Attribute o f pos')) pos.line X.env=pure false):PS X (.Assign [.Attribute o f pos'] value pos) (PF X.K ta tv f):=by
 intro f8 s σ H D I h;refine plainObj_wpAny_Assign_Attribute (bQ (hv f8 s σ H _ I h) λu s1 ⟨y,H1,I1,ry,q⟩=>bQ (ha f8 s1 σ H1 _ I1 q) λov s2 ⟨x,H2,I2,rx,a,C,dx,fs,ex,ea,c,n,l,q2⟩=>?_) hs;subst ex;obtain rfl:ov=Ua a:=rx;exact rO I2 ea c n l ry λs3 I3=>⟨σ,_,I3,q2⟩
def CF{op:Operator}{rd:V->V->Hp->VK->Prop}(ha:PE X o ta)(hv:PE X value tv)(O2:Gf X op rd):PS X (.AugAssign (.Attribute o f P9) op value pos) (HP X.K ta tv rd f):=by
 intro f8 s σ H D I h;refine wpAny_AugAssign_AttributeAny (bQ (ha f8 s σ H _ I h) λov s1 ⟨x,H1,I1,rx,a,C,dx,fs,v,ex,ea,c,n,l,q⟩=>?_);subst ex;obtain rfl:ov=Ua a:=rx;refine wpAny_with_toks (Tr s1.toks) (qq I1 ea c n l λu s2 I2 ru hk=>?_)
 haveI:Up s1 s2:=⟨hk⟩
 refine bQ (hv f8 s2 σ H1 _ I2 q) λw3 s3 ⟨y,H2,I3,ry,q3⟩=>bQ (O2 f8 s3 σ H2 v y u w3 _ I3 ru ry q3) λw4 s4 ⟨z,H3,I4,rz,Nm,JA,Q9,l',q4⟩=>?_;exact rO I4 Q9 c n l' rz λs5 I5=>⟨σ,_,I5,q4⟩
def Pt:V->V->Hp->VK->Prop:=λx y H Q=>∃i j,x= .int i/\y= .int j/\Q (.int (i+j)) H
def Pz:V->V->Hp->VK->Prop:=λx y H Q=>∃i j,x= .int i/\y= .int j/\Q (.int (i - j)) H
def JV:Gf X .Add Pt:=by
 rintro f8 s σ H x y u v Q I rx ry ⟨i,j,rfl,rfl,q⟩;obtain⟨t,rfl⟩:=(show∃t,u=We i t from rx)
 obtain⟨t',rfl⟩:=(show∃t',v=We j t' from ry)
 exact PyProof.Rows.iadd_int ⟨.int (i+j),H,I.tok _,⟨_,rfl⟩,q⟩
def JW:Gf X .Sub Pz:=by
 rintro f8 s σ H x y u v Q I rx ry ⟨i,j,rfl,rfl,q⟩;obtain⟨t,rfl⟩:=(show∃t,u=We i t from rx)
 obtain⟨t',rfl⟩:=(show∃t',v=We j t' from ry)
 exact PyProof.Rows.isub_int ⟨.int (i - j),H,I.tok _,⟨_,rfl⟩,q⟩
def I8{pl:Sem Bool}{m:Str}{v6:Pos}{args:List Expr}{f8:List (Addr×Obj)}{s:Tp}[Tk s]{σ:St}{H:Hp}{Q:Value->Tp->Prop}{te:TE}(he:PE X e te)(I:Inv X f8 σ H s)
 (h:te σ H λx H1=>∃a C dx fs g,x= .ref a/\H1 a=some (.ins C dx fs)/\Cls X.K C/\Meth X.K C m g/\fs.lookup m=none/\
  ∀s1,Inv X f8 σ H1 s1->wpAny (model X.prog X.w) X.A (W3 pos (.ref g) [.ref a] (UM pos (Tq args X.env)) (Vg pos (Ux [] X.env))) Q X.xe s1)
 (ht:eval (.Call (.Attribute e m v6) args [] pos) X.env=(do
  let ov<-eval e X.env
  W0 v6.atName
  let (f,first)<-holding [ov] (Wc ov m pl)
  W3 pos f first (UM pos (Tq args X.env)) (Vg pos (Ux [] X.env)))):
 wpAny (model X.prog X.w) X.A (eval (.Call (.Attribute e m v6) args [] pos) X.env) Q X.xe s:=by
 refine WM (pl:=pl) (bQ (he f8 s σ H _ I h) λu s1 ⟨x,H1,I1,rx,a,C,dx,fs,g,ex,ea,c,k,l,q⟩=>?_) ht;subst ex;obtain rfl:u=Ua a:=rx;exact lM I1 ea c k l (q s1 I1)
end
section
variable{X:Cx}{f8:List (Addr×Obj)}{σ:St}{H:Hp}{s:Tp}{A:Uu}{E:Value->Tp->Prop}{Q:Value->Tp->Prop}{c:Value}{b:Bool}
inductive TyOf (K:Ti) (H:Hp):V->Value->Prop where
 |non:TyOf K H .non (.type "NoneType")
 |bl (x:Bool):TyOf K H (.bl x) (.type "bool")
 |int (i:Int):TyOf K H (.int i) (.type "int")
 |str (x:Str):TyOf K H (.str x) (.type "str")
 |flt (x:UInt64):TyOf K H (.flt x) (.type "float")
 |lst {a:Addr}{xs:List V}(e:H a=some (.lst xs)):TyOf K H (.ref a) (.type "list")
 |frz {a:Addr}{o:Obj}{xs:List V}(e:H a=some (.frz o (.lst xs))):TyOf K H (.ref a) (.type "list")
 |tup {a:Addr}{xs:List V}(e:H a=some (.tup xs)):TyOf K H (.ref a) (.type "tuple")
 |dK {a:Addr}{ay:List (Key×V)}(e:H a=some (.dK ay)):TyOf K H (.ref a) (.type "dict")
 |dT {a:Addr}{ay:List (List Key×V)}(e:H a=some (.dT ay)):TyOf K H (.ref a) (.type "dict")
 |ins {a C dx:Addr}{fs:List (Str×V)}(e:H a=some (.ins C dx fs)) (cl:Cls K C) (ha:Uo K (.ref C) "__class__"=some (some (.builtin "object.__class__")))
   (hn:PySem.W.specialIn K (.builtin "object.__class__") "__get__"=some (some (.builtin "getset_descriptor.__get__"))) (QH:PySem.W.takesIn K (.builtin "object.__class__")=some true)
   (hm:PySem.W.mroIn K C (.type "object")=some true):TyOf K H (.ref a) (.ref C)
def B9{x:V}{u t:Value}(I:Inv X f8 σ H s)(rx:RelV x u)(ty:TyOf X.K H x t)(e:XX X.K t c=some b)(h:∀tk,Q (.bool b) {s with toks:=tk}):
 wpAny (model X.prog X.w) A (call (.builtin "isinstance") [u,c]) Q E s:=by
 cases ty with
 |non=>cases (show u=UX from rx);exact UN PySem.W.kitx_none I.kIn Vf e (λz=>nomatch z) h
 |bl y=>cases (show u=V8 y from rx);exact UN PySem.W.kitx_bool I.kIn Vf e (λz=>nomatch z) h
 |int i=>obtain⟨t,q⟩:=(show∃t,u=We i t from rx);cases q;exact UN PySem.W.kitx_int I.kIn Vf e (λz=>nomatch z) h
 |str y=>obtain⟨t,q⟩:=(show∃t,u=XW y t from rx);cases q;exact UN PySem.W.kitx_str I.kIn Vf e (λz=>nomatch z) h
 |flt y=>obtain⟨t,q⟩:=(show∃t,u=YM y t from rx);cases q;exact UN PySem.W.kitx_float I.kIn Vf e (λz=>nomatch z) h
 | @lst a xs ea=>
   cases (show u=Ua a from rx);obtain⟨_,_,n,_,h1⟩:=(show ObjOk X.prog X.w H s.heap a (.lst xs) from I.hok a _ ea)
   exact UN YO I.kIn ⟨_,h1,rfl⟩ e (λz=>nomatch z) h
 | @frz a ob xs ea=>
   cases (show u=Ua a from rx);obtain⟨_,_,_,n,_,h1⟩:=(show ObjOk X.prog X.w H s.heap a (.frz ob (.lst xs)) from I.hok a _ ea)
   exact UN YO I.kIn ⟨_,h1,rfl⟩ e (λz=>nomatch z) h
 | @tup a xs ea=>
   cases (show u=Ua a from rx);obtain⟨_,_,_,p⟩:=(show ObjOk X.prog X.w H s.heap a (.tup xs) from I.hok a _ ea)
   obtain⟨o,h1,h2,_⟩:=p;exact UN PySem.W.kitx_tuple I.kIn ⟨o,h1,h2⟩ e (λz=>nomatch z) h
 | @dK a ay ea=>
   cases (show u=Ua a from rx);obtain⟨_,_,vs,_,p⟩:=(show ObjOk X.prog X.w H s.heap a (.dK ay) from I.hok a _ ea)
   obtain⟨o,es,ep,h1,h2,_⟩:=p;exact UN YQ I.kIn ⟨o,h1,h2.1⟩ e (λz=>nomatch z) h
 | @dT a ay ea=>
   cases (show u=Ua a from rx);obtain⟨_,_,xs,_,o,es,ep,h1,h2,_⟩:=(show ObjOk X.prog X.w H s.heap a (.dT ay) from I.hok a _ ea)
   exact UN YQ I.kIn ⟨o,h1,h2.1⟩ e (λz=>nomatch z) h
 | @ins a C dx fs ea cl ha hn QH hm=>
   cases (show u=Ua a from rx);obtain⟨mA,O,_⟩:=pN I.hok ea;obtain⟨od,J,_⟩:=O.look;exact UN (PySem.W.kitx_own (cl.get _) cl.hd ha hn QH hm) I.kIn J e (λz=>nomatch z) h
end
structure Room (k:Nat) (A:Uu):Prop where
 hd:A.handled=none
 dp:A.depth+3*k+5<YL
 un:A.units+16*k+200<cLine
def Room.mono{j k:Nat}{A:Uu}(r:Room k A)(h:j<=k):Room j A:=⟨r.hd,by have:=r.dp;omega,by have:=r.un;omega⟩
theorem Room.deeper{k:Nat}{A:Uu}(r:Room (k+1) A)(env:Env):Room k (A.deeper env):=
 ⟨r.hd,by have:=r.dp;show A.depth+1+3*k+5<_;omega,by have:=r.un;show A.units+3+16*k+200<_;omega⟩
def zE{A:Uu}{C:Addr}{us:List Value}{kw:List (Str×Value)}:(A.under (.builtin "type.__call__" ⟨.ref C::us,kw⟩)).depth=A.depth+1:=by
 first | rfl | simp[Yz,Code.weight,Code.isCreation,Code.isGuard,Code.isCaller,Code.frames,YK,guardIds]
def zF{A:Uu}{C:Addr}{us:List Value}{kw:List (Str×Value)}:(A.under (.builtin "type.__call__" ⟨.ref C::us,kw⟩)).units=A.units+1:=by
 first | rfl | simp[Yz,Code.cUnits,Code.frames,YK]
def Room.make{k:Nat}{A:Uu}(r:Room (k+1) A)(C:Addr)(us:List Value)(kw:List (Str×Value)):Room k (A.under (.builtin "type.__call__" ⟨.ref C::us,kw⟩)):=
 ⟨r.hd,by have:=r.dp;rw[zE];omega,by have:=r.un;rw[zF];omega⟩
theorem Room.depth{k:Nat}{A:Uu}(r:Room k A):A.depth<YL:=by have:=r.dp;omega
theorem Room.units{k:Nat}{A:Uu}(r:Room k A):A.units+64<cLine:=by have:=r.un;omega
def Ia:TA:=λ_ H Q=>Q [] H
def FI(ta:TE)(tr:TA):TA:=λσ H Q=>ta σ H λx H1=>tr σ H1 λxs H2=>Q (x::xs) H2
section
variable{X:Cx}{e:Expr}{es:List Expr}{te:TE}{t:TA}{pos:Pos}
def lQ:PA X [] Ia:=λ_ _ _ _ H Q I h=>XB ⟨[],H,I, .nil,h⟩
def gT(ha:PE X e te)(hr:PA X es t)(hs:Tq (e::es) X.env=(false,eval e X.env)::Tq es X.env:=by rfl):PA X (e::es) (FI te t):=by
 intro pos f8 s σ H Q I h _;rw[hs];show wpAny _ _ (spliced ((false,eval e X.env)::UM pos (Tq es X.env))) _ _ s;refine Wj (bQ (ha f8 s σ H _ I h) λu s1 ⟨x,H1,I1,r1,q1⟩=>?_);exact bQ (hr pos f8 s1 σ H1 _ I1 q1) λus s2 ⟨xs,H2,I2,r2,q2⟩=>⟨x::xs,H2,I2, .cons r1 r2,q2⟩
def P6(t:TA):TE:=λσ H Q=>t σ H λxs H1=>xs.length<=TK/\∀p,H1 p=none->Q (.ref p) (upd H1 p (.tup xs))
def P1(t:TA):TE:=λσ H Q=>t σ H λxs H1=>xs.length<=TK/\∀p,H1 p=none->Q (.ref p) (upd H1 p (.lst xs))
def Ks{x1}(h:PA X es t):PE X (.Tuple es x1 pos) (P6 t):=by
 intro f8 s σ H Q I hq;refine wpAny_Tuple_spliced (bQ (h pos f8 s σ H _ I hq) λus s1 ⟨xs,H1,I1,r,z,q⟩=>⟨by rw[<-r.length];exact z,?_⟩);have hf:H1 s1.heap.objs.size=none:=I1.hok.fresh (Tr _);refine⟨.ref s1.heap.objs.size,upd H1 s1.heap.objs.size (.tup xs),I1.laid (t':=s1.toks) (λb u e=>Tj _ e) (Tr _) ?_,rfl,q _ hf⟩;exact⟨z,us,r,⟨_,TM _ rfl,rfl,_,rfl⟩⟩
def z6(h:PA X es t):PE X (.List es pos) (P1 t):=by
 intro f8 s σ H Q I hq;refine wpAny_List_spliced (bQ (h pos f8 s σ H _ I hq) λus s1 ⟨xs,H1,I1,r,z,q⟩=>⟨by rw[<-r.length];exact z,?_⟩);have hf:H1 s1.heap.objs.size=none:=I1.hok.fresh (Tr _);refine⟨.ref s1.heap.objs.size,upd H1 s1.heap.objs.size (.lst xs),I1.laid (t':=s1.toks) (λb u e=>Tj _ e) (Tr _) ?_,rfl,q _ hf⟩;exact⟨z,us,0,r,TM _ rfl⟩
end
abbrev Sp:=List V->Hp->VK->XK->Prop
abbrev BB:=List Env->Hp->Tp->XK->Value->Tp->Prop
structure Env0 (P:T3) (w:World) (K:Ti) (mg:Str->Option Value) (base:Heap) (A:Uu) (outer:List Env) (s:Tp) (H:Hp):Prop where
 frames:A.frames=some outer
 mod:Mod K mg base
 bs:∀b o,base.get? b=some o->s.heap.get? b=some o/\H b=none
 bsz:base.objs.size<=s.heap.objs.size
 funs:s.heap.FunFrames base outer
 frf:∀b∈o9 outer,H b=none
 hok:HOk P w H s.heap
 bare:Xs s.gens
def CE(outer:List Env)(P:T3)(w:World)(H:Hp)(s:Tp)(Q:VK)(u:Value)(s':Tp):Prop:=
 ∃v H',s'.os=s.os/\Xs s'.gens/\Un (o9 outer) [] H H' s.heap s'.heap/\HOk P w H' s'.heap/\RelV v u/\Q v H'
def CR(CX:BB)(outer:List Env)(P:T3)(w:World)(H:Hp)(s:Tp)(Q:VK)(E:XK)(r:Result)(s':Tp):Prop:=
 match r with
 | .ok (.ret u)=>CE outer P w H s Q u s'
 | .ok _=>False
 | .error e=>CX outer H s E e s'
structure FnOk (P:T3) (w:World) (K:Ti) (mg:Str->Option Value) (base:Heap) (CX:BB) (k:Nat) (f:Addr) (fd:Vz) (ps:List Str) (sp:Sp):Prop where
 len:∀vs H Q E,sp vs H Q E->vs.length=ps.length
 run:∀(A:Uu) (outer:List Env) (s:Tp) (H:Hp) (args:Args) (us:List Value) (vs:List V) (Q:VK) (E:XK),Room k A->Env0 P w K mg base A outer s H->BindsTo s fd args (ps.zip us)->Vals vs us->sp vs H Q E->∀[Tk s],
  W2 (model P w) A (.call (.ref f) args) (CR CX outer P w H s Q E) s
theorem FnOk.mono{P:T3}{w:World}{K:Ti}{mg:Str->Option Value}{base:Heap}{CX:BB}{j k:Nat}{f:Addr}{fd:Vz}{ps:List Str}{sp:Sp}(F:FnOk P w K mg base CX j f fd ps sp)(h:j<=k):
 FnOk P w K mg base CX k f fd ps sp:=⟨F.len,λA outer s H args us vs Q E hr=>F.run A outer s H args us vs Q E (hr.mono h)⟩
def Env0.make{P:T3}{w:World}{K:Ti}{mg:Str->Option Value}{base:Heap}{A:Uu}{outer:List Env}{s:Tp}{H:Hp}(e:Env0 P w K mg base A outer s H)(C:Addr)(us:List Value)(kw:List (Str×Value)):
 Env0 P w K mg base (A.under (.builtin "type.__call__" ⟨.ref C::us,kw⟩)) outer s H:=⟨by first | exact e.frames | (simpa [Yz,Code.envs,YK,pushEnvs] using e.frames),e.mod,e.bs,e.bsz,e.funs,e.frf,e.hok,e.bare⟩
section
variable{X:Cx}{f8:List (Addr×Obj)}{σ:St}{H:Hp}{s s':Tp}
def Inv.env0(I:Inv X f8 σ H s):Env0 X.prog X.w X.K X.mg X.base X.A X.stack s H:=
 ⟨I.ok.frames,I.ok.mod,I.bs,T2 I.ok.bsz I.sz,I.stack,I.stkFree,I.hok,I.bare⟩
def Inv.after{Q:VK}{u:Value}(I:Inv X f8 σ H s)(h:CE X.stack X.prog X.w H s Q u s'):EP X f8 σ Q u s':=by
 obtain⟨v,H',os,bare,un,hok,r,q⟩:=h;obtain⟨hh,g,d,t,Sr⟩:=s';obtain rfl:Sr=s.os:=os;exact⟨v,H',I.call (h':=hh) (g':=g) (d':=d) (t':=t) (ch:=[]) un hok bare (λb z=>Zp z (by simp)),r,q⟩
end
def M0(sp:Sp)(sy:List V)(E:XK)(t:TA):TE:=λσ H Q=>t σ H λvs H1=>sp (vs++sy) H1 Q E
def Jd(C:Addr)(m:Str)(sp:Sp)(sy:List V)(E:XK)(ta:TE)(t:TA):TE:=λσ H Q=>ta σ H λx H1=>∃a dx fs,x= .ref a/\H1 a=some (.ins C dx fs)/\fs.lookup m=none/\
 t σ H1 λvs H2=>sp (x::(vs++sy)) H2 Q E
def M3(C:Addr)(sp:Sp)(sy:List V)(E:XK)(t:TA):TE:=λσ H Q=>t σ H λvs H1=>∀x dx,H1 x=none->H1 dx=none->dx≠x->
 sp (.ref x::(vs++sy)) (upd (upd H1 dx (.own x)) x (.ins C dx [])) (λv H2=>v= .non/\Q (.ref x) H2) E
def Binds(K:Ti)(fd:Vz)(ps:List Str)(ds:List Value):Prop:=
 ∀(s:Tp) (us:List Value),K.In s.heap->(us++ds).length=ps.length->BindsTo s fd ⟨us,[]⟩ (ps.zip (us++ds))
def Binds.all{K:Ti}{fd:Vz}{ps:List Str}(h:∀us:List Value,us.length=ps.length->WJ fd ⟨us,[]⟩=pure (ps.zip us)):Binds K fd ps []:=λs us _ hl=>by
 rw[T_] at hl⊢;exact .of_eq (h us hl)
def Passes(CX:BB)(X:Cx)(E:XK):Prop:=∀(f8:List (Addr×Obj)) (σ:St) (H:Hp) (s:Tp) (e:Value) (s':Tp),Inv X f8 σ H s->CX X.stack H s E e s'->X.xe e s'
section
variable{X:Cx}{CX:BB}{k:Nat}{f C:Addr}{fd:Vz}{ps:List Str}{sp:Sp}{sy:List V}{ds:List Value}{E:XK}{x m:Str}{p pos v6:Pos}{e o:Expr}{es:List Expr}{ta:TE}{t:TA}
def Ab{f8:List (Addr×Obj)}{σ:St}{H:Hp}{s:Tp}[Tk s]{Q:VK}{us:List Value}{vs:List V}(F:FnOk X.prog X.w X.K X.mg X.base CX k f fd ps sp)(hr:Room k X.A)(hb:Binds X.K fd ps ds)(hd:Vals sy ds)(hx:Passes CX X E)
 (I:Inv X f8 σ H s)(r:Vals vs us)(h:sp (vs++sy) H Q E):wpAny (model X.prog X.w) X.A (call (.ref f) us) (EP X f8 σ Q) X.xe s:=by
 have r2:Vals (vs++sy) (us++ds):=r.append hd;have hl:(us++ds).length=ps.length:=by rw[<-r2.length];exact F.len _ _ _ _ h
 refine wpAny_call (Yk (F.run X.A X.stack s H ⟨us,[]⟩ (us++ds) (vs++sy) Q E hr I.env0 (hb s us I.kIn hl) r2 h) λr s' hq=>?_);cases r with
 |error e=>exact hx f8 σ H s e s' I hq
 |ok fl=>
  cases fl with
  |ret u=>exact I.after hq
  |next=>exact Va hq
  |brk=>exact Va hq
  |cont=>exact Va hq
def vF(F:FnOk X.prog X.w X.K X.mg X.base CX k f fd ps sp)(hr:Room k X.A)(hg:Gl X x)(hm:X.mg x=some (.ref f))(hk:Uk X.K (.ref f)=true)(hb:Binds X.K fd ps ds)(hd:Vals sy ds)(hx:Passes CX X E)
 (ha:PA X (e::es) t)(lN:(x==("__debug__":Str))=false:=by decide)(he:Tq (e::es) X.env=(false,eval e X.env)::Tq es X.env:=by rfl)(iX:(UM pos (Tq es X.env)).any (·.1)=false:=by rfl):
 PE X (.Call (.Name x p) (e::es) [] pos) (M0 sp sy E t):=by
 intro f8 s σ H Q I h;refine WI (pP I hg hm ?_ lN);refine Xb (h₀:=X.base) I.ok.mod.kin hk (bQ (ha pos f8 s σ H _ I h) λus s1 ⟨vs,H1,I1,r,q⟩=>⟨I1.kIn,?_⟩) he iX;exact Ab F hr hb hd hx I1 r q
def A9{pl:Sem Bool}(he:PE X o ta)(c:Cls X.K C)(hm:Meth X.K C m f)(F:FnOk X.prog X.w X.K X.mg X.base CX k f fd ps sp)(hr:Room k X.A)(hb:Binds X.K fd ps ds)(hd:Vals sy ds)(hx:Passes CX X E)(ha:PA X (e::es) t)
 (pM:Tq (e::es) X.env=(false,eval e X.env)::Tq es X.env:=by rfl)(iX:(UM pos (Tq es X.env)).any (·.1)=false:=by rfl)
 (ht:eval (.Call (.Attribute o m v6) (e::es) [] pos) X.env=(do
  let ov<-eval o X.env
  W0 v6.atName
  let (f,first)<-holding [ov] (Wc ov m pl)
  W3 pos f first (UM pos (Tq (e::es) X.env)) (Vg pos (Ux [] X.env))):=by rfl):
 PE X (.Call (.Attribute o m v6) (e::es) [] pos) (Jd C m sp sy E ta t):=by
 intro f8 s σ H Q I h;refine WM (pl:=pl) (bQ (he f8 s σ H _ I h) λu s1 ⟨x,H1,I1,rx,a,dx,fs,ex,ea,l,q⟩=>?_) ht;subst ex;obtain rfl:u=Ua a:=rx;refine lM I1 ea c hm l ?_;refine Xb (first:=[.ref a]) (h₀:=X.base) I.ok.mod.kin hm.kp (bQ (ha pos f8 s1 σ H1 _ I1 q) λus s2 ⟨vs,H2,I2,r,q2⟩=>⟨I2.kIn,?_⟩) pM iX;exact Ab (us:= .ref a::us) (vs:= .ref a::vs) F hr hb hd hx I2 (.cons rfl r) q2
def rm{pl:Sem Bool}(he:PE X o ta)(c:Cls X.K C)(hm:Meth X.K C m f)(F:FnOk X.prog X.w X.K X.mg X.base CX k f fd ps sp)(hr:Room k X.A)(hb:Binds X.K fd ps ds)(hd:Vals sy ds)(hx:Passes CX X E)
 (ht:eval (.Call (.Attribute o m v6) [] [] pos) X.env=(do
  let ov<-eval o X.env
  W0 v6.atName
  let (f,first)<-holding [ov] (Wc ov m pl)
  W3 pos f first (UM pos (Tq [] X.env)) (Vg pos (Ux [] X.env))):=by rfl):
 PE X (.Call (.Attribute o m v6) [] [] pos) (Jd C m sp sy E ta Ia):=by
 intro f8 s σ H Q I h;refine WM (pl:=pl) (bQ (he f8 s σ H _ I h) λu s1 ⟨x,H1,I1,rx,a,dx,fs,ex,ea,l,q⟩=>?_) ht;subst ex;obtain rfl:u=Ua a:=rx;refine lM I1 ea c hm l ?_;exact PySem.W.callWith_K0 (first:=[.ref a]) I1.kIn hm.kp (Ab (us:=[.ref a]) (vs:=[.ref a]) F hr hb hd hx I1 (.cons rfl .nil) q)
structure Mk (K:Ti) (C f:Addr):Prop where
 makes:WN K C=true
 init:Uo K (.ref C) "__init__"=some (some (.ref f))
 fn:VR K (.ref f)=true
 kp:Uk K (.ref C)=true
def Fl{f8:List (Addr×Obj)}{σ:St}{H:Hp}{s:Tp}[tk:Tk s]{Q:VK}{us:List Value}{vs:List V}(M:Mk X.K C f)(F:FnOk X.prog X.w X.K X.mg X.base CX k f fd ps sp)(hr:Room (k+1) X.A)(hb:Binds X.K fd ps ds)(hd:Vals sy ds)
 (hx:Passes CX X E)(I:Inv X f8 σ H s)(r:Vals vs us)
 (h:∀x dx,H x=none->H dx=none->dx≠x->sp (.ref x::(vs++sy)) (upd (upd H dx (.own x)) x (.ins C dx [])) (λv H2=>v= .non/\Q (.ref x) H2) E):
 wpAny (model X.prog X.w) X.A (call (.ref C) us) (EP X f8 σ Q) X.xe s:=by
 have hq:=h (s.heap.objs.size+1) s.heap.objs.size (I.hok.fresh (Nat.le_succ _)) (I.hok.fresh (Tr _)) (T1 (VI _));have I2:=Inv.made (C:=C) I;have r2:Vals (V.ref (s.heap.objs.size+1)::(vs++sy)) (Ua (s.heap.objs.size+1)::(us++ds)):= .cons rfl (r.append hd);have hl:(Ua (s.heap.objs.size+1)::us++ds).length=ps.length:=by
  have e:=r2.length;rw[F.len _ _ _ _ hq] at e;exact e.symm
 refine wpAny_call (Em (f:=f) I.kIn M.makes M.init (beq_iff_eq.mp M.fn) (Yk (@FnOk.run _ _ _ _ _ _ _ _ _ _ _ F _ X.stack _ _ ⟨Ua (s.heap.objs.size+1)::us,[]⟩ (Ua (s.heap.objs.size+1)::(us++ds)) _ _ E (hr.make C us [])
  (I2.env0.make C us []) (hb _ (Ua (s.heap.objs.size+1)::us) I2.kIn hl) r2 hq ⟨tk.le⟩) λr s' L6=>?_))
 cases r with
 |error e=>exact hx f8 σ _ _ e s' I2 L6
 |ok fl=>
  cases fl with
  |ret u=>
   obtain⟨v,H',I3,rv,ev,q3⟩:=I2.after L6;subst ev;exact⟨rv,⟨V.ref (s.heap.objs.size+1),H',I3,rfl,q3⟩⟩
  |next=>exact Va L6
  |brk=>exact Va L6
  |cont=>exact Va L6
def Hy(M:Mk X.K C f)(F:FnOk X.prog X.w X.K X.mg X.base CX k f fd ps sp)(hr:Room (k+1) X.A)(hg:Gl X x)(hm:X.mg x=some (.ref C))(hb:Binds X.K fd ps ds)(hd:Vals sy ds)(hx:Passes CX X E)
 (ha:PA X (e::es) t)(lN:(x==("__debug__":Str))=false:=by decide)(he:Tq (e::es) X.env=(false,eval e X.env)::Tq es X.env:=by rfl)(iX:(UM pos (Tq es X.env)).any (·.1)=false:=by rfl):
 PE X (.Call (.Name x p) (e::es) [] pos) (M3 C sp sy E t):=by
 intro f8 s σ H Q I h;refine WI (pP I hg hm ?_ lN);refine Xb (h₀:=X.base) I.ok.mod.kin M.kp (bQ (ha pos f8 s σ H _ I h) λus s1 ⟨vs,H1,I1,r,q⟩=>⟨I1.kIn,?_⟩) he iX;exact Fl M F hr hb hd hx I1 r q
end
section
variable{ks:List Str}
end
structure FnScope (N P:List Str) (sc:Scope):Prop where
 kind:sc.kind= .function
 co:sc.isCoroutine=false
 gen:sc.isGenerator=false
 nd:N.Nodup
 pre:N.take P.length=P
 par:∀x∈P,sc.names.lookup x=some .local\/sc.names.lookup x=some .cell
 nofree:∀y∈sc.names,y.2≠ .free
theorem s8{W9:Str->Option WK}{x:Str}:∀{binds:List (Str×Value)}{m:Str->Option Value},(∀v,(x,v)∉binds)->bindL W9 binds m x=m x
 |[],_,_=>rfl
 |(n,v)::r,m,h=>by
  unfold bindL;rw[s8 λw hw=>h w (Tf _ hw)];split
  ·have:x≠n:=by rintro rfl;exact h v Th
   simp[this]
  ·rfl
theorem sY{W9:Str->Option WK}{x:Str}:∀{binds:List (Str×Value)}{m:Str->Option Value},(∀v,(x,v)∉binds)->bindC W9 binds m x=m x
 |[],_,_=>rfl
 |(n,v)::r,m,h=>by
  unfold bindC;rw[sY λw hw=>h w (Tf _ hw)];split
  ·rfl
  ·have:x≠n:=by rintro rfl;exact h v Th
   simp[this]
theorem sZ{W9:Str->Option WK}{x:Str}{v:Value}:∀{P:List Str}{vs:List Value}{i:Nat}{m:Str->Option Value},P.Nodup->P[i]? =some x->vs[i]? =some v->W9 x=some .local->
 bindL W9 (P.zip vs) m x=some v
 |[],_,_,_,_,h,_,_=>by simp at h
 |_::_,[],_,_,_,_,h,_=>by simp at h
 |p::P,w::vs,0,m,nd,h1,h2,hk=>by
  simp at h1 h2;subst h1;subst h2;show bindL W9 ((p,w)::P.zip vs) m p=_;unfold bindL;rw[s8 λv hv=>(Ul.mp nd).1 (X4 hv).1,Zn hk];simp
 |p::P,w::vs,i+1,m,nd,h1,h2,hk=>by
  show bindL W9 ((p,w)::P.zip vs) m x=_;unfold bindL;exact sZ (i:=i) (Ul.mp nd).2 (by simpa using h1) (by simpa using h2) hk
theorem sX{W9:Str->Option WK}{x:Str}{v:Value}:∀{P:List Str}{vs:List Value}{i:Nat}{m:Str->Option Value},P.Nodup->P[i]? =some x->vs[i]? =some v->W9 x≠some .local->
 bindC W9 (P.zip vs) m x=some v
 |[],_,_,_,_,h,_,_=>by simp at h
 |_::_,[],_,_,_,_,h,_=>by simp at h
 |p::P,w::vs,0,m,nd,h1,h2,hk=>by
  simp at h1 h2;subst h1;subst h2;show bindC W9 ((p,w)::P.zip vs) m p=_;unfold bindC;rw[sY λv hv=>(Ul.mp nd).1 (X4 hv).1,Zo hk];simp
 |p::P,w::vs,i+1,m,nd,h1,h2,hk=>by
  show bindC W9 ((p,w)::P.zip vs) m x=_;unfold bindC;exact sX (i:=i) (Ul.mp nd).2 (by simpa using h1) (by simpa using h2) hk
def start(N:List Str)(vs:List V):St:=vs.map some++TH (N.length - vs.length) none
def eC(CX:BB)(P:T3)(w:World)(K:Ti)(mg:Str->Option Value)(base:Heap)(N:List Str)(qual:Str)(scope:Scope)(f:Addr)(cd:Value)(A:Uu)(outer:List Env)(s:Tp)(H:Hp)(E:XK):Cx where
 prog:=P
 w:=w
 K:=K
 mg:=mg
 base:=base
 A:=A.deeper (VB qual scope s.heap.objs.size f cd)
 N:=N
 ZR:=s
 ZQ:=H
 env:=VB qual scope s.heap.objs.size f cd
 outer:=outer
 stack:=VB qual scope s.heap.objs.size f cd::outer
 ex:=[]
 calm:=true
 fn:=λ_=>true
 pn:=[]
 xe:=λe s'=>wpAny (model P w) (A.deeper (VB qual scope s.heap.objs.size f cd)) (leaving (VB qual scope s.heap.objs.size f cd) e) (λ_ PB=>CX outer H s E e PB) (λe' PB=>CX outer H s E e' PB) s'
def w9{sc:Scope}{n:Nat}{x:Str}(h:sc.names.lookup x=some .cell):∃c,(cellsFrom n sc.names []).lookup x=some c:=by
 have q:=Ym sc.names n [] (.inl h);exact U4.mp q
def B7{CX:BB}{P:T3}{w:World}{K:Ti}{mg:Str->Option Value}{base:Heap}{N ps:List Str}{qual:Str}{scope:Scope}{f:Addr}{cd:Value}{A:Uu}{outer:List Env}{s s1:Tp}{H:Hp}{E:XK}{us:List Value}{vs:List V}
 (S:FnScope N ps scope)(hd:A.handled=none)(e0:Env0 P w K mg base A outer s H)(hl:vs.length=ps.length)(r:Vals vs us)
 (x:InCallC s s.heap.objs.size (bindL (VB qual scope s.heap.objs.size f cd).kindOf (ps.zip us) λ_=>none) (cellsFrom (s.heap.objs.size+1) scope.names []) (bindC (VB qual scope s.heap.objs.size f cd).kindOf (ps.zip us) λ_=>none) s1):
 Inv (eC CX P w K mg base N qual scope f cd A outer s H E) [] (start N vs) H s1:=by
 have iX:ps.length<=N.length:=by have:=Zv List.length S.pre;rw[UU] at this;omega
 obtain⟨h1,tk,rfl,hk⟩:=x.done;have Mr:∀b:Addr,b∉(eC CX P w K mg base N qual scope f cd A outer s H E).ex:=λb z=>Zp (show b∈([]:List Addr) from z) (by simp);refine⟨⟨e0.mod,S.kind,rfl,rfl,Tr _,λy z c h1 h2=>?_,λy hy=>?_,λy c _ h=>?_,λ_=>hd,Around.frames_deeper e0.frames, .inr ⟨rfl,rfl⟩,λb z=>Zp z (Mr b),e0.bs,e0.bsz,λb _ _=>Mr b,λb z=>Zp z (Mr b),e0.funs,e0.frf⟩,
  rfl,e0.bare,Un.kept hk,⟨_,x.toInCall.ns,λi y v h1 h2 h3=>?_⟩,λy c h=>⟨_,x.cell y c h⟩,e0.hok.fresh (Tr _),λy c h=>?_,λp hp=>Zp (show p∈([]:List (Addr×Obj)) from hp) (by simp),e0.hok.kept hk,?_⟩
 ·exact name_of_addr x.apart (UY h1) (UY h2)
 ·have hy:scope.names.lookup y=some .cell\/scope.names.lookup y=some .free:=hy;rcases hy with hy | hy
  ·exact w9 hy
  ·exact Zp rfl (S.nofree _ (UY hy))
 ·exact U6 (x.above y c (UY h))
 ·have hi:i<vs.length:=by
   unfold start at h2;by_cases hi:i<vs.length
   ·exact hi
   ·rw[TR (by simpa using hi)] at h2;rw[Um] at h2;split at h2<;>cases h2
  have ha:vs[i]? =some v:=by
   unfold start at h2;rw[TF (by simpa using hi),Tx] at h2;cases e:vs[i]? with
   |none=>rw[e] at h2;cases h2
   |some a=>rw[e] at h2;cases h2;rfl
  obtain⟨u,hu,rv⟩:=r.get ha;have hp:ps[i]? =some y:=by
   rw[<-S.pre,Yw (by omega)];exact h1
  have QS:ps.Nodup:=by rw[<-S.pre];exact S.nd.sublist (List.take_sublist _ _)
  refine⟨u,rv,?_⟩;rcases S.par y (TU hp) with k | k
  ·exact .inl ⟨k,sZ QS hp hu k⟩
  ·obtain⟨c,e⟩:=w9 (n:=s.heap.objs.size+1) k;refine .inr ⟨.inl k,c,e,?_⟩;have q:=x.cell y c e;rw[sX QS hp hu (by show scope.names.lookup y≠_;rw[k];decide)] at q;exact q
 ·exact e0.hok.fresh (U6 (x.above y c (UY h)))
 ·unfold start;show _=N.length;rw[Tt,Te,U1];omega
def qo{CX:BB}{P:T3}{w:World}{K:Ti}{mg:Str->Option Value}{base:Heap}{k:Nat}{f:Addr}{name qual:Str}{params:Arguments}{body:List Stmt}{scope:Scope}{dV kV doc pm bT ct oc:Value}{an od:Option Addr}
 {A0:Array (Option Value)}{N ps:List Str}{sp:Sp}(lk:K.lookup f=some ⟨oc,od, .func (Uj name qual params body scope dV kV doc pm an bT ct),A0⟩)(sj:U8 K bT qual=true)(S:FnScope N ps scope)
 (len:∀vs H Q E,sp vs H Q E->vs.length=ps.length)
 (bX:∀(A:Uu) (outer:List Env) (s:Tp) (H:Hp) (vs:List V) (Q:VK) (E:XK),Room k (A.deeper (VB qual scope s.heap.objs.size f bT))->sp vs H Q E->
  ∃t,PSs (eC CX P w K mg base N qual scope f bT A outer s H E) body t/\t {nx:=λ_ H'=>Q .non H',rt:=Q} (start N vs) H):
 FnOk P w K mg base CX (k+1) f (Uj name qual params body scope dV kV doc pm an bT ct) ps sp:=by
 refine⟨len,λA outer s H args us vs Q E hr e0 hb r wB=>?_⟩;intro tk;have hl:=len _ _ _ _ wB;have KX:K.In s.heap:=e0.mod.kin.keeps λb o e=>(e0.bs b o e).1;have lim:s.heap.NoLimit:=e0.mod.nolimit.keeps λb o e=>(e0.bs b o e).1;have LU:∀y∈ps.zip us,scope.names.lookup y.1=some .local\/(scope.names.lookup y.1=some .cell/\((cellsFrom (s.heap.objs.size+1) scope.names []).lookup y.1).isSome=true):=λ⟨n,v⟩ hy=>by
  rcases S.par n (X4 hy).1 with q | q
  ·exact .inl q
  ·exact .inr ⟨q,Ym _ _ _ (.inl q)⟩
 refine codeAny_call_function hr.depth (KX _ _ lk) rfl S.co S.gen rfl (PySem.W.codeRec_of KX sj) (hb _ _ _ _ ?_);refine wpAny_with_toks (Tr s.toks) (wpAny_newFunctionEnv_cells S.kind LU λenv he s1 x hk=>?_);subst he
 haveI:Up s s1:=⟨hk⟩
 refine⟨lim.keeps x.toInCall.keep,codeAny_func ?_⟩;obtain⟨t,ht,hq⟩:=bX A outer s H vs Q E (hr.deeper _) wB;have I:Inv (eC CX P w K mg base N qual scope f bT A outer s H E) [] (start N vs) H s1:=B7 S hr.hd e0 hl r x;refine UO (ht [] s1 (start N vs) H _ I hq) (λfl s' hs=>?_) λe s' hs=>hs;have fin:∀{σ':St}{H':Hp}{v:V}{u:Value},Inv (eC CX P w K mg base N qual scope f bT A outer s H E) [] σ' H' s'->RelV v u->Q v H'->CE outer P w H s Q u s':=
  λ{σ' H' v u} J rv q=>⟨v,H',J.os,J.bare,J.base,J.hok,rv,q⟩
 cases fl with
 |ret u=>
  obtain⟨v,σ',H',J,rv,q⟩:=hs;exact fin J rv q
 |next=>
  obtain⟨σ',H',J,q⟩:=hs;exact fin (v:=V.non) (u:=UX) J rfl q
 |brk=>
  obtain⟨_,_,_,q⟩:=hs;exact Va q
 |cont=>
  obtain⟨_,_,_,q⟩:=hs;exact Va q
section
variable{X:Cx}{x:Str}{p pos:Pos}{e:Expr}{es:List Expr}{t:TA}{id T:String}{r:List V->Hp->VK->Prop}
def PQ(r:List V->Hp->VK->Prop)(t:TA):TE:=λσ H Q=>t σ H λvs H1=>r vs H1 Q
def yb(hc:CallR X (.builtin id) r)(hg:Gl X x)(hm:X.mg x=none)(hv:Uw x=some (.builtin id))(ha:PA X (e::es) t)(hn:x≠"__name__":=by decide)(lN:(x==("__debug__":Str))=false:=by decide)
 (he:Tq (e::es) X.env=(false,eval e X.env)::Tq es X.env:=by rfl)(iX:(UM pos (Tq es X.env)).any (·.1)=false:=by rfl):PE X (.Call (.Name x p) (e::es) [] pos) (PQ r t):=by
 intro f8 s σ H Q I h;refine WI (nu I hg hm hv ?_ hn lN);exact PyProof.Rows.callWith_builtin1 (bQ (ha pos f8 s σ H _ I h) λus s1 ⟨vs,H1,I1,r1,q1⟩=>hc f8 s1 σ H1 vs us Q I1 r1 q1) he iX
def CA(hc:CallR X (.type T) r)(hg:Gl X x)(hm:X.mg x=none)(hv:Uw x=some (.type T))(ha:PA X (e::es) t)(hn:x≠"__name__":=by decide)(lN:(x==("__debug__":Str))=false:=by decide)
 (he:Tq (e::es) X.env=(false,eval e X.env)::Tq es X.env:=by rfl)(iX:(UM pos (Tq es X.env)).any (·.1)=false:=by rfl):PE X (.Call (.Name x p) (e::es) [] pos) (PQ r t):=by
 intro f8 s σ H Q I h;refine WI (nu I hg hm hv ?_ hn lN);exact Vn (bQ (ha pos f8 s σ H _ I h) λus s1 ⟨vs,H1,I1,r1,q1⟩=>hc f8 s1 σ H1 vs us Q I1 r1 q1) he iX
end
end L2
namespace HT
open PySem PyProof.Rows
section
variable{prog:T3}{w:World}{A:Uu}{E:Value->Tp->Prop}{s:Tp}
def cat_tup{t b:Addr}{vs ws:List Value}{Q:Value->Tp->Prop}(ht:IsTup s.heap t vs.toArray)(hb:IsTup s.heap b ws.toArray)(hv:vs≠[])
 (h1:ws=[]->Q (.ref t) s)(h2:ws≠[]->Q (.ref s.heap.objs.size) {s with heap:=s.heap.push {cls:= .type "tuple",data:= .seq (vs++ws).toArray} })
 (hsz:vs.length+ws.length<=TK):wpAny (model prog w) A (Wk .Add (.ref t) (.ref b)) Q E s:=by
 obtain⟨⟨cls,dd,data,sl⟩,ho,hc,n,hd⟩:=id ht;obtain⟨⟨Od,Gx,data2,NU⟩,C8,GO,n2,hd2⟩:=id hb;simp only at hc hd GO hd2;subst hc hd GO hd2;have e:vs.toArray++ws.toArray=(vs++ws).toArray:=by simp
 by_cases hw:ws=[]
 ·exact concat_meets ⟨_,ho,rfl⟩ ⟨_,C8,rfl⟩ Ys Y5 WH Wz (Wl _ _)
   (tuple_addW1 t b vs.toArray ws.toArray n n2 dd Gx sl NU (by simpa using hv) (by simp[hw])) ⟨ho,C8,h1 hw⟩
 ·refine concat_meets ⟨_,ho,rfl⟩ ⟨_,C8,rfl⟩ Ys Y5 WH Wz (Wl _ _)
   (tuple_addW2 t b vs.toArray ws.toArray n n2 dd Gx sl NU (by simpa using hv) (by simpa using hw) (by rw[Tv,Tv];exact hsz)) ⟨ho,C8,?_⟩
  rw[e];exact h2 hw
def sIx(n d:Nat):Option Int->Nat
 |none=>d
 |some v=>if v<0 then(v+(n:Int)).toNat else min v.toNat n
def sIx_nat(n d k:Nat):sIx n d (some (k:Int))=min k n:=by
 show (if (k:Int)<0 then((k:Int)+(n:Int)).toNat else min (k:Int).toNat n)=min k n;rw[Zo (by omega),XI]
def sIx_le(n d:Nat)(hd:d<=n)(o:Option Int):sIx n d o<=n:=by
 cases o with
 |none=>exact hd
 |some v=>
  show (if v<0 then(v+(n:Int)).toNat else min v.toNat n)<=n;by_cases hv:v<0
  ·rw[Zn hv];omega
  ·rw[Zo hv];exact Nat.min_le_right _ _
def clip_eq(v:Int)(n d:Nat):(if v<0 then max (v+(n:Int)) 0 else min v (n:Int))=((sIx n d (some v):Nat):Int):=by
 show (if v<0 then max (v+(n:Int)) 0 else min v (n:Int))=(((if v<0 then(v+(n:Int)).toNat else min v.toNat n):Nat):Int)
 by_cases hv:v<0
 ·simp only[Zn hv];omega
 ·simp only[Zo hv];omega
def adjust_gen(lo hi:Option Int)(n:Nat):V3 lo hi 1 (n:Int)=(((sIx n 0 lo:Nat):Int),((sIx n n hi:Nat):Int)):=by
 have h1:¬((1:Int)<0):=by omega
 unfold V3;simp only[h1,if_false];refine XY ?_ ?_
 ·cases lo with
  |none=>rfl
  |some v=>exact clip_eq v n 0
 ·cases hi with
  |none=>rfl
  |some v=>exact clip_eq v n n
def places_gen(i j:Nat):Vs (i:Int) (j:Int) 1=j - i:=by
 unfold Vs;have h1:(1:Int)>0:=by omega
 simp only[h1,if_true,Int.ediv_one];split<;>omega
def slicePart_{v:Value}{o:Option Int}{Q:Option Int->Tp->Prop}(p:Yp v o)(h:Q o s):wpAny (model prog w) A (Builtin.Slice.slicePartIndex v) Q E s:=by
 cases p with
 |none=>exact slicePart_none h
 |int i t=>exact slicePart_int h
def sliceApplied_gen{sl:Addr}{vl vu:Value}{lo hi:Option Int}{n:Nat}{Q:Int×Int×Nat->Tp->Prop}(hs:s.heap.IsSliceOf sl vl vu .none)(pl:Yp vl lo)(pu:Yp vu hi)
 (h:Q (((sIx n 0 lo:Nat):Int),1,sIx n n hi - sIx n 0 lo) s):wpAny (model prog w) A (Xj (.ref sl) (pure (n:Int))) Q E s:=by
 obtain⟨os,B6,Ny,IJ⟩:=id hs;unfold Xj Builtin.Slice.sliceFields;refine Td (Td (wpAny_field B6 IJ (x:=vl) rfl (Td (wpAny_field B6 IJ (x:=vu) rfl (Td (wpAny_field B6 IJ (x:= .none) rfl (Tu ?_)))))));refine Td (slicePart_none ?_);show wpAny _ _ (if ((1:Int)==0)=true then _ else _) _ _ s;rw[Zo (by decide)];refine Td (slicePart_ pl (Td (slicePart_ pu (Td (Tu ?_)))));show wpAny _ _ (match V3 lo hi 1 (n:Int) with | (lo,hi)=>pure (lo,(1:Int),Vs lo hi 1)) _ _ s;rw[adjust_gen lo hi n];show wpAny _ _ (pure (((sIx n 0 lo:Nat):Int),(1:Int),Vs ((sIx n 0 lo:Nat):Int) ((sIx n n hi:Nat):Int) 1)) _ _ s;rw[places_gen];exact Tu h
def pick_gen(xs:Array Value)(i k:Nat):((TB k).filterMap λ(m:Nat)=>xs[((i:Int)+(m:Int)*1).toNat]?).toArray=((xs.toList.drop i).take k).toArray:=by
 have e:(λ(m:Nat)=>xs[((i:Int)+(m:Int)*1).toNat]?)=λm=>xs[i+m]? :=by
  funext m;have:((i:Int)+(m:Int)*1).toNat=i+m:=by omega
  rw[this]
 rw[e];have:=pick_run xs i k;rw[List.filterMap_map] at this;have e2:((λx=>xs[x]?)∘λx=>i+x)=λm=>xs[i+m]? :=rfl;rw[e2] at this;rw[this]
def getItem_tuple_cut{t sl:Addr}{items:Array Value}{vl vu:Value}{lo hi:Option Int}{Q:Value->Tp->Prop}(ht:IsTup s.heap t items)(hs:s.heap.IsSliceOf sl vl vu .none)(pl:Yp vl lo)(pu:Yp vu hi)
 (hw:¬(sIx items.size 0 lo=0/\sIx items.size items.size hi=items.size))
 (h:Q (.ref s.heap.objs.size) {s with heap:=s.heap.push {cls:= .type "tuple",data:= .seq ((items.toList.drop (sIx items.size 0 lo)).take (sIx items.size items.size hi - sIx items.size 0 lo)).toArray} })
 (hsz:items.size<=TK):wpAny (model prog w) A (YB (.ref t) (.ref sl)) Q E s:=by
 have AK:sizeOk (.seq ((items.toList.drop (sIx items.size 0 lo)).take (sIx items.size items.size hi - sIx items.size 0 lo)).toArray):=by
  show ((items.toList.drop (sIx items.size 0 lo)).take (sIx items.size items.size hi - sIx items.size 0 lo)).toArray.size<=TK;rw[Tv,UU,XM,TZ];omega
 have hj:sIx items.size items.size hi<=items.size:=sIx_le _ _ (Tr _) hi;obtain⟨os,B6,Ny,IJ⟩:=id hs;have Ox:s.TypeIs (.ref sl) "slice":=⟨os,B6,Ny⟩
 unfold YB
 try with_reducible refine VT ?_
 first | refine Td (Tu ?_) | skip
 refine Td (wpAny_sequenceKey ht.typeIs (by decide) ?_);refine Td (VW (name:=TC "__getitem__") ht.typeIs Ve
  (Vu Ve ht.typeIs entry_tuple_getitem ?_ (args_tuple_getitem _ _)))
 show wpAny _ _ (Xi (.ref t)>>=_) _ _ s;refine Td (tupleItemsOf_ ht ?_);refine Td (Yi Ox ?_);rw[Zn (by decide)];refine Td (sliceApplied_gen hs pl pu ?_);have nj:¬((((sIx items.size 0 lo:Nat):Int)==0&&(1:Int)==1&&(sIx items.size items.size hi - sIx items.size 0 lo)==items.size)=true):=by
  intro q;rw[Uh,Uh] at q;have q1:((sIx items.size 0 lo:Nat):Int)=0:=eq_of_beq q.1.1;have q2:sIx items.size items.size hi - sIx items.size 0 lo=items.size:=eq_of_beq q.2;exact hw ⟨by omega,by omega⟩
 show wpAny _ _ (if (((sIx items.size 0 lo:Nat):Int)==0&&(1:Int)==1&&(sIx items.size items.size hi - sIx items.size 0 lo)==items.size)=true then _ else _) _ _ s;rw[Zo nj,pick_gen]
 first
  |exact Td (m:=Vy _) (U3 (Tu ⟨_,rfl,Tu h⟩) AK)
  |exact Td (m:=Vy _) (U3 (Td (Tu (Tu ⟨_,rfl,Tu h⟩))) AK)
  |exact Td (Td (m:=Vy _) (U3 (Tu (Tu ⟨_,rfl,Tu h⟩)) AK))
  |exact Td (Td (m:=Vy _) (U3 (Tu ⟨_,rfl,Tu h⟩) AK))
end
end HT
namespace L2
open PySem PySem.Spec PyProof.Rows
abbrev TO:=St->Hp->(Option Int->Hp->Prop)->Prop
def PO(X:Cx)(e:Option Expr)(t:TO):Prop:=
 ∀(f8:List (Addr×Obj)) (s:Tp) (σ:St) (H:Hp) (Q:Option Int->Hp->Prop),Inv X f8 σ H s->t σ H Q->
  ∀[Tk s],wpAny (model X.prog X.w) X.A (evalPart e X.env) (λu s'=>∃o H',Inv X f8 σ H' s'/\Yp u o/\Q o H') X.xe s
def Ib:TO:=λ_ H Q=>Q none H
def M7(t:TE):TO:=λσ H Q=>t σ H λx H1=>∃i,x= .int i/\Q (some i) H1
def intsAre_of{ns:List Int}:∀{us:List Value},Vals (ns.map V.int) us->WB us ns:=by
 induction ns with
 |nil=>intro us r;rw[VJ] at r;cases r;exact .nil
 |cons n ns ih=>
  intro us r;rw[Ts] at r;cases r with
  |cons r1 r2=>
   obtain⟨t,e⟩:=r1;subst e;exact .cons n t (ih r2)
section
variable{X:Cx}{e:Expr}{te:TE}{lo hi:Option Expr}{tl th:TO}{pos p2:Pos}
def HA:PO X none Ib:=by
 intro f8 s σ H Q I h;rw[evalPart_none];exact Tu ⟨none,H,I, .none,h⟩
def HB(h:PE X e te):PO X (some e) (M7 te):=by
 intro f8 s σ H Q I hw;rw[evalPart_some];refine bQ (h f8 s σ H _ I hw) λu s1 ⟨x,H1,I1,r1,q1⟩=>?_;obtain⟨i,rfl,q⟩:=q1;obtain⟨t,rfl⟩:=r1;exact⟨some i,H1,I1, .int i t,q⟩
def SlR(X:Cx)(r:V->Option Int->Option Int->Hp->VK->Prop):Prop:=
 ∀(f8:List (Addr×Obj)) (s:Tp) (σ:St) (H:Hp) (x:V) (v vl vu:Value) (lo hi:Option Int) (sl:Addr) (Q:VK),Inv X f8 σ H s->RelV x v->s.heap.IsSliceOf sl vl vu .none->Yp vl lo->Yp vu hi->r x lo hi H Q->
  ∃T id,typeLookup (.type T) "__getitem__"=pure (some (.builtin id))/\s.TypeIs v T/\wpAny (model X.prog X.w) X.A (YB v (.ref sl)) (EP X f8 σ Q) X.xe s
def SlR.or{r r':V->Option Int->Option Int->Hp->VK->Prop}(h:SlR X r)(h':SlR X r'):SlR X (λx lo hi H Q=>r x lo hi H Q\/r' x lo hi H Q):=by
 intro f8 s σ H x v vl vu lo hi sl Q I rx hs pl pu q;rcases q with q | q
 ·exact h f8 s σ H x v vl vu lo hi sl Q I rx hs pl pu q
 ·exact h' f8 s σ H x v vl vu lo hi sl Q I rx hs pl pu q
def SF(r:V->Option Int->Option Int->Hp->VK->Prop)(te:TE)(tl th:TO):TE:=λσ H Q=>te σ H λx H1=>tl σ H1 λl H2=>th σ H2 λu H3=>r x l u H3 Q
def EY{r:V->Option Int->Option Int->Hp->VK->Prop}(hr:SlR X r)(he:PE X e te)(hl:PO X lo tl)(hu:PO X hi th):PE X (.Subscript e (.Slice lo hi none p2) pos) (SF r te tl th):=by
 intro f8 s σ H Q I h;refine Subscript_ (bQ (he f8 s σ H _ I h) λv s1 ⟨x,H1,I1,r1,q1⟩=>?_);refine wpAny_Slice (bQ (hl f8 s1 σ H1 _ I1 q1) λvl s2 ⟨l,H2,I2,pl,q2⟩=>bQ (hu f8 s2 σ H2 _ I2 q2) λvu s3 ⟨u,H3,I3,pu,q3⟩=>?_);rw[evalPart_none];refine Tu ?_;have I4:Inv X f8 σ H3 {s3 with heap:=s3.heap.push {cls:= .type "slice",data:= .fields #[vl,vu, .none]} }:=I3.kept (t':=s3.toks) λb ob q=>Tj _ q;obtain⟨T,id,hT,ht,hg⟩:=hr f8 {s3 with heap:=s3.heap.push {cls:= .type "slice",data:= .fields #[vl,vu, .none]} } σ H3 x v vl vu l u s3.heap.objs.size Q I4 r1 (Heap.IsSliceOf.new ..) pl pu q3;show wpAny (model X.prog X.w) X.A (subscriptTail e (.Slice lo hi none p2) v (.ref s3.heap.objs.size)) (EP X f8 σ Q) X.xe {s3 with heap:=s3.heap.push {cls:= .type "slice",data:= .fields #[vl,vu, .none]} };exact tail_any (ops:=[.ref s3.heap.objs.size,v]) ht hT hg (by with_unfolding_all rfl)
def xf(xs:List V)(lo hi:Option Int):List V:=(xs.drop (HT.sIx xs.length 0 lo)).take (HT.sIx xs.length xs.length hi - HT.sIx xs.length 0 lo)
def nW(xs:List V)(lo hi:Option Int):(xf xs lo hi).length<=xs.length:=by
 unfold xf;rw[UU,XM];omega
def Py(K:Ti):V->Option Int->Option Int->Hp->VK->Prop:=λx lo hi H Q=>∃a xs,x= .ref a/\SqT K H a xs/\
 ¬(HT.sIx xs.length 0 lo=0/\HT.sIx xs.length xs.length hi=xs.length)/\∀p,H p=none->Q (.ref p) (upd H p (.tup (xf xs lo hi)))
def KP:SlR X (Py X.K):=by
 intro f8 s σ H x v vl vu lo hi sl Q I rx hs pl pu h;obtain⟨a,xs,rfl,hx,hw,q⟩:=h;cases rx;obtain⟨aO,r,ht,hz⟩:=I.tuple hx;have P3:aO.toArray.size=xs.length:=by rw[Tv];exact r.length.symm
 refine⟨"tuple",_,PyProof.Rows.slot_tuple_getitem.lookup,ht.typeIs,?_⟩;refine HT.getItem_tuple_cut ht hs pl pu (by rw[P3];exact hw) ?_ (by rw[P3];exact hz);rw[P3];refine⟨.ref s.heap.objs.size,_,I.laid (t':=s.toks) (o:= .tup (xf xs lo hi)) (λb ob q=>Tj _ q) (Tr _) ?_,rfl,q _ (I.hok.fresh (Tr _))⟩;exact⟨T2 (nW xs lo hi) hz,_,(r.drop (HT.sIx xs.length 0 lo)).take (HT.sIx xs.length xs.length hi - HT.sIx xs.length 0 lo),IsTup.new _ _⟩
def ML(K:Ti):R2:=λx y H Q=>∃a b xs ys,x= .ref a/\y= .ref b/\SqT K H a xs/\SqT K H b ys/\xs≠[]/\xs.length+ys.length<=TK/\
 (ys=[]->Q (.ref a) H)/\(ys≠[]->∀p,H p=none->Q (.ref p) (upd H p (.tup (xs++ys))))
def Vals.nil_iff{xs:List V}{us:List Value}(r:Vals xs us):us=[]↔xs=[]:=by
 cases r with
 |nil=>simp
 |cons _ _=>simp
def He:OpR X (Wk .Add) (ML X.K):=by
 intro f8 s σ H x y v u Q I rx ry h;obtain⟨a,b,xs,ys,rfl,rfl,ha,hb,hx,hz,q1,q2⟩:=h;cases rx;cases ry;obtain⟨aO,r1,p1,_⟩:=I.tuple ha;obtain⟨iq,r2,p2,_⟩:=I.tuple hb;refine HT.cat_tup p1 p2 (λz=>hx (r1.nil_iff.mp z)) (λz=>⟨.ref a,H,I,rfl,q1 (r2.nil_iff.mp z)⟩) (λz=>?_) (by rw[<-r1.length,<-r2.length];exact hz);refine⟨.ref s.heap.objs.size,_,I.laid (t':=s.toks) (o:= .tup (xs++ys)) (λb ob q=>Tj _ q) (Tr _) ?_,rfl,q2 (λw=>z (r2.nil_iff.mpr w)) _ (I.hok.fresh (Tr _))⟩;exact⟨by rw[Tt];exact hz,_,r1.append r2,IsTup.new _ _⟩
end
def Gb(n:Nat)(i:Int):Option Nat:=if 0<=i then(if i<n then some i.toNat else none) else if -(n:Int)<=i then some (i+n).toNat else none
def atI{α:Type}(xs:List α)(i:Int):Option α:=(Gb xs.length i).bind λj=>xs[j]?
def GZ{n:Nat}{i:Int}{j:Nat}(h:Gb n i=some j):seqIndex? i n=some j/\j<n/\ -(n:Int)<=i/\i<n:=by
 unfold Gb at h;by_cases h0:0<=i
 ·rw[Zn h0] at h;by_cases h1:i<n
  ·rw[Zn h1] at h;have e:i.toNat=j:=Ub h;exact⟨by rw[seqIndex_of h0 h1,e],by omega,by omega,h1⟩
  ·rw[Zo h1] at h;cases h
 ·rw[Zo h0] at h;by_cases h1: -(n:Int)<=i
  ·rw[Zn h1] at h;have e:(i+n).toNat=j:=Ub h;exact⟨by rw[seqIndex_neg (by omega) h1,e],by omega,h1,by omega⟩
  ·rw[Zo h1] at h;cases h
def uD{α:Type}{xs:List α}{i:Int}{v:α}(h:atI xs i=some v):∃j,seqIndex? i xs.length=some j/\xs[j]? =some v/\j<xs.length/\ -(xs.length:Int)<=i/\i<xs.length:=by
 unfold atI at h;cases e:Gb xs.length i with
 |none=>rw[e] at h;cases h
 |some j=>
  rw[e] at h;obtain⟨h1,h2,h3,h4⟩:=GZ e;exact⟨j,h1,h,h2,h3,h4⟩
def p7{α:Type}(xs:List α)(v:α):atI (xs++[v]) (-1)=some v:=by
 have hl:(xs++[v]).length=xs.length+1:=by simp
 have e:Gb (xs++[v]).length (-1)=some xs.length:=by
  unfold Gb;rw[hl,Zo (by decide),Zn (by omega)];congr 1;omega
 unfold atI;rw[e];show (xs++[v])[xs.length]? =some v;simp
def kC(b:Expr):Prop:=∀o i,subscripted b false o i=operate [o,i] (YB o i)
def Lh(X:Cx)(r:R2):Prop:=
 ∀(value slice:Expr) (f8:List (Addr×Obj)) (s:Tp) (σ:St) (H:Hp) (x y:V) (v u:Value) (Q:VK),Inv X f8 σ H s->RelV x v->RelV y u->r x y H Q->
  subscripted slice false v u=operate [v,u] (YB v u)->wpAny (model X.prog X.w) X.A (subscriptTail value slice v u) (EP X f8 σ Q) X.xe s
def Li(X:Cx)(id:String)(r:V->List V->Hp->VK->Prop):Prop:=
 ∀(f8:List (Addr×Obj)) (s:Tp) (σ:St) (H:Hp) (x:V) (xs:List V) (v:Value) (us:List Value) (Q:VK),Inv X f8 σ H s->RelV x v->Vals xs us->r x xs H Q->
  wpAny (model X.prog X.w) X.A (call (.builtin id) (v::us)) (EP X f8 σ Q) X.xe s
section
variable{X:Cx}{a b:Expr}{ta tb:TE}{pos:Pos}
def MH{r:R2}(hr:Lh X r)(ha:PE X a ta)(hb:PE X b tb)(hs:kC b):PE X (.Subscript a b pos) (M6 r ta tb):=by
 intro f8 s σ H Q I h;exact Subscript_ (Jn ha hb I h λv u s2 x y H2 I2 rx ry q=>hr a b f8 s2 σ H2 x y v u Q I2 rx ry q (hs _ _))
def KG(K:Ti):R2:=λx y H Q=>∃p xs i v,x= .ref p/\y= .int i/\SqL K H p xs/\atI xs i=some v/\Q v H
def MP(K:Ti):R2:=λx y H Q=>∃p xs i v,x= .ref p/\y= .int i/\SqT K H p xs/\atI xs i=some v/\Q v H
def MO:R2:=λx y H Q=>∃z i c,x= .str z/\y= .int i/\z.length<=TK/\atI z.cps.toList i=some c/\Q (.str ⟨#[c]⟩) H
def AM:Lh X (KG X.K):=by
 intro value slice f8 s σ H x y v u Q I rx ry h hs;obtain⟨p,xs,i,z,rfl,rfl,hq,he,q⟩:=h;cases rx;obtain⟨t,rfl⟩:=ry;obtain⟨aO,r,pl,hz⟩:=I.list hq;obtain⟨j,h1,h2,h3,h4,h5⟩:=uD he;obtain⟨w,ew,Lb⟩:=r.get h2;have hl:=r.length;have hn:=ny;have fin:EP X f8 σ Q w s:=⟨z,H,I,Lb,q⟩
 by_cases h0:0<=i
 ·have hj:i.toNat=j:=by
   rw[seqIndex_of h0 h5] at h1;exact Ub h1
  exact item_listR pl.isList h0 (by omega) (by rw[hj];simpa using ew) fin hs
 ·have hj:(i+(aO.toArray.size:Int)).toNat=j:=by
   rw[seqIndex_neg (by omega) h4] at h1;rw[Tv,<-hl];exact Ub h1
  exact Zg (x:=w) pl.isList.typeIs slot_list_getitem.lookup
   (wpAny_getItem_list_neg (Q:=λr s'=>r=w/\EP X f8 σ Q r s') pl.isList (by omega) (by rw[Tv]<;>omega) (by omega) (by rw[hj];simpa using ew) ⟨rfl,fin⟩) hs
def J1:Lh X (MP X.K):=by
 intro value slice f8 s σ H x y v u Q I rx ry h hs;obtain⟨p,xs,i,z,rfl,rfl,hq,he,q⟩:=h;cases rx;obtain⟨t,rfl⟩:=ry;obtain⟨aO,r,pl,hz⟩:=I.tuple hq;obtain⟨j,h1,h2,h3,h4,h5⟩:=uD he;obtain⟨w,ew,Lb⟩:=r.get h2;have hl:=r.length;have hn:=ny;have fin:EP X f8 σ Q w s:=⟨z,H,I,Lb,q⟩
 exact Zg (x:=w) pl.typeIs slot_tuple_getitem.lookup
  (getItem_tuple (j:=j) (Q:=λr s'=>r=w/\EP X f8 σ Q r s') pl (by omega) (by omega) (by rw[Tv,<-hl];exact h1) (by simpa using ew) ⟨rfl,fin⟩) hs
def J0:Lh X MO:=by
 intro value slice f8 s σ H x y v u Q I rx ry h hs;obtain⟨z,i,c,rfl,rfl,hz,he,q⟩:=h;obtain⟨t,rfl⟩:=rx;obtain⟨t',rfl⟩:=ry;obtain⟨j,h1,h2,h3,h4,h5⟩:=uD he;have hl:z.cps.toList.length=z.length:=by simp[Str.length]
 rw[hl] at h1 h4 h5;have hn:=ny;exact tail_any (WU s z t) slot_str_getitem.lookup (getItem_str (c:=c) (by
  have e1:decide (i< -(2 ^ 63:Int))=false:=Zr (by omega);have e2:decide (i>=2 ^ 63)=false:=Zr (by omega);rw[e1,e2,Bool.or_false]) (by rw[h1];simpa using h2) ⟨.str ⟨#[c]⟩,H,I.tok _,⟨_,rfl⟩,q⟩) hs
theorem Inv.lst{f8:List (Addr×Obj)}{σ:St}{H:Hp}{s:Tp}{p:Addr}{xs:List V}(I:Inv X f8 σ H s)(h:H p=some (.lst xs)):
 ∃(aO:List Value) (n:Nat),Vals xs aO/\s.heap.get? p=some {cls:= .type "list",data:= .seq aO.toArray n}/\xs.length<=TK:=by
 obtain⟨z,aO,n,r,e⟩:=I.hok p _ h;exact⟨aO,n,r,e,z⟩
def wb(lo hi:Option Int)(n:Nat):(Wv lo hi none n).1=((HT.sIx n 0 lo:Nat):Int)/\(Wv lo hi none n).2.1=((HT.sIx n n hi:Nat):Int)/\(Wv lo hi none n).2.2=1:=by
 refine⟨?_,?_,rfl⟩
 ·cases lo with
  |none=>simp[Wv,HT.sIx]
  |some i=>
   simp only[Wv,HT.sIx,Za,show (1:Int)>0 by decide,if_true];by_cases h:i<0
   ·simp only[h,if_true]<;>omega
   ·simp only[h,if_false]<;>omega
 ·cases hi with
  |none=>simp[Wv,HT.sIx]
  |some i=>
   simp only[Wv,HT.sIx,Za,show (1:Int)>0 by decide,if_true];by_cases h:i<0
   ·simp only[h,if_true]<;>omega
   ·simp only[h,if_false]<;>omega
def sR(aO:List Value)(lo hi:Option Int):slicePick aO.toArray lo hi none=((aO.drop (HT.sIx aO.length 0 lo)).take (HT.sIx aO.length aO.length hi - HT.sIx aO.length 0 lo)).toArray:=by
 obtain⟨h1,h2,h3⟩:=wb lo hi aO.toArray.size;unfold slicePick;rw[h1,h2,h3];simp only[sliceRange_one,pick_run,Tv]<;>rfl
def Px(K:Ti):V->Option Int->Option Int->Hp->VK->Prop:=λx lo hi H Q=>∃a xs,x= .ref a/\SqL K H a xs/\∀p,H p=none->Q (.ref p) (upd H p (.lst (xf xs lo hi)))
def HU:SlR X (Px X.K):=by
 intro f8 s σ H x v vl vu lo hi sl Q I rx hs pl pu h;obtain⟨a,xs,rfl,hx,q⟩:=h;cases rx;obtain⟨aO,r,ht,hz⟩:=I.list hx;have P3:=r.length;refine⟨"list",_,slot_list_getitem.lookup,ht.isList.typeIs,?_⟩;refine wpAny_getItem_list_slice ht.isList hs pl pu .none (by simp) ?_ (by rw[Tv]<;>omega);rw[sR,<-P3];refine⟨.ref s.heap.objs.size,_,I.laid (t':=s.toks) (o:= .lst (xf xs lo hi)) (λb ob q=>Tj _ q) (Tr _) ?_,rfl,q _ (I.hok.fresh (Tr _))⟩;exact⟨T2 (nW xs lo hi) hz,_,0,(r.drop (HT.sIx xs.length 0 lo)).take (HT.sIx xs.length xs.length hi - HT.sIx xs.length 0 lo),TM _ rfl⟩
def nX:V->Bool
 | .non=>true
 | .bl _=>true
 | .int _=>true
 | .str _=>true
 |_=>false
def F8:V->V->Bool
 | .non, .non=>true
 | .bl a, .bl b=>a==b
 | .bl a, .int b=>(if a then 1 else 0)==b
 | .int a, .bl b=>a==(if b then 1 else 0)
 | .int a, .int b=>a==b
 | .str a, .str b=>a==b
 |_,_=>false
def Ju{A:Uu}{s:Tp}{y x:V}{u v:Value}(ry:RelV y u)(rx:RelV x v)(fy:nX y=true)(fx:nX x=true):SeqAt.EqAt A s u v (F8 y x):=by
 cases y with
 |non=>
  cases ry;cases x with
  |non=>cases rx;exact SeqAt.EqAt.same _
  |bl b=>cases rx;exact SeqAt.EqAt.none_bool b
  |int b=>obtain⟨t,rfl⟩:=rx;exact SeqAt.EqAt.none_int b t
  |str b=>obtain⟨t,rfl⟩:=rx;exact SeqAt.EqAt.none_str b t
  |_=>exact Zp (show false=true from fx) T6
 |bl a=>
  cases ry;cases x with
  |non=>cases rx;exact SeqAt.EqAt.bool_none a
  |bl b=>cases rx;exact SeqAt.EqAt.bool_bool a b
  |int b=>obtain⟨t,rfl⟩:=rx;exact SeqAt.EqAt.bool_int a b t
  |str b=>obtain⟨t,rfl⟩:=rx;exact SeqAt.EqAt.bool_str a b t
  |_=>exact Zp (show false=true from fx) T6
 |int a=>
  obtain⟨t',rfl⟩:=ry;cases x with
  |non=>cases rx;exact SeqAt.EqAt.int_none a t'
  |bl b=>cases rx;exact SeqAt.EqAt.int_bool a t' b
  |int b=>obtain⟨t,rfl⟩:=rx;exact SeqAt.EqAt.int_int a t' b t
  |str b=>obtain⟨t,rfl⟩:=rx;exact Yu a t' b t
  |_=>exact Zp (show false=true from fx) T6
 |str a=>
  obtain⟨t',rfl⟩:=ry;cases x with
  |non=>cases rx;exact SeqAt.EqAt.str_none a t'
  |bl b=>cases rx;exact SeqAt.EqAt.str_bool a t' b
  |int b=>obtain⟨t,rfl⟩:=rx;exact Yt a t' b t
  |str b=>obtain⟨t,rfl⟩:=rx;exact SeqAt.EqAt.str_str a t' b t
  |_=>exact Zp (show false=true from fx) T6
 |_=>exact Zp (show false=true from fy) T6
def GH(x:V)(u:Value):Bool:=match u with
 | .none=>F8 .non x
 | .bool b=>F8 (.bl b) x
 | .int i _=>F8 (.int i) x
 | .str z _=>F8 (.str z) x
 |_=>false
def DL{x y:V}{u:Value}(r:RelV y u)(f:nX y=true):GH x u=F8 y x:=by
 cases y with
 |non=>cases r;rfl
 |bl b=>cases r;rfl
 |int i=>obtain⟨t,rfl⟩:=r;rfl
 |str z=>obtain⟨t,rfl⟩:=r;rfl
 |_=>exact Zp (show false=true from f) T6
theorem uz{x:V}:∀{xs:List V}{us:List Value},Vals xs us->xs.all nX=true->us.any (GH x)=xs.any λy=>F8 y x
 |_,_, .nil,_=>rfl
 |y::xs,u::us, .cons r t,f=>by
  rw[Wa,Uh] at f;rw[V_,V_,DL r f.1,uz t f.2]
theorem qJ{A:Uu}{s:Tp}{x:V}{v:Value}(rx:RelV x v)(fx:nX x=true):∀{xs:List V}{us:List Value},Vals xs us->xs.all nX=true->∀u∈us,SeqAt.EqAt A s u v (GH x u)
 |_,_, .nil,_=>λu hu=>by cases hu
 |y::xs,u::us, .cons r t,f=>λu' hu=>by
  rw[Wa,Uh] at f;rcases Tz.mp hu with rfl | hu
  ·rw[DL r f.1];exact Ju r rx f.1 fx
  ·exact qJ rx fx t f.2 u' hu
def NM(x:V)(xs:List V):Bool:=xs.any λy=>F8 y x
def QW(K:Ti)(neg:Bool):R2:=λx y H Q=>∃p xs,y= .ref p/\(SqL K H p xs\/SqT K H p xs)/\nX x=true/\xs.all nX=true/\Q (.bl (if neg then !NM x xs else NM x xs)) H
def vy:OpR X (Uy .NotIn) (QW X.K true):=by
 intro f8 s σ H x y v u Q I rx ry h;obtain⟨p,xs,rfl,hq,fx,fs,q⟩:=h;cases ry;rcases hq with hq | hq
 ·obtain⟨aO,r,pl,hz⟩:=I.list hq;refine SeqAt.notIn_listAt (GH x) pl.isList (λw hw=>qJ rx fx r fs w (by simpa using hw)) ⟨.bl _,H,I,rfl,?_⟩;rw[show aO.toArray.any (GH x)=aO.any (GH x) by simp,uz r fs];exact q
 ·obtain⟨aO,r,pl,hz⟩:=I.tuple hq;refine SeqAt.notIn_tupleAt (GH x) pl (λw hw=>qJ rx fx r fs w (by simpa using hw)) ⟨.bl _,H,I,rfl,?_⟩;rw[show aO.toArray.any (GH x)=aO.any (GH x) by simp,uz r fs];exact q
def l8:CallR X (.builtin "len") (λxs H Q=>∃p ys,xs=[.ref p]/\(SqL X.K H p ys\/SqT X.K H p ys)/\Q (.int ys.length) H):=by
 intro f8 s σ H xs us Q I r h;obtain⟨p,ys,rfl,hq,q⟩:=h;obtain⟨u,rfl,rx⟩:=vals1 r;cases rx;have hn:=ny;rcases hq with hq | hq
 ·obtain⟨aO,r',pl,hz⟩:=I.list hq;have P3:=r'.length;exact Calls.call_len_list pl.isList (by simp only[Tv]<;>omega) ⟨.int ys.length,H,I.tok _,⟨s.toks+1,by rw[Tv,P3]⟩,q⟩
 ·obtain⟨aO,r',pl,hz⟩:=I.tuple hq;have P3:=r'.length;exact len_tuple pl (by simp only[Tv]<;>omega) ⟨.int ys.length,H,I.tok _,⟨s.toks+1,by rw[Tv,P3]⟩,q⟩
def uK:CallR X (.builtin "len") (λxs H Q=>∃z,xs=[.str z]/\z.length<=TK/\Q (.int z.length) H):=by
 intro f8 s σ H xs us Q I r h;obtain⟨z,rfl,hz,q⟩:=h;obtain⟨u,rfl,t,rfl⟩:=vals1 r;have hn:=ny;exact len_str (by omega) ⟨.int z.length,H,I.tok _,⟨_,rfl⟩,q⟩
def CallR.or{f:Value}{r r':List V->Hp->VK->Prop}(h:CallR X f r)(h':CallR X f r'):CallR X f (λxs H Q=>r xs H Q\/r' xs H Q):=by
 intro f8 s σ H xs us Q I rs q;rcases q with q | q
 ·exact h f8 s σ H xs us Q I rs q
 ·exact h' f8 s σ H xs us Q I rs q
def uL:CallR X (.type "list") (λxs H Q=>∃p ys,xs=[.ref p]/\(SqL X.K H p ys\/SqT X.K H p ys)/\∀l,H l=none->Q (.ref l) (upd H l (.lst ys))):=by
 intro f8 s σ H xs us Q I r h;obtain⟨p,ys,rfl,hq,q⟩:=h;obtain⟨u,rfl,rx⟩:=vals1 r;cases rx;have fin:∀(aO:List Value),Vals ys aO->ys.length<=TK->∀(h':Heap) (c':Nat),(∀b o',s.heap.get? b=some o'->h'.get? b=some o')->
  h'.get? s.heap.objs.size=some {cls:= .type "list",dict:=none,data:= .seq aO.toArray c',slots:= #[]}->EP X f8 σ Q (.ref s.heap.objs.size) {s with heap:=h'}:=λaO r' hz h' c' kp e=>
  ⟨.ref s.heap.objs.size,_,I.laid (t':=s.toks) kp (Tr _) (show ObjOk X.prog X.w _ h' _ (.lst ys) from⟨hz,aO,c',r',e⟩),rfl,q _ (I.hok.fresh (Tr _))⟩
 rcases hq with hq | hq
 ·obtain⟨aO,r',pl,hz⟩:=I.list hq;have P3:=r'.length;obtain⟨o,ho,hc,n,hd⟩:=pl.isList;exact call_list_seq p (.inl rfl) ho hc hd (λh' c' kp e=>fin aO r' hz h' c' kp e) (by simp only[Tv]<;>omega)
 ·obtain⟨aO,r',pl,hz⟩:=I.tuple hq;have P3:=r'.length;obtain⟨o,ho,hc,n,hd⟩:=pl;exact call_list_seq p (.inr rfl) ho hc hd (λh' c' kp e=>fin aO r' hz h' c' kp e) (by simp only[Tv]<;>omega)
def sv:CallR X (.type "tuple") (λxs H Q=>∃p ys,xs=[.ref p]/\((SqL X.K H p ys/\∀l,H l=none->Q (.ref l) (upd H l (.tup ys)))\/(SqT X.K H p ys/\Q (.ref p) H))):=by
 intro f8 s σ H xs us Q I r h;obtain⟨p,ys,rfl,h⟩:=h;obtain⟨u,rfl,rx⟩:=vals1 r;cases rx;rcases h with⟨hq,q⟩ | ⟨hq,q⟩
 ·obtain⟨aO,r',pl,hz⟩:=I.list hq;have P3:=r'.length;refine call_tuple_list pl.isList (λh' kp=>?_) (by simp only[Tv]<;>omega);have I1:Inv X f8 σ H {s with heap:=h'}:=I.kept (t':=s.toks) kp;have I2:Inv X f8 σ (upd H h'.objs.size (.tup ys)) {s with heap:=h'.push {cls:= .type "tuple",data:= .seq aO.toArray} }:=
   I1.laid (t':=s.toks) (λb o e=>Tj _ e) (Tr _) (show ObjOk X.prog X.w _ _ _ (.tup ys) from⟨hz,aO,r',IsTup.new _ _⟩)
  exact⟨.ref h'.objs.size,_,I2,rfl,q _ (I1.hok.fresh (Tr _))⟩
 ·obtain⟨aO,r',pl,hz⟩:=I.tuple hq;exact call_tuple_same pl ⟨.ref p,H,I,rfl,q⟩
def M9(K:Ti)(T:String)(x:V)(H:Hp):Prop:=match x with
 | .str _=>T="str"
 | .int _=>T="int"
 | .ref p=>(T="list"/\∃xs,SqL K H p xs)\/(T="tuple"/\∃o,K.lookup p=some o/\o.cls= .type "tuple"/\o.dict=none)\/
    (T="dict"/\((∃ay,H p=some (.dK ay))\/∃ay,H p=some (.dT ay)))\/(T="set"/\∃S n,H p=some (.set S n))
 |_=>False
def FU{f8:List (Addr×Obj)}{σ:St}{H:Hp}{s:Tp}{T:String}{x:V}{v:Value}(I:Inv X f8 σ H s)(r:RelV x v)(ty:M9 X.K T x H):
 s.TypeIs v T/\∀a,v= .ref a->∃ob,s.heap.get? a=some ob/\ob.dict=none:=by
 cases x with
 |str z=>
  obtain⟨t,rfl⟩:=r;cases (show T="str" from ty);exact⟨WU s z t,λ_ e=>nomatch e⟩
 |int i=>
  obtain⟨t,rfl⟩:=r;cases (show T="int" from ty);exact⟨typeIs_int s i t,λ_ e=>nomatch e⟩
 |ref p=>
  cases r;rcases ty with⟨rfl,xs,hq⟩ | ⟨rfl,o,hk,hc,hd⟩ | ⟨rfl,hk⟩ | ⟨rfl,S,n,hk⟩
  ·obtain⟨aO,_,pl,_⟩:=I.list hq;refine⟨pl.isList.typeIs,λa e=>?_⟩;cases e;obtain⟨o,n,e,c,hd,_⟩:=pl;exact⟨o,e,hd⟩
  ·refine⟨⟨o,I.kIn p o hk,hc⟩,λa e=>?_⟩;cases e;exact⟨o,I.kIn _ o hk,hd⟩
  ·have z:∃o,s.heap.get? p=some o/\o.ExactDict:=by
    rcases hk with⟨ay,hk⟩ | ⟨ay,hk⟩
    ·obtain⟨_,_,_,_,o,_,_,e,ex,_⟩:=I.hok p _ hk;exact⟨o,e,ex⟩
    ·obtain⟨_,_,_,_,o,_,_,e,ex,_⟩:=I.hok p _ hk;exact⟨o,e,ex⟩
   obtain⟨o,e,ex⟩:=z;refine⟨⟨o,e,ex.1⟩,λa e2=>?_⟩;cases e2;exact⟨o,e,ex.2.1⟩
  ·obtain⟨o,_,_,_,e,ex,_⟩:=I.hok p _ hk;refine⟨⟨o,e,ex.1⟩,λa e2=>?_⟩;cases e2;exact⟨o,e,ex.2.1⟩
 |_=>exact Va ty
def PM(K:Ti)(T:String)(r:V->List V->Hp->VK->Prop)(to:TE)(t:TA):TE:=λσ H Q=>to σ H λx H1=>M9 K T x H1/\t σ H1 λxs H2=>r x xs H2 Q
variable{o e:Expr}{es:List Expr}{to:TE}{t:TA}{name:Str}{v6 a7:Pos}{T id:String}{r:V->List V->Hp->VK->Prop}
def A7(pa:PlainAttrs T)(slot:Slot T name id)(O9:typeOf (.builtin id)=pure (.type "method_descriptor"))(hm:Li X id r)(ho:PE X o to)(ha:PA X (e::es) t)
 (eF:UJ o name X.env (eval o X.env)=eval o X.env:=by rfl)
 (iV:((UM a7 (Tq (e::es) X.env)).all (λx=>!x.1)&&(Vg a7 (Ux [] X.env)).all (λx=>x.1.isSome)
  &&decide ((e::es).length+([]:List Vo).length+(if ([]:List Vo).isEmpty then 0 else 1)<30))=true:=by rfl)
 (eG:(v6.endLine==a7.line)=true:=by rfl) (hs:Tq (e::es) X.env=(false,eval e X.env)::Tq es X.env:=by rfl) (zq:(UM a7 (Tq es X.env)).any (·.1)=false:=by rfl):
 PE X (.Call (.Attribute o name v6) (e::es) [] a7) (PM X.K T r to t):=by
 intro f8 s σ H Q I h;refine Zf eF iV eG rfl (bQ (ho f8 s σ H _ I h) λv s1 ⟨x,H1,I1,r1,ty,q1⟩=>?_);obtain⟨h1,h2⟩:=FU I1 r1 ty;refine⟨T,id,pa,slot,O9,h1,h2,?_⟩;have hA:=ha a7 f8 s1 σ H1 _ I1 q1;rw[hs] at hA⊢;refine WR (by show (false||(UM a7 (Tq es X.env)).any (·.1))=false;rw[zq]<;>rfl) (W8 ?_);exact bQ hA λus s2 ⟨vs,H2,I2,r2,q2⟩=>hm f8 s2 σ H2 x vs v us Q I2 r1 r2 q2
end
def Qi(X:Cx)(id:String)(r:V->List V->Hp->VK->Prop):Prop:=
 ∀(f8:List (Addr×Obj)) (s:Tp) (σ:St) (H:Hp) (x:V) (xs:List V) (v:Value) (us:List Value) (Q:VK),Inv X f8 σ H s->RelV x v->Vals xs us->r x xs H Q->
  wpAny (model X.prog X.w) X.A (call (.builtin id) (v::us)) (EP X f8 σ Q) X.xe s
def Vals.one:∀{x:V}{us:List Value},Vals [x] us->∃u,us=[u]/\RelV x u
 |_,_, .cons r .nil=>⟨_,rfl,r⟩
section
variable{X:Cx}{f8:List (Addr×Obj)}{σ:St}{H:Hp}{s:Tp}{l:Addr}{xs ys:List V}
def Inv.lset{aO its':List Value}{n:Nat}{f:Array Value->Array Value}{t':Nat}(I:Inv X f8 σ H s)(hH:H l=some (.lst xs))
 (e:s.heap.get? l=some {cls:= .type "list",data:= .seq aO.toArray n})(hf:f aO.toArray=its'.toArray)(hv:Vals ys its')(hz:ys.length<=TK):
 Inv X f8 σ (upd H l (.lst ys)) {s with heap:=s.heap.update l (Vq f),toks:=t'}:=by
 have q:=PySem.IsL.update e f;rw[hf] at q;refine I.write (x:=l) (e:=l) (by rw[hH];exact trivial) (.inl rfl) (λb' u hb hu=>(Heap.get?_update_other s.heap (Vq f) (Vh hb)).trans hu) ⟨_,q⟩ ?_;exact⟨hz,its',_,hv,q⟩
def Inv.lnew{aO:List Value}{t':Nat}(I:Inv X f8 σ H s)(hv:Vals ys aO)(hz:ys.length<=TK):
 Inv X f8 σ (upd H s.heap.objs.size (.lst ys)) {s with heap:=s.heap.push {cls:= .type "list",data:= .seq aO.toArray},toks:=t'}:=
 I.laid (λ_ _ q=>Tj _ q) (Tr _) ⟨hz,aO,0,hv,TM _ rfl⟩
theorem Inv.fresh(I:Inv X f8 σ H s):H s.heap.objs.size=none:=I.hok.fresh (Tr _)
def Inv.lstM(I:Inv X f8 σ H s)(hH:H l=some (.lst xs)):xs.length<=TK/\∃(aO:List Value) (n:Nat),Vals xs aO/\xs.length=aO.length/\s.heap.get? l=some {cls:= .type "list",data:= .seq aO.toArray n}:=by
 obtain⟨z,aO,n,r,e⟩:=I.hok l _ hH;exact⟨z,aO,n,r,r.length,e⟩
def EA{n:Nat}(h:n<=TK):Wb n=false:=by
 unfold Wb;exact Zr (by omega)
end
section
variable{X:Cx}
def Bf:V->List V->Hp->VK->Prop:=λx vs H Q=>∃l xs y,x= .ref l/\vs=[y]/\H l=some (.lst xs)/\xs.length<TK/\Q .non (upd H l (.lst (xs++[y])))
def kN:Qi X "list.append" Bf:=by
 intro f8 s σ H x vs v us Q I rx rv h;obtain⟨l,xs,y,rfl,rfl,hH,hz,q⟩:=h;cases rx;obtain⟨u,rfl,ru⟩:=rv.one;obtain⟨z,aO,n,r,hl,e⟩:=I.lstM hH;refine call_meets F.slot_list_append ⟨_,e,rfl⟩ F.entry_list_append (F.args_list_append_2 _ _) (PySem.list_append l aO.toArray n u (by rw[Tv];omega)) ⟨e,?_⟩;refine⟨.non,_,I.lset (its':=aO++[u]) hH e (by simp) (r.append (.cons ru .nil)) ?_,rfl,q⟩;rw[Tt,List.length_singleton];omega
def Bg:V->List V->Hp->VK->Prop:=λx vs H Q=>∃l b xs zs,x= .ref l/\vs=[.ref b]/\H l=some (.lst xs)/\H b=some (.lst zs)/\xs.length+zs.length<=TK/\Q .non (upd H l (.lst (xs++zs)))
def Cj:Qi X "list.extend" Bg:=by
 intro f8 s σ H x vs v us Q I rx rv h;obtain⟨l,b,xs,zs,rfl,rfl,hH,hB,hz,q⟩:=h;cases rx;obtain⟨u,rfl,ru⟩:=rv.one;cases ru;obtain⟨z,aO,n,r,hl,e⟩:=I.lstM hH;obtain⟨z2,iq,n2,r2,Ga,e2⟩:=I.lstM hB;have hsz:aO.toArray.size+iq.toArray.size<=TK:=by rw[Tv,Tv];omega
 have LY:¬(!aO.toArray.isEmpty&&Wb (aO.toArray.size+iq.toArray.size))=true:=by
  rw[EA hsz,Bool.and_false];exact T6
 refine call_meets F.slot_list_extend ⟨_,e,rfl⟩ F.entry_list_extend (F.args_list_extend_2 _ _)
  (AutoSeq1.list_extend_list_list_0 l aO.toArray n b iq.toArray n2 LY (by rw[Tv];omega) (by omega)) ⟨e,e2,?_⟩
 refine⟨.non,_,I.lset (its':=aO++iq) hH e (by simp) (r.append r2) ?_,rfl,q⟩;rw[Tt];omega
def Pw:R2:=λx y H Q=>∃l b xs zs,x= .ref l/\y= .ref b/\H l=some (.lst xs)/\H b=some (.lst zs)/\xs.length+zs.length<=TK/\∀p,H p=none->Q (.ref p) (upd H p (.lst (xs++zs)))
def Kb:OpR X (Wk .Add) Pw:=by
 intro f8 s σ H x y v u Q I rx ry h;obtain⟨l,b,xs,zs,rfl,rfl,hH,hB,hz,q⟩:=h;cases rx;cases ry;obtain⟨z,aO,n,r,hl,e⟩:=I.lstM hH;obtain⟨z2,iq,n2,r2,Ga,e2⟩:=I.lstM hB;refine PySem.P.add_list e e2 ?_ (by rw[Tv,Tv];omega);have ea:aO.toArray++iq.toArray=(aO++iq).toArray:=by simp
 rw[ea];exact⟨.ref _,_,I.lnew (t':=s.toks) (r.append r2) (by rw[Tt];omega),rfl,q _ I.fresh⟩
end
end L2
namespace Att
open PySem PySem.W PySem.Calls PyProof.Rows
def ints_of_wellAll{P:YZ}{h:Heap}:∀(ns:List Int) (vs:List Value),WellAll P h vs (ns.map WData.int)->WB vs ns:=by
 intro ns;induction ns with
 |nil=>
  intro vs w;rw[VJ] at w;cases w;exact .nil
 |cons n ns ih=>
  intro vs w;rw[Ts] at w;cases w with
  |cons a b=>
   cases a;exact .cons _ _ (ih _ b)
def script_of{l:OpenLaw}{n:Nat}(hn:l.most=some n){P:YZ}{h:Heap}{args:List WData}{vals:List Value}
 (D9:l.row.toRowW.claim.pre args=true)(Sb:WellAll P h vals args):
 ∃a vs ns,vals=[Ua a]/\args=[WData.list (ns.map WData.int)]/\h.get? a=some {cls:= .type "list",data:= .seq vs.toArray}/\WB vs ns/\ns.length<=n:=by
 have R7:WShape.hasAll [] args [.list .int]=true:=(pre_splitW D9).1;have hc:l.pre.holds [] {args:=args}=true:=(pre_splitW D9).2;obtain⟨d,r,rfl,h1,h2⟩:=hasAllW_cons R7;obtain rfl:=hasAllW_nil h2;obtain⟨xs,rfl,h3⟩:=hasW_list h1;obtain⟨ns,rfl⟩:=items_int h3;have P3:ns.length<=n:=by
  unfold OpenLaw.pre at hc;have h4:(WTm.not (.lt (.lit (.int (n:Int))) (.len (.arg 0)))).holds [] {args:=[.list (ns.map .int)]}=true:=by
   have h4:=(holds_andW hc).1;rw[hn] at h4;exact h4
  have h5:=condW_of h4 (w_not (w_lt w_lit (w_len_list (w_arg rfl))));rw[Te] at h5;refine Nat.le_of_not_lt λq=>?_;have q':(n:Int)<((ns.length:Nat):Int):=by omega
  first
   |(rw [Zq q'] at h5;exact Zp h5 (by decide))
   |(simp at h5;omega)
 cases Sb with
 |cons w1 w2=>
  cases w2;cases w1 with
  |list ho Oz=>exact⟨_,_,ns,rfl,rfl,ho,ints_of_wellAll ns _ Oz,P3⟩
def post_true(l:OpenLaw)(args:List WData):l.row.toRowW.claim.post args (.bool true) args=true:=
 postW_of (r:=l.row.toRowW) (X:=(true==true))
  (show WShape.has [] (.bool true) .bool=true by first | rfl | decide | simp[WShape.has,WShape.arms,WShape.armsAll])
  (show (WTm.eq .res (.lit (.bool true))).value [] {args:=args,res:=some (.bool true),after:=args}=some (.bool (true==true)) from w_eq_bool (w_res rfl) w_lit) rfl
def ledger(h:Heap)(L d:Addr):List (Addr×Obj):=(TB h.objs.size).filterMap λa=>if a=L\/a=d then none else(h.get? a).map λo=>(a,o)
end Att
namespace L2
open PySem PySem.Spec PyProof.Rows
theorem uo:∀{vs:List Value}{ns:List Int},WB vs ns->Vals (ns.map V.int) vs
 |_,_, .nil=> .nil
 |_,_, .cons n t h=> .cons ⟨t,rfl⟩ (uo h)
def Lk(H:Hp):Prop:=∀b,H b=none\/∃o xs,H b=some (.frz o (.lst xs))
def Eh{P:T3}{w:World}{K:Ti}{mg mb:Str->Option Value}{CX:BB}{k:Nat}{fa a:Addr}{fd:Vz}{x:Str}{sp:Sp}{T0:Tp}{vs:List Value}{ns:List Int}
 (KX:K.In T0.heap)(C7:T0.heap.Ns TN mg)(hb:T0.heap.Ns YX mb)(RB:∀x:Str,x≠"__name__"->mb x=Uw x)(LX:T0.heap.NoLimit)(hg:T0.gens= #[])[Tk T0]
 (ha:T0.heap.get? a=some {cls:= .type "list",data:= .seq vs.toArray})(hi:WB vs ns)(hl:ns.length<=TK)(hr:Room k Yb)
 (F:∀base:Heap,K.In base->base.Ns TN mg->FnOk P w K mg base CX k fa fd [x] sp)(LO:∀(s:Tp) (u:Value),BindsTo s fd ⟨[u],[]⟩ [(x,u)])
 (wB:∀H:Hp,Lk H->SqL K H a (ns.map V.int)->sp [.ref a] H (λv _=>v= .bl true) λ_ _ _=>False)
 (Rm:∀H e s',CX [] H T0 (λ_ _ _=>False) e s'->False):
 W2 (model P w) Yb (.call (.ref fa) ⟨[.ref a],[]⟩) (λr s'=>r= .ok (.ret (.bool true))/\OldK T0.heap s'.heap/\s'.os=T0.os/\Xs s'.gens) T0:=by
 have rv:=uo hi;have Pj:=hi.length;have core:∀H:Hp,Lk H->SqL K H a (ns.map V.int)->HOk P w H T0.heap->(∀b,H b≠none->b=a)->(H a≠none->K.lookup a=none)->
  W2 (model P w) Yb (.call (.ref fa) ⟨[.ref a],[]⟩) (λr s'=>r= .ok (.ret (.bool true))/\OldK T0.heap s'.heap/\s'.os=T0.os/\Xs s'.gens) T0:=by
  intro H hO hS hok hA hK;have Av:∀{b:Addr}{o:Obj},T0.heap.get? b=some o->H b=none->(uU T0.heap H).get? b=some o:=λe n=>D5 e n;have Mr:∀{b:Addr}{o:Obj}{es:Array WW}{ep:Nat},T0.heap.get? b=some o->o.data= .dict es ep->H b=none:=λ{b o es ep} e d=>by
   cases q:H b with
   |none=>rfl
   |some u=>
    have e':b=a:=hA b (by rw[q];simp);subst e';rw[ha] at e;cases e;have d':Data.seq vs.toArray _=Wh es ep:=d;cases d'
  have NR:∀{b:Addr}{m:Str->Option Value},T0.heap.Ns b m->(uU T0.heap H).Ns b m:=λ{b m} ⟨o,es,ep,e,d,r⟩=>⟨o,es,ep,Av e (Mr e d),d,r⟩
  have Qt:K.In (uU T0.heap H):=λb o e=>Av (KX b o e) (by
   cases q:H b with
   |none=>rfl
   |some u=>
    have e':b=a:=hA b (by rw[q];simp);subst e';rw[hK (by rw[q];simp)] at e;cases e)
  have hM:Mod K mg (uU T0.heap H):=⟨Qt,NR C7,⟨mb,NR hb,RB⟩,let ⟨mc,h1,h2⟩:=LX;⟨mc,NR h1,h2⟩⟩
  have e0:Env0 P w K mg (uU T0.heap H) Yb [] T0 H:=⟨rfl,hM,λb o e=>Hc e,YS (B4 _ _),trivial,λb hb=>Zp (show b∈([]:List Addr) from hb) (by simp),hok, .of_eq hg⟩
  refine Yk ((F _ Qt (NR C7)).run Yb [] T0 H ⟨[.ref a],[]⟩ [.ref a] [.ref a] _ _ hr e0 (LO T0 (.ref a)) (.cons rfl .nil) (wB H hO hS)) λr s' h=>?_;cases r with
  |error e=>exact(Rm H e s' h).elim
  |ok fl=>
   cases fl with
   |next=>exact Va h
   |brk=>exact Va h
   |cont=>exact Va h
   |ret u=>
    obtain⟨v,H',os,bare,un,O1,r',q⟩:=h;have q':v= .bl true:=q;subst q';obtain rfl:u=V8 true:=r';refine⟨rfl,OldK.of_keep λb o e=>?_,os,bare⟩;cases q:H b with
    |none=>exact un.keep b o e q (by intro z;exact Zp (show b∈([]:List Addr) from z) (by simp)) (by simp)
    |some u=>
     rcases hO b with z | ⟨ob,xs,z⟩
     ·rw[q] at z;cases z
     ·have z2:=un.frzs b ob _ z;obtain⟨e1,_⟩:=hok b _ z;obtain⟨e2,_⟩:=O1 b _ z2;rw[e] at e1;cases e1;exact e2
 cases hk:K.lookup a with
 |some o=>
  have e:=KX a o hk;rw[ha] at e;cases e;refine core (λ_=>none) (λ_=> .inl rfl) (.inr ⟨_,vs.toArray,_,hk,rfl,rfl,rfl,by rw[Tv,Pj];exact hl,by simpa using rv⟩) (λb u z=>by have z':(none:Option HO)=some u:=z;cases z') (λb z=>Zp rfl z) λz=>Zp rfl z
 |none=>
  refine core (λb=>if b=a then some (.frz {cls:= .type "list",data:= .seq vs.toArray} (.lst (ns.map V.int))) else none) (λb=>?_) (.inl (.inr ⟨{cls:= .type "list",data:= .seq vs.toArray},Zn rfl⟩)) (λb u z=>?_) (λb z=>?_) λ_=>hk
  ·by_cases hb:b=a
   ·exact .inr ⟨_,_,Zn hb⟩
   ·exact .inl (Zo hb)
  ·by_cases hb:b=a
   ·have z':=(Zn hb).symm.trans z;cases z';subst hb;exact⟨ha,by rw[Te];exact hl,vs,_,rv,ha⟩
   ·have z':=(Zo hb).symm.trans z;cases z'
  ·by_cases hb:b=a
   ·exact hb
   ·exact Zp (Zo hb) z
abbrev SO{K:Ti}{h:Heap}(_:K.In h):Ti:=K
abbrev Qf:BB:=λ_ _ _ _ _ _=>False
structure Fun (K:Ti) (x qual:Str) (st:Stmt) (f:Addr) (fd:Vz):Prop where
 ex:∃(oc:Value) (od:Option Addr) (kV doc pm:Value) (an:Option Addr) (bT ct:Value) (A0:Array (Option Value)),
  fd=Uj x qual (aS st) (aB st) (ag st) .none kV doc pm an bT ct/\K.lookup f=some ⟨oc,od, .func fd,A0⟩/\U8 K bT qual=true
 kp:Uk K (.ref f)=true
section
variable{P:T3}{w:World}{K:Ti}{mg:Str->Option Value}{base:Heap}
def Fun.ok{x qual:Str}{st:Stmt}{f:Addr}{fd:Vz}{N ps:List Str}{k:Nat}{sp:Sp}(F:Fun K x qual st f fd)(S:FnScope N ps (ag st))(len:∀vs H Q E,sp vs H Q E->vs.length=ps.length)
 (bX:∀(bT:Value) (A:Uu) (outer:List Env) (s:Tp) (H:Hp) (vs:List V) (Q:VK) (E:XK),Room k (A.deeper (VB qual (ag st) s.heap.objs.size f bT))->sp vs H Q E->
  ∃t,PSs (eC Qf P w K mg base N qual (ag st) f bT A outer s H E).nox (aB st) t/\t {nx:=λ_ H'=>Q .non H',rt:=Q} (start N vs) H):FnOk P w K mg base Qf (k+1) f fd ps sp:=by
 obtain⟨oc,od,kV,doc,pm,an,bT,ct,A0,rfl,lk,sj⟩:=F.ex;refine qo lk sj S len λA outer s H vs Q E hr wB=>?_;obtain⟨t,h,q⟩:=bX bT A outer s H vs Q E hr wB;exact⟨t,h.nox,q⟩
def Fun.binds{x qual:Str}{st:Stmt}{f:Addr}{fd:Vz}{ps:List Str}(F:Fun K x qual st f fd)
 (h:∀(kV doc pm:Value) (an:Option Addr) (bT ct:Value) (us:List Value),us.length=ps.length->WJ (Uj x qual (aS st) (aB st) (ag st) .none kV doc pm an bT ct) ⟨us,[]⟩=pure (ps.zip us)):Binds K fd ps []:=by
 obtain⟨oc,od,kV,doc,pm,an,bT,ct,A0,rfl,lk,sj⟩:=F.ex;exact .all (h kV doc pm an bT ct)
def uS{x qual:Str}{st:Stmt}{f:Addr}{oc:Value}{od an:Option Addr}{A0:Array (Option Value)}{kV doc pm bT ct:Value}(l:K.lookup f=some ⟨oc,od, .func (Uj x qual (aS st) (aB st) (ag st) .none kV doc pm an bT ct),A0⟩)
 (c:U8 K bT qual=true)(k:Uk K (.ref f)=true):Fun K x qual st f (Uj x qual (aS st) (aB st) (ag st) .none kV doc pm an bT ct):=⟨⟨oc,od,kV,doc,pm,an,bT,ct,A0,rfl,l,c⟩,k⟩
end
section
variable{X:Cx}
def pv(i:Nat){x:Str}{pos:Pos}(hN:X.N[i]? =some x:=by rfl)(hv:N9 X.env.scope x:=by first | exact Or.inl rfl | exact Or.inr (Or.inl rfl) | exact Or.inr (Or.inr rfl))(hd:(x==("__debug__":Str))=false:=by decide)
 (sj:(x==("__classdict__":Str))=false:=by decide):PE X (.Name x pos) (fE i):=Ku hN hv hd sj
end
def Same(H H':Hp):Prop:=∀b o,H b=some o->H' b=some o
def Same.refl(H:Hp):Same H H:=λ_ _ h=>h
def Same.trans{H H1 H2:Hp}(a:Same H H1)(b:Same H1 H2):Same H H2:=λc o h=>b c o (a c o h)
def Same.free{H H':Hp}(e:Same H H'){l:Addr}(h:H' l=Option.none):H l=Option.none:=by
 cases q:H l with
 |none=>rfl
 |some o=>
  rw[e l o q] at h;cases h
def Same.seq{K:Ti}{H H':Hp}{a:Addr}{xs:List V}(e:Same H H')(h:SqL K H a xs):SqL K H' a xs:=by
 rcases h with(h | ⟨o,h⟩) | h
 ·exact .inl (.inl (e _ _ h))
 ·exact .inl (.inr ⟨o,e _ _ h⟩)
 ·exact .inr h
section
variable{κ:Type}[DecidableEq κ]
def mX(ay:List (κ×V))(k:κ):Option V:=(ay.find? λkv=>decide (kv.1=k)).map (·.2)
def putK(ay:List (κ×V))(k:κ)(v:V):List (κ×V):=
 if (ay.any λkv=>decide (kv.1=k))=true then ay.map (λkv=>if kv.1=k then(kv.1,v) else kv) else ay++[(k,v)]
def mZ{p:κ×V}{r:List (κ×V)}{k:κ}(e:p.1=k):mX (p::r) k=some p.2:=by simp[mX,VO,e]
def mY{p:κ×V}{r:List (κ×V)}{k:κ}(e:¬p.1=k):mX (p::r) k=mX r k:=by simp[mX,VO,e]
theorem rW(k:κ):∀ay:List (κ×V),(ay.any λkv=>decide (kv.1=k))=(mX ay k).isSome
 |[]=>rfl
 |p::r=>by
  rw[V_];by_cases e:p.1=k
  ·simp only[mZ e,Zq e,Bool.true_or,Option.isSome_some]
  ·rw[mY e,Zr e,Bool.false_or];exact rW k r
def fv(ay:List (κ×V))(k:κ)(v:V):(putK ay k v).length<=ay.length+1:=by
 unfold putK;split
 ·rw[Te];omega
 ·rw[Tt,Tn,Vk];omega
def RelO.isSome_eq{o:Option V}{u:Option Value}(r:RelO o u):o.isSome=u.isSome:=by
 cases o with
 |none=>cases u with
  |none=>rfl
  |some _=>exact(show False from r).elim
 |some _=>cases u with
  |none=>exact(show False from r).elim
  |some _=>rfl
theorem RelO.getD{o:Option V}{u:Option Value}{d:V}{d':Value}(r:RelO o u)(rd:RelV d d'):RelV (o.getD d) (u.getD d'):=by
 cases o with
 |none=>cases u with
  |none=>exact rd
  |some _=>exact(show False from r).elim
 |some _=>cases u with
  |none=>exact(show False from r).elim
  |some _=>exact r
def KV.val{ay:List (κ×V)}{vs:List (κ×Value)}(r:KV ay vs)(k:κ):RelO (mX ay k) (Y4 vs k):=by
 unfold KV at r;induction r with
 |nil=>exact Vf
 | @cons p q ps qs h t ih=>
   obtain⟨h1,h2⟩:=h;by_cases e:p.1=k
   ·have e':q.1=k:=h1.symm.trans e;have b:Y4 (q::qs) k=some q.2:=by simp[Y4,VO,e']
    rw[mZ e,b];exact h2
   ·have e':¬q.1=k:=λz=>e (h1.trans z);have b:Y4 (q::qs) k=Y4 qs k:=by simp[Y4,VO,e']
    rw[mY e,b];exact ih
theorem KV.any{ay:List (κ×V)}{vs:List (κ×Value)}(r:KV ay vs)(k:κ):(ay.any λkv=>decide (kv.1=k))=vs.any λkv=>decide (kv.1=k):=by
 unfold KV at r;induction r with
 |nil=>rfl
 |cons h t ih=>rw[V_,V_,ih,h.1]
def KV.repl{ay:List (κ×V)}{vs:List (κ×Value)}(r:KV ay vs)(k:κ){y:V}{u:Value}(ry:RelV y u):
 KV (ay.map λkv=>if kv.1=k then(kv.1,y) else kv) (vs.map λkv=>if kv.1=k then(kv.1,u) else kv):=by
 unfold KV at r⊢;induction r with
 |nil=>exact .nil
 | @cons p q ps qs h t ih=>
   rw[Ts,Ts];refine .cons ?_ ih;obtain⟨h1,h2⟩:=h;by_cases e:p.1=k
   ·rw[Zn e,Zn (h1.symm.trans e)];exact⟨h1,ry⟩
   ·rw[Zo e,Zo (λz=>e (h1.trans z))];exact⟨h1,h2⟩
def KV.put{ay:List (κ×V)}{vs:List (κ×Value)}(r:KV ay vs)(k:κ){y:V}{u:Value}(ry:RelV y u):KV (putK ay k y) (stored vs k u):=by
 unfold putK stored;rw[r.any k];by_cases e:(vs.any λkv=>decide (kv.1=k))=true
 ·rw[Zn e,Zn e];exact r.repl k ry
 ·rw[Zo e,Zo e];exact Paired.snoc r ⟨rfl,ry⟩
theorem KV.length{ay:List (κ×V)}{vs:List (κ×Value)}(r:KV ay vs):ay.length=vs.length:=Vm r
end
def xC{P:T3}{w:World}{k:Key}{u:Value}(r:RelV (kV k) u):(bJ P w).is k u=true:=by
 cases k with
 |inl i=>obtain⟨t,e⟩:=(show∃t,u=We i t from r);subst e;exact xG P w i t
 |inr x=>obtain⟨t,e⟩:=(show∃t,u=XW x t from r);subst e;exact xH P w x t
theorem tG{P:T3}{w:World}:∀{ks:List Key}{us:List Value},Vals (ks.map kV) us->ItemsAre (bJ P w) ks us
 |[],_,r=>by rw[VJ] at r;cases r;exact .nil
 |k::ks,_,r=>by
  rw[Ts] at r;cases r with
  |cons h t=>exact .cons (xC h) (tG t)
abbrev KT(H:Hp):List (List Key×V)->List (List Key×Addr×Value)->Prop:=XZ λp q=>p.1=q.1/\H q.2.1=some (.tup (p.1.map kV))/\RelV p.2 q.2.2
def KT.val{H:Hp}{ay:List (List Key×V)}{xs:List (List Key×Addr×Value)}(r:KT H ay xs)(k:List Key):RelO (mX ay k) ((atKey xs k).map (·.2)):=by
 induction r with
 |nil=>exact Vf
 | @cons p q ps qs h t ih=>
   obtain⟨h1,_,h2⟩:=h;by_cases e:p.1=k
   ·have e':q.1=k:=h1.symm.trans e;have b:atKey (q::qs) k=some q.2:=by simp[atKey,VO,e']
    rw[mZ e,b];exact h2
   ·have e':¬q.1=k:=λz=>e (h1.trans z);have b:atKey (q::qs) k=atKey qs k:=by simp[atKey,VO,e']
    rw[mY e,b];exact ih
def KT.repl{H:Hp}{ay:List (List Key×V)}{xs:List (List Key×Addr×Value)}(r:KT H ay xs)(k:List Key){y:V}{u:Value}(ry:RelV y u):
 KT H (ay.map λkv=>if kv.1=k then(kv.1,y) else kv) (xs.map (putAt k u)):=by
 induction r with
 |nil=>exact .nil
 | @cons p q ps qs h t ih=>
   rw[Ts,Ts];refine .cons ?_ ih;obtain⟨h1,h2,h3⟩:=h;unfold putAt;by_cases e:p.1=k
   ·rw[Zn e,Zn (h1.symm.trans e)];exact⟨h1,h2,ry⟩
   ·rw[Zo e,Zo (λz=>e (h1.trans z))];exact⟨h1,h2,h3⟩
def KT.put{H:Hp}{ay:List (List Key×V)}{xs:List (List Key×Addr×Value)}(r:KT H ay xs)(k:List Key){b:Addr}{y:V}{u:Value}(hb:H b=some (.tup (k.map kV)))(ry:RelV y u):
 KT H (putK ay k y) (WZ xs k b u):=by
 have e:(ay.any λkv=>decide (kv.1=k))=(atKey xs k).isSome:=by
  rw[rW,(r.val k).isSome_eq,Xu]
 unfold putK WZ;rw[e];by_cases q:(atKey xs k).isSome=true
 ·rw[Zn q,Zn q];exact r.repl k ry
 ·rw[Zo q,Zo q];exact Paired.snoc r ⟨rfl,hb,ry⟩
def KT.keeps{H H':Hp}{ay:List (List Key×V)}{xs:List (List Key×Addr×Value)}(r:KT H ay xs)(ht:∀b ys,H b=some (.tup ys)->H' b=some (.tup ys)):KT H' ay xs:=
 Paired.mapP r λ_ _ z=>⟨z.1,ht _ _ z.2.1,z.2.2⟩
section
variable{P:T3}{w:World}{H:Hp}{h:Heap}{a:Addr}
def Jc{u:HO}(ok:HOk P w H h)(e:Rd H a u):ObjOk P w H h a u:=e.ok ok
def AD{ay:List (Key×V)}(ok:HOk P w H h)(e:Rd H a (.dK ay)):ay.length<=TK/\(a==U9)=false/\∃vs,KV ay vs/\h.DictOf (bJ P w) a vs:=
 show ObjOk P w H h a (.dK ay) from Jc ok e
def ID{ay:List (Key×V)}(ok:HOk P w H h)(e:H a=some (.dK ay)):ay.length<=TK/\(a==U9)=false/\∃vs,KV ay vs/\h.DictOf (bJ P w) a vs:=AD ok (.inl e)
def qE{ks:List Key}(ok:HOk P w H h)(e:H a=some (.tup (ks.map kV))):(VX (bJ P w)).is h ks a:=by
 obtain⟨_,aO,r,o,h1,h2,n,h3⟩:=(show ObjOk P w H h a (.tup (ks.map kV)) from ok a _ e)
 exact⟨o,aO.toArray,n,h1,h2,h3,by simpa using tG r⟩
def xj{ay:List (List Key×V)}(ok:HOk P w H h)(e:Rd H a (.dT ay)):ay.length<=TK/\(a==U9)=false/\
 ∃xs,KT H ay xs/\h.DictOfH (VX (bJ P w)) a xs:=by
 obtain⟨z,y,xs,r,o,es,ep,h1,h2,h3,h4,h5⟩:=(show ObjOk P w H h a (.dT ay) from Jc ok e)
 refine⟨z,y,xs,r,o,es,ep,h1,h2,h3,h4,λx hx=>?_,h5⟩;have all:∀{l:List (List Key×V)}{m:List (List Key×Addr×Value)},KT H l m->∀x∈m,(VX (bJ P w)).is h x.1 x.2.1:=by
  intro l m q;induction q with
  |nil=>intro x hx;exact nomatch hx
  | @cons p q ps qs hq t ih=>
    intro x hx;rcases Tz.mp hx with e | hx
    ·subst e;exact qE ok (by rw[<-hq.1];exact hq.2.1)
    ·exact ih x hx
 exact all r x hx
def DH{ay:List (List Key×V)}(ok:HOk P w H h)(e:H a=some (.dT ay)):ay.length<=TK/\(a==U9)=false/\
 ∃xs,KT H ay xs/\h.DictOfH (VX (bJ P w)) a xs:=xj ok (.inl e)
end
def yP(H:Hp)(a:Addr)(y:V)(r:Option V):Prop:=
 (∃ay k,Rd H a (.dK ay)/\y=kV k/\r=mX ay k)\/∃ay k b,Rd H a (.dT ay)/\y= .ref b/\H b=some (.tup (k.map kV))/\r=mX ay k
def DPut(H:Hp)(a:Addr)(y v:V)(H':Hp):Prop:=
 (∃ay k,H a=some (.dK ay)/\y=kV k/\ay.length<TK/\H'=upd H a (.dK (putK ay k v)))\/
 ∃ay k b,H a=some (.dT ay)/\y= .ref b/\H b=some (.tup (k.map kV))/\ay.length<TK/\H'=upd H a (.dT (putK ay k v))
theorem DPut.k{H:Hp}{a:Addr}{ay:List (Key×V)}{k:Key}{v:V}(e:H a=some (.dK ay))(hl:ay.length<TK):DPut H a (kV k) v (upd H a (.dK (putK ay k v))):= .inl ⟨ay,k,e,rfl,hl,rfl⟩
def DPut.t{H:Hp}{a b:Addr}{ay:List (List Key×V)}{k:List Key}{v:V}(e:H a=some (.dT ay))(eb:H b=some (.tup (k.map kV)))(hl:ay.length<TK):
 DPut H a (.ref b) v (upd H a (.dT (putK ay k v))):= .inr ⟨ay,k,b,e,rfl,eb,hl,rfl⟩
section
variable{X:Cx}{f8:List (Addr×Obj)}{σ:St}{H:Hp}{s:Tp}{a:Addr}{y v:V}{u r:Value}{o:Option V}{A:Uu}{E:Value->Tp->Prop}
def Inv.big(I:Inv X f8 σ H s):U9<s.heap.objs.size:=by
 have h:TN<s.heap.objs.size:=(I.mod.glob.keeps I.bk).lt;exact UK (by decide) h
def Ls{Q:Value->Tp->Prop}(hu:A.units+1<cLine)(I:Inv X f8 σ H s)(g:yP H a y o)(ry:RelV y u)(h:∀s',Inv X f8 σ H s'->Q (.bool o.isSome) s'):
 wpAny (model X.prog X.w) A (Uy .In u (.ref a)) Q E s:=by
 rcases g with⟨ay,k,e,ey,l⟩ | ⟨ay,k,b,e,ey,eb,l⟩
 ·subst ey;obtain⟨z,hd,vs,rel,dd⟩:=AD I.hok e;refine wpAny_in_of (xC ry) hd dd.mapOf ?_;rw[<-(rel.val k).isSome_eq,<-l];exact h _ (I.tok _)
 ·subst ey;cases (show u=Ua b from ry);obtain⟨z,hd,xs,rel,dd⟩:=xj I.hok e;refine wpAny_in_heap (XO hu) (qE I.hok eb) hd dd ?_;have q:=(rel.val k).isSome_eq;rw[Xu] at q;rw[<-q,<-l];exact h _ (I.tok _)
def Gw{Q:Value->Tp->Prop}(hu:A.units+1<cLine)(I:Inv X f8 σ H s)(g:yP H a y o)(ry:RelV y u)(h:∀s',Inv X f8 σ H s'->Q (.bool (!o.isSome)) s'):
 wpAny (model X.prog X.w) A (Uy .NotIn u (.ref a)) Q E s:=by
 rcases g with⟨ay,k,e,ey,l⟩ | ⟨ay,k,b,e,ey,eb,l⟩
 ·subst ey;obtain⟨z,hd,vs,rel,dd⟩:=AD I.hok e;refine wpAny_notIn_of (xC ry) hd dd.mapOf ?_;rw[<-(rel.val k).isSome_eq,<-l];exact h _ (I.tok _)
 ·subst ey;cases (show u=Ua b from ry);obtain⟨z,hd,xs,rel,dd⟩:=xj I.hok e;refine wpAny_notIn_heap (XO hu) (qE I.hok eb) hd dd ?_;have q:=(rel.val k).isSome_eq;rw[Xu] at q;rw[<-q,<-l];exact h _ (I.tok _)
def l9{h':Heap}{t':Nat}{ob:HO}(I:Inv X f8 σ H s)(mu:Lj (H a))(hs:Vw a s.heap h')(he:∃q,h'.get? a=some q)(new:ObjOk X.prog X.w (upd H a ob) h' a ob):
 Inv X f8 σ (upd H a ob) {s with heap:=h',toks:=t'}:=
 I.write (x:=a) (e:=a) mu (.inl rfl) (λb q hb z=>(hs.2 b hb).trans z) he new
def DD{P:T3}{w:World}{H':Hp}{h':Heap}{ay:List (Key×V)}{vs:List (Key×Value)}(z:ay.length<=TK)(hd:(a==U9)=false)(rel:KV ay vs)(dd:h'.DictOf (bJ P w) a vs):
 ObjOk P w H' h' a (.dK ay):=⟨z,hd,vs,rel,dd⟩
def BS{H':Hp}{Q:Unit->Tp->Prop}(hu:A.units+1<cLine)(I:Inv X f8 σ H s)(g:DPut H a y v H')(ry:RelV y u)(rv:RelV v r)(h:∀s',Inv X f8 σ H' s'->Q () s'):
 wpAny (model X.prog X.w) A (setItem (.ref a) u r) Q E s:=by
 rcases g with⟨ay,k,e,ey,l,eH⟩ | ⟨ay,k,b,e,ey,eb,l,eH⟩
 ·subst ey eH;obtain⟨z,hd,vs,rel,dd⟩:=ID I.hok e;have hz:vs.length<=TK:=by rw[<-rel.length];exact z
  have hl:(putK ay k v).length<=TK:=by have:=fv ay k v;omega
  refine wpAny_setItem_pairs (hsz:=hz) (xC ry) dd λh' Dz hs=>h _ ?_;have he:∃q,h'.get? a=some q:=let ⟨q,_,_,hq,_⟩:=Dz;⟨q,hq⟩
  exact l9 I (by rw[e];exact Vf) hs he (DD hl hd (rel.put k rv) Dz)
 ·subst ey eH;cases (show u=Ua b from ry);obtain⟨z,hd,xs,rel,dd⟩:=DH I.hok e;have hz:xs.length<=TK:=by rw[<-Vm rel];exact z
  have hl:(putK ay k v).length<=TK:=by have:=fv ay k v;omega
  refine wpAny_setItem_heap (hsz:=hz) (XO hu) (qE I.hok eb) dd λh' Dz hs=>h _ ?_;obtain⟨q,es,ep,hq,h2,h3,h4,_,h5⟩:=Dz;refine l9 I (by rw[e];exact Vf) hs ⟨q,hq⟩ ⟨hl,hd,_,(rel.put k eb rv).keeps λc ys ec=>?_,q,es,ep,hq,h2,h3,h4,h5⟩;rw[aj (Eu ec e (λz=>nomatch z))];exact ec
end
def PR(ty td:TE):TE:=λσ H Q=>ty σ H λy H1=>td σ H1 λx H2=>∃a o,x= .ref a/\yP H2 a y o/\Q (.bl o.isSome) H2
def MU(td ty tv:TE):TS:=λD σ H=>tv σ H λv H1=>td σ H1 λx H2=>ty σ H2 λy H3=>∃a H4,x= .ref a/\DPut H3 a y v H4/\D.nx σ H4
section
variable{X:Cx}{o i value:Expr}{pos pos':Pos}{td ty tv:TE}
def Kg(hu:X.A.units+1<cLine)(hi:PE X i ty)(ho:PE X o td):PC X .In i o (PR ty td):=by
 intro f8 s σ H Q I h _;refine bQ (hi f8 s σ H _ I h) λiv s1 ⟨y,H1,I1,ry,q1⟩=>bQ (ho f8 s1 σ H1 _ I1 q1) λu s2 ⟨x,H2,I2,rx,a,ov,ex,g,q2⟩=>?_;subst ex;obtain rfl:u=Ua a:=rx;exact Ls hu I2 g ry λs3 I3=>⟨.bl ov.isSome,H2,I3,rfl,q2⟩
def HD(hu:X.A.units+1<cLine)(ho:PE X o td)(hi:PE X i ty)(hv:PE X value tv)(hs:VL value (some (.Subscript o i pos')) pos.line X.env=pure false):
 PS X (.Assign [.Subscript o i pos'] value pos) (MU td ty tv):=by
 intro f8 s σ H D I h _;refine wpAny_Assign_Subscript (bQ (hv f8 s σ H _ I h) λr s1 ⟨v,H1,I1,rv,q1⟩=>bQ (ho f8 s1 σ H1 _ I1 q1) λu s2 ⟨x,H2,I2,rx,q2⟩=>bQ (hi f8 s2 σ H2 _ I2 q2) λiv s3 ⟨y,H3,I3,ry,a,H4,ex,g,q3⟩=>?_) hs;subst ex;obtain rfl:u=Ua a:=rx;exact BS hu I3 g ry rv λs4 I4=>⟨σ,H4,I4,q3⟩
end
def xi{P:T3}{w:World}{H:Hp}(h:Heap)(hb:U9<h.objs.size):ObjOk P w H (h.push {cls:= .type "dict",data:= .dict #[]}) h.objs.size (.dT []):=
 ⟨Ur _,Zu.mpr (Vh (T1 hb)),[], .nil,_,#[],0,TM _ rfl,⟨rfl,rfl,rfl⟩,rfl,rfl,Ws⟩
def KU:TE:=λ_ H Q=>∀p,H p=none->Q (.ref p) (upd H p (.dT []))
section
variable{X:Cx}{pos:Pos}
def EV:PE X (.Dict [] [] pos) KU:=λf8 s σ H Q I h=>
 wpAny_Dict_empty ⟨.ref s.heap.objs.size,_,I.laid (a:=s.heap.objs.size) (o:= .dT []) (t':=s.toks) (λ_ _ q=>Tj _ q) (Tr _) (xi s.heap I.big),rfl,h _ (I.hok.fresh (Tr _))⟩
end
def FK:List (TE×TE)->St->Hp->(List (V×V)->Hp->Prop)->Prop
 |[],_,H,Q=>Q [] H
 |(tk,tv)::r,σ,H,Q=>tk σ H λx H1=>tv σ H1 λy H2=>FK r σ H2 λps H3=>Q ((x,y)::ps) H3
abbrev VV:List (V×V)->List (Value×Value)->Prop:=XZ λp q=>RelV p.1 q.1/\RelV p.2 q.2
def N3(X:Cx)(pos:Pos)(keys:List (Option Expr))(values:List Expr)(NX:List (TE×TE)):Prop:=
 ∀(f8:List (Addr×Obj)) (s:Tp) (σ:St) (H:Hp) (Q:List (V×V)->Hp->Prop),Inv X f8 σ H s->FK NX σ H Q->
  ∀[Tk s],wpAny (model X.prog X.w) X.A (evalPairs (pairTrees keys values X.env pos)) (λvs s'=>∃ps H',Inv X f8 σ H' s'/\VV ps vs/\Q ps H') X.xe s
def HC{X:Cx}{pos:Pos}:N3 X pos [] [] []:=λf8 s σ H Q I h=>pairTrees_nil_walk ⟨[],H,I, .nil,h⟩
def E0{X:Cx}{pos:Pos}{k v:Expr}{ks:List (Option Expr)}{vs:List Expr}{tk tv:TE}{NX:List (TE×TE)}(hk:PE X k tk)(hv:PE X v tv)(hr:N3 X pos ks vs NX):
 N3 X pos (some k::ks) (v::vs) ((tk,tv)::NX):=λf8 s σ H Q I h=>
 pairTrees_cons_walk (bQ (hk f8 s σ H _ I h) λu s1 ⟨x,H1,I1,rx,q1⟩=>bQ (hv f8 s1 σ H1 _ I1 q1) λw2 s2 ⟨y,H2,I2,ry,q2⟩=>
  bQ (hr f8 s2 σ H2 _ I2 q2) λws s3 ⟨ps,H3,I3,rel,q3⟩=>⟨(x,y)::ps,H3,I3, .cons ⟨rx,ry⟩ rel,q3⟩)
structure M1 (X:Cx) (o:Expr) (m:Str) (v6:Pos) (e:Expr) (a7:Pos):Prop where
 base:UJ o m X.env (eval o X.env)=eval o X.env
 few:((UM a7 (Tq [e] X.env)).all (λx=>!x.1)&&(Vg a7 (Ux [] X.env)).all (λx=>x.1.isSome)
  &&decide (([e]:List Expr).length+([]:List Vo).length+(if ([]:List Vo).isEmpty then 0 else 1)<30))=true
 line:(v6.endLine==a7.line)=true
 trees:UM a7 (Tq [e] X.env)=[(false,eval e X.env)]
def Qg(H:Hp)(a:Addr):Prop:=(∃ay,Rd H a (.dK ay))\/∃ay,Rd H a (.dT ay)
def JX{X:Cx}{f8:List (Addr×Obj)}{σ:St}{H:Hp}{s:Tp}{a:Addr}(I:Inv X f8 σ H s)(d:Qg H a):
 s.TypeIs (.ref a) "dict"/\(∀b,Ua a= .ref b->∃ob,s.heap.get? b=some ob/\ob.dict=none)/\(a==U9)=false:=by
 rcases d with⟨ay,e⟩ | ⟨ay,e⟩
 ·obtain⟨_,hd,vs,_,dd⟩:=AD I.hok e;refine⟨dd.typeIs,λb q=>?_,hd⟩;cases q;obtain⟨ob,_,_,h1,h2,_⟩:=dd;exact⟨ob,h1,h2.2.1⟩
 ·obtain⟨_,hd,xs,_,dd⟩:=xj I.hok e;refine⟨dd.typeIs,λb q=>?_,hd⟩;cases q;obtain⟨ob,_,_,h1,h2,_⟩:=dd;exact⟨ob,h1,h2.2.1⟩
end L2
namespace L3
open PySem PySem.Spec L2
open PyProof.Rows hiding St
inductive Rs (α:Type) where
 |ok (a:α) | ex (n:Nat)
def M(α:Type):=Option (Rs α)
def aa(a:α):M α:=some (.ok a)
noncomputable def M.bind(m:M α)(k:α->M β):M β:=match m with
 |none=>none
 |some (.ex n)=>some (.ex n)
 |some (.ok a)=>k a
def af:M α:=none
def kL(n:Nat):M α:=some (.ex n)
instance:Monad M where
 pure:=aa
 bind:=M.bind
@[simp] def ai{α β:Type}(a:α)(k:α->M β):(aa a>>=k)=k a:=rfl
@[simp] def Jo{α β:Type}(a:α)(k:α->M β):((pure a:M α)>>=k)=k a:=rfl
@[simp] def Jp{α β:Type}(n:Nat)(k:α->M β):(kL n>>=k)=kL n:=rfl
@[simp] def Jq{α β:Type}(k:α->M β):((af:M α)>>=k)=af:=rfl
def M.cs(m:M α):m=af\/(∃n,m=kL n)\/∃a,m=aa a:=by
 match m with
 |none=>exact .inl rfl
 |some (.ex n)=>exact .inr (.inl ⟨n,rfl⟩)
 |some (.ok a)=>exact .inr (.inr ⟨a,rfl⟩)
def dX(h:aa a=aa b):a=b:=by
 have h:some (Rs.ok a)=some (Rs.ok b):=h;cases h;rfl
def du(h:af=aa a):False:=by
 have h:none=some (Rs.ok a):=h;cases h
def rE(h:kL n=aa a):False:=by
 have h:some (Rs.ex n)=some (Rs.ok a):=h;cases h
def cZ(h:(m>>=k)=aa r):∃a,m=aa a/\k a=aa r:=by
 rcases m.cs with e | ⟨n,e⟩ | ⟨a,e⟩
 ·subst e;exact(du h).elim
 ·subst e;exact(rE h).elim
 ·subst e;exact⟨a,rfl,h⟩
def Lf(h:Heap)(ea D:Addr):Prop:=∃ox,h.get? ea=some ox/\ox.cls= .ref D
def Q3(ea D:Addr):HO:= .ext λh=>Lf h ea D
inductive D where
 |non | bl (b:Bool) | int (i:Int) | str (x:Str) | raw (v:V) | exc (C:Addr) | scr (l:List Int) | tup (l:List D) | lst (l:List D)
 |dct (ks:List (List Key)) (l:List D) | dci (ks:List Key) (l:List D)
instance:Inhabited D:=⟨.non⟩
def lim:Nat:=4096
def dH:lim<TK:=by rw[Ww];decide
mutual
def Den(K:Ti)(F:Hp):D->V->Prop
 | .non,v=>v= .non
 | .bl b,v=>v= .bl b
 | .int i,v=>v= .int i
 | .str x,v=>v= .str x/\x.length<=lim
 | .raw u,v=>v=u
 | .exc C,v=>∃ea,v= .ref ea/\F ea=some (Q3 ea C)
 | .scr ns,v=>∃a,v= .ref a/\SqL K F a (ns.map V.int)/\ns.length<=lim
 | .tup ds,v=>∃a vs,v= .ref a/\F a=some (.tup vs)/\DenL K F ds vs/\ds.length<=lim
 | .lst ds,v=>∃a vs,v= .ref a/\F a=some (.lst vs)/\DenL K F ds vs/\ds.length<=lim
 | .dct ks ds,v=>∃a ob vs,v= .ref a/\F a=some (.frz ob (.dT (ks.zip vs)))/\DenL K F ds vs/\ks.length=ds.length/\ds.length<=lim
 | .dci ks ds,v=>∃a ob vs,v= .ref a/\F a=some (.frz ob (.dK (ks.zip vs)))/\DenL K F ds vs/\ks.length=ds.length/\ds.length<=lim
def DenL(K:Ti)(F:Hp):List D->List V->Prop
 |[],vs=>vs=[]
 |d::ds,vs=>∃v r,vs=v::r/\Den K F d v/\DenL K F ds r
end
def Same.rd(e:Same H H')(h:Rd H a u):Rd H' a u:=by
 rcases h with h | ⟨o,h⟩
 ·exact .inl (e _ _ h)
 ·exact .inr ⟨o,e _ _ h⟩
def Same.tup{K:Ti}(e:Same H H')(h:SqT K H a xs):SqT K H' a xs:=by
 rcases h with h | h
 ·exact .inl (Same.rd e h)
 ·exact .inr h
section
variable{K:Ti}{F F':Hp}
mutual
theorem Den.mono(e:Same F F'):∀{d:D}{v:V},Den K F d v->Den K F' d v
 | .non,_,h=>h
 | .bl _,_,h=>h
 | .int _,_,h=>h
 | .str _,_,h=>h
 | .raw _,_,h=>h
 | .exc _,_,⟨a,h1,h2⟩=>⟨a,h1,e _ _ h2⟩
 | .scr _,_,⟨a,h1,h2,h3⟩=>⟨a,h1,Same.seq e h2,h3⟩
 | .tup _,_,⟨a,vs,h1,h2,h3,h4⟩=>⟨a,vs,h1,e _ _ h2,DenL.mono e h3,h4⟩
 | .lst _,_,⟨a,vs,h1,h2,h3,h4⟩=>⟨a,vs,h1,e _ _ h2,DenL.mono e h3,h4⟩
 | .dct _ _,_,⟨a,ob,vs,h1,h2,h3,h4⟩=>⟨a,ob,vs,h1,e _ _ h2,DenL.mono e h3,h4⟩
 | .dci _ _,_,⟨a,ob,vs,h1,h2,h3,h4⟩=>⟨a,ob,vs,h1,e _ _ h2,DenL.mono e h3,h4⟩
theorem DenL.mono(e:Same F F'):∀{ds:List D}{vs:List V},DenL K F ds vs->DenL K F' ds vs
 |[],_,h=>h
 |_::_,_,⟨v,r,h1,h2,h3⟩=>⟨v,r,h1,Den.mono e h2,DenL.mono e h3⟩
end
def DenL.nil:DenL K F [] []:=rfl
def DenL.cons(h:Den K F d v)(r:DenL K F ds vs):DenL K F (d::ds) (v::vs):=⟨v,vs,rfl,h,r⟩
theorem DenL.len:∀{ds:List D}{vs:List V},DenL K F ds vs->ds.length=vs.length
 |[],_,h=>by cases (show _=_ from h);rfl
 |_::ds,_,⟨v,r,h1,_,h3⟩=>by subst h1;rw[Tn,Tn,DenL.len h3]
theorem DenL.get:∀{ds:List D}{vs:List V}{i:Nat}{d:D},DenL K F ds vs->ds[i]? =some d->∃v,vs[i]? =some v/\Den K F d v
 |[],_,_,_,_,e=>by simp at e
 |d::ds,_,0,_,⟨v,r,h1,h2,h3⟩,e=>by subst h1;simp at e;subst e;exact⟨v,rfl,h2⟩
 |d::ds,_,i+1,_,⟨v,r,h1,h2,h3⟩,e=>by
  subst h1;obtain⟨w,e1,e2⟩:=DenL.get h3 (by simpa using e);exact⟨w,by simpa using e1,e2⟩
theorem DenL.at:∀{ds:List D}{vs:List V}{i:Nat}{v:V},DenL K F ds vs->vs[i]? =some v->∃d,ds[i]? =some d/\Den K F d v
 |[],_,_,_,h,e=>by cases (show _=_ from h);simp at e
 |d::ds,_,0,_,⟨v,r,h1,h2,h3⟩,e=>by subst h1;simp at e;subst e;exact⟨d,rfl,h2⟩
 |d::ds,_,i+1,_,⟨v,r,h1,h2,h3⟩,e=>by
  subst h1;obtain⟨w,e1,e2⟩:=DenL.at h3 (by simpa using e);exact⟨w,by simpa using e1,e2⟩
theorem DenL.append:∀{ds es:List D}{vs ws:List V},DenL K F ds vs->DenL K F es ws->DenL K F (ds++es) (vs++ws)
 |[],_,_,_,h,h'=>by cases (show _=_ from h);exact h'
 |d::ds,_,_,_,⟨v,r,h1,h2,h3⟩,h'=>by subst h1;exact⟨v,_,rfl,h2,DenL.append h3 h'⟩
theorem DenL.take:∀{ds:List D}{vs:List V}(n:Nat),DenL K F ds vs->DenL K F (ds.take n) (vs.take n)
 |_,_,0,_=>by simp[List.take];rfl
 |[],_,_+1,h=>by cases (show _=_ from h);rfl
 |d::ds,_,n+1,⟨v,r,h1,h2,h3⟩=>by subst h1;exact⟨v,_,rfl,h2,DenL.take n h3⟩
theorem DenL.drop:∀{ds:List D}{vs:List V}(n:Nat),DenL K F ds vs->DenL K F (ds.drop n) (vs.drop n)
 |_,_,0,h=>by simpa using h
 |[],_,_+1,h=>by cases (show _=_ from h);rfl
 |d::ds,_,n+1,⟨v,r,h1,h2,h3⟩=>by subst h1;exact DenL.drop n h3
def DenL.ints(ns:List Int):DenL K F (ns.map D.int) (ns.map V.int):=by
 induction ns with
 |nil=>rfl
 |cons n ns ih=>exact .cons rfl ih
end
structure Ext (F H F' H':Hp):Prop where
 hh:Same H H'
 ff:Same F F'
 fh:Same F' H'
 new:∀a,H a≠none->F' a=F a\/∃ts,H a=some (.tup ts)
def Ext.old(e:Ext F H F' H')(h:H a=some o)(hn:∀ts,o≠ .tup ts):F' a=F a:=by
 rcases e.new a (by rw[h];exact λz=>nomatch z) with q | ⟨ts,q⟩
 ·exact q
 ·rw[h] at q;cases q;exact Zp rfl (hn ts)
theorem Ext.refl(h:Same F H):Ext F H F H:=⟨Same.refl _,Same.refl _,h,λ_ _=> .inl rfl⟩
theorem Ext.trans(a:Ext F H F' H')(b:Ext F' H' F'' H''):Ext F H F'' H'':=
 ⟨a.hh.trans b.hh,a.ff.trans b.ff,b.fh,λc hc=>by
  have:H' c≠none:=by
   cases q:H c with
   |none=>exact Zp q hc
   |some o=>rw[a.hh c o q];exact λz=>nomatch z
  rcases a.new c hc with p | p
  ·rcases b.new c this with q | ⟨ts,q⟩
   ·exact .inl (q.trans p)
   ·cases z:H c with
    |none=>exact Zp z hc
    |some o=>
     rw[a.hh c o z] at q;exact .inr ⟨ts,q⟩
  ·exact .inr p⟩
def Ext.lay(h:Same F H)(n:H a=none):Ext F H (upd F a o) (upd H a o):=by
 have nf:F a=none:=Same.free h n;refine⟨λb u e=>?_,λb u e=>?_,λb u e=>?_,λb hb=>?_⟩
 ·rw[aj (b5 e n)];exact e
 ·rw[aj (b5 e nf)];exact e
 ·by_cases q:b=a
  ·subst q;rw[ar] at e⊢;exact e
  ·rw[aj q] at e⊢;exact h b u e
 ·exact .inl (aj λz=>hb (by rw[z];exact n))
def Ext.free(h:Same F H)(n:H a=none):Ext F H F (upd H a o):=
 ⟨λb u e=>by rw[aj (b5 e n)];exact e,Same.refl _,λb u e=>by rw[aj (b5 (h b u e) n)];exact h b u e,λ_ _=> .inl rfl⟩
theorem Ext.tup(h:Same F H)(e:H a=some (.tup ts)):Ext F H (upd F a (.tup ts)) H:=by
 refine⟨Same.refl _,λb u q=>?_,λb u q=>?_,λb hb=>?_⟩
 ·by_cases z:b=a
  ·subst z;rw[ar,<-e];exact h b u q
  ·rw[aj z];exact q
 ·by_cases z:b=a
  ·subst z;rw[ar] at q;rw[e];exact q
  ·rw[aj z] at q;exact h b u q
 ·by_cases z:b=a
  ·subst z;exact .inr ⟨ts,e⟩
  ·exact .inl (aj z)
def WP(K:Ti)(Xw:Nat->Hp->Prop)(F H:Hp)(m:M D)(Q:VK):Prop:=
 match m with
 |none=>False
 |some (.ok d)=>∀v H' F',Ext F H F' H'->Den K F' d v->Q v H'
 |some (.ex n)=>∀F' H',Ext F H F' H'->Xw n H'
def WPL(K:Ti)(Xw:Nat->Hp->Prop)(F H:Hp)(m:M (List D))(Q:List V->Hp->Prop):Prop:=
 match m with
 |none=>False
 |some (.ok ds)=>∀vs H' F',Ext F H F' H'->DenL K F' ds vs->Q vs H'
 |some (.ex n)=>∀F' H',Ext F H F' H'->Xw n H'
def WPB(Xw:Nat->Hp->Prop)(F H:Hp)(m:M Bool)(Q:Bool->Hp->Prop):Prop:=
 match m with
 |none=>False
 |some (.ok b)=>∀H' F',Ext F H F' H'->Q b H'
 |some (.ex n)=>∀F' H',Ext F H F' H'->Xw n H'
section
variable{K:Ti}{Xw:Nat->Hp->Prop}{F F' H H':Hp}{Q:VK}
def WP.ext(e:Ext F H F' H')(h:WP K Xw F H m Q):WP K Xw F' H' m Q:=by
 match m,h with
 |none,h=>exact h
 |some (.ok d),h=>exact λv H2 F2 e2 q=>h v H2 F2 (e.trans e2) q
 |some (.ex n),h=>exact λF2 H2 e2=>h F2 H2 (e.trans e2)
def WPL.ext{Q:List V->Hp->Prop}(e:Ext F H F' H')(h:WPL K Xw F H m Q):WPL K Xw F' H' m Q:=by
 match m,h with
 |none,h=>exact h
 |some (.ok d),h=>exact λv H2 F2 e2 q=>h v H2 F2 (e.trans e2) q
 |some (.ex n),h=>exact λF2 H2 e2=>h F2 H2 (e.trans e2)
def WPB.ext{Q:Bool->Hp->Prop}(e:Ext F H F' H')(h:WPB Xw F H m Q):WPB Xw F' H' m Q:=by
 match m,h with
 |none,h=>exact h
 |some (.ok d),h=>exact λH2 F2 e2=>h H2 F2 (e.trans e2)
 |some (.ex n),h=>exact λF2 H2 e2=>h F2 H2 (e.trans e2)
def WP.fin(h:WP K Xw F H (aa d) Q)(e:Ext F H F' H')(q:Den K F' d v):Q v H':=h v H' F' e q
def WP.now(h:WP K Xw F H (aa d) Q)(s:Same F H)(q:Den K F d v):Q v H:=h v H F (Ext.refl s) q
def WP.bind(h:WP K Xw F H (m>>=k) Q):WP K Xw F H m λv H1=>∃F1 d,Ext F H F1 H1/\Den K F1 d v/\WP K Xw F1 H1 (k d) Q:=by
 match m,h with
 |none,h=>exact h
 |some (.ok d),h=>exact λv H2 F2 e2 q=>⟨F2,d,e2,q,WP.ext e2 (show WP K Xw F H (k d) Q from h)⟩
 |some (.ex n),h=>exact h
def WP.bindL(h:WP K Xw F H (m>>=k) Q):WPL K Xw F H m λvs H1=>∃F1 ds,Ext F H F1 H1/\DenL K F1 ds vs/\WP K Xw F1 H1 (k ds) Q:=by
 match m,h with
 |none,h=>exact h
 |some (.ok d),h=>exact λv H2 F2 e2 q=>⟨F2,d,e2,q,WP.ext e2 (show WP K Xw F H (k d) Q from h)⟩
 |some (.ex n),h=>exact h
def WP.bindB(h:WP K Xw F H (m>>=k) Q):WPB Xw F H m λb H1=>∃F1,Ext F H F1 H1/\WP K Xw F1 H1 (k b) Q:=by
 match m,h with
 |none,h=>exact h
 |some (.ok d),h=>exact λH2 F2 e2=>⟨F2,e2,WP.ext e2 (show WP K Xw F H (k d) Q from h)⟩
 |some (.ex n),h=>exact h
def WPB.bind{Q:Bool->Hp->Prop}(h:WPB Xw F H (m>>=k) Q):WP K Xw F H m λv H1=>∃F1 d,Ext F H F1 H1/\Den K F1 d v/\WPB Xw F1 H1 (k d) Q:=by
 match m,h with
 |none,h=>exact h
 |some (.ok d),h=>exact λv H2 F2 e2 q=>⟨F2,d,e2,q,WPB.ext e2 (show WPB Xw F H (k d) Q from h)⟩
 |some (.ex n),h=>exact h
def WPB.bindB{Q:Bool->Hp->Prop}(h:WPB Xw F H (m>>=k) Q):WPB Xw F H m λb H1=>∃F1,Ext F H F1 H1/\WPB Xw F1 H1 (k b) Q:=by
 match m,h with
 |none,h=>exact h
 |some (.ok d),h=>exact λH2 F2 e2=>⟨F2,e2,WPB.ext e2 (show WPB Xw F H (k d) Q from h)⟩
 |some (.ex n),h=>exact h
def WPL.bind{Q:List V->Hp->Prop}(h:WPL K Xw F H (m>>=k) Q):WP K Xw F H m λv H1=>∃F1 d,Ext F H F1 H1/\Den K F1 d v/\WPL K Xw F1 H1 (k d) Q:=by
 match m,h with
 |none,h=>exact h
 |some (.ok d),h=>exact λv H2 F2 e2 q=>⟨F2,d,e2,q,WPL.ext e2 (show WPL K Xw F H (k d) Q from h)⟩
 |some (.ex n),h=>exact h
def WPL.bindL{Q:List V->Hp->Prop}(h:WPL K Xw F H (m>>=k) Q):WPL K Xw F H m λvs H1=>∃F1 ds,Ext F H F1 H1/\DenL K F1 ds vs/\WPL K Xw F1 H1 (k ds) Q:=by
 match m,h with
 |none,h=>exact h
 |some (.ok d),h=>exact λv H2 F2 e2 q=>⟨F2,d,e2,q,WPL.ext e2 (show WPL K Xw F H (k d) Q from h)⟩
 |some (.ex n),h=>exact h
def WP.mono(h:WP K Xw F H m Q)(k:∀v H',Q v H'->Q' v H'):WP K Xw F H m Q':=by
 match m,h with
 |none,h=>exact h
 |some (.ok d),h=>exact λv H2 F2 e2 q=>k _ _ (h v H2 F2 e2 q)
 |some (.ex n),h=>exact h
def WPL.mono{Q Q':List V->Hp->Prop}(h:WPL K Xw F H m Q)(k:∀v H',Q v H'->Q' v H'):WPL K Xw F H m Q':=by
 match m,h with
 |none,h=>exact h
 |some (.ok d),h=>exact λv H2 F2 e2 q=>k _ _ (h v H2 F2 e2 q)
 |some (.ex n),h=>exact h
def WPB.mono{Q Q':Bool->Hp->Prop}(h:WPB Xw F H m Q)(k:∀v H',Q v H'->Q' v H'):WPB Xw F H m Q':=by
 match m,h with
 |none,h=>exact h
 |some (.ok d),h=>exact λH2 F2 e2=>k _ _ (h H2 F2 e2)
 |some (.ex n),h=>exact h
end
inductive C where
 |lst (l:List D) | dct (ks:List (List Key)) (l:List D) | dci (ks:List Key) (l:List D)
def C.d:C->D
 | .lst ds=> .lst ds
 | .dct ks ds=> .dct ks ds
 | .dci ks ds=> .dci ks ds
inductive Fv where
 |fz (d:D) | ow (l:List D)
structure Ob where
 c:Addr
 fs:List (Str×Fv)
inductive Sl where
 |fz (d:D) | ow (c:C) | ob (a:Addr) (o:Ob)
abbrev aM:=List (Option Sl)
def DenC(K:Ti)(F:Hp):C->HO->Prop
 | .lst ds,o=>∃vs,o= .lst vs/\DenL K F ds vs/\ds.length<=lim
 | .dct ks ds,o=>∃vs,o= .dT (ks.zip vs)/\DenL K F ds vs/\ks.length=ds.length/\ds.length<=lim
 | .dci ks ds,o=>∃vs,o= .dK (ks.zip vs)/\DenL K F ds vs/\ks.length=ds.length/\ds.length<=lim
theorem DenC.mono{K:Ti}(e:Same F F'):∀{c:C}{o:HO},DenC K F c o->DenC K F' c o
 | .lst _,_,⟨vs,h1,h2,h3⟩=>⟨vs,h1,DenL.mono e h2,h3⟩
 | .dct _ _,_,⟨vs,h1,h2,h3⟩=>⟨vs,h1,DenL.mono e h2,h3⟩
 | .dci _ _,_,⟨vs,h1,h2,h3⟩=>⟨vs,h1,DenL.mono e h2,h3⟩
def DenC.notup{K:Ti}:∀{c:C}{o:HO},DenC K F c o->∀ts,o≠ .tup ts
 | .lst _,_,⟨_,h1,_⟩,ts,z=>by rw[h1] at z;cases z
 | .dct _ _,_,⟨_,h1,_⟩,ts,z=>by rw[h1] at z;cases z
 | .dci _ _,_,⟨_,h1,_⟩,ts,z=>by rw[h1] at z;cases z
def jA(ob:Obj):HO->HO
 | .dT ay=> .frz ob (.dT ay)
 | .dK ay=> .frz ob (.dK ay)
 |o=>o
def DenC.den{K:Ti}:∀{c:C}{o:HO},DenC K F c o->Same F F'->F' a=some (jA ob o)->Den K F' c.d (.ref a)
 | .lst _,_,⟨vs,h1,h2,h3⟩,e,q=>by subst h1;exact⟨a,vs,rfl,q,DenL.mono e h2,h3⟩
 | .dct _ _,_,⟨vs,h1,h2,h3⟩,e,q=>by subst h1;exact⟨a,ob,vs,rfl,q,DenL.mono e h2,h3⟩
 | .dci _ _,_,⟨vs,h1,h2,h3⟩,e,q=>by subst h1;exact⟨a,ob,vs,rfl,q,DenL.mono e h2,h3⟩
def bK:List (Str×Fv)->List (Str×V)->List Addr
 |(_, .ow _)::fs,(_, .ref b)::gs=>b::bK fs gs
 |_::fs,_::gs=>bK fs gs
 |_,_=>[]
def aW(H:Hp)(o:Ob)(a:Addr):List Addr:=match H a with
 |some (.ins _ dx gs)=>a::dx::bK o.fs gs
 |_=>[]
def Ge(K:Ti)(F H:Hp):Fv->V->Prop
 | .fz d,v=>Den K F d v
 | .ow ds,v=>∃b vs,v= .ref b/\H b=some (.lst vs)/\DenL K F ds vs/\ds.length<=lim
def FsAt(K:Ti)(F H:Hp):List (Str×Fv)->List (Str×V)->Prop
 |[],gs=>gs=[]
 |(n,f)::fs,gs=>∃v r,gs=(n,v)::r/\Ge K F H f v/\FsAt K F H fs r
structure ObAt (K:Ti) (F H:Hp) (o:Ob) (a:Addr):Prop where
 ins:∃dx gs,H a=some (.ins o.c dx gs)/\H dx=some (.own a)/\FsAt K F H o.fs gs
 nf:∀b∈aW H o a,F b=none
 nd:(aW H o a).Nodup
theorem FsAt.cell{K:Ti}:∀{fs:List (Str×Fv)}{gs:List (Str×V)},FsAt K F H fs gs->∀b∈bK fs gs,∃vs,H b=some (.lst vs)
 |[],_,h,b,hb=>by cases (show _=_ from h);cases hb
 |(n, .fz d)::fs,_,⟨v,r,h1,_,h3⟩,b,hb=>by subst h1;exact FsAt.cell h3 b hb
 |(n, .ow ds)::fs,_,⟨v,r,h1,⟨c,vs,h4,h5,_⟩,h3⟩,b,hb=>by
  subst h1;subst h4;rcases Tz.mp hb with q | q
  ·rw[q];exact⟨vs,h5⟩
  ·exact FsAt.cell h3 b q
def ObAt.foot{K:Ti}(h:ObAt K F H o a):∃dx gs,H a=some (.ins o.c dx gs)/\H dx=some (.own a)/\FsAt K F H o.fs gs/\aW H o a=a::dx::bK o.fs gs:=by
 obtain⟨dx,gs,h1,h2,h3⟩:=h.ins;exact⟨dx,gs,h1,h2,h3,by unfold aW;rw[h1]⟩
theorem ObAt.cell{K:Ti}(h:ObAt K F H o a):∀b∈aW H o a,∃u,H b=some u/\∀ts,u≠ .tup ts:=λb hb=>by
 obtain⟨dx,gs,h1,h2,h3,h4⟩:=h.foot;rw[h4] at hb;rcases Tz.mp hb with rfl | hb
 ·exact⟨_,h1,λts z=>nomatch z⟩
 ·rcases Tz.mp hb with rfl | hb
  ·exact⟨_,h2,λts z=>nomatch z⟩
  ·obtain⟨vs,e⟩:=h3.cell b hb;exact⟨_,e,λts z=>nomatch z⟩
theorem FsAt.move{K:Ti}(ff:Same F F'):∀{fs:List (Str×Fv)}{gs:List (Str×V)},FsAt K F H fs gs->(∀b∈bK fs gs,H' b=H b)->FsAt K F' H' fs gs
 |[],_,h,_=>h
 |(n, .fz d)::fs,_,⟨v,r,h1,h2,h3⟩,hb=>by subst h1;exact⟨v,r,rfl,Den.mono ff h2,FsAt.move ff h3 hb⟩
 |(n, .ow ds)::fs,_,⟨v,r,h1,⟨c,vs,h4,h5,h6,h7⟩,h3⟩,hb=>by
  subst h1;subst h4;exact⟨_,r,rfl,⟨c,vs,rfl,by rw[hb c (Th ..)];exact h5,DenL.mono ff h6,h7⟩,FsAt.move ff h3 λb q=>hb b (Tf _ q)⟩
theorem ObAt.move{K:Ti}(h:ObAt K F H o a)(ff:Same F F')(hH:∀b∈aW H o a,H' b=H b)(hF:∀b∈aW H o a,F' b=none):ObAt K F' H' o a/\aW H' o a=aW H o a:=by
 obtain⟨dx,gs,h1,h2,h3,h4⟩:=h.foot;have e1:H' a=some (.ins o.c dx gs):=by rw[hH a (by rw[h4];exact Th ..)];exact h1
 have e2:H' dx=some (.own a):=by rw[hH dx (by rw[h4];exact Tf _ (Th ..))];exact h2
 have e4:aW H' o a=aW H o a:=by rw[h4];unfold aW;rw[e1]
 exact⟨⟨⟨dx,gs,e1,e2,h3.move ff λb q=>hH b (by rw[h4];exact Tf _ (Tf _ q))⟩,by rw[e4];exact hF,by rw[e4];exact h.nd⟩,e4⟩
def DenO(K:Ti)(F H:Hp):Sl->V->Prop
 | .fz d,v=>Den K F d v
 | .ow c,v=>∃a o,v= .ref a/\H a=some o/\F a=none/\DenC K F c o
 | .ob a o,v=>v= .ref a/\ObAt K F H o a
def Sl.foot(H:Hp):Sl->V->List Addr
 | .ow _, .ref a=>[a]
 | .ob a o,_=>aW H o a
 |_,_=>[]
theorem DenO.cell{K:Ti}:∀{sl:Sl}{v:V},DenO K F H sl v->∀b∈sl.foot H v,F b=none/\∃u,H b=some u/\∀ts,u≠ .tup ts
 | .fz _,_,_,b,hb=>by cases hb
 | .ow _,_,⟨a,o,h1,h2,h3,h4⟩,b,hb=>by
   subst h1;rw[TQ.mp hb];exact⟨h3,o,h2,h4.notup⟩
 | .ob _ _,_,⟨_,h2⟩,b,hb=>⟨h2.nf b hb,h2.cell b hb⟩
theorem DenO.move{K:Ti}(ff:Same F F'):∀{sl:Sl}{v:V},DenO K F H sl v->(∀b∈sl.foot H v,H' b=H b)->(∀b∈sl.foot H v,F' b=none)->DenO K F' H' sl v/\sl.foot H' v=sl.foot H v
 | .fz _,_,h,_,_=>⟨Den.mono ff h,rfl⟩
 | .ow _,_,⟨a,o,h1,h2,h3,h4⟩,hH,hF=>by
   subst h1;exact⟨⟨a,o,rfl,by rw[hH a (TQ.mpr rfl)];exact h2,hF a (TQ.mpr rfl),DenC.mono ff h4⟩,rfl⟩
 | .ob _ _,_,⟨h1,h2⟩,hH,hF=>
   let ⟨h3,h4⟩:=h2.move ff hH hF
   ⟨⟨h1,h3⟩,h4⟩
structure StE (K:Ti) (F H:Hp) (σ:St) (ρ:aM):Prop where
 fh:Same F H
 den:∀(i:Nat) (sl:Sl),ρ[i]? =some (some sl)->∃v,σ[i]? =some (some v)/\DenO K F H sl v
def DenO.ext'{K:Ti}(e:Ext F H F' H'){sl:Sl}{v:V}(h:DenO K F H sl v):DenO K F' H' sl v/\sl.foot H' v=sl.foot H v:=
 h.move e.ff (λb hb=>by
  obtain⟨_,u,h2,_⟩:=h.cell b hb;rw[h2];exact e.hh b u h2) λb hb=>by
  obtain⟨h1,u,h2,h3⟩:=h.cell b hb;rw[e.old h2 h3];exact h1
def DenO.ext{K:Ti}(e:Ext F H F' H'){sl:Sl}{v:V}(h:DenO K F H sl v):DenO K F' H' sl v:=(h.ext' e).1
theorem StE.ext{K:Ti}(s:StE K F H σ ρ)(e:Ext F H F' H'):StE K F' H' σ ρ:=
 ⟨e.fh,λi sl q=>let ⟨v,h1,h2⟩:=s.den i sl q;⟨v,h1,h2.ext e⟩⟩
abbrev DE:=aM->M D
abbrev DT:=aM->M Bool
abbrev DA:=aM->M (List D)
def tD(K:Ti)(Xw:Nat->Hp->Prop)(δ:DE):TE:=λσ H Q=>∃F ρ,StE K F H σ ρ/\WP K Xw F H (δ ρ) Q
def PU(K:Ti)(Xw:Nat->Hp->Prop)(δ:DT):TT:=λσ H Q=>∃F ρ,StE K F H σ ρ/\WPB Xw F H (δ ρ) Q
def Q0(K:Ti)(Xw:Nat->Hp->Prop)(δ:DA):TA:=λσ H Q=>∃F ρ,StE K F H σ ρ/\WPL K Xw F H (δ ρ) Q
def PD(X:Cx)(Xw:Nat->Hp->Prop)(e:Expr)(δ:DE):Prop:=PE X e (tD X.K Xw δ)
def sV(X:Cx)(Xw:Nat->Hp->Prop)(e:Expr)(δ:DT):Prop:=PT X e (PU X.K Xw δ)
def lz(X:Cx)(Xw:Nat->Hp->Prop)(es:List Expr)(δ:DA):Prop:=PA X es (Q0 X.K Xw δ)
def PE.weak(h:PE X e t)(k:∀σ H Q,t' σ H Q->t σ H Q):PE X e t':=λf8 s σ H Q I w=>h f8 s σ H Q I (k σ H Q w)
def PT.weak(h:PT X e t)(k:∀σ H Q,t' σ H Q->t σ H Q):PT X e t':=λf8 s σ H Q I w=>h f8 s σ H Q I (k σ H Q w)
def PA.weak(h:PA X e t)(k:∀σ H Q,t' σ H Q->t σ H Q):PA X e t':=λpos f8 s σ H Q I w=>h pos f8 s σ H Q I (k σ H Q w)
def dV(i:Nat):DE:=λρ=>match ρ[i]? with
 |some (some (.fz d))=>aa d
 |_=>af
def dC(d:D):DE:=λ_=>aa d
def d1(g:D->M D)(a:DE):DE:=λρ=>a ρ>>=g
def d2(g:D->D->M D)(a b:DE):DE:=λρ=>a ρ>>=λx=>b ρ>>=λy=>g x y
def aN:DA:=λ_=>aa []
def aC(a:DE)(r:DA):DA:=λρ=>a ρ>>=λx=>r ρ>>=λxs=>aa (x::xs)
def dA(g:List D->M D)(a:DA):DE:=λρ=>a ρ>>=g
def C4:D->M Bool
 | .bl b=>aa b
 |_=>af
def ej(a:DE):DT:=λρ=>a ρ>>=C4
def o7(a b:DT):DT:=λρ=>a ρ>>=λx=>if x then aa true else b ρ
def df(a:DT):DT:=λρ=>a ρ>>=λx=>aa (!x)
def IA(c:DT)(a b:DE):DE:=λρ=>c ρ>>=λx=>if x then a ρ else b ρ
def eW(a b:DE):DE:=λρ=>a ρ>>=λx=>C4 x>>=λc=>if c then b ρ else aa (.bl false)
def IB(a:DE):DE:=λρ=>a ρ>>=λx=>C4 x>>=λc=>aa (.bl (!c))
section
variable{X:Cx}{Xw:Nat->Hp->Prop}{a b:Expr}{δa δb:DE}{pos:Pos}
def ae(h:PE X (.Name x pos) (fE i)):PD X Xw (.Name x pos) (dV i):=PE.weak h λσ H Q ⟨F,ρ,s,w⟩=>by
 unfold dV at w;split at w
 ·rename_i d e;obtain⟨v,h1,h2⟩:=s.den i _ e;exact⟨v,h1,WP.now w s.fh h2⟩
 ·exact w.elim
def iy(h:PE X e (tC v))(hd:∀F,Den X.K F d v):PD X Xw e (dC d):=PE.weak h λσ H Q ⟨F,ρ,s,w⟩=>WP.now w s.fh (hd F)
def ak:PD X Xw (.Constant (.int i) j pos) (dC (.int i)):=iy z5 λ_=>rfl
def eh:PD X Xw (.Constant (.bool i) j pos) (dC (.bl i)):=iy MG λ_=>rfl
def Kj:PD X Xw (.Constant .none j pos) (dC .non):=iy Ko λ_=>rfl
def jX(h:x.length<=lim:=by decide):PD X Xw (.Constant (.str x) j pos) (dC (.str x)):=iy Kr λ_=>⟨rfl,h⟩
def wF(K:Ti)(r:R2)(g:D->D->M D):Prop:=∀(Xw:Nat->Hp->Prop) (F H:Hp) (x y:V) (dx dy:D) (Q:VK),Same F H->Den K F dx x->Den K F dy y->WP K Xw F H (g dx dy) Q->r x y H Q
def wc(hg:wF X.K r g):∀σ H Q,tD X.K Xw (d2 g δa δb) σ H Q->M6 r (tD X.K Xw δa) (tD X.K Xw δb) σ H Q:=λσ H Q ⟨F,ρ,s,w⟩=>by
 refine⟨F,ρ,s,WP.mono (WP.bind w) λv H1 ⟨F1,d,e1,q1,w1⟩=>?_⟩;refine⟨F1,ρ,s.ext e1,WP.mono (WP.bind w1) λu H2 ⟨F2,d',e2,q2,w2⟩=>?_⟩;exact hg Xw F2 H2 v u d d' Q e2.fh (Den.mono e2.ff q1) q2 w2
def rj(ho:OpR X (Wk op) r)(hg:wF X.K r g)(ha:PD X Xw a δa)(hb:PD X Xw b δb):PD X Xw (.BinOp a op b pos) (d2 g δa δb):=
 PE.weak (MI ho ha hb) (wc hg)
def vz(ho:OpR X (Uy op) r)(hg:wF X.K r g)(ha:PD X Xw a δa)(hb:PD X Xw b δb)(hm:Uz op b=false:=by first | exact vb _ | rfl):PD X Xw (.Compare a [op] [b] pos) (d2 g δa δb):=
 PE.weak (A8 ho ha hb hm) (wc hg)
def mK(ho:OpR X (Uy op) r)(hg:wF X.K r g)(ha:PD X Xw a δa)(hb:PD X Xw b δb)(hm:Uz op b=false:=by first | exact vb _ | rfl):sV X Xw (.Compare a [op] [b] pos) (ej (d2 g δa δb)):=
 PT.weak (Bb ho ha hb hm) λσ H Q ⟨F,ρ,s,w⟩=>by
  refine wc hg σ H _ ⟨F,ρ,s,WP.mono (WPB.bind w) λv H1 ⟨F1,d,e1,q1,w1⟩=>?_⟩;cases d with
  |bl k=>exact⟨k,q1,w1 _ _ (Ext.refl e1.fh)⟩
  |_=>exact w1.elim
def A4(hr:Lh X r)(hg:wF X.K r g)(ha:PD X Xw a δa)(hb:PD X Xw b δb)(hs:kC b:=by intro _ _;rfl):PD X Xw (.Subscript a b pos) (d2 g δa δb):=
 PE.weak (MH hr ha hb hs) (wc hg)
def ah:lz X Xw [] aN:=PA.weak lQ λσ H Q ⟨F,ρ,s,w⟩=>w [] H F (Ext.refl s.fh) rfl
def ab(ha:PD X Xw a δa)(hr:lz X Xw es δs)(hs:Tq (a::es) X.env=(false,eval a X.env)::Tq es X.env:=by rfl):lz X Xw (a::es) (aC δa δs):=
 PA.weak (gT ha hr hs) λσ H Q ⟨F,ρ,s,w⟩=>by
  refine⟨F,ρ,s,WP.mono (WPL.bind w) λv H1 ⟨F1,d,e1,q1,w1⟩=>?_⟩;refine⟨F1,ρ,s.ext e1,WPL.mono (WPL.bindL w1) λvs H2 ⟨F2,ds,e2,q2,w2⟩=>?_⟩;exact w2 _ _ _ (Ext.refl e2.fh) (.cons (Den.mono e2.ff q1) q2)
def di(ds:List D):M D:=if ds.length<=lim then aa (.tup ds) else af
def gw(ds:List D):M D:=if ds.length<=lim then aa (.lst ds) else af
def zH{f:List D->D}(w:WP X.K Xw F H (if ds.length<=lim then aa (f ds) else af) Q):ds.length<=lim/\WP X.K Xw F H (aa (f ds)) Q:=by
 split at w
 ·rename_i h;exact⟨h,w⟩
 ·exact w.elim
def eO(h:lz X Xw es δs):PD X Xw (.Tuple es x1 pos) (dA di δs):=PE.weak (Ks h) λσ H Q ⟨F,ρ,s,w⟩=>by
 refine⟨F,ρ,s,WPL.mono (WP.bindL w) λvs H1 ⟨F1,ds,e1,q1,w1⟩=>?_⟩;obtain⟨hl,w1⟩:=zH w1;have hv:=q1.len;refine⟨by have:=dH;omega,λp hp=>WP.fin w1 (Ext.lay e1.fh hp) ⟨p,vs,rfl,ar,DenL.mono (Ext.lay e1.fh hp).ff q1,hl⟩⟩
def jV(h:lz X Xw es δs):PD X Xw (.List es pos) (dA gw δs):=PE.weak (z6 h) λσ H Q ⟨F,ρ,s,w⟩=>by
 refine⟨F,ρ,s,WPL.mono (WP.bindL w) λvs H1 ⟨F1,ds,e1,q1,w1⟩=>?_⟩;obtain⟨hl,w1⟩:=zH w1;have hv:=q1.len;refine⟨by have:=dH;omega,λp hp=>WP.fin w1 (Ext.lay e1.fh hp) ⟨p,vs,rfl,ar,DenL.mono (Ext.lay e1.fh hp).ff q1,hl⟩⟩
end
def ItD(K:Ti)(F:Hp)(J:It)(ds:List D):Prop:=∀(F' H':Hp) (i:Nat),Same F F'->Same F' H'->
 (∀d,ds[i]? =some d->J.go i H'/\∀x H'',J.yld i H' x H''->∃F'',Ext F' H' F'' H''/\Den K F'' d x)/\(ds.length<=i->J.stop i H')
def ItD.mono{K:Ti}(h:ItD K F J ds)(e:Same F F1):ItD K F1 J ds:=λF' H' i s1 s2=>h F' H' i (e.trans s1) s2
def WPI(K:Ti)(Xw:Nat->Hp->Prop)(F H:Hp)(m:M (List D))(R:It->Hp->Prop):Prop:=
 match m with
 |none=>False
 |some (.ok ds)=>∀J H' F',Ext F H F' H'->ItD K F' J ds->R J H'
 |some (.ex n)=>∀F' H',Ext F H F' H'->Xw n H'
def Sz(K:Ti)(Xw:Nat->Hp->Prop)(δ:DA):TI:=λσ H R=>∃F ρ,StE K F H σ ρ/\WPI K Xw F H (δ ρ) R
def wG(X:Cx)(Xw:Nat->Hp->Prop)(tg iter:Expr)(δ:DA):Prop:=PI X tg iter (Sz X.K Xw δ)
def PI.weak{X:Cx}(h:PI X tg e t)(k:∀σ H Q,t' σ H Q->t σ H Q):PI X tg e t':=λf8 s σ H Q I w=>h f8 s σ H Q I (k σ H Q w)
def WPI.bind{K:Ti}(h:WPI K Xw F H (m>>=k) R):
 WP K Xw F H m λv H1=>∃F1 d,Ext F H F1 H1/\Den K F1 d v/\WPI K Xw F1 H1 (k d) R:=by
 match m,h with
 |none,h=>exact h
 |some (.ok d),h=>
  refine λv H2 F2 e2 q=>⟨F2,d,e2,q,?_⟩
  have h:WPI K Xw F H (k d) R:=h;show WPI K Xw F2 H2 (k d) R
  match k d,h with
  |none,h=>exact h
  |some (.ok ds),h=>exact λJ H3 F3 e3 q3=>h J H3 F3 (e2.trans e3) q3
  |some (.ex n),h=>exact λF3 H3 e3=>h F3 H3 (e2.trans e3)
 |some (.ex n),h=>exact h
def WPI.bindL{K:Ti}(h:WPI K Xw F H (m>>=k) R):
 WPL K Xw F H m λv H1=>∃F1 d,Ext F H F1 H1/\DenL K F1 d v/\WPI K Xw F1 H1 (k d) R:=by
 match m,h with
 |none,h=>exact h
 |some (.ok d),h=>
  refine λv H2 F2 e2 q=>⟨F2,d,e2,q,?_⟩
  have h:WPI K Xw F H (k d) R:=h;show WPI K Xw F2 H2 (k d) R
  match k d,h with
  |none,h=>exact h
  |some (.ok ds),h=>exact λJ H3 F3 e3 q3=>h J H3 F3 (e2.trans e3) q3
  |some (.ex n),h=>exact λF3 H3 e3=>h F3 H3 (e2.trans e3)
 |some (.ex n),h=>exact h
def lstM:D->M (List D)
 | .lst ds=>aa ds
 |_=>af
def P_:D->M (List D)
 | .tup ds=>aa ds
 |_=>af
def g7(a:DE):DA:=λρ=>a ρ>>=lstM
def qf(a:DE):DA:=λρ=>a ρ>>=P_
def Ef{K:Ti}(h:SqL K F a vs)(hd:DenL K F ds vs):ItD K F (NZ K a) ds:=λF' H' i s1 s2=>by
 have hs:=Same.seq s2 (Same.seq s1 h);refine⟨λd e=>?_,λhl=>⟨vs,hs,by rw[<-hd.len];exact hl⟩⟩;obtain⟨v,e1,q⟩:=hd.get e;refine⟨⟨vs,v,hs,e1⟩,λx H'' y=>?_⟩;obtain⟨e2,y⟩:=y;subst e2;have:=y vs hs;rw[e1] at this;cases this;exact⟨F',Ext.refl s2,Den.mono s1 q⟩
def GY{K:Ti}(h:SqT K F a vs)(hd:DenL K F ds vs):ItD K F (N0 K a) ds:=λF' H' i s1 s2=>by
 have hs:=Same.tup s2 (Same.tup s1 h);refine⟨λd e=>?_,λhl=>⟨vs,hs,by rw[<-hd.len];exact hl⟩⟩;obtain⟨v,e1,q⟩:=hd.get e;refine⟨⟨vs,v,hs,e1⟩,λx H'' y=>?_⟩;obtain⟨e2,y⟩:=y;subst e2;have:=y vs hs;rw[e1] at this;cases this;exact⟨F',Ext.refl s2,Den.mono s1 q⟩
def iC(lo:Int)(n:Nat):List D:=(TB n).map λ(i:Nat)=>D.int (lo+(i:Int))
def tF{K:Ti}{F:Hp}(lo:Int)(n:Nat):ItD K F (Lg lo n) (iC lo n):=λF' H' i s1 s2=>by
 refine⟨λd e=>?_,λhl=>show n<=i by simpa[iC] using hl⟩;unfold iC at e;rw[Tx] at e;have hi:i<n:=by
  by_cases hi:i<n
  ·exact hi
  ·rw[V0 (by simpa using hi)] at e;cases e
 rw[Vb hi] at e;cases e;refine⟨hi,λx H'' y=>?_⟩;obtain⟨e2,y⟩:=y;subst e2 y;exact⟨F',Ext.refl s2,rfl⟩
section
variable{X:Cx}{Xw:Nat->Hp->Prop}{tg l:Expr}{δ:DE}{pos:Pos}
def eP(h:PD X Xw l δ):wG X Xw tg l (g7 δ):=PI.weak (Hz h) λσ H R ⟨F,ρ,s,w⟩=>by
 refine⟨F,ρ,s,WP.mono (WPI.bind w) λv H1 ⟨F1,d,e1,q1,w1⟩=>?_⟩;cases d with
 |lst ds=>
  obtain⟨a,vs,h1,h2,h3,h4⟩:=q1;exact⟨a,h1,⟨vs,Same.seq e1.fh (SqL.of h2)⟩,w1 _ _ _ (Ext.refl e1.fh) (Ef (SqL.of h2) h3)⟩
 |_=>exact w1.elim
def pT(h:PD X Xw l δ):wG X Xw tg l (qf δ):=PI.weak (Kw h) λσ H R ⟨F,ρ,s,w⟩=>by
 refine⟨F,ρ,s,WP.mono (WPI.bind w) λv H1 ⟨F1,d,e1,q1,w1⟩=>?_⟩;cases d with
 |tup ds=>
  obtain⟨a,vs,h1,h2,h3,h4⟩:=q1;exact⟨a,h1,⟨vs,Same.tup e1.fh (SqT.of h2)⟩,w1 _ _ _ (Ext.refl e1.fh) (GY (SqT.of h2) h3)⟩
 |_=>exact w1.elim
def ei:List D->M (List D)
 |[.int j]=>if -4096<=j/\j<=4096 then aa (iC 0 j.toNat) else af
 |_=>af
def rJ:List D->M (List D)
 |[.int i, .int j]=>if (-4096<=i/\i<=4096)/\(-4096<=j/\j<=4096) then aa (iC i (j - i).toNat) else af
 |_=>af
def DenL.one{K:Ti}(h:DenL K F [d] vs):∃v,vs=[v]/\Den K F d v:=by
 obtain⟨v,r,h1,h2,h3⟩:=h;cases (show r=[] from h3);exact⟨v,h1,h2⟩
def DenL.two{K:Ti}(h:DenL K F [d,d'] vs):∃v v',vs=[v,v']/\Den K F d v/\Den K F d' v':=by
 obtain⟨v,r,h1,h2,h3⟩:=h;obtain⟨v',h4,h5⟩:=h3.one;subst h4;exact⟨v,v',h1,h2,h5⟩
def b8{a:Expr}(hg:Gl X "range")(hm:X.mg "range"=none)(ha:lz X Xw [a] δs)(hs:Tq [a] X.env=[(false,eval a X.env)]:=by rfl):wG X Xw tg (.Call (.Name "range" p) [a] [] pos) (λρ=>δs ρ>>=ei):=
 PI.weak (CB hg hm ha hs) λσ H R ⟨F,ρ,s,w⟩=>by
  refine⟨F,ρ,s,WPL.mono (WPI.bindL w) λvs H1 ⟨F1,ds,e1,q1,w1⟩=>?_⟩;unfold ei at w1;split at w1
  ·rename_i j;obtain⟨v,h1,h2⟩:=q1.one;cases (show v=_ from h2);split at w1
   ·exact⟨j,h1,by omega,by omega,w1 _ _ _ (Ext.refl e1.fh) (tF 0 _)⟩
   ·exact w1.elim
  ·exact w1.elim
def lS{a b:Expr}(hg:Gl X "range")(hm:X.mg "range"=none)(ha:lz X Xw [a,b] δs)(hs:Tq [a,b] X.env=[(false,eval a X.env),(false,eval b X.env)]:=by rfl)
 (C9:Tq [b] X.env=[(false,eval b X.env)]:=by rfl):wG X Xw tg (.Call (.Name "range" p) [a,b] [] pos) (λρ=>δs ρ>>=rJ):=
 PI.weak (CC hg hm ha hs C9) λσ H R ⟨F,ρ,s,w⟩=>by
  refine⟨F,ρ,s,WPL.mono (WPI.bindL w) λvs H1 ⟨F1,ds,e1,q1,w1⟩=>?_⟩;unfold rJ at w1;split at w1
  ·rename_i i j;obtain⟨v,v',h1,h2,h3⟩:=q1.two;cases (show v=_ from h2);cases (show v'=_ from h3);split at w1
   ·exact⟨i,j,h1,⟨by omega,by omega,by omega,by omega⟩,w1 _ _ _ (Ext.refl e1.fh) (tF i _)⟩
   ·exact w1.elim
  ·exact w1.elim
end
def bY(tg N:List Str):List Str:=N.map λy=>if tg.contains y then y++(" ":Str) else y
def gj(X:Cx)(scope:Scope)(tn:List Str)(f8:List (Addr×Obj))(cl:List (Str×Addr))(C:Addr)(fp:List Addr)(v4:Tp)(H:Hp):Cx:=
 {X with N:=tn++bY tn X.N,ZR:=v4,ZQ:=H,env:=Y7 scope cl C X.env,outer:=X.stack,ex:=fp,fn:=λ_=>false,pn:=X.pn++f8,xe:=λ_ _=>False}
structure CompSc (X:Cx) (scope:Scope) (tn:List Str):Prop where
 kind:scope.kind= .function
 nocell:∀y∈scope.names,y.2≠ .cell
 names:∀y∈scope.names,y.2= .local->scope.names.lookup y.1=some .local
 frees:∀y∈scope.names,y.2= .free->X.env.kindOf y.1=some .cell\/X.env.kindOf y.1=some .free
 vis:∀p∈(bY tn X.N).zip X.N,scope.names.lookup p.1=none\/(p.1=p.2/\scope.names.lookup p.1=some .free)
theorem lF{env:Env}:∀(names:List (Str×WK)) (M2:List (Str×Addr)),(∀y∈names,y.2= .free->∃c,env.cells.lookup y.1=some c)->
 (∀x c,M2.lookup x=some c->env.cells.lookup x=some c)->
 ∃cl,(forIn names M2 (λ(x:Str×WK) (r:List (Str×Addr))=>do
   let __x:=x
   if (__x.2==Zk)=true then do let c<-cellOf env __x.1;pure (UB ((__x.1,c)::r)) else pure (UB r)):Sem (List (Str×Addr)))=pure cl/\
  (∀x c,cl.lookup x=some c->env.cells.lookup x=some c)/\(∀x c,M2.lookup x=some c->∃c',cl.lookup x=some c')/\(∀x,names.lookup x=some .free->∃c,cl.lookup x=some c)
 |[],M2,_,h2=>⟨M2,rfl,h2,λx c e=>⟨c,e⟩,λx e=>by simp at e⟩
 |(n,k)::r,M2,h1,h2=>by
  by_cases hk:k= .free
  ·subst hk;obtain⟨c,hc⟩:=h1 (n, .free) Th rfl;obtain⟨cl,e,a1,a2,a3⟩:=lF r ((n,c)::M2) (λy hy=>h1 y (Tf _ hy)) (λx c' q=>by
    rw[UT] at q;split at q
    ·rename_i hx;cases q;rw[show x=n from by simpa using hx];exact hc
    ·exact h2 x c' q)
   refine⟨cl,?_,a1,λx c' q=>?_,λx q=>?_⟩
   ·rw[WY];have:cellOf env n=pure c:=by unfold cellOf;rw[hc]
    simp only[beq_self_eq_true,if_true,this,pure_bind];exact e
   ·by_cases hx:x=n
    ·subst hx;exact a2 x c (by simp[UT])
    ·exact a2 x c' (by rw[UT,show (x==n)=false from by simpa using hx];exact q)
   ·rw[UT] at q;split at q
    ·rename_i hx;exact a2 x c (by rw[UT,hx])
    ·exact a3 x q
  ·obtain⟨cl,e,a1,a2,a3⟩:=lF r M2 (λy hy=>h1 y (Tf _ hy)) h2;refine⟨cl,?_,a1,a2,λx q=>?_⟩
   ·rw[WY];have:((k==Zk)=true)=False:=by simpa using hk
    simp only[this,if_false,pure_bind];exact e
   ·rw[UT] at q;split at q
    ·cases q;exact Zp rfl hk
    ·exact a3 x q
def lG{scope:Scope}(h:∀y∈scope.names,y.2= .free->∃c,env.cells.lookup y.1=some c):
 ∃cl,closureFor scope env=pure cl/\(∀x c,cl.lookup x=some c->env.cells.lookup x=some c)/\(∀x,scope.names.lookup x=some .free->∃c,cl.lookup x=some c):=by
 obtain⟨cl,e,a1,_,a3⟩:=lF scope.names [] h (λx c q=>by simp at q);refine⟨cl,?_,a1,a3⟩;unfold closureFor;show (forIn scope.names [] _>>=λr=>pure r)=_;rw[bind_pure];exact e
def noex:M α->M α
 |some (.ok a)=>some (.ok a)
 |_=>none
def dG(f:D->M (Option D)):List D->M (List D)
 |[]=>aa []
 |d::ds=>f d>>=λo=>dG f ds>>=λr=>aa (match o with | some y=>y::r | none=>r)
def Q1(n:Nat):D->M (List D):=λd=>match n,d with
 |0,d=>aa [d]
 |n, .tup ds=>if ds.length=n then aa ds else af
 |_,_=>af
def ie(n:Nat)(δt:DT)(δe:DE)(ρ:aM):D->M (Option D):=λd=>
 Q1 n d>>=λts=>δt (ts.map (λt=>some (Sl.fz t))++ρ)>>=λb=>if b then δe (ts.map (λt=>some (Sl.fz t))++ρ)>>=λy=>aa (some y) else aa none
def bj(n:Nat)(δi:DA)(δt:DT)(δe:DE):DE:=λρ=>δi ρ>>=λds=>noex (dG (ie n δt δe ρ) ds)>>=gw
def bI:DT:=λ_=>aa true
def eZ(f:D->M (Option D))(d:D)(ds:List D):dG f (d::ds)=(f d>>=λo=>dG f ds>>=λr=>aa (match o with | some y=>y::r | none=>r)):=rfl
def y8(hd:ds[i]? =some d)
 (h:dG f ds=(dG f (ds.drop i)>>=λr=>aa (ys++r)))(hR:dG f ds=aa R):
 ∃o,f d=aa o/\dG f ds=(dG f (ds.drop (i+1))>>=λr=>aa ((match o with | some y=>ys++[y] | none=>ys)++r)):=by
 have e:ds.drop i=d::ds.drop (i+1):=by
  obtain⟨hi,e⟩:=To.mp hd;rw[VD hi,e]
 rw[e,eZ] at h;have h':=h.symm.trans hR;obtain⟨r,h1,h2⟩:=cZ h';obtain⟨o,h3,h4⟩:=cZ h1;refine⟨o,h3,?_⟩;obtain⟨r',h5,h6⟩:=cZ h4;rw[h5,hR];rw[<-h2,<-dX h6];show aa _=aa _;cases o with
 |none=>rfl
 |some y=>simp
def tm(I:Nat->Tp->Prop)
 (turn:∀n s,I n s->wpAny (model prog w) A (YV it) (λr T0=>match r with
  |none=>R (.ok .next) T0
  |some v=>wpAny (model prog w) A (Xm target it v) (λ_ QZ=>wpAny (model prog w) A (assign target env v) (λ_ v4=>
    wpAny (model prog w) A (forIn ifs true λc r=>if r=true then do let ok<-isTrue c env (eval c env);pure (UB ok) else pure (UB r)) (λok Zz=>
     if ok=true then wpAny (model prog w) A (eval ZA env) (λx ZF=>
      wpAny (model prog w) A (call (.builtin "list.append") [M2,x]) (λ_ ZK=>∃m,m<n/\I m ZK) (Y6 (model prog w) A env λe s'=>R (.error e) s') ZF) (Y6 (model prog w) A env λe s'=>R (.error e) s') Zz
     else∃m,m<n/\I m Zz) (Y6 (model prog w) A env λe s'=>R (.error e) s') v4) (Y6 (model prog w) A env λe s'=>R (.error e) s') QZ) (Y6 (model prog w) A env λe s'=>R (.error e) s') T0) (Y6 (model prog w) A env λe s'=>R (.error e) s') s)
 (n:Nat) (h:I n s):
 W2 (model prog w) A (.compLoop (.ListComp ZA [⟨target,iter,ifs,0⟩] scope pos) 0 it M2 env) R s:=by
 refine codeAny_loop rfl I (λn s hI=>?_) n h;show wpAny _ A ((compTurn (.ListComp ZA [⟨target,iter,ifs,0⟩] scope pos) 0 it M2 env).onRaise (λx=>do noteFrame x env;theTreesLotGoes x)) _ _ s;refine wpAny_noted ?_;rw[compTurn_list];refine Td (wpAny_standAt (Td (UO (turn n s hI) (λr T0 Zy=>?_) λ_ _ h'=>h')));cases r with
 |none=>exact Tu Zy
 |some v=>
  refine Td (UO Zy (λ_ QZ Zy=>?_) λ_ _ h'=>h');refine Td (UO Zy (λ_ v4 ZG=>Td (UO ZG (λok Zz ZL=>?_) λ_ _ h'=>h')) λ_ _ h'=>h');cases ok with
  |false=>exact Tu ⟨rfl,ZL⟩
  |true=>
   exact Td (Td (UO ZL (λx ZF ZM=>Td (UO ZM (λ_ ZK ZN=>Tu (Tu ⟨rfl,ZN⟩)) λ_ _ h'=>h')) λ_ _ h'=>h'))
def wI(X:Cx)(tg:Expr)(n:Nat)(σ:St):Prop:=∀(f8:List (Addr×Obj)) (s:Tp) (σ':St) (F H:Hp) (d:D) (ts:List D) (v:V) (u:Value),Inv X f8 σ' H s->Same F H->σ'.drop (max n 1)=σ->RelV v u->Den X.K F d v->Q1 n d=aa ts->∀[Tk s],
 wpAny (model X.prog X.w) X.A (assign tg X.env u) (λ_ s'=>∃vs,Inv X f8 (vs.map some++σ) H s'/\DenL X.K F ts vs) X.xe s
def lA(X:Cx)(ifs:List Expr)(δt:DT):Prop:=∀(f8:List (Addr×Obj)) (s:Tp) (σ:St) (H:Hp) (Q:Bool->Hp->Prop),Inv X f8 σ H s->PU X.K (λ_ _=>False) δt σ H Q->∀[Tk s],
 wpAny (model X.prog X.w) X.A (forIn ifs true λc r=>if r=true then do let ok<-isTrue c X.env (eval c X.env);pure (UB ok) else pure (UB r)) (TP X f8 σ Q) X.xe s
def cI:lA X [] bI:=λf8 s σ H Q I ⟨F,ρ,S,w⟩=>wpAny_tests_nil ⟨H,I,w H F (Ext.refl S.fh)⟩
def yD(h:sV X (λ_ _=>False) c δ):lA X [c] δ:=λf8 s σ H Q I w=>wpAny_tests_one (h f8 s σ H Q I w)
def StE.cons{K:Ti}(s:StE K F H σ ρ)(h:DenL K F ts vs):StE K F H (vs.map some++σ) (ts.map (λt=>some (Sl.fz t))++ρ):=by
 refine⟨s.fh,λi sl e=>?_⟩;have hl:=h.len;by_cases hi:i<ts.length
 ·rw[TF (by simpa using hi),Tx] at e;cases q:ts[i]? with
  |none=>rw[q] at e;cases e
  |some t=>
   rw[q] at e;cases e;obtain⟨v,e1,e2⟩:=h.get q;exact⟨v,by rw[TF (by simp;omega),Tx,e1];rfl,e2⟩
 ·rw[TR (by simpa using hi)] at e;obtain⟨v,e1,e2⟩:=s.den _ _ e;refine⟨v,?_,e2⟩;rw[TR (by simp;omega)];simpa[hl] using e1
def WPB.take:WPB Xw F H (aa b) λb' H'=>b'=b/\∃F',Ext F H F' H':=λH' F' e=>⟨rfl,F',e⟩
def WP.take{K:Ti}:WP K Xw F H (aa d) λv H'=>∃F',Ext F H F' H'/\Den K F' d v:=λv H' F' e q=>⟨F',e,q⟩
def nN(env:Env)(p:Str×WK):Str×WK:=if (p.2== .free&&env.scope.kind== .function&&env.kindOf p.1==some .cell) then(p.1, .cell) else(p.1,p.2)
def g9(scope:Scope)(env:Env):(relabel scope env).names=scope.names.map (nN env):=rfl
def Ff(env:Env)(p:Str×WK):(nN env p).1=p.1:=by unfold nN;split<;>rfl
theorem iY(env:Env)(x:Str):∀ns:List (Str×WK),(ns.map (nN env)).lookup x=(ns.lookup x).map λk=>(nN env (x,k)).2
 |[]=>rfl
 |(m,k)::r=>by
  rw[Ts,UT,UT];have e:nN env (m,k)=(m,(nN env (m,k)).2):=XY (Ff env (m,k)) rfl;rw[e]
  dsimp only
  by_cases hx:(x==m)=true
  ·have hm:x=m:=by simpa using hx
   subst hm;rw[hx];rfl
  ·have hx:(x==m)=false:=by simpa using hx
   rw[hx];exact iY env x r
def mP(h:scope.names.lookup x=none):(relabel scope env).names.lookup x=none:=by
 rw[g9,iY,h];rfl
def mN(hc:∀y∈scope.names,y.2≠ .cell)(h:(relabel scope env).names.lookup x=some .cell\/(relabel scope env).names.lookup x=some .free):scope.names.lookup x=some .free:=by
 rw[g9,iY] at h;cases q:scope.names.lookup x with
 |none=>rw[q] at h;rcases h with h | h<;>cases h
 |some k=>
  rw[q] at h;have hk:k≠ .cell:=hc _ (UY q);have h:(nN env (x,k)).2= .cell\/(nN env (x,k)).2= .free:=by simpa using h
  by_cases hf:k= .free
  ·rw[hf]
  ·have:(nN env (x,k)).2=k:=by
    unfold nN;rw[Zo];simp[hf]
   rw[this] at h;rcases h with h | h
   ·exact Zp h hk
   ·exact Zp h hf
def iB(h:scope.names.lookup x=some .free):¬(relabel scope env).names.lookup x=some .local:=by
 rw[g9,iY,h];intro z;have z:(nN env (x, .free)).2= .local:=by simpa using z
 unfold nN at z;split at z<;>cases z
structure BlockEnd (X:Cx) (f8:List (Addr×Obj)) (C:Addr) (H':Hp) (s1:Tp):Prop where
 ns:∃m,s1.heap.Ns C m
 free:H' C=none
 nl:C≠X.env.locals
 nw:X.ZR.heap.objs.size<=C
 nc:∀x c,X.env.cells.lookup x=some c->c≠C
 np:∀p∈X.pn++f8,p.1≠C
def xb{RR:Value->Addr->Result->Tp->Prop}
 (sc:CompSc X scope tn)(hn:tn.length=max n 1)(hc:X.calm=true)(hi:wG X Xw tg iter δi)
 (hg:∀f8 cl C fp v4 H σ,wI (gj X scope tn f8 cl C fp v4 H) tg n σ)
 (ht:∀f8 cl C fp v4 H,lA (gj X scope tn f8 cl C fp v4 H) ifs δt)
 (he:∀f8 cl C fp v4 H,PD (gj X scope tn f8 cl C fp v4 H) (λ_ _=>False) ZA δe)
 (I:Inv X f8 σ H s)[Tk s](S:StE X.K F H σ ρ)(w:WP X.K Xw F H (bj n δi δt δe ρ) Q)
 (sx:∀x c,cl.lookup x=some c->X.env.cells.lookup x=some c)(Dq:∀x,scope.names.lookup x=some .free->∃c,cl.lookup x=some c)
 (Ow:∀(s1:Tp) (C D:Addr) (H':Hp),Inv X f8 σ H' s1->Q (.ref D) H'->BlockEnd X f8 C H' s1->RR (.ref D) C (.ok .next) s1):
 wpAny (model X.prog X.w) X.A (eval iter X.env) (λx T0=>wpAny (model X.prog X.w) X.A (pyIter x) (λit v4=>wpAny (model X.prog X.w) X.A (newList []) (λM2 Zz=>
  wpAny (model X.prog X.w) X.A (newFunctionEnv scope X.env.globals cl [] X.env.qual none .none (some X.env)) (λDm ZF=>
   W2 (model X.prog X.w) X.A (.compStart (.ListComp ZA [⟨tg,iter,ifs,0⟩] scope pos) 0 it M2 {Dm with scope:=relabel scope X.env}) (RR M2 Dm.locals) ZF) X.xe Zz) X.xe v4) X.xe T0) X.xe s:=by
 refine bQ (hi f8 s σ H (λJ H2=>∃F2 ds,Ext F H F2 H2/\ItD X.K F2 J ds/\WP X.K Xw F2 H2 (noex (dG (ie n δt δe ρ) ds)>>=gw) Q) I ⟨F,ρ,S,?_⟩) λxv T0 Zy _=>bQ Zy λit v4 ZG _=>?_
 ·unfold bj at w;rcases(δi ρ).cs with hq | ⟨m,hq⟩ | ⟨ds,hq⟩
  ·rw[hq] at w;exact w.elim
  ·rw[hq] at w⊢;exact w
  ·rw[hq] at w⊢;exact λJ H' F' e q=>⟨F',ds,e,q,WP.ext e w⟩
 obtain⟨ia,fp,M8,J,H2,rfl,I2,T,HY,f2,F2,ds,e2,Mg,w2⟩:=ZG;obtain⟨R,hR,Nu,w2⟩:∃R,dG (ie n δt δe ρ) ds=aa R/\R.length<=lim/\WP X.K Xw F2 H2 (aa (.lst R)) Q:=by
  rcases(dG (ie n δt δe ρ) ds).cs with hq | ⟨m,hq⟩ | ⟨R,hq⟩
  ·rw[hq] at w2;exact w2.elim
  ·rw[hq] at w2;exact w2.elim
  ·rw[hq] at w2;obtain⟨h1,h2⟩:=zH (show WP X.K Xw F2 H2 (gw R) Q from w2);exact⟨R,hq,h1,h2⟩
 refine U3 (wpAny_newFunctionEnv sc.nocell (by intro y hy;simp at hy) (λZy zp uV=>?_) sc.kind)
 dsimp only at zp uV⊢
 generalize JB:v4.heap.push {cls:= .type "list",dict:=none,data:= .seq ([]:List Value).toArray}=HL at zp uV⊢;have hC:HL.objs.size=v4.heap.objs.size+1:=by rw[<-JB,Xd]
 have nh:v4.heap.objs.size<HL.objs.size:=by rw[hC];exact VI _
 have old:∀b o,v4.heap.get? b=some o->Zy.get? b=some o:=λb o e=>uV.extBut b o (T1 (UK (TJ e) nh)) (Tj _ (JB▸Tj _ e));have zl:Zy.get? v4.heap.objs.size=some {cls:= .type "list",data:= .seq ([]:List Value).toArray}:=uV.extBut _ _ (T1 nh) (Tj _ (JB▸TM _ rfl));have nD:H2 v4.heap.objs.size=none:=I2.hok.fresh (Tr _);have nC:H2 HL.objs.size=none:=I2.hok.fresh (U6 nh);have gC:v4.heap.get? HL.objs.size=none:=Xa (U6 nh);have fl:∀b∈fp,b<v4.heap.objs.size:=λb hb=>by
  obtain⟨o,e,_⟩:=T.obj 0 _ HY b hb;exact TJ e
 generalize kH:gj X scope tn f8 cl HL.objs.size fp v4 H2=X';have Mw:X'.Ok:=by
  subst kH;refine⟨I2.ok.mod,sc.kind,I2.ok.glob,I2.ok.blt,U6 nh,λx y c h1 h2=>I2.ok.inj x y c (sx _ _ h1) (sx _ _ h2),λx hx=>?_,λ_ _ h=>(by cases h),I2.ok.hd,I2.ok.frames, .inl rfl,
   λb hb=>⟨T1 (UK (fl b hb) nh),λx c h=>(f2 b hb).2.2.2.2.1 x c (sx _ _ h)⟩,I2.bs,T2 I2.ok.bsz I2.sz,λb o e hb=>?_,λb hb z=>?_,I2.stack,I2.stkFree⟩
  ·have hx:(relabel scope X.env).names.lookup x=some .cell\/(relabel scope X.env).names.lookup x=some .free:=hx;exact Dq x (mN sc.nocell hx)
  ·rcases(f2 b hb).2.2.2.1 with z | z
   ·exact I2.ok.noex b o e z
   ·exact Zp (T8 (TJ (I2.ok.bs b o e).1) z) (Uv _)
  ·rcases Tz.mp (I2.stkSub b z) with q | q
   ·exact(f2 b hb).2.1 q
   ·exact(f2 b hb).2.2.1 q
 have NO:∀b o,H2 b=some o->b≠v4.heap.objs.size:=λb o e=>b5 e nD;have zf:∀{H':Hp},(∀b∈fp,H' b=none)->∀b∈fp,uy X' [] H' b:=λOW b hb=>by
  subst kH;refine⟨OW b hb,T1 (UK (fl b hb) nh),λz=>Mw.exfs b hb z, .inl hb,λx c h=>(f2 b hb).2.2.2.2.1 x c (sx _ _ h),λp hp=>?_⟩;rw[T_] at hp;exact(f2 b hb).2.2.2.2.2 p hp
 have I0:Inv X' [] (TH (max n 1) none++σ) (upd H2 v4.heap.objs.size (.lst [])) {v4 with heap:=Zy,toks:=v4.toks+([]:List (Str×Value)).length}:=by
  subst kH;have JL:HOk X.prog X.w (upd H2 v4.heap.objs.size (.lst [])) Zy:=I2.hok.laid old (Tr _) ⟨Ur _,[],_, .nil,zl⟩;refine⟨Mw,rfl,I2.bare,Un.laid old (Tr _) nD,⟨_,zp,λi x v h1 h2 h3=>?_⟩,λx c h=>?_,?_,λx c h=>?_,λp hp=>?_,JL,?_⟩
  ·by_cases hi:i<max n 1
   ·rw[TF (by simpa using hi),Um,Zn hi] at h2;cases h2
   ·have IL:tn.length<=i:=by omega
    have h1:(tn++bY tn X.N)[i]? =some x:=h1;rw[TR IL] at h1;rw[TR (by simpa using hi),U1,<-hn] at h2;have hN:∃y,X.N[i - tn.length]? =some y/\(x,y)∈(bY tn X.N).zip X.N:=by
     have iL:=(To.mp h1).1;have D6:i - tn.length<X.N.length:=by simpa[bY] using iL
     refine⟨X.N[i - tn.length],Tg D6,?_⟩;refine YJ.mpr ⟨i - tn.length,?_⟩;rw[Yo];exact⟨h1,Tg D6⟩
    obtain⟨y,hy,hm⟩:=hN;have hV:(relabel scope X.env).names.lookup x=some .local\/(relabel scope X.env).names.lookup x=some .cell\/(relabel scope X.env).names.lookup x=some .free:=h3;rcases sc.vis _ hm with nj | ⟨JQ,AJ⟩
    ·have nj:scope.names.lookup x=none:=nj;have:(relabel scope X.env).names.lookup x=none:=mP nj;rw[this] at hV;rcases hV with z | z | z<;>cases z
    ·have JQ:x=y:=JQ;subst JQ;have AJ:scope.names.lookup x=some .free:=AJ;have hk:=sc.frees (x, .free) (UY AJ) rfl;obtain⟨m,La,Ga⟩:=I2.loc;obtain⟨u,ru,lk⟩:=Ga _ x v hy h2 (by rcases hk with z | z;exact .inr (.inl z);exact .inr (.inr z));refine⟨u,ru, .inr ⟨?_,?_⟩⟩
     ·rcases hV with z | z | z
      ·exact Zp z (iB AJ)
      ·exact .inl z
      ·exact .inr z
     ·rcases lk with⟨z,_⟩ | ⟨_,c,OA,GO⟩
      ·rcases hk with q | q
       ·rw[show X.env.kindOf x=some .local from z] at q;cases q
       ·rw[show X.env.kindOf x=some .local from z] at q;cases q
      ·obtain⟨c',zo⟩:=Dq x AJ;have:=sx _ _ zo;rw[OA] at this;cases this;obtain⟨o,ho,hd⟩:=GO;exact⟨c,zo,o,old _ _ ho,hd⟩
  ·obtain⟨v,o,ho,hd⟩:=I2.cell x c (sx _ _ h);exact⟨v,o,old _ _ ho,hd⟩
  ·show upd H2 v4.heap.objs.size (.lst []) HL.objs.size=none;rw[aj (V2 nh)];exact nC
  ·have LP:=sx _ _ h;obtain⟨v,q⟩:=I2.cell x c LP;rw[aj (T1 q.lt)];exact I2.freeC x c LP
  ·rw[T_] at hp;obtain⟨e,nn,ne,nf,d⟩:=I2.pin p hp;have iL:=TJ e;refine⟨old _ _ e,by rw[aj (T1 iL)];exact nn,T1 (UK iL nh),λz=>?_,d⟩;rcases Tz.mp (I2.stkSub p.1 z) with q | q
   ·exact ne q
   ·exact nf q
  ·show (TH (max n 1) none++σ).length=(tn++bY tn X.N).length;rw[Tt,Tt,U1,hn,show (bY tn X.N).length=X.N.length from by simp[bY],I2.len]
 have loop:∀Zz:Tp,Zz={v4 with heap:=Zy,toks:=v4.toks+([]:List (Str×Value)).length}->
  W2 (model X.prog X.w) X.A (.compLoop (.ListComp ZA [⟨tg,iter,ifs,0⟩] scope pos) 0 (.ref ia) (.ref v4.heap.objs.size) (Y7 scope cl HL.objs.size X.env))
   (RR (.ref v4.heap.objs.size) HL.objs.size) Zz:=by
  intro Zz O7;have qk:X'.env=Y7 scope cl HL.objs.size X.env:=by subst kH;rfl
  have hA:X'.A=X.A:=by subst kH;rfl
  have hP:X'.prog=X.prog:=by subst kH;rfl
  have hw:X'.w=X.w:=by subst kH;rfl
  have hK:X'.K=X.K:=by subst kH;rfl
  have Pa:X'.xe=λ_ _=>False:=by subst kH;rfl
  have xq:X'.calm=true:=by subst kH;exact hc
  have OI:X'.fs=o9 X.stack:=by subst kH;rfl
  have hex:X'.ex=fp:=by subst kH;rfl
  have Oq:X'.ZQ=H2:=by subst kH;rfl
  have L8:X'.ZR=v4:=by subst kH;rfl
  have pass:∀{α:Type}{t:Sem α}{P:α->Tp->Prop}{E':Value->Tp->Prop}{s:Tp},wpAny (model X'.prog X'.w) X'.A t P X'.xe s->wpAny (model X.prog X.w) X.A t P E' s:=λ{α t P E' s} h=>by
   rw[hP,hw,hA,Pa] at h;exact UO h (λ_ _ q=>q) λ_ _ q=>q.elim
  refine tm (λm s'=>Tk s'/\∃(i:Nat) (F' H':Hp) (vs:List V) (ys:List D) (σt:St),m=ds.length - i/\i<=ds.length/\σt.length=max n 1/\Inv X' [] (σt++σ) H' s'/\M8 i s'.heap/\(∀b∈fp,H' b=none)/\Ext F2 H2 F' H'/\
   H' v4.heap.objs.size=some (.lst vs)/\F' v4.heap.objs.size=none/\DenL X.K F' ys vs/\dG (ie n δt δe ρ) ds=(dG (ie n δt δe ρ) (ds.drop i)>>=λr=>aa (ys++r))) ?_ ds.length ?_
  ·rintro m s' ⟨SJ,i,F',H',vs,ys,σt,rfl,JH,Pc,I',mV,LH,zd,hD,fD,IU,heq⟩;by_cases iL:i<ds.length
   ·
    obtain⟨d,hd⟩:∃d,ds[i]? =some d:=⟨_,Tg iL⟩
    obtain⟨JG,zr⟩:=(Mg F' H' i zd.ff zd.fh).1 d hd;obtain⟨o,ho,LR⟩:=y8 hd heq hR;have JR:ys.length<=lim:=by
     rw[heq] at hR;obtain⟨r,_,hr⟩:=cZ hR;rw[<-dX hr,Tt] at Nu;omega
    obtain⟨ts,R_,ho⟩:=cZ ho;refine pass ?_;rw[hP,hw];refine bQ (T.item X' hP hw hK xq i [] s' (σt++σ) H' X'.xe I' (zf LH) mV JG) ?_;rintro r s1 ⟨u,rfl,h1⟩ _;refine pass ?_;rw[hP,hw];refine bQ h1 ?_;rintro _ s2 ⟨x,H3,I3,rx,y3,Gd,K8⟩ _;obtain⟨F3,wy,q3⟩:=zr x H3 y3;have LJ:H3 v4.heap.objs.size=some (.lst vs):=wy.hh _ _ hD;have Of:F3 v4.heap.objs.size=none:=by rw[wy.old hD (λ_ z=>nomatch z)];exact fD
    have I3':=I3.pinned (zf K8) (T.obj _ _ Gd);have qA:∀{σ7:St}{H7:Hp}{s7:Tp},Inv X' ([]++nI fp s2.heap) σ7 H7 s7->M8 (i+1) s7.heap/\∀b∈fp,H7 b=none:=λ{σ7 H7 s7} I7=>
     ⟨T.keep _ _ _ Gd λb hb o e=>(I7.pin (b,o) (TL _ (TL _ (e_ hb e)))).1,λb hb=>by
      obtain⟨o,e,_⟩:=T.obj _ _ Gd b hb;exact(I7.pin (b,o) (TL _ (TL _ (e_ hb e)))).2.1⟩
    have OJ:wI X' tg n σ:=by subst kH;exact hg _ _ _ _ _ _ _
    have O8:lA X' ifs δt:=by subst kH;exact ht _ _ _ _ _ _
    have OF:PD X' (λ_ _=>False) ZA δe:=by subst kH;exact he _ _ _ _ _ _
    refine pass ?_;rw[<-qk];refine bQ (OJ _ s2 (σt++σ) F3 H3 d ts x u I3' wy.fh (by rw[<-Pc];simp) rx (by rw[hK];exact q3) R_) ?_;rintro _ s4 ⟨vt,I4,dt⟩ _;rw[hK] at dt;have S4:StE X.K F3 H3 (vt.map some++σ) (ts.map (λt=>some (Sl.fz t))++ρ):=StE.cons ((S.ext e2).ext (zd.trans wy)) dt;obtain⟨b,hb,ho⟩:=cZ ho;refine pass ?_
    try rw[<-qk]
    refine bQ (O8 _ s4 _ H3 (λb' H5=>b'=b/\∃F5,Ext F3 H3 F5 H5) I4 ⟨F3,_,by rw[hK];exact S4,by rw[hb];exact WPB.take⟩) ?_;rintro b' s5 ⟨H5,I5,rfl,F5,C5⟩ _;have Nq:H5 v4.heap.objs.size=some (.lst vs):=C5.hh _ _ LJ;have LA:F5 v4.heap.objs.size=none:=by rw[C5.old LJ (λ_ z=>nomatch z)];exact Of
    cases b' with
    |false=>
     rw[Zo T6] at ho⊢;obtain rfl:=dX ho;refine⟨ds.length - (i+1),by omega,inferInstance,i+1,F5,H5,vs,ys,vt.map some,rfl,iL,?_,I5.unpinned,(qA I5).1,(qA I5).2,zd.trans (wy.trans C5),Nq,LA,DenL.mono (wy.trans C5).ff IU,LR⟩;have h1:=I5.len;have h2:=I3.len;rw[Tt] at h1 h2;omega
    |true=>
     rw[Zn rfl] at ho⊢;obtain⟨yv,hy,ho⟩:=cZ ho;obtain rfl:=dX ho;refine pass ?_
     try rw[<-qk]
     refine bQ (OF _ s5 _ H5 (λv H6=>∃F6,Ext F5 H5 F6 H6/\Den X.K F6 yv v) I5 ⟨F5,_,by rw[hK];exact S4.ext C5,by rw[hy,hK];exact WP.take⟩) ?_;rintro xv s6 ⟨v,H6,I6,rv,F6,Np,qv⟩ _;have Om:H6 v4.heap.objs.size=some (.lst vs):=Np.hh _ _ Nq;have LB:F6 v4.heap.objs.size=none:=by rw[Np.old Nq (λ_ z=>nomatch z)];exact LA
     have O_:vs.length<TK:=by
      have:=IU.len;have:=dH;omega
     refine pass ?_;refine bQ (kN _ s6 _ H6 (.ref v4.heap.objs.size) [v] (.ref v4.heap.objs.size) [xv] (λ_ H7=>H7=upd H6 v4.heap.objs.size (.lst (vs++[v]))) I6 rfl (.cons rv .nil) ⟨_,vs,v,rfl,rfl,Om,O_,rfl⟩) ?_;rintro _ s7 ⟨_,H7,I7,_,rfl⟩ _;have Rf:Ext F2 H2 F6 (upd H6 v4.heap.objs.size (.lst (vs++[v]))):=by
      have e:=zd.trans (wy.trans (C5.trans Np));refine⟨λb u q=>?_,e.ff,λb u q=>?_,e.new⟩
      ·rw[aj (NO b u q)];exact e.hh b u q
      ·rw[aj (λz=>by rw[z,LB] at q;cases q)];exact e.fh b u q
     refine⟨ds.length - (i+1),by omega,inferInstance,i+1,F6,_,vs++[v],ys++[yv],vt.map some,rfl,iL,?_,I7.unpinned,(qA I7).1,(qA I7).2,Rf,ar,LB,
      DenL.append (DenL.mono (wy.trans (C5.trans Np)).ff IU) (.cons qv .nil),LR⟩
     have h1:=I5.len;have h2:=I3.len;rw[Tt] at h1 h2;omega
   ·
    have hi:i=ds.length:=by omega
    subst hi;rw[WQ] at heq;have Rt:R=ys:=by
     rw[heq] at hR;have hR:aa (ys++[])=aa R:=hR;rw[<-dX hR,T_]
    subst Rt;refine pass ?_;rw[hP,hw];refine bQ (T.done X' hP hw hK xq ds.length [] s' (σt++σ) H' X'.xe I' (zf LH) mV ((Mg F' H' ds.length zd.ff zd.fh).2 (Tr _))) ?_;rintro r s1 ⟨rfl,I1⟩ _;obtain⟨m,hm,_⟩:=I1.loc;rw[qk] at hm;have Ol:H' HL.objs.size=none:=by
     have:=I1.free;rw[qk] at this;exact this
    have u:=I1.base;rw[OI,hex,Oq,L8] at u;have B6:s1.os=v4.os:=by have:=I1.os;rw[L8] at this;exact this
    have D4:=I1.hok;rw[hP,hw] at D4;refine Ow s1 HL.objs.size v4.heap.objs.size H' (I2.call' B6 u D4 I1.bare (λb hb=>⟨(f2 b hb).2.2.2.1,(f2 b hb).2.1,(f2 b hb).2.2.2.2.1,(f2 b hb).2.2.2.2.2⟩)) ?_
     ⟨⟨m,hm⟩,Ol,V2 (UK I2.lt nh),T2 I2.sz (U6 nh),λx c q z=>?_,λp hp z=>?_⟩
    rotate_left
    ·obtain⟨v,q'⟩:=I2.cell x c q;exact Zp (UK q'.lt nh) (by rw[z];exact Uv _)
    ·exact Zp (UK (TJ (I2.pin p hp).1) nh) (by rw[z];exact Uv _)
    refine WP.fin w2 (F':=upd F' v4.heap.objs.size (.lst vs)) ⟨zd.hh,λb u q=>?_,λb u q=>?_,λa ha=>?_⟩ ⟨_,vs,rfl,ar,DenL.mono (λb u q=>?_) IU,Nu⟩
    ·rw[aj (λz=>by have:=zd.ff b u q;rw[z,fD] at this;cases this)];exact zd.ff b u q
    ·by_cases z:b=v4.heap.objs.size
     ·rw[z,ar] at q;rw[z,hD];exact q
     ·rw[aj z] at q;exact zd.fh b u q
    ·rcases zd.new a ha with q | q
     ·exact .inl (by rw[aj (λz=>ha (by rw[z];exact nD))];exact q)
     ·exact .inr q
    ·rw[aj (λz=>by rw[z,fD] at q;cases q)];exact q
  ·rw[O7];refine⟨⟨(inferInstance:Tk v4).le⟩,0,F2,_,[],[],TH (max n 1) none,by simp,Ur _,by simp,I0,T.keep _ _ _ HY (λb hb o e=>old b o e),λb hb=>?_,⟨λb u q=>?_,Same.refl _,λb u q=>?_,λ_ _=> .inl rfl⟩,ar,Same.free e2.fh nD,rfl,?_⟩
   ·rw[aj (T1 (fl b hb))];exact(f2 b hb).1
   ·rw[aj (NO b u q)];exact q
   ·rw[aj (NO b u (e2.fh b u q))];exact e2.fh b u q
   ·rw[Xc];rcases(dG (ie n δt δe ρ) ds).cs with hq | ⟨m,hq⟩ | ⟨R,hq⟩<;>rw[hq]<;>rfl
 exact Zh (loop _ rfl) (T.self X.A 0 _ _ _ (T.keep _ _ _ HY (λb hb o e=>old b o e)) (loop _ rfl))
def Inv.block{C:Addr}(I:Inv X f8 σ H' s1)(b:BlockEnd X f8 C H' s1)(JP:Vw C s1.heap h'):Inv X f8 σ H' {s1 with heap:=h'}:=
 I.turned (λa o ha e=>(JP.2 a ha).trans e) b.free b.nl (.inr b.nw) b.nc b.np
section
variable{X:Cx}{Xw:Nat->Hp->Prop}{ZA iter tg:Expr}{ifs:List Expr}{scope:Scope}{pos:Pos}{tn:List Str}{n:Nat}{δi:DA}{δt:DT}{δe:DE}
def eN(sc:CompSc X scope tn)(hn:tn.length=max n 1)(hc:X.calm=true)(hi:wG X Xw tg iter δi)
 (hg:∀f8 cl C fp v4 H σ,wI (gj X scope tn f8 cl C fp v4 H) tg n σ)
 (ht:∀f8 cl C fp v4 H,lA (gj X scope tn f8 cl C fp v4 H) ifs δt)
 (he:∀f8 cl C fp v4 H,PD (gj X scope tn f8 cl C fp v4 H) (λ_ _=>False) ZA δe)
 (hs:∀x,VF iter X.env x=pure x:=by intro _;rfl):
 PD X Xw (.ListComp ZA [⟨tg,iter,ifs,0⟩] scope pos) (bj n δi δt δe):=by
 intro f8 s σ H Q I ⟨F,ρ,S,w⟩ _;obtain⟨cl,xt,sx,Dq⟩:=lG λy hy hf=>I.ok.has y.1 (sc.frees y hy hf);rw[eval_ListComp];refine WT rfl hs xt sc.kind sc.names (xb (RR:=λM2 C=>compPost (model X.prog X.w) X.A X.xe none (EP X f8 σ Q) M2 C) sc hn hc hi hg ht he I S w sx Dq λs1 C D H' I1 q b=>?_);obtain⟨m,hm⟩:=b.ns;exact⟨m,hm,λh' JP=>⟨.ref D,H',Inv.block I1 b JP,rfl,q⟩⟩
end
inductive Out where
 |nx (ρ:aM) | rt (d:D)
abbrev DS:=aM->M Out
structure StOk (K:Ti) (u8 ZQ F H:Hp) (σ:St) (ρ:aM):Prop where
 ext:Ext u8 ZQ F H
 st:StE K F H σ ρ
 len:ρ.length=σ.length
 own:∀(i:Nat) (c:C) (a:Addr),ρ[i]? =some (some (.ow c))->σ[i]? =some (some (.ref a))->ZQ a=none
 sep:∀(i j:Nat) (sl fG:Sl) (v v':V) (b:Addr),ρ[i]? =some (some sl)->ρ[j]? =some (some fG)->σ[i]? =some (some v)->σ[j]? =some (some v')->b∈sl.foot H v->b∈fG.foot H v'->i=j
def WPS(K:Ti)(Xw:Nat->Hp->Prop)(u8 ZQ:Hp)(m:M Out)(Dn:Ends):Prop:=
 match m with
 |none=>False
 |some (.ok (.nx ρ))=>∀σ F H,StOk K u8 ZQ F H σ ρ->Dn.nx σ H
 |some (.ok (.rt d))=>∀v F H,Ext u8 ZQ F H->Den K F d v->Dn.rt v H
 |some (.ex n)=>∀F H,Ext u8 ZQ F H->Xw n H
def tS(K:Ti)(Xw:Nat->Hp->Prop)(u8 ZQ:Hp)(τ:DS):TS:=λDn σ H=>∃F ρ,StOk K u8 ZQ F H σ ρ/\WPS K Xw u8 ZQ (τ ρ) Dn
def pJ(X:Cx)(Xw:Nat->Hp->Prop)(st:Stmt)(τ:DS):Prop:=∀u8 ZQ,PS X st (tS X.K Xw u8 ZQ τ)
def PSDs(X:Cx)(Xw:Nat->Hp->Prop)(st:List Stmt)(τ:DS):Prop:=∀u8 ZQ,PSs X st (tS X.K Xw u8 ZQ τ)
def PS.weak{st:Stmt}(h:PS X st t)(k:∀D σ H,t' D σ H->t D σ H):PS X st t':=λf8 s σ H D I w=>h f8 s σ H D I (k D σ H w)
def PSs.weak{st:List Stmt}(h:PSs X st t)(k:∀D σ H,t' D σ H->t D σ H):PSs X st t':=λf8 s σ H D I w=>h f8 s σ H D I (k D σ H w)
section
variable{K:Ti}{u8 ZQ F H F' H':Hp}{σ:St}{ρ:aM}
def StOk.foot(s:StOk K u8 ZQ F H σ ρ){i:Nat}{sl:Sl}{v:V}(h:ρ[i]? =some (some sl))(hv:σ[i]? =some (some v)):DenO K F H sl v:=by
 obtain⟨u,h1,h2⟩:=s.st.den i sl h;rw[hv] at h1;cases h1;exact h2
theorem StOk.ext'(s:StOk K u8 ZQ F H σ ρ)(e:Ext F H F' H'):StOk K u8 ZQ F' H' σ ρ:=by
 have k:∀{i:Nat}{sl:Sl}{v:V},ρ[i]? =some (some sl)->σ[i]? =some (some v)->sl.foot H' v=sl.foot H v:=λh1 h2=>((s.foot h1 h2).ext' e).2;exact⟨s.ext.trans e,s.st.ext e,s.len,s.own,λi j sl fG v v' b h1 h2 h3 h4 h5 h6=>s.sep i j sl fG v v' b h1 h2 h3 h4 (k h1 h3▸h5) (k h2 h4▸h6)⟩
def StOk.put(s:StOk K u8 ZQ F H σ ρ){nsl:Sl}{nv:V}(hd:DenO K F' H' nsl nv)(ext:Ext u8 ZQ F' H')(ff:Same F F')(keep:∀(j:Nat) (sl:Sl) (v:V),j≠i->ρ[j]? =some (some sl)->σ[j]? =some (some v)->∀b∈sl.foot H v,H' b=H b/\F' b=none/\b∉nsl.foot H' nv)
 (new:∀c b,nsl= .ow c->nv= .ref b->ZQ b=none):StOk K u8 ZQ F' H' (σ.set i (some nv)) (ρ.set i (some nsl)):=by
 have hl:=s.len;have get:∀(j:Nat) (sl:Sl),(ρ.set i (some nsl))[j]? =some (some sl)->(j=i/\i<ρ.length/\sl=nsl)\/(j≠i/\ρ[j]? =some (some sl)):=λj sl e=>by
  by_cases hj:j=i
  ·subst hj;have hi:j<ρ.length:=by
    have:=(To.mp e).1;simpa using this
   rw[TY hi] at e;cases e;exact .inl ⟨rfl,hi,rfl⟩
  ·rw[T5 (Vh hj)] at e;exact .inr ⟨hj,e⟩
 have gv:∀(j:Nat) (v:V),(σ.set i (some nv))[j]? =some (some v)->(j=i/\v=nv)\/(j≠i/\σ[j]? =some (some v)):=λj v e=>by
  by_cases hj:j=i
  ·subst hj;have hi:j<σ.length:=by
    have:=(To.mp e).1;simpa using this
   rw[TY hi] at e;cases e;exact .inl ⟨rfl,rfl⟩
  ·rw[T5 (Vh hj)] at e;exact .inr ⟨hj,e⟩
 have mv:∀{j:Nat}{sl:Sl}{v:V},j≠i->ρ[j]? =some (some sl)->σ[j]? =some (some v)->DenO K F' H' sl v/\sl.foot H' v=sl.foot H v:=λhj h1 h2=>
  (s.foot h1 h2).move ff (λb hb=>(keep _ _ _ hj h1 h2 b hb).1) λb hb=>(keep _ _ _ hj h1 h2 b hb).2.1
 refine⟨ext,⟨ext.fh,λj sl e=>?_⟩,by simp[hl],λj c b e e'=>?_,λj k sl fG v v' b e1 e2 e3 e4 hb F9=>?_⟩
 ·rcases get j sl e with⟨rfl,hi,rfl⟩ | ⟨hj,e⟩
  ·exact⟨nv,by rw[TY (by omega)],hd⟩
  ·obtain⟨u,h1,_⟩:=s.st.den j sl e;exact⟨u,by rw[T5 (Vh hj)];exact h1,(mv hj e h1).1⟩
 ·rcases get j _ e with⟨rfl,hi,r1⟩ | ⟨hj,g1⟩
  ·rcases gv j _ e' with⟨_,r2⟩ | ⟨z,_⟩
   ·exact new c b r1.symm r2.symm
   ·exact Zp rfl z
  ·rcases gv j _ e' with⟨z,_⟩ | ⟨_,g2⟩
   ·exact Zp z hj
   ·exact s.own j c b g1 g2
 ·rcases get j sl e1 with⟨j1,_,r1⟩ | ⟨hj,g1⟩
  ·rcases get k fG e2 with⟨k1,_,_⟩ | ⟨hk,g2⟩
   ·rw[j1,k1]
   ·rcases gv k v' e4 with⟨z,_⟩ | ⟨_,g4⟩
    ·exact Zp z hk
    ·rcases gv j v e3 with⟨_,r3⟩ | ⟨z,_⟩
     ·rw[r1,r3] at hb;exact Zp hb (keep k fG v' hk g2 g4 b ((mv hk g2 g4).2▸F9)).2.2
     ·exact Zp j1 z
  ·rcases gv j v e3 with⟨z,_⟩ | ⟨_,g3⟩
   ·exact Zp z hj
   ·rcases get k fG e2 with⟨k1,_,r2⟩ | ⟨hk,g2⟩
    ·rcases gv k v' e4 with⟨_,r4⟩ | ⟨z,_⟩
     ·rw[r2,r4] at F9;exact Zp F9 (keep j sl v hj g1 g3 b ((mv hj g1 g3).2▸hb)).2.2
     ·exact Zp k1 z
    ·rcases gv k v' e4 with⟨z,_⟩ | ⟨_,g4⟩
     ·exact Zp z hk
     ·exact s.sep j k sl fG v v' b g1 g2 g3 g4 ((mv hj g1 g3).2▸hb) ((mv hk g2 g4).2▸F9)
theorem StOk.set(s:StOk K u8 ZQ F H σ ρ){d:D}(h:Den K F d v):StOk K u8 ZQ F H (σ.set i (some v)) (ρ.set i (some (.fz d))):=
 s.put (nsl:= .fz d) h s.ext (Same.refl _) (λj sl v hj h1 h2 b hb=>⟨rfl,((s.foot h1 h2).cell b hb).1,λq=>by cases q⟩) λc b hb=>by cases hb
def StOk.setNew(s:StOk K u8 ZQ F H σ ρ){o:HO}(n:H a=none)(h:DenC K F c₀ o):
 StOk K u8 ZQ F (upd H a o) (σ.set i (some (.ref a))) (ρ.set i (some (.ow c₀))):=by
 have e0:=Ext.free (o:=o) s.st.fh n;have nF:F a=none:=Same.free s.st.fh n;refine s.put (nsl:= .ow c₀) (nv:= .ref a) ⟨a,_,rfl,ar,nF,h⟩ (s.ext.trans e0) (Same.refl _) (λj sl v hj h1 h2 b hb=>?_) λc b _ hb=>?_
 ·obtain⟨q1,u,q2,_⟩:=(s.foot h1 h2).cell b hb;have iM:b≠a:=λz=>by rw[z,n] at q2;cases q2
  exact⟨aj iM,q1,λq=>iM (TQ.mp q)⟩
 ·cases hb;exact Same.free s.ext.hh n
theorem set_same{α:Type}:∀{l:List α}{i:Nat}{x:α},l[i]? =some x->l.set i x=l
 |[],_,_,h=>by cases h
 |a::l,0,x,h=>by cases h;rfl
 |a::l,i+1,x,h=>by rw[Wn,set_same (i:=i) (by simpa using h)]
def StOk.chg(s:StOk K u8 ZQ F H σ ρ){c c₀:C}(hi:ρ[i]? =some (some (.ow c)))(ha:σ[i]? =some (some (.ref a)))(h:DenC K F c₀ ZD):
 StOk K u8 ZQ F (upd H a ZD) σ (ρ.set i (some (.ow c₀))):=by
 have h0:=s.own i c a hi ha;obtain⟨a',o,q2,q3,q4,q5⟩:=s.foot hi ha;cases q2;have fh:Same F (upd H a ZD):=λb o e=>by
  rw[aj (λz=>by rw[z,q4] at e;cases e)];exact s.st.fh b o e
 have:=s.put (i:=i) (nsl:= .ow c₀) (nv:= .ref a) (H':=upd H a ZD) ⟨a,_,rfl,ar,q4,h⟩ ⟨λb o e=>by rw[aj (λz=>by rw[z,h0] at e;cases e)];exact s.ext.hh b o e,s.ext.ff,fh,s.ext.new⟩ (Same.refl _) (λj sl v hj h1 h2 b hb=>by
  have iM:b≠a:=λz=>hj (s.sep j i sl (.ow c) v (.ref a) b h1 hi h2 ha hb (TQ.mpr z));exact⟨aj iM,((s.foot h1 h2).cell b hb).1,λq=>iM (TQ.mp q)⟩) λc b _ hb=>by
  cases hb;exact h0
 rw[set_same ha] at this;exact this
def frz(i:Nat)(ρ:aM):aM:=match ρ[i]? with
 |some (some (.ow c))=>ρ.set i (some (.fz c.d))
 |_=>ρ
theorem StOk.frz(s:StOk K u8 ZQ F H σ ρ)(i:Nat)(obj:Addr->Obj):(∃a o,H a=some o/\DenC K F (ρ[i]?.elim (.lst []) λx=>x.elim (.lst []) λy=>match y with | .ow c=>c | _=> .lst []) o/\σ[i]? =some (some (.ref a))/\StOk K u8 ZQ (upd F a (jA (obj a) o)) (upd H a (jA (obj a) o)) σ (frz i ρ))\/frz i ρ=ρ:=by
 unfold L3.frz;split
 ·rename_i c₀ hi;have hle:=s.len;obtain⟨u,ha,a,o,rfl,q3,q4,IJ⟩:=s.st.den i _ hi;refine .inl ⟨a,o,q3,by rw[hi];exact IJ,ha,?_⟩;have h0:=s.own i _ a hi ha;have ff:Same F (upd F a (jA (obj a) o)):=λb o e=>by rw[aj (λz=>by rw[z,q4] at e;cases e)];exact e
  have fh:Same (upd F a (jA (obj a) o)) (upd H a (jA (obj a) o)):=λb o e=>by
   by_cases z:b=a
   ·rw[z,ar] at e⊢;exact e
   ·rw[aj z] at e⊢;exact s.st.fh b o e
  have:=s.put (i:=i) (nsl:= .fz c₀.d) (nv:= .ref a) (F':=upd F a (jA (obj a) o)) (H':=upd H a (jA (obj a) o)) (DenC.den IJ ff ar) ⟨λb u q=>by rw[aj (λz=>by rw[z,h0] at q;cases q)];exact s.ext.hh b u q,s.ext.ff.trans ff,fh,λb hb=>by
   rcases s.ext.new b hb with q | q
   ·exact .inl (by rw[aj (λz=>hb (by rw[z];exact h0))];exact q)
   ·exact .inr q⟩ ff (λj sl v hj h1 h2 b hb=>by
   have iM:b≠a:=λz=>hj (s.sep j i sl (.ow c₀) v (.ref a) b h1 hi h2 ha hb (TQ.mpr z));exact⟨aj iM,by rw[aj iM];exact((s.foot h1 h2).cell b hb).1,λq=>by cases q⟩) λc b hb=>by cases hb
  rw[set_same ha] at this;exact this
 ·exact .inr rfl
end
def join(F H:Hp):Hp:=λa=>match F a with
 |some o=>some o
 |none=>H a
def StOk.rebase{K:Ti}{u8 ZQ F H:Hp}(s:StOk K u8 ZQ F H σ ρ):StOk K F (join F ZQ) F H σ ρ/\∀F' H',Ext F (join F ZQ) F' H'->Ext u8 ZQ F' H':=by
 have hj:Same (join F ZQ) H:=λb o e=>by
  unfold join at e;cases q:F b with
  |some u=>rw[q] at e;cases e;exact s.st.fh b _ q
  |none=>rw[q] at e;exact s.ext.hh b o e
 have h0:Same ZQ (join F ZQ):=λb o e=>by
  unfold join;cases q:F b with
  |some u=>
   have h1:=s.st.fh b u q;rw[s.ext.hh b o e] at h1;exact h1.symm
  |none=>exact e
 refine⟨⟨⟨hj,Same.refl _,s.st.fh,λ_ _=> .inl rfl⟩,s.st,s.len,λi c a e e'=>?_,s.sep⟩,λF' H' x=>⟨h0.trans x.hh,s.ext.ff.trans x.ff,x.fh,λa ha=>?_⟩⟩
 ·have h1:=s.own i c a e e';obtain⟨_,_,r1,_,q4,_⟩:=s.foot e e';cases r1;unfold join;rw[q4];exact h1
 ·have:join F ZQ a≠none:=by
   cases q:ZQ a with
   |none=>exact Zp q ha
   |some o=>rw[h0 a o q];exact λz=>nomatch z
  rcases s.ext.new a ha with p | p
  ·rcases x.new a this with q | ⟨ts,q⟩
   ·exact .inl (q.trans p)
   ·cases z:ZQ a with
    |none=>exact Zp z ha
    |some o=>
     rw[h0 a o z] at q;exact .inr ⟨ts,q⟩
  ·exact .inr p
def StOk.unbase{K:Ti}{u8 ZQ F U F' H':Hp}(k:∀F' H',Ext F U F' H'->Ext u8 ZQ F' H')(s:StOk K F U F' H' σ ρ)(h:Same ZQ U):StOk K u8 ZQ F' H' σ ρ:=
 ⟨k _ _ s.ext,s.st,s.len,λi c a e e'=>Same.free h (s.own i c a e e'),s.sep⟩
def ir{K:Ti}{u8 ZQ F H:Hp}(s:StOk K u8 ZQ F H σ ρ):Same ZQ (join F ZQ):=λb o e=>by
 unfold join;cases q:F b with
 |some u=>
  have h1:=s.st.fh b u q;rw[s.ext.hh b o e] at h1;exact h1.symm
 |none=>exact e
def Inv.refrz(I:Inv X f8 σ H s)(e:H a=some o)
 (ho:o'=o\/∃u,o'= .frz ((s.heap.get? a).getD {cls:= .none,data:= .fields #[]}) u/\((∃k,o= .dT k/\u= .dT k)\/∃k,o= .dK k/\u= .dK k)):Inv X f8 σ (upd H a o') s:=by
 rcases ho with rfl | ⟨u,rfl,hu⟩
 ·have:upd H a o'=H:=by
   funext b;by_cases z:b=a
   ·rw[z,ar,e]
   ·rw[aj z]
  rw[this];exact I
 have R4:o=u:=by rcases hu with⟨k,h1,h2⟩ | ⟨k,h1,h2⟩<;>rw[h1,h2]
 subst R4;have nt:∀ts,o≠ .tup ts:=λts z=>by rcases hu with⟨k,h1,_⟩ | ⟨k,h1,_⟩<;>rw[h1] at z<;>cases z
 have nf:∀ob v,o≠ .frz ob v:=λob v z=>by rcases hu with⟨k,h1,_⟩ | ⟨k,h1,_⟩<;>rw[h1] at z<;>cases z
 have nb:∀p,o≠ .tbl p:=λp z=>by rcases hu with⟨k,h1,_⟩ | ⟨k,h1,_⟩<;>rw[h1] at z<;>cases z
 have no:∀p,o≠ .own p:=λp z=>by rcases hu with⟨k,h1,_⟩ | ⟨k,h1,_⟩<;>rw[h1] at z<;>cases z
 have ne:∀b,H b=none->b≠a:=λb hb z=>by rw[z,e] at hb;cases hb
 have hk:=I.hok a o e;have iL:=hk.lt;obtain⟨ob,JJ⟩:∃ob,s.heap.get? a=some ob:=by
  rcases hu with⟨k,h1,_⟩ | ⟨k,h1,_⟩
  ·subst h1;obtain⟨_,_,_,_,ob,_,_,q,_⟩:=hk;exact⟨ob,q⟩
  ·subst h1;obtain⟨_,_,_,_,ob,_,_,q,_⟩:=hk;exact⟨ob,q⟩
 rw[JJ];refine⟨I.ok,I.os,I.bare,⟨I.base.keep,I.base.slot,λb q h1 h2 h3=>?_,I.base.there,λb xs q=>?_,λb q1 v q=>?_,λb ps q=>?_⟩,I.loc,I.cell,?_,λx c q=>?_,λp hp=>?_,λb v q=>?_,I.len⟩
 ·have:=I.base.free b q h1 h2 h3;rw[aj (ne b this)];exact this
 ·have:=I.base.tups b xs q;rw[aj (λz=>by rw[z,e] at this;exact nt xs (Ub this))];exact this
 ·have:=I.base.frzs b q1 v q;rw[aj (λz=>by rw[z,e] at this;exact nf _ _ (Ub this))];exact this
 ·obtain⟨m,this⟩:=I.base.tbls b ps q;exact⟨m,by rw[aj (λz=>by rw[z,e] at this;exact nb _ (Ub this))];exact this⟩
 ·rw[aj (ne _ I.free)];exact I.free
 ·rw[aj (ne _ (I.freeC x c q))];exact I.freeC x c q
 ·obtain⟨h1,h2,h3⟩:=I.pin p hp;exact⟨h1,by rw[aj (ne _ h2)];exact h2,h3⟩
 ·have st:∀{c:Addr}{v:HO},ObjOk X.prog X.w H s.heap c v->ObjOk X.prog X.w (upd H a (.frz ob o)) s.heap c v:=λ{c v} k=>k.stay (λ_ _ _ q=>q)
   (λc' q=>by rw[aj (λz=>by rw[z,e] at q;exact no _ (Ub q))];exact q) λc' xs q=>by rw[aj (λz=>by rw[z,e] at q;exact nt _ (Ub q))];exact q
  by_cases z:b=a
  ·subst z;rw[show (some ob).getD _=ob from rfl,ar] at q;cases q;exact⟨JJ,st hk⟩
  ·rw[aj z] at q;exact st (I.hok b v q)
def bp(a b:DS):DS:=λρ=>a ρ>>=λo=>match o with | .nx ρ'=>b ρ' | .rt d=>aa (.rt d)
def dq:DS:=λρ=>aa (.nx ρ)
def bc(δ:DE):DS:=λρ=>δ ρ>>=λd=>aa (.rt d)
def Ac(δ:DE):DS:=λρ=>δ ρ>>=λ_=>aa (.nx ρ)
def da(i:Nat)(δ:DE):DS:=λρ=>δ ρ>>=λd=>aa (.nx (ρ.set i (some (.fz d))))
def iN(c:DT)(a b:DS):DS:=λρ=>c ρ>>=λx=>if x then a ρ else b ρ
def Fq(i:Nat)(a:DS):DS:=λρ=>a (frz i ρ)
def vV(i:Nat):DS:=λρ=>aa (.nx (ρ.set i (some (.ow (.lst [])))))
def i4(ρ:aM)(i:Nat):Option (List D):=match ρ[i]? with
 |some (some (.ow (.lst ds)))=>some ds
 |_=>none
def ix{i:Nat}(h:i4 ρ i=some ds):ρ[i]? =some (some (.ow (.lst ds))):=by
 unfold i4 at h;split at h
 ·rename_i ds' e;cases h;exact e
 ·cases h
def k_(i:Nat)(δ:DE):DS:=λρ=>match i4 ρ i with
 |some ds=>δ ρ>>=λd=>if ds.length<lim then aa (.nx (ρ.set i (some (.ow (.lst (ds++[d])))))) else af
 |none=>af
def Fo(i:Nat)(δ:DE):DS:=λρ=>match i4 ρ i with
 |some ds=>δ ρ>>=λd=>lstM d>>=λes=>if ds.length+es.length<=lim then aa (.nx (ρ.set i (some (.ow (.lst (ds++es)))))) else af
 |none=>af
def forL(put:D->aM->Option aM)(body:DS):List D->DS
 |[],ρ=>aa (.nx ρ)
 |d::ds,ρ=>(match put d ρ with | none=>af | some ρ1=>body ρ1>>=λo=>match o with | .nx ρ2=>forL put body ds ρ2 | .rt v=>aa (.rt v))
def putN(i:Nat):D->aM->Option aM:=λd ρ=>some (ρ.set i (some (.fz d)))
def i6(put:D->aM->Option aM)(δi:DA)(body:DS):DS:=λρ=>δi ρ>>=λds=>forL put body ds ρ
section
variable{X:Cx}{Xw:Nat->Hp->Prop}{u8 ZQ:Hp}{st:Stmt}{Zw:List Stmt}{τ τ':DS}{e:Expr}{δ:DE}{pos:Pos}
def a8:PSDs X Xw [] dq:=λu8 ZQ=>PSs.weak Ba λD σ H ⟨F,ρ,s,w⟩=>w σ F H s
def au(h1:pJ X Xw st τ)(h2:PSDs X Xw Zw τ'):PSDs X Xw (st::Zw) (bp τ τ'):=λu8 ZQ=>PSs.weak (rp (h1 u8 ZQ) (h2 u8 ZQ)) λD σ H ⟨F,ρ,s,w⟩=>by
 refine⟨F,ρ,s,?_⟩;unfold bp at w
 match τ ρ,w with
 |none,w=>exact w
 |some (.ok (.nx ρ')),w=>exact λσ' F' H' s'=>⟨F',ρ',s',w⟩
 |some (.ok (.rt d)),w=>exact w
 |some (.ex n),w=>exact w
def aq(h1:pJ X Xw st τ):PSDs X Xw [st] τ:=λu8 ZQ=>pU (h1 u8 ZQ)
def gV{i:Nat}(h:pJ X Xw st τ):pJ X Xw st (Fq i τ):=λu8 ZQ f8 sh σ H D I ⟨F,ρ,s,w⟩=>by
 rcases s.frz i (λa=>(sh.heap.get? a).getD {cls:= .none,data:= .fields #[]}) with⟨a,o,ha,hc,hσ,s'⟩ | e
 ·refine h u8 ZQ f8 sh σ _ D (L3.Inv.refrz I ha ?_) ⟨_,_,s',w⟩;generalize (ρ[i]?.elim (C.lst []) λx=>x.elim (.lst []) λy=>match y with | .ow c=>c | _=> .lst [])=c at hc;cases c with
  |lst ds=>obtain⟨vs,rfl,_⟩:=hc;exact .inl rfl
  |dct ks ds=>obtain⟨vs,rfl,_⟩:=hc;exact .inr ⟨_,rfl, .inl ⟨_,rfl,rfl⟩⟩
  |dci ks ds=>obtain⟨vs,rfl,_⟩:=hc;exact .inr ⟨_,rfl, .inr ⟨_,rfl,rfl⟩⟩
 ·exact h u8 ZQ f8 sh σ H D I ⟨F,ρ,s,by unfold Fq at w;rw[e] at w;exact w⟩
def aA(h:PD X Xw e δ):pJ X Xw (.Return (some e) pos) (bc δ):=λu8 ZQ=>PS.weak (vI h) λD σ H ⟨F,ρ,s,w⟩=>by
 refine⟨F,ρ,s.st,?_⟩;unfold bc at w
 match δ ρ,w with
 |none,w=>exact w
 |some (.ok d),w=>exact λv H' F' e' q=>w v F' H' (s.ext.trans e') q
 |some (.ex n),w=>exact λF' H' e'=>w F' H' (s.ext.trans e')
def vJ(h:PD X Xw e δ)(hs:VL e none pos.line X.env=pure false:=by rfl):pJ X Xw (.Expr e pos) (Ac δ):=λu8 ZQ=>PS.weak (kP h hs) λD σ H ⟨F,ρ,s,w⟩=>by
 refine⟨F,ρ,s.st,?_⟩;unfold Ac at w
 match δ ρ,w with
 |none,w=>exact w
 |some (.ok d),w=>exact λv H' F' e' q=>w σ F' H' (s.ext' e')
 |some (.ex n),w=>exact λF' H' e'=>w F' H' (s.ext.trans e')
def bf{x:Str}(hN:X.N.Nodup)(hi:X.N[i]? =some x)(hx:Loc X.env.scope x)(he:PD X Xw e δ)(hf:X.fn x=true\/X.env.scope.names.lookup x=some .local:=by first | exact .inl rfl | exact .inr rfl)
 (hs:XR [.Name x pos'] e pos.line X.env=pure false:=by rfl):
 pJ X Xw (.Assign [.Name x pos'] e pos) (da i δ):=λu8 ZQ=>PS.weak (ro he (b_ hN hi hx hf) hs) λD σ H ⟨F,ρ,s,w⟩=>by
 refine⟨F,ρ,s.st,?_⟩;unfold da at w
 match δ ρ,w with
 |none,w=>exact w
 |some (.ok d),w=>exact λv H' F' e' q=>w _ F' H' ((s.ext' e').set q)
 |some (.ex n),w=>exact λF' H' e'=>w F' H' (s.ext.trans e')
def jZ(hN:X.N.Nodup)(IL:X.N[i]? =some x)(hx:Loc X.env.scope x)
 (sc:CompSc X scope tn)(hn:tn.length=max n 1)(hc:X.calm=true)(hi:wG X Xw tg iter δi)
 (hg:∀f8 cl C fp v4 H σ,wI (gj X scope tn f8 cl C fp v4 H) tg n σ)
 (ht:∀f8 cl C fp v4 H,lA (gj X scope tn f8 cl C fp v4 H) ifs δt)
 (he:∀f8 cl C fp v4 H,PD (gj X scope tn f8 cl C fp v4 H) (λ_ _=>False) ZA δe)
 (hf:X.fn x=true\/X.env.scope.names.lookup x=some .local:=by first | exact .inl rfl | exact .inr rfl)
 (R8:VL (.ListComp ZA [⟨tg,iter,ifs,0⟩] scope a7) (some (.Name x pos')) pos.line X.env=pure true:=by rfl)
 (hs:∀x,VF iter X.env x=pure x:=by intro _;rfl):
 pJ X Xw (.Assign [.Name x pos'] (.ListComp ZA [⟨tg,iter,ifs,0⟩] scope a7) pos) (da i (bj n δi δt δe)):=λu8 ZQ f8 s σ H D I ⟨F,ρ,S,w⟩=>by
 obtain⟨cl,xt,sx,Dq⟩:=lG λy hy hf=>I.ok.has y.1 (sc.frees y hy hf);have w':WP X.K Xw F H (bj n δi δt δe ρ) (λv H'=>D.nx (σ.set i (some v)) H'):=by
  have w:WPS X.K Xw u8 ZQ (bj n δi δt δe ρ>>=λd=>aa (.nx (ρ.set i (some (.fz d))))) D:=w
  match bj n δi δt δe ρ,w with
  |none,w=>exact w
  |some (.ok d),w=>exact λv H' F' e' q=>w _ F' H' ((S.ext' e').set q)
  |some (.ex n),w=>exact λF' H' e'=>w F' H' (S.ext.trans e')
 rw[exec_Assign_Name_used _ _ _ _ R8];refine Td (wpAny_standAt (Td ?_));show wpAny _ X.A (do let _<-comprehension (.ListComp ZA [⟨tg,iter,ifs,0⟩] scope a7) scope X.env _ (newList []) false (eval iter X.env) (some (assign (.Name x pos') X.env))) _ _ s;refine Td (UO (WT rfl hs xt sc.kind sc.names
  (xb sc hn hc hi hg ht he I S.st w' sx Dq λs1 C D' H' I1 q b=>?_)) (λ_ s' hq=>Tu (Tu hq)) λ_ _ e=>e)
 show wpAny _ X.A (assign (.Name x pos') X.env (.ref D')) _ _ _;refine X_ (ug I1 hN IL hx (v:= .ref D') rfl (λs2 I2 ⟨a,sb,ha⟩=>?_) hf);have Rn:C≠a:=by
  rcases ha with z | z
  ·rw[z];exact b.nl
  ·exact Vh (b.nc x a z)
 obtain⟨m,hm⟩:=b.ns;have La:s2.heap.Ns C m:=hm.sameBut sb Rn;refine⟨m,La,λh' JP=>⟨_,H',Inv.block I2 ⟨⟨m,La⟩,b.free,b.nl,b.nw,b.nc,b.np⟩ JP,q⟩⟩
def bH{a b:List Stmt}(hc:sV X Xw c tc)(ha:PSDs X Xw a τ)(hb:PSDs X Xw b τ'):pJ X Xw (.If c a b pos) (iN tc τ τ'):=λu8 ZQ=>PS.weak (Ja hc (ha u8 ZQ) (hb u8 ZQ)) λD σ H ⟨F,ρ,s,w⟩=>by
 refine⟨F,ρ,s.st,?_⟩;unfold iN at w
 match tc ρ,w with
 |none,w=>exact w
 |some (.ok true),w=>exact λH' F' e'=>⟨F',ρ,s.ext' e',w⟩
 |some (.ok false),w=>exact λH' F' e'=>⟨F',ρ,s.ext' e',w⟩
 |some (.ex n),w=>exact λF' H' e'=>w F' H' (s.ext.trans e')
def i5{pos' vH:Pos}(hN:X.N.Nodup)(hi:X.N[i]? =some x)(hx:Loc X.env.scope x)(hf:X.fn x=true\/X.env.scope.names.lookup x=some .local:=by first | exact .inl rfl | exact .inr rfl):
 pJ X Xw (.Assign [.Name x pos'] (.List [] vH) pos) (vV i):=λu8 ZQ=>PS.weak (ro (z6 lQ) (b_ hN hi hx hf) rfl) λD σ H ⟨F,ρ,s,w⟩=>by
 refine⟨Ur _,λp hp=>?_⟩;exact w _ F _ (s.setNew hp ⟨[],rfl,rfl,Ur _⟩)
def Ip(K:Ti)(g:TG)(put:D->aM->Option aM):Prop:=∀(u8 ZQ F H:Hp) (σ:St) (ρ ρ':aM) (d:D) (v:V) (Q:St->Hp->Prop),StOk K u8 ZQ F H σ ρ->Den K F d v->put d ρ=some ρ'->
 (∀σ',StOk K u8 ZQ F H σ' ρ'->Q σ' H)->g v σ H Q
def dO{K:Ti}{i:Nat}:Ip K (D0 i) (putN i):=λu8 ZQ F H σ ρ ρ' d v Q s q e k=>by
 cases e;exact k _ (s.set q)
def SG(K:Ti)(Xw:Nat->Hp->Prop)(τ:DS):TS:=λD σ H=>∃u8 ZQ,tS K Xw u8 ZQ τ D σ H
def PSDs.ex{body:List Stmt}(h:PSDs X Xw body τ):PSs X body (SG X.K Xw τ):=λf8 s σ H D I ⟨u8,ZQ,w⟩=>h u8 ZQ f8 s σ H D I w
def fk{tg iter:Expr}{body:List Stmt}(hp:YD (model X.prog X.w) X.A X.env X.xe)(hc:X.calm=true)(hi:wG X Xw tg iter δi)(hg:PG X tg g)(JO:Ip X.K g put)(hb:PSDs X Xw body τ)
 (hs:∀x,VF iter X.env x=pure x:=by intro _;rfl):pJ X Xw (.For tg iter body [] pos) (i6 put δi τ):=λu8 ZQ=>PS.weak (E2 hp hc hi hg hb.ex hs) λD σ H ⟨F,ρ,s,w⟩=>by
 refine⟨F,ρ,s.st,?_⟩;unfold i6 at w
 match δi ρ,w with
 |none,w=>exact w
 |some (.ex n),w=>exact λF' H' e'=>w F' H' (s.ext.trans e')
 |some (.ok ds),w=>
  have w:WPS X.K Xw u8 ZQ (forL put τ ds ρ) D:=w;intro J H1 F1 e1 Mh;obtain⟨s1,back⟩:=(s.ext' e1).rebase;have hU:=ir (s.ext' e1);generalize join F1 ZQ=U at s1 back hU;refine⟨λi m σ H=>m=ds.length - i/\i<=ds.length/\∃F ρ,StOk X.K F1 U F H σ ρ/\WPS X.K Xw u8 ZQ (forL put τ (ds.drop i) ρ) D,⟨ds.length,by simp,Ur _,F1,ρ,s1,by simpa using w⟩,?_⟩;rintro i m σ2 H2 ⟨rfl,JH,F2,ρ2,s2,w2⟩;by_cases iL:i<ds.length
  ·obtain⟨d,hd⟩:∃d,ds[i]? =some d:=⟨_,Tg iL⟩
   obtain⟨JG,zr⟩:=(Mh F2 H2 i s2.ext.ff s2.st.fh).1 d hd;have ed:ds.drop i=d::ds.drop (i+1):=by
    obtain⟨hi,e⟩:=To.mp hd;rw[VD hi,e]
   rw[ed] at w2;unfold forL at w2;refine .inr ⟨JG,λσ' H'=>∃F' ρ',StOk X.K F1 U F' H' σ' ρ'/\WPS X.K Xw u8 ZQ (forL put τ (ds.drop (i+1)) ρ') D,λσ' H' ⟨F',ρ',h2,h3⟩=>⟨ds.length - (i+1),by omega,rfl,iL,F',ρ',h2,h3⟩,λx H3 y3=>?_⟩;obtain⟨F3,wy,q3⟩:=zr x H3 y3
   match O3:put d ρ2,w2 with
   |none,w2=>exact w2.elim
   |some ρ3,w2=>
    refine JO F1 U F3 H3 σ2 ρ2 ρ3 d x _ (s2.ext' wy) q3 O3 λσ3 s3=>⟨F1,U,F3,ρ3,s3,?_⟩
    have w2:WPS X.K Xw u8 ZQ (τ ρ3>>=λo=>match o with | .nx ρ2=>forL put τ (ds.drop (i+1)) ρ2 | .rt v=>aa (.rt v)) D:=w2
    match τ ρ3,w2 with
    |none,w2=>exact w2
    |some (.ok (.nx ρ')),w2=>exact λσ' F' H' s'=>⟨F',ρ',s',w2⟩
    |some (.ok (.rt d)),w2=>exact λv F' H' e q=>w2 v F' H' (back _ _ e) q
    |some (.ex n),w2=>exact λF' H' e=>w2 F' H' (back _ _ e)
  ·have hi:i=ds.length:=by omega
   subst hi;rw[WQ] at w2;exact .inl ⟨(Mh F2 H2 ds.length s2.ext.ff s2.st.fh).2 (Tr _),w2 σ2 F2 H2 (s2.unbase back hU)⟩
end
def gI(f:Int->Int->D):D->D->M D
 | .int i, .int j=>aa (f i j)
 |_,_=>af
def LI(c:Int->Int->Bool)(f:Int->Int->D):D->D->M D
 | .int i, .int j=>if c i j then aa (f i j) else af
 |_,_=>af
def AY{K:Ti}{gd:Int->Int->D}(h:∀F i j,Den K F (gd i j) (gv i j)):wF K (Bh gv) (gI gd):=λXw F H x y dx dy Q s hx hy w=>by
 unfold gI at w;split at w
 ·rename_i i j;exact⟨i,j,hx,hy,WP.now w s (h F i j)⟩
 ·exact w.elim
def zR{K:Ti}{C:Int->Int->Prop}(h:∀F i j,Den K F (gd i j) (gv i j))(hc:∀i j,c i j=true->C i j):wF K (rI C gv) (LI c gd):=λXw F H x y dx dy Q s hx hy w=>by
 unfold LI at w;split at w
 ·rename_i i j;split at w
  ·rename_i Nx;exact⟨i,j,hx,hy,hc i j Nx,WP.now w s (h F i j)⟩
  ·exact w.elim
 ·exact w.elim
def dD:=gI λi j=> .int (i+j)
def c9:=gI λi j=> .int (i - j)
def iU:=LI (λi j=>decide ((-(2 ^ 64)<i/\i<2 ^ 64)\/(-(2 ^ 64)<j/\j<2 ^ 64))) λi j=> .int (i*j)
def sA:=LI (λ_ j=>decide (0<j/\j<1073741824)) λi j=> .int (i / j)
def me:=LI (λ_ j=>decide (0<j)) λi j=> .int (i % j)
def Oi:=gI λi j=> .bl (decide (j<i))
section
variable{X:Cx}{Xw:Nat->Hp->Prop}{a b:Expr}{δa δb:DE}{pos:Pos}
def cf(ha:PD X Xw a δa)(hb:PD X Xw b δb):PD X Xw (.BinOp a .Add b pos) (d2 dD δa δb):=rj Ka (AY λ_ _ _=>rfl) ha hb
def b7(ha:PD X Xw a δa)(hb:PD X Xw b δb):PD X Xw (.BinOp a .Sub b pos) (d2 c9 δa δb):=rj Kf (AY λ_ _ _=>rfl) ha hb
def jW(ha:PD X Xw a δa)(hb:PD X Xw b δb):PD X Xw (.BinOp a .Mult b pos) (d2 iU δa δb):=rj Ke (zR (λ_ _ _=>rfl) λi j h=>by unfold CMul;exact Zt h) ha hb
def vA(ha:PD X Xw a δa)(hb:PD X Xw b δb):PD X Xw (.BinOp a .FloorDiv b pos) (d2 sA δa δb):=rj Hf (zR (λ_ _ _=>rfl) λi j h=>by unfold Le;exact Zt h) ha hb
def nH(ha:PD X Xw a δa)(hb:PD X Xw b δb):PD X Xw (.BinOp a .Mod b pos) (d2 me δa δb):=rj Kd (zR (λ_ _ _=>rfl) λi j h=>Zt h) ha hb
def cT:D->D->M D
 | .lst ds, .int i=>match atI ds i with | some d=>aa d | none=>af
 |_,_=>af
def bt:D->D->M D
 | .tup ds, .int i=>match atI ds i with | some d=>aa d | none=>af
 |_,_=>af
def DY:D->D->M D
 | .scr ns, .int i=>match atI ns i with | some n=>aa (.int n) | none=>af
 |_,_=>af
def jB:D->D->M D
 | .str x, .int i=>match atI x.cps.toList i with | some c=>aa (.str ⟨#[c]⟩) | none=>af
 |_,_=>af
theorem DenL.atI{K:Ti}(h:DenL K F ds vs){d:D}(e:L2.atI ds i=some d):∃v,L2.atI vs i=some v/\Den K F d v:=by
 unfold L2.atI at e⊢;rw[<-h.len];cases q:Gb ds.length i with
 |none=>rw[q] at e;cases e
 |some j=>
  rw[q] at e;exact h.get e
def Hg{K:Ti}:wF K (KG K) cT:=λXw F H x y dx dy Q s hx hy w=>by
 unfold cT at w;split at w
 ·rename_i ds i;obtain⟨a,vs,h1,h2,h3,h4⟩:=hx;split at w
  ·rename_i d e;obtain⟨v,e1,q⟩:=h3.atI e;exact⟨a,vs,i,v,h1,hy,SqL.of (s _ _ h2),e1,WP.now w s q⟩
  ·exact w.elim
 ·exact w.elim
def Hj{K:Ti}:wF K (MP K) bt:=λXw F H x y dx dy Q s hx hy w=>by
 unfold bt at w;split at w
 ·rename_i ds i;obtain⟨a,vs,h1,h2,h3,h4⟩:=hx;split at w
  ·rename_i d e;obtain⟨v,e1,q⟩:=h3.atI e;exact⟨a,vs,i,v,h1,hy,SqT.of (s _ _ h2),e1,WP.now w s q⟩
  ·exact w.elim
 ·exact w.elim
def Hh{K:Ti}:wF K (KG K) DY:=λXw F H x y dx dy Q s hx hy w=>by
 unfold DY at w;split at w
 ·rename_i ns i;obtain⟨a,h1,h2,h3⟩:=hx;split at w
  ·rename_i n e;refine⟨a,_,i, .int n,h1,hy,Same.seq s h2,?_,WP.now w s rfl⟩;unfold L2.atI at e⊢;rw[Te];cases q:Gb ns.length i with
   |none=>rw[q] at e;cases e
   |some j=>
    rw[q] at e;have e:ns[j]? =some n:=e;show (ns.map V.int)[j]? =some (.int n);rw[Tx,e];rfl
  ·exact w.elim
 ·exact w.elim
def Hi{K:Ti}:wF K MO jB:=λXw F H x y dx dy Q s hx hy w=>by
 unfold jB at w;split at w
 ·rename_i z i;obtain⟨h1,h2⟩:=hx;split at w
  ·rename_i c e;exact⟨z,i,c,h1,hy,by have:=dH;omega,e,WP.now w s ⟨rfl,by show 1<=lim;decide⟩⟩
  ·exact w.elim
 ·exact w.elim
def cQ(ha:PD X Xw a δa)(hb:PD X Xw b δb)(hs:kC b:=by intro _ _;rfl):PD X Xw (.Subscript a b pos) (d2 cT δa δb):=A4 AM Hg ha hb hs
def Ki(ha:PD X Xw a δa)(hb:PD X Xw b δb)(hs:kC b:=by intro _ _;rfl):PD X Xw (.Subscript a b pos) (d2 DY δa δb):=A4 AM Hh ha hb hs
def b6(ha:PD X Xw a δa)(hb:PD X Xw b δb)(hs:kC b:=by intro _ _;rfl):PD X Xw (.Subscript a b pos) (d2 bt δa δb):=A4 J1 Hj ha hb hs
def vB(ha:PD X Xw a δa)(hb:PD X Xw b δb)(hs:kC b:=by intro _ _;rfl):PD X Xw (.Subscript a b pos) (d2 jB δa δb):=A4 J0 Hi ha hb hs
def DW:D->D->M D
 | .lst x, .lst y=>if x.length+y.length<=lim then aa (.lst (x++y)) else af
 |_,_=>af
def kx(x y:Str):(x++y).length=x.length+y.length:=by
 show (x.cps++y.cps).size=_;simp[Str.length]
def Hm(ha:PD X Xw a δa)(hb:PD X Xw b δb):PD X Xw (.BinOp a .Add b pos) (d2 DW δa δb):=rj Kb (λXw F H x y dx dy Q s hx hy w=>by
 unfold DW at w;split at w
 ·rename_i i j;obtain⟨a,vs,h1,h2,h3,h4⟩:=hx;obtain⟨a',pY,k1,k2,k3,k4⟩:=hy;split at w
  ·rename_i hl;have e1:=h3.len;have e2:=k3.len;have:=dH;refine⟨a,a',vs,pY,h1,k1,s _ _ h2,s _ _ k2,by omega,λp hp=>?_⟩;exact WP.fin w (Ext.lay s hp) ⟨p,_,rfl,ar,DenL.mono (Ext.lay s hp).ff (h3.append k3),by rw[Tt];exact hl⟩
  ·exact w.elim
 ·exact w.elim) ha hb
end
end L3
namespace L3
open PySem PySem.Spec L2 SeqAt
open PyProof.Rows hiding St
def si(f:D->D->Option Bool):List D->List D->Option Bool
 |[],[]=>some true
 |x::xs,y::ys=>match f x y,si f xs ys with
  |some b,some r=>some (b&&r)
  |_,_=>none
 |[],_::_=>some false
 |_::_,[]=>some false
def za:D->D->Option Bool
 | .non, .non=>some true
 | .bl a, .bl b=>some (a==b)
 | .bl a, .int j=>some ((if a then 1 else 0)==j)
 | .int i, .bl b=>some (i==(if b then 1 else 0))
 | .int i, .int j=>some (i==j)
 | .str x, .str y=>some (x==y)
 | .non, .bl _=>some false
 | .non, .int _=>some false
 | .non, .str _=>some false
 | .non, .lst _=>some false
 | .non, .tup _=>some false
 | .bl _, .non=>some false
 | .bl _, .str _=>some false
 | .bl _, .lst _=>some false
 | .bl _, .tup _=>some false
 | .int _, .non=>some false
 | .int _, .str _=>some false
 | .int _, .lst _=>some false
 | .int _, .tup _=>some false
 | .str _, .non=>some false
 | .str _, .bl _=>some false
 | .str _, .int _=>some false
 | .str _, .lst _=>some false
 | .str _, .tup _=>some false
 | .lst _, .non=>some false
 | .lst _, .bl _=>some false
 | .lst _, .int _=>some false
 | .lst _, .str _=>some false
 | .lst _, .tup _=>some false
 | .tup _, .non=>some false
 | .tup _, .bl _=>some false
 | .tup _, .int _=>some false
 | .tup _, .str _=>some false
 | .tup _, .lst _=>some false
 |_,_=>none
def o8:Nat->D->D->Option Bool
 |n+1, .tup xs, .tup ys=>si (o8 n) xs ys
 |n+1, .lst xs, .lst ys=>si (o8 n) xs ys
 |n+1, .scr xs, .lst ys=>si (o8 n) (xs.map D.int) ys
 |_,x,y=>za x y
structure EqAll (A:Uu) (s:Tp) (u v:Value) (b:Bool):Prop where
 rc:RcAt A s u v b
 ne:RcNeAt A s u v (!b)
 eq:EqAt A s u v b
section
variable{X:Cx}{f8:List (Addr×Obj)}{σ:St}{F H:Hp}{s:Tp}{A:Uu}
def wj(I:Inv X f8 σ H s)(hs:Same F H)(h:Den X.K F (.tup ds) v)(r:RelV v u):∃a vs aO,u= .ref a/\v= .ref a/\F a=some (.tup vs)/\DenL X.K F ds vs/\Vals vs aO/\s.heap.IsTuple a aO.toArray:=by
 obtain⟨a,vs,rfl,h2,h3,h4⟩:=h;obtain⟨aO,r1,p1,_⟩:=I.tuple (SqT.of (hs _ _ h2));exact⟨a,vs,aO,r,rfl,h2,h3,r1,p1⟩
def qI(I:Inv X f8 σ H s)(hs:Same F H)(h:Den X.K F (.lst ds) v)(r:RelV v u):∃a vs aO,u= .ref a/\v= .ref a/\F a=some (.lst vs)/\DenL X.K F ds vs/\Vals vs aO/\s.heap.IsList a aO.toArray:=by
 obtain⟨a,vs,rfl,h2,h3,h4⟩:=h;obtain⟨aO,r1,p1,_⟩:=I.list (SqL.of (hs _ _ h2));exact⟨a,vs,aO,r,rfl,h2,h3,r1,p1.isList⟩
def KL(I:Inv X f8 σ H s)(hs:Same F H)(h:Den X.K F (.scr ns) v)(r:RelV v u):∃a aO,u= .ref a/\v= .ref a/\SqL X.K F a (ns.map V.int)/\Vals (ns.map V.int) aO/\s.heap.IsList a aO.toArray:=by
 obtain⟨a,rfl,h2,h3⟩:=h;obtain⟨aO,r1,p1,_⟩:=I.list (Same.seq hs h2);exact⟨a,aO,r,rfl,h2,r1,p1.isList⟩
def xm(I:Inv X f8 σ H s)(hs:Same F H)(hu:A.units<cLine)(hx:Den X.K F x v)(hy:Den X.K F y w)(rx:RelV v u)(ry:RelV w t)(e:za x y=some b):EqAll A s u t b:=by
 cases x<;>cases y<;>cases e<;>(first | (cases (show _=V.non from hx);cases rx) | (cases (show _=V.bl _ from hx);cases rx) | (cases (show _=V.int _ from hx);obtain⟨_,rfl⟩:=rx) | (cases (show _=V.str _ from hx.1);obtain⟨_,rfl⟩:=rx) | (have q:=wj I hs hx rx;obtain⟨_,_,_,rfl,_,_,_,_,p1⟩:=q) | (have q:=qI I hs hx rx;obtain⟨_,_,_,rfl,_,_,_,_,p1⟩:=q))<;>(first | (cases (show _=V.non from hy);cases ry) | (cases (show _=V.bl _ from hy);cases ry) | (cases (show _=V.int _ from hy);obtain⟨_,rfl⟩:=ry) | (cases (show _=V.str _ from hy.1);obtain⟨_,rfl⟩:=ry) | (have q:=wj I hs hy ry;obtain⟨_,_,_,rfl,_,_,_,_,p2⟩:=q) | (have q:=qI I hs hy ry;obtain⟨_,_,_,rfl,_,_,_,_,p2⟩:=q))
 ·exact⟨RcAt.none_none,RcNeAt.none_none,EqAt.same _⟩
 ·exact⟨RcAt.none_bool _,RcNeAt.none_bool _,EqAt.none_bool _⟩
 ·exact⟨RcAt.none_int _ _,RcNeAt.none_int _ _,EqAt.none_int _ _⟩
 ·exact⟨RcAt.none_str _ _,RcNeAt.none_str _ _,EqAt.none_str _ _⟩
 ·exact⟨RcAt.none_tuple p2 hu,RcNeAt.none_tuple p2 hu,EqAt.none_tuple p2 hu⟩
 ·exact⟨RcAt.none_list p2 hu,RcNeAt.none_list p2 hu,EqAt.none_list p2 hu⟩
 ·exact⟨RcAt.bool_none _,RcNeAt.bool_none _,EqAt.bool_none _⟩
 ·exact⟨RcAt.bool_bool _ _,RcNeAt.bool_bool _ _,EqAt.bool_bool _ _⟩
 ·exact⟨RcAt.bool_int _ _ _,RcNeAt.bool_int _ _ _,EqAt.bool_int _ _ _⟩
 ·exact⟨RcAt.bool_str _ _ _,RcNeAt.bool_str _ _ _,EqAt.bool_str _ _ _⟩
 ·exact⟨RcAt.bool_tuple _ p2 hu,RcNeAt.bool_tuple _ p2 hu,EqAt.bool_tuple _ p2 hu⟩
 ·exact⟨RcAt.bool_list _ p2 hu,RcNeAt.bool_list _ p2 hu,EqAt.bool_list _ p2 hu⟩
 ·exact⟨RcAt.int_none _ _,RcNeAt.int_none _ _,EqAt.int_none _ _⟩
 ·exact⟨RcAt.int_bool _ _ _,RcNeAt.int_bool _ _ _,EqAt.int_bool _ _ _⟩
 ·exact⟨RcAt.int_int _ _ _ _,RcNeAt.int_int _ _ _ _,EqAt.int_int _ _ _ _⟩
 ·exact⟨RcAt.int_str _ _ _ _,RcNeAt.int_str _ _ _ _,EqAt.int_str _ _ _ _⟩
 ·exact⟨RcAt.int_tuple _ _ p2 hu,RcNeAt.int_tuple _ _ p2 hu,EqAt.int_tuple _ _ p2 hu⟩
 ·exact⟨RcAt.int_list _ _ p2 hu,RcNeAt.int_list _ _ p2 hu,EqAt.int_list _ _ p2 hu⟩
 ·exact⟨RcAt.str_none _ _,RcNeAt.str_none _ _,EqAt.str_none _ _⟩
 ·exact⟨RcAt.str_bool _ _ _,RcNeAt.str_bool _ _ _,EqAt.str_bool _ _ _⟩
 ·exact⟨RcAt.str_int _ _ _ _,RcNeAt.str_int _ _ _ _,EqAt.str_int _ _ _ _⟩
 ·exact⟨RcAt.str_str _ _ _ _,RcNeAt.str_str _ _ _ _,EqAt.str_str _ _ _ _⟩
 ·exact⟨RcAt.str_tuple _ _ p2 hu,RcNeAt.str_tuple _ _ p2 hu,EqAt.str_tuple _ _ p2 hu⟩
 ·exact⟨RcAt.str_list _ _ p2 hu,RcNeAt.str_list _ _ p2 hu,EqAt.str_list _ _ p2 hu⟩
 ·exact⟨RcAt.tuple_none p1 hu,RcNeAt.tuple_none p1 hu,EqAt.tuple_none p1 hu⟩
 ·exact⟨RcAt.tuple_bool _ p1 hu,RcNeAt.tuple_bool _ p1 hu,EqAt.tuple_bool _ p1 hu⟩
 ·exact⟨RcAt.tuple_int _ _ p1 hu,RcNeAt.tuple_int _ _ p1 hu,EqAt.tuple_int _ _ p1 hu⟩
 ·exact⟨RcAt.tuple_str _ _ p1 hu,RcNeAt.tuple_str _ _ p1 hu,EqAt.tuple_str _ _ p1 hu⟩
 ·exact⟨RcAt.tuple_list p1 p2 hu,RcNeAt.tuple_list p1 p2 hu,EqAt.tuple_list p1 p2 hu⟩
 ·exact⟨RcAt.list_none p1 hu,RcNeAt.list_none p1 hu,EqAt.list_none p1 hu⟩
 ·exact⟨RcAt.list_bool _ p1 hu,RcNeAt.list_bool _ p1 hu,EqAt.list_bool _ p1 hu⟩
 ·exact⟨RcAt.list_int _ _ p1 hu,RcNeAt.list_int _ _ p1 hu,EqAt.list_int _ _ p1 hu⟩
 ·exact⟨RcAt.list_str _ _ p1 hu,RcNeAt.list_str _ _ p1 hu,EqAt.list_str _ _ p1 hu⟩
 ·exact⟨RcAt.list_tuple p1 p2 hu,RcNeAt.list_tuple p1 p2 hu,EqAt.list_tuple p1 p2 hu⟩
end
def ev(f:D->D->Option Bool)(xs ys:List D)(j:Nat):Bool:=match xs[j]?,ys[j]? with
 |some x,some y=>(f x y).getD false
 |_,_=>false
theorem xl:∀{xs ys:List D}{b:Bool},si f xs ys=some b->∀(j:Nat) (x y:D),xs[j]? =some x->ys[j]? =some y->∃c,f x y=some c
 |[],_,_,_,_,_,_,h,_=>by simp at h
 |_::_,[],_,_,_,_,_,_,h=>by simp at h
 |x::xs,y::ys,b,e,j,x',y',hx,hy=>by
  unfold si at e;split at e
  ·rename_i b1 r1 e1 e2;cases j with
   |zero=>simp at hx hy;subst hx hy;exact⟨_,e1⟩
   |succ j=>exact xl e2 j x' y' (by simpa using hx) (by simpa using hy)
  ·cases e
theorem uR:∀{xs ys:List D}{b:Bool},si f xs ys=some b->b=((TB (min xs.length ys.length)).all (ev f xs ys)&&xs.length==ys.length)
 |[],[],_,e=>by cases e;rfl
 |[],_::_,_,e=>by cases e;simp
 |_::_,[],_,e=>by cases e;simp
 |x::xs,y::ys,b,e=>by
  unfold si at e;split at e
  ·rename_i b1 r1 e1 e2;cases e;have h:=uR e2;rw[Tn,Tn,Nat.succ_min_succ,Vr,Wa,Wo];have e0:ev f (x::xs) (y::ys) 0=b1:=by unfold ev;simp[e1]
   have e3:(ev f (x::xs) (y::ys)∘YE)=ev f xs ys:=by funext j;simp[ev,Zm]
   have e4:(xs.length+1==ys.length+1)=(xs.length==ys.length):=by simp
   rw[e0,e3,e4,h,Bool.and_assoc]
  ·cases e
section
variable{X:Cx}{f8:List (Addr×Obj)}{σ:St}{F H:Hp}{s:Tp}
theorem ma(h:∀x y v b,Den X.K F x v->Den X.K F y v->f x y=some b->b=true):∀{xs ys:List D}{vs:List V}{b:Bool},DenL X.K F xs vs->DenL X.K F ys vs->si f xs ys=some b->b=true
 |[],[],_,_,_,_,e=>by cases e;rfl
 |[],_::_,_,_,h1,h2,_=>by
  cases (show _=_ from h1);obtain⟨v,r,z,_⟩:=h2;cases z
 |_::_,[],_,_,h1,h2,_=>by
  cases (show _=_ from h2);obtain⟨v,r,z,_⟩:=h1;cases z
 |x::xs,y::ys,_,b,⟨v,r,e1,q1,q2⟩,⟨v',r',e2,q3,q4⟩,e=>by
  subst e1;cases e2;unfold si at e;split at e
  ·rename_i b1 r1 f1 f2;cases e;rw[h x y v b1 q1 q3 f1,ma h q2 q4 f2];rfl
  ·cases e
def tw(hx:Den X.K F x v)(hy:Den X.K F y v)(e:za x y=some b):b=true:=by
 cases x<;>cases y<;>first
  |(cases e;done)
  |(cases e;cases (show _=_ from hx);cases (show _=_ from hy);first | rfl | simp)
  |(cases e;cases (show _=_ from hx.1);cases (show _=_ from hy.1);simp)
  |(cases e;cases (show _=_ from hx);cases (show _=_ from hy.1))
  |(cases e;cases (show _=_ from hx.1);cases (show _=_ from hy))
  |(cases e;obtain⟨_,_,z,_⟩:=hx;subst z;cases (show _=_ from hy);done)
  |(cases e;obtain⟨_,_,z,_⟩:=hx;subst z;cases (show _=_ from hy.1);done)
  |(cases e;obtain⟨_,z,_⟩:=hx;subst z;cases (show _=_ from hy);done)
  |(cases e;obtain⟨_,z,_⟩:=hx;subst z;cases (show _=_ from hy.1);done)
  |(cases e;obtain⟨_,_,z,_⟩:=hy;subst z;cases (show _=_ from hx);done)
  |(cases e;obtain⟨_,_,z,_⟩:=hy;subst z;cases (show _=_ from hx.1);done)
  |(cases e;obtain⟨_,z,_⟩:=hy;subst z;cases (show _=_ from hx);done)
  |(cases e;obtain⟨_,z,_⟩:=hy;subst z;cases (show _=_ from hx.1);done)
  |(cases e;obtain⟨_,_,z,h2,_⟩:=hx;obtain⟨_,_,z',Qr,_⟩:=hy;subst z;cases z';rw[h2] at Qr;cases Qr;done)
  |(cases e;cases (show _=_ from hx);cases (show _=_ from hy);done)
  |(cases e;cases (show _=_ from hx.1);cases (show _=_ from hy.1);done)
theorem l_(I:Inv X f8 σ H s)(hs:Same F H):∀(n:Nat) (x y:D) (v:V) (b:Bool),Den X.K F x v->Den X.K F y v->o8 n x y=some b->b=true
 |0,x,y,v,b,hx,hy,e=>tw hx hy (by unfold o8 at e;exact e)
 |n+1,x,y,v,b,hx,hy,e=>by
  unfold o8 at e;split at e
  ·rename_i xs ys _;obtain⟨a,vs,rfl,h2,h3,_⟩:=hx;obtain⟨a',pY,z,k2,k3,_⟩:=hy;cases z;rw[h2] at k2;cases k2;exact ma (l_ I hs _) h3 k3 (by simpa using e)
  ·rename_i xs ys _;obtain⟨a,vs,rfl,h2,h3,_⟩:=hx;obtain⟨a',pY,z,k2,k3,_⟩:=hy;cases z;rw[h2] at k2;cases k2;exact ma (l_ I hs _) h3 k3 (by simpa using e)
  ·rename_i xs ys _;obtain⟨a,rfl,h2,_⟩:=hx;obtain⟨a',pY,z,k2,k3,_⟩:=hy;cases z;have hv:=I.list_inj (Same.seq hs h2) (SqL.of (hs _ _ k2));rw[<-hv] at k3;exact ma (l_ I hs _) (DenL.ints xs) k3 (by simpa using e)
  ·exact tw hx hy e
theorem Vals.at(r:Vals vs aO)(h:j<aO.toArray.size):∃v,vs[j]? =some v/\RelV v aO.toArray[j]:=by
 have hl:=r.length;have hj:j<vs.length:=by rw[Tv] at h;omega
 obtain⟨u,e1,e2⟩:=r.get (Tg hj);refine⟨vs[j],Tg hj,?_⟩;have:aO.toArray[j]=u:=by
  have:=(To.mp e1).2;simpa using this
 rw[this];exact e2
def pL(h1:DenL X.K F xs vs)(h2:DenL X.K F ys ws)(r1:Vals vs aO)(r2:Vals ws iq)(e:si f xs ys=some b)
 (ih:∀x y v w u t c,Den X.K F x v->Den X.K F y w->RelV v u->RelV w t->f x y=some c->EqAt A s u t c):
 ∀j (k1:j<aO.toArray.size) (k2:j<iq.toArray.size),EqAt A s aO.toArray[j] iq.toArray[j] (ev f xs ys j):=λj k1 k2=>by
 obtain⟨v,e1,q1⟩:=Vals.at r1 k1;obtain⟨w,e2,q2⟩:=Vals.at r2 k2;obtain⟨x,e3,q3⟩:=h1.at e1;obtain⟨y,e4,q4⟩:=h2.at e2;obtain⟨c,hc⟩:=xl e j x y e3 e4;have:ev f xs ys j=c:=by unfold ev;rw[e3,e4];simp[hc]
 rw[this];exact ih x y v w _ _ c q3 q4 q1 q2 hc
def tP(hu:A.units<cLine)(h1:DenL X.K F xs vs)(h2:DenL X.K F ys ws)(r1:Vals vs aO)(r2:Vals ws iq)
 (p1:s.heap.IsList a aO.toArray)(p2:s.heap.IsList a' iq.toArray)(e:si f xs ys=some b)(hr:a=a'->b=true)
 (ih:∀x y v w u t c,Den X.K F x v->Den X.K F y w->RelV v u->RelV w t->f x y=some c->EqAt A.in1 s u t c):EqAll A s (.ref a) (.ref a') b:=by
 have l1:=h1.len;have l2:=h2.len;have l3:=r1.length;have l4:=r2.length;have hv:=uR e;have core:RcAt A s (.ref a) (.ref a') b/\RcNeAt A s (.ref a) (.ref a') (!b):=by
  by_cases hl:xs.length=ys.length
  ·have hsz:aO.toArray.size=iq.toArray.size:=by rw[Tv,Tv];omega
   have hb:b=(TB aO.toArray.size).all (ev f xs ys):=by
    rw[hv,hl,Nat.min_self,beq_self_eq_true,Yy];congr 2;rw[Tv];omega
   rw[hb];exact⟨RcAt.lists p1 p2 hsz hu (pL h1 h2 r1 r2 e ih),RcNeAt.lists p1 p2 hsz hu (pL h1 h2 r1 r2 e ih)⟩
  ·have hb:b=false:=by rw[hv,show (xs.length==ys.length)=false from by simpa using hl,Bool.and_false]
   have hsz:(aO.toArray.size !=iq.toArray.size)=true:=by
    rw[Tv,Tv];simp;omega
   rw[hb];exact⟨RcAt.lists_lengths p1 p2 hsz hu,RcNeAt.lists_lengths p1 p2 hsz hu⟩
 refine⟨core.1,core.2,?_⟩;by_cases hq:a=a'
 ·rw[hr hq];subst hq;exact EqAt.same _
 ·exact EqAt.of_refs hq core.1
def Ag(hu:A.units<cLine)(h1:DenL X.K F xs vs)(h2:DenL X.K F ys ws)(r1:Vals vs aO)(r2:Vals ws iq)
 (p1:s.heap.IsTuple a aO.toArray)(p2:s.heap.IsTuple a' iq.toArray)(e:si f xs ys=some b)(hr:a=a'->b=true)
 (ih:∀x y v w u t c,Den X.K F x v->Den X.K F y w->RelV v u->RelV w t->f x y=some c->EqAt A.in1 s u t c):EqAll A s (.ref a) (.ref a') b:=by
 have l1:=h1.len;have l2:=h2.len;have l3:=r1.length;have l4:=r2.length;have hb:b=((TB (min aO.toArray.size iq.toArray.size)).all (ev f xs ys)&&aO.toArray.size==iq.toArray.size):=by
  rw[uR e,Tv,Tv,<-l3,<-l4,<-l1,<-l2]
 have core:RcAt A s (.ref a) (.ref a') b/\RcNeAt A s (.ref a) (.ref a') (!b):=by
  rw[hb];exact⟨RcAt.tuples p1 p2 hu (pL h1 h2 r1 r2 e ih),RcNeAt.tuples p1 p2 hu (pL h1 h2 r1 r2 e ih)⟩
 refine⟨core.1,core.2,?_⟩;by_cases hq:a=a'
 ·rw[hr hq];subst hq;exact EqAt.same _
 ·exact EqAt.of_refs hq core.1
theorem zb(I:Inv X f8 σ H s)(hs:Same F H):∀(n:Nat) (A:Uu) (x y:D) (v w:V) (u t:Value) (b:Bool),A.units+n<cLine->Den X.K F x v->Den X.K F y w->RelV v u->RelV w t->o8 n x y=some b->EqAll A s u t b
 |0,A,x,y,v,w,u,t,b,hu,hx,hy,rx,ry,e=>xm I hs (by omega) hx hy rx ry (by unfold o8 at e;exact e)
 |n+1,A,x,y,v,w,u,t,b,hu,hx,hy,rx,ry,e=>by
  have NL:A.units<cLine:=by omega
  have Sa:A.in1.units+n<cLine:=by show A.units+1+n<cLine;omega
  have hrefl:=l_ I hs (n+1) x y;have ih:∀x y v w u t c,Den X.K F x v->Den X.K F y w->RelV v u->RelV w t->o8 n x y=some c->EqAt A.in1 s u t c:=λx y v w u t c q1 q2 q3 q4 q5=>(zb I hs n A.in1 x y v w u t c Sa q1 q2 q3 q4 q5).eq;have e0:=e;unfold o8 at e;split at e
  ·rename_i xs ys heq;cases heq;obtain⟨a,vs,aO,rfl,Ly,h2,h3,r1,p1⟩:=wj I hs hx rx;obtain⟨a',pY,its',rfl,Lz,k2,k3,MK,MB⟩:=wj I hs hy ry;exact Ag NL h3 k3 r1 MK p1 MB e (λz=>by subst z;exact hrefl v b hx (by rw[Ly,<-Lz];exact hy) e0) ih
  ·rename_i xs ys heq;cases heq;obtain⟨a,vs,aO,rfl,Ly,h2,h3,r1,p1⟩:=qI I hs hx rx;obtain⟨a',pY,its',rfl,Lz,k2,k3,MK,MB⟩:=qI I hs hy ry;exact tP NL h3 k3 r1 MK p1 MB e (λz=>by subst z;exact hrefl v b hx (by rw[Ly,<-Lz];exact hy) e0) ih
  ·rename_i xs ys heq;cases heq;obtain⟨a,aO,rfl,Ly,h2,r1,p1⟩:=KL I hs hx rx;obtain⟨a',pY,its',rfl,Lz,k2,k3,MK,MB⟩:=qI I hs hy ry;exact tP NL (DenL.ints _) k3 r1 MK p1 MB e (λz=>by subst z;exact hrefl v b hx (by rw[Ly,<-Lz];exact hy) e0) ih
  ·exact xm I hs NL hx hy rx ry e
end
def kG(x y:D):M D:=match o8 6 x y with | some b=>aa (.bl b) | none=>af
def gr(x y:D):M D:=match o8 6 x y with | some b=>aa (.bl (!b)) | none=>af
def MM(K:Ti):R2:=λx y H Q=>∃F dx dy b,Same F H/\Den K F dx x/\Den K F dy y/\o8 6 dx dy=some b/\Q (.bl b) H
def MQ(K:Ti):R2:=λx y H Q=>∃F dx dy b,Same F H/\Den K F dx x/\Den K F dy y/\o8 6 dx dy=some b/\Q (.bl (!b)) H
section
variable{X:Cx}{Xw:Nat->Hp->Prop}{a b:Expr}{δa δb:DE}{pos:Pos}
def zQ(hu:X.A.units+64<cLine):OpR X (Uy .Eq) (MM X.K):=by
 intro f8 s σ H x y v u Q I rx ry h;obtain⟨F,dx,dy,b,hs,hx,hy,e,q⟩:=h;exact(zb I hs 6 X.A dx dy x y v u b (by omega) hx hy rx ry e).rc _ _ _ _ ⟨.bl b,H,I,rfl,q⟩
def qZ(hu:X.A.units+64<cLine):OpR X (Uy .NotEq) (MQ X.K):=by
 intro f8 s σ H x y v u Q I rx ry h;obtain⟨F,dx,dy,b,hs,hx,hy,e,q⟩:=h;exact(zb I hs 6 X.A dx dy x y v u b (by omega) hx hy rx ry e).ne _ _ _ _ ⟨.bl (!b),H,I,rfl,q⟩
def zS{K:Ti}:wF K (MM K) kG:=λXw F H x y dx dy Q s hx hy w=>by
 unfold kG at w;split at w
 ·rename_i b e;exact⟨F,dx,dy,b,s,hx,hy,e,WP.now w s rfl⟩
 ·exact w.elim
def q0{K:Ti}:wF K (MQ K) gr:=λXw F H x y dx dy Q s hx hy w=>by
 unfold gr at w;split at w
 ·rename_i b e;exact⟨F,dx,dy,b,s,hx,hy,e,WP.now w s rfl⟩
 ·exact w.elim
def oV(hu:X.A.units+64<cLine)(ha:PD X Xw a δa)(hb:PD X Xw b δb):sV X Xw (.Compare a [.Eq] [b] pos) (ej (d2 kG δa δb)):=mK (zQ hu) zS ha hb
def gX(hu:X.A.units+64<cLine)(ha:PD X Xw a δa)(hb:PD X Xw b δb):sV X Xw (.Compare a [.NotEq] [b] pos) (ej (d2 gr δa δb)):=mK (qZ hu) q0 ha hb
def t6(hu:X.A.units+64<cLine)(ha:PD X Xw a δa)(hb:PD X Xw b δb):PD X Xw (.Compare a [.Eq] [b] pos) (d2 kG δa δb):=vz (zQ hu) zS ha hb
def ME(hu:X.A.units+64<cLine)(ha:PD X Xw a δa)(hb:PD X Xw b δb):PD X Xw (.Compare a [.NotEq] [b] pos) (d2 gr δa δb):=vz (qZ hu) q0 ha hb
end
def PDW(X:Cx)(Xw:Nat->Hp->Prop)(e:Expr)(δ:DT):Prop:=PW X e (PU X.K Xw δ)
def PW.weak(h:PW X e t)(k:∀σ H Q,t' σ H Q->t σ H Q):PW X e t':=λwh f8 s σ H Q I w=>h wh f8 s σ H Q I (k σ H Q w)
section
variable{X:Cx}{Xw:Nat->Hp->Prop}{a b c:Expr}{Zw:List Expr}{δa δb δc:DE}{τa τb:DT}{pos:Pos}
def gU(ha:sV X Xw a τa):PDW X Xw (.BoolOp .Or [a] pos) τa:=Fb ha
def jY(ha:sV X Xw a τa)(hb:PDW X Xw (.BoolOp .Or (b::Zw) pos) τb):PDW X Xw (.BoolOp .Or (a::b::Zw) pos) (o7 τa τb):=PW.weak (Jb ha hb) λσ H Q ⟨F,ρ,s,w⟩=>by
 refine⟨F,ρ,s,WPB.mono (WPB.bindB w) λv H1 ⟨F1,e1,w1⟩=>?_⟩;cases v with
 |false=>exact⟨F1,ρ,s.ext e1,w1⟩
 |true=>exact w1 _ _ (Ext.refl e1.fh)
def PDW.t(h:PDW X Xw a τa):sV X Xw a τa:=PW.pt h
def dW(ha:sV X Xw a τa):sV X Xw (.UnaryOp .Not a pos) (df τa):=PT.weak (E6 ha) λσ H Q ⟨F,ρ,s,w⟩=>
 ⟨F,ρ,s,WPB.mono (WPB.bindB w) λv H1 ⟨F1,e1,w1⟩=>w1 _ _ (Ext.refl e1.fh)⟩
def yF:D->M Bool
 | .non=>aa false
 | .bl b=>aa b
 | .lst ds=>aa (!ds.isEmpty)
 | .tup ds=>aa (!ds.isEmpty)
 |_=>af
def cJ(δ:DE):DT:=λρ=>δ ρ>>=yF
theorem DenL.isEmpty{K:Ti}(h:DenL K F ds vs):ds.isEmpty=vs.isEmpty:=by
 have:=h.len;cases ds<;>cases vs<;>simp_all
def dE(ha:PD X Xw a δa)(he:∀whole,isTrue a X.env whole=(do let v<-whole;W0 a.pos;holding [v] (truthy v)):=by intro _;rfl):sV X Xw a (cJ δa):=PT.weak (yf ha he) λσ H Q ⟨F,ρ,s,w⟩=>by
 refine⟨F,ρ,s,WP.mono (WPB.bind (K:=X.K) w) λv H1 ⟨F1,d,e1,q1,w1⟩=>?_⟩;cases d with
 |non=>cases (show _=_ from q1);exact⟨false,rfl,w1 _ _ (Ext.refl e1.fh)⟩
 |bl b=>cases (show _=_ from q1);exact⟨b,rfl,w1 _ _ (Ext.refl e1.fh)⟩
 |lst ds=>
  obtain⟨a,vs,rfl,h2,h3,_⟩:=q1;exact⟨!ds.isEmpty, .inl ⟨vs,SqL.of (e1.fh _ _ h2),by rw[h3.isEmpty]⟩,w1 _ _ (Ext.refl e1.fh)⟩
 |tup ds=>
  obtain⟨a,vs,rfl,h2,h3,_⟩:=q1;exact⟨!ds.isEmpty, .inr (.inl ⟨vs,SqT.of (e1.fh _ _ h2),by rw[h3.isEmpty]⟩),w1 _ _ (Ext.refl e1.fh)⟩
 |_=>exact w1.elim
def vE(h:PD X Xw a δa):PD X Xw (.BoolOp op [a] pos) δa:=Kq h
def ri(ha:PD X Xw a δa)(hb:PD X Xw (.BoolOp .And (b::Zw) pos) δb):PD X Xw (.BoolOp .And (a::b::Zw) pos) (eW δa δb):=PE.weak (Kl ha hb) λσ H Q ⟨F,ρ,s,w⟩=>by
 refine⟨F,ρ,s,WP.mono (WP.bind w) λv H1 ⟨F1,d,e1,q1,w1⟩=>?_⟩;cases d with
 |bl k=>
  refine⟨k,q1,?_⟩;cases k with
  |true=>exact⟨F1,ρ,s.ext e1,w1⟩
  |false=>exact WP.now w1 e1.fh rfl
 |_=>exact w1.elim
def Kk(ha:PD X Xw a δa):PD X Xw (.UnaryOp .Not a pos) (IB δa):=PE.weak (Kp ha) λσ H Q ⟨F,ρ,s,w⟩=>by
 refine⟨F,ρ,s,WP.mono (WP.bind w) λv H1 ⟨F1,d,e1,q1,w1⟩=>?_⟩;cases d with
 |bl k=>exact⟨k,q1,WP.now w1 e1.fh rfl⟩
 |_=>exact w1.elim
def MD(hc:sV X Xw c τa)(ha:PD X Xw a δa)(hb:PD X Xw b δb):PD X Xw (.IfExp c a b pos) (IA τa δa δb):=PE.weak (EW hc ha hb) λσ H Q ⟨F,ρ,s,w⟩=>by
 refine⟨F,ρ,s,WPB.mono (WP.bindB w) λv H1 ⟨F1,e1,w1⟩=>?_⟩;cases v with
 |true=>exact⟨F1,ρ,s.ext e1,w1⟩
 |false=>exact⟨F1,ρ,s.ext e1,w1⟩
def y6(p q:Int->Int->Bool)(a b c:DE):DE:=λρ=>a ρ>>=λx=>b ρ>>=λy=>match x,y with
 | .int i, .int j=>if p i j then c ρ>>=λz=>gI (λi j=> .bl (q i j)) y z else aa (.bl false)
 |_,_=>af
def uk{p q:Int->Int->Bool}:∀σ H Q,tD X.K Xw (y6 p q δa δb δc) σ H Q->Af (Bh λi j=> .bl (p i j)) (Bh λi j=> .bl (q i j)) (tD X.K Xw δa) (tD X.K Xw δb) (tD X.K Xw δc) σ H Q:=λσ H Q ⟨F,ρ,s,w⟩=>by
 refine⟨F,ρ,s,WP.mono (WP.bind w) λv H1 ⟨F1,d,e1,q1,w1⟩=>?_⟩;refine⟨F1,ρ,s.ext e1,WP.mono (WP.bind w1) λu H2 ⟨F2,d',e2,q2,w2⟩=>?_⟩;cases d with
 |int i=>
  cases d' with
  |int j=>
   refine⟨i,j,q1,q2,p i j,rfl,?_⟩;have w2:WP X.K Xw F2 H2 (if p i j then δc ρ>>=λz=>gI (λi j=> .bl (q i j)) (.int j) z else aa (.bl false)) Q:=w2;cases hp:p i j with
   |false=>
    rw[hp] at w2;exact WP.now w2 e2.fh rfl
   |true=>
    rw[hp] at w2;refine⟨F2,ρ,(s.ext e1).ext e2,WP.mono (WP.bind w2) λu' H3 ⟨F3,Q6,e3,q3,w3⟩=>?_⟩;exact AY (gd:=λi j=> .bl (q i j)) (λ_ _ _=>rfl) Xw F3 H3 u u' (.int j) Q6 Q e3.fh q2 q3 w3
  |_=>exact w2.elim
 |_=>exact w2.elim
def EM(ho:OpR X (Uy op) (Bh λi j=> .bl (p i j)))(tx:OpR X (Uy Cr) (Bh λi j=> .bl (q i j)))(ha:PD X Xw a δa)(hb:PD X Xw b δb)(hc:PD X Xw c δc)
 (hm:lastMarks [op,Cr] [b,c]=false:=by with_unfolding_all rfl):PD X Xw (.Compare a [op,Cr] [b,c] pos) (y6 p q δa δb δc):=PE.weak (EU ho tx ha hb hc hm) uk
def E4(ho:OpR X (Uy op) (Bh λi j=> .bl (p i j)))(tx:OpR X (Uy Cr) (Bh λi j=> .bl (q i j)))(ha:PD X Xw a δa)(hb:PD X Xw b δb)(hc:PD X Xw c δc)
 (hm:lastMarks [op,Cr] [b,c]=false:=by with_unfolding_all rfl):sV X Xw (.Compare a [op,Cr] [b,c] pos) (ej (y6 p q δa δb δc)):=PT.weak (E5 ho tx ha hb hc hm) λσ H Q ⟨F,ρ,s,w⟩=>by
 refine uk σ H _ ⟨F,ρ,s,WP.mono (WPB.bind w) λv H1 ⟨F1,d,e1,q1,w1⟩=>?_⟩;cases d with
 |bl k=>exact⟨k,q1,w1 _ _ (Ext.refl e1.fh)⟩
 |_=>exact w1.elim
def wC(K:Ti)(r:List V->Hp->VK->Prop)(g:List D->M D):Prop:=∀(Xw:Nat->Hp->Prop) (F H:Hp) (vs:List V) (ds:List D) (Q:VK),Same F H->DenL K F ds vs->WP K Xw F H (g ds) Q->r vs H Q
variable{x:Str}{p:Pos}{e:Expr}{es:List Expr}{δs:DA}{id T:String}{r:List V->Hp->VK->Prop}{g:List D->M D}
def FH(h:wC X.K r g):∀σ H Q,tD X.K Xw (dA g δs) σ H Q->PQ r (Q0 X.K Xw δs) σ H Q:=λσ H Q ⟨F,ρ,s,w⟩=>
 ⟨F,ρ,s,WPL.mono (WP.bindL w) λvs H1 ⟨F1,ds,e1,q1,w1⟩=>h Xw F1 H1 vs ds Q e1.fh q1 w1⟩
def fw(hc:CallR X (.builtin id) r)(hd:wC X.K r g)(hg:Gl X x)(hm:X.mg x=none)(hv:Uw x=some (.builtin id))(ha:lz X Xw (e::es) δs)(hn:x≠"__name__":=by decide)(lN:(x==("__debug__":Str))=false:=by decide)
 (he:Tq (e::es) X.env=(false,eval e X.env)::Tq es X.env:=by rfl)(iX:(UM pos (Tq es X.env)).any (·.1)=false:=by rfl):PD X Xw (.Call (.Name x p) (e::es) [] pos) (dA g δs):=
 PE.weak (yb hc hg hm hv ha hn lN he iX) (FH hd)
def t5(hc:CallR X (.type T) r)(hd:wC X.K r g)(hg:Gl X x)(hm:X.mg x=none)(hv:Uw x=some (.type T))(ha:lz X Xw (e::es) δs)(hn:x≠"__name__":=by decide)(lN:(x==("__debug__":Str))=false:=by decide)
 (he:Tq (e::es) X.env=(false,eval e X.env)::Tq es X.env:=by rfl)(iX:(UM pos (Tq es X.env)).any (·.1)=false:=by rfl):PD X Xw (.Call (.Name x p) (e::es) [] pos) (dA g δs):=
 PE.weak (CA hc hg hm hv ha hn lN he iX) (FH hd)
def bA:List D->M D
 |[.lst ds]=>aa (.int ds.length)
 |[.tup ds]=>aa (.int ds.length)
 |[.str x]=>aa (.int x.length)
 |[.scr ns]=>aa (.int ns.length)
 |_=>af
def Cc:wC X.K (λxs H Q=>(∃p ys,xs=[.ref p]/\(SqL X.K H p ys\/SqT X.K H p ys)/\Q (.int ys.length) H)\/∃z,xs=[.str z]/\z.length<=TK/\Q (.int z.length) H) bA:=λXw F H vs ds Q s h w=>by
 unfold bA at w;split at w
 ·obtain⟨v,rfl,h1⟩:=h.one;obtain⟨a,vs,rfl,h2,h3,_⟩:=h1;exact .inl ⟨a,vs,rfl, .inl (SqL.of (s _ _ h2)),by rw[<-h3.len];exact WP.now w s rfl⟩
 ·obtain⟨v,rfl,h1⟩:=h.one;obtain⟨a,vs,rfl,h2,h3,_⟩:=h1;exact .inl ⟨a,vs,rfl, .inr (SqT.of (s _ _ h2)),by rw[<-h3.len];exact WP.now w s rfl⟩
 ·obtain⟨v,rfl,h1⟩:=h.one;cases (show _=_ from h1.1);exact .inr ⟨_,rfl,by have:=h1.2;have:=dH;omega,WP.now w s rfl⟩
 ·obtain⟨v,rfl,h1⟩:=h.one;obtain⟨a,rfl,h2,_⟩:=h1;exact .inl ⟨a,_,rfl, .inl (Same.seq s h2),by rw[Te];exact WP.now w s rfl⟩
 ·exact w.elim
def bG(hg:Gl X "len")(hm:X.mg "len"=none)(ha:lz X Xw [e] δs)(he:Tq [e] X.env=[(false,eval e X.env)]:=by rfl):PD X Xw (.Call (.Name "len" p) [e] [] pos) (dA bA δs):=
 fw (l8.or uK) Cc hg hm PySem.boot_len ha (by decide) (by decide) he rfl
def C_:List D->M D
 |[.int i]=>aa (.int (if i<0 then -i else i))
 |_=>af
def zG:List D->M D
 |[.int i, .int j]=>aa (.int (if j>i then j else i))
 |_=>af
def Ci:List D->M D
 |[.int i, .int j]=>aa (.int (if j<i then j else i))
 |_=>af
def EK(hg:Gl X "abs")(hm:X.mg "abs"=none)(ha:lz X Xw [e] δs)(hb:Uw "abs"=some (.builtin "abs"))(he:Tq [e] X.env=[(false,eval e X.env)]:=by rfl):PD X Xw (.Call (.Name "abs" p) [e] [] pos) (dA C_ δs):=
 fw Dj (λXw F H vs ds Q s h w=>by
  unfold C_ at w;split at w
  ·obtain⟨v,rfl,h1⟩:=h.one;cases (show _=_ from h1);exact⟨_,rfl,WP.now w s rfl⟩
  ·exact w.elim) hg hm hb ha (by decide) (by decide) he rfl
end
def WP.xw{K:Ti}(h:WP K Xw F H m Q)(k:∀n H,Xw n H->Xw' n H):WP K Xw' F H m Q:=by
 match m,h with
 |none,h=>exact h
 |some (.ok d),h=>exact h
 |some (.ex n),h=>exact λF' H' e=>k n H' (h F' H' e)
def gW{X:Cx}{st:Stmt}(h:pJ X.nox (λ_ _=>False) st τ):pJ X Xw st (λρ=>noex (τ ρ)):=λu8 ZQ f8 s σ H D I ⟨F,ρ,S,w⟩=>by
 have w:WPS X.K Xw u8 ZQ (noex (τ ρ)) D:=w;have w':tS X.K (λ_ _=>False) u8 ZQ τ D σ H:=by
  refine⟨F,ρ,S,?_⟩;rcases(τ ρ).cs with e | ⟨n,e⟩ | ⟨o,e⟩
  ·rw[e] at w;exact w.elim
  ·rw[e] at w;exact w.elim
  ·rw[e] at w⊢;cases o with
   |nx ρ'=>exact w
   |rt d=>exact w
 refine UO (h u8 ZQ f8 s σ H D (I.wish _) w') (λf s' q=>SP.unwish q) λ_ _ z=>z.elim
def EX(cv:Nat->Value)(Xw:Nat->Hp->Prop):XK:=λc _ H=>∃n,c=cv n/\Xw n H
def KR(K:Ti)(cv:Nat->Value)(k:Nat)(f:List D->M D):Sp:=λvs H Q E=>∃F ds,Same F H/\DenL K F ds vs/\vs.length=k/\WP K (λn H'=>E (cv n) none H') F H (f ds) Q
def dF(n:Nat)(τ:DS):List D->M D:=λds=>τ (ds.map (λd=>some (Sl.fz d))++TH (n - ds.length) none)>>=λo=>match o with
 | .nx _=>aa .non
 | .rt d=>aa d
section
variable{P:T3}{w:World}{K:Ti}{mg:Str->Option Value}{base:Heap}{CX:BB}{cv:Nat->Value}
def Og{x qual:Str}{st:Stmt}(Fn:Fun K x qual st f fd)(S:FnScope N ps (ag st))
 (bX:∀(bT:Value) (A:Uu) (outer:List Env) (s:Tp) (H:Hp) (E:XK),Room k (A.deeper (VB qual (ag st) s.heap.objs.size f bT))->
  PSDs (eC CX P w K mg base N qual (ag st) f bT A outer s H E) (λn H'=>E (cv n) none H') (aB st) τ):FnOk P w K mg base CX (k+1) f fd ps (KR K cv ps.length (dF N.length τ)):=by
 obtain⟨oc,od,kV,doc,pm,an,bT,ct,A0,rfl,lk,sj⟩:=Fn.ex;refine qo lk sj S (λvs H Q E ⟨_,_,_,_,hl,_⟩=>hl) λA outer s H vs Q E hr wB=>?_;obtain⟨F,ds,fh,hd,hl,hw⟩:=wB;refine⟨_,bX bT A outer s H E hr F H,F,ds.map (λd=>some (Sl.fz d))++TH (N.length - ds.length) none,⟨Ext.refl fh,⟨fh,λi sl e=>?_⟩,?_,λi c a e=>?_,λi j sl fG v v' b e _ _ _ hb _=>?_⟩,?_⟩
 ·have P3:=hd.len;by_cases hi:i<ds.length
  ·rw[TF (by simpa using hi),Tx] at e;cases q:ds[i]? with
   |none=>rw[q] at e;cases e
   |some d=>
    rw[q] at e;cases e;obtain⟨v,e1,e2⟩:=hd.get q;refine⟨v,?_,e2⟩;unfold L2.start;rw[TF (by simp;omega),Tx,e1];rfl
  ·rw[TR (by simpa using hi),Um] at e;split at e<;>cases e
 ·have P3:=hd.len;unfold L2.start;simp[P3]
 ·exfalso
  by_cases hi:i<ds.length
  ·rw[TF (by simpa using hi),Tx] at e;cases q:ds[i]? with
   |none=>rw[q] at e;cases e
   |some d=>rw[q] at e;cases e
  ·rw[TR (by simpa using hi),Um] at e;split at e<;>cases e
 ·exfalso
  by_cases hi:i<ds.length
  ·rw[TF (by simpa using hi),Tx] at e;cases q:ds[i]? with
   |none=>rw[q] at e;cases e
   |some d=>rw[q] at e;cases e;cases hb
  ·rw[TR (by simpa using hi),Um] at e;split at e<;>cases e
 ·have hw:WP K (λn H'=>E (cv n) none H') F H (τ (ds.map (λd=>some (Sl.fz d))++TH (N.length - ds.length) none)>>=λo=>match o with | .nx _=>aa .non | .rt d=>aa d) Q:=hw;rcases(τ (ds.map (λd=>some (Sl.fz d))++TH (N.length - ds.length) none)).cs with e | ⟨n,e⟩ | ⟨o,e⟩
  ·rw[e] at hw;exact hw.elim
  ·rw[e] at hw⊢;exact hw
  ·rw[e] at hw⊢;cases o with
   |nx ρ'=>exact λσ' F' H' s'=>hw .non H' F' s'.ext rfl
   |rt d=>exact λv F' H' e' q=>hw v H' F' e' q
end
section
variable{X:Cx}{Xw:Nat->Hp->Prop}{CX:BB}{cv:Nat->Value}{k m:Nat}{f:Addr}{fd:Vz}{ps:List Str}{g:List D->M D}{x:Str}{p pos:Pos}{e:Expr}{es:List Expr}{δs:DA}
def Hl(F:FnOk X.prog X.w X.K X.mg X.base CX k f fd ps (KR X.K cv m g))(hr:Room k X.A)(hg:Gl X x)(hm:X.mg x=some (.ref f))(hk:Uk X.K (.ref f)=true)(hb:Binds X.K fd ps [])(hx:Passes CX X (EX cv Xw))
 (ha:lz X Xw (e::es) δs)(hl:(e::es).length=m)(lN:(x==("__debug__":Str))=false:=by decide)(he:Tq (e::es) X.env=(false,eval e X.env)::Tq es X.env:=by rfl)(iX:(UM pos (Tq es X.env)).any (·.1)=false:=by rfl):
 PD X Xw (.Call (.Name x p) (e::es) [] pos) (λρ=>δs ρ>>=λds=>if ds.length=m then g ds else af):=PE.weak (vF F hr hg hm hk hb .nil hx ha lN he iX) λσ H Q ⟨F,ρ,s,w⟩=>by
 refine⟨F,ρ,s,WPL.mono (WP.bindL w) λvs H1 ⟨F1,ds,e1,q1,w1⟩=>?_⟩;split at w1
 ·rename_i LV;refine⟨F1,ds,e1.fh,by simpa using q1,by rw[T_,<-q1.len];exact LV,WP.xw w1 λn H h=>⟨n,rfl,h⟩⟩
 ·exact w1.elim
def A2{x:Str}(hg:Gl X x)(hm:X.mg x=some u)(r:RelV v u)(hd:∀F,Den X.K F d v)(lN:(x==("__debug__":Str))=false:=by decide):PD X Xw (.Name x pos) (dC d):=
 iy (Hx hg hm r lN) hd
end
def obj_some(x:ObjOk P w H h a o):∃ob,h.get? a=some ob:=by
 cases o with
 |lst xs=>obtain⟨_,_,_,_,e⟩:=x;exact⟨_,e⟩
 |tup xs=>obtain⟨_,_,_,ob,e,_⟩:=x;exact⟨_,e⟩
 |dK ay=>obtain⟨_,_,_,_,o,_,_,e,_⟩:=x;exact⟨_,e⟩
 |dT ay=>obtain⟨_,_,_,_,o,_,_,e,_⟩:=x;exact⟨_,e⟩
 |set S n=>obtain⟨o,_,_,_,e,_⟩:=x;exact⟨_,e⟩
 |ins C dx fs=>obtain⟨_,_,_,e,_⟩:=x;exact⟨_,e⟩
 |own y=>obtain⟨_,e⟩:=x;exact⟨_,e⟩
 |xd fs=>obtain⟨_,⟨_,_,_,e,_⟩,_⟩:=x;exact⟨_,e⟩
 |rng lo hi=>obtain⟨_,_,_,e⟩:=x;exact⟨_,e⟩
 |frz ob u=>obtain⟨e,_⟩:=x;exact⟨_,e⟩
 |tbl ps=>exact⟨_,(show h.get? a=some _ from x)⟩
 |met f y=>exact⟨_,(show h.get? a=some _ from x)⟩
 |ext φ=>obtain⟨_,⟨_,e⟩,_⟩:=x;exact⟨_,e⟩
def f7(P:T3)(w:World)(cv:Nat->Value):BB:=λouter H s E e s'=>∃(ea:Addr) (n:Nat) (a0:Value) (B:Heap) (H':Hp),e= .ref ea/\s'.os=s.os/\Xs s'.gens/\HOk P w H' s'.heap/\Un (o9 outer) [] H H' s.heap s'.heap/\
 Heap.FlyingW B outer ea (cv n) a0 s'.heap/\(∀b o,s'.heap.get? b=some o->(H' b≠none\/(s.heap.get? b).isSome=true)->b∉o9 outer->B.get? b=some o)/\E (cv n) none H'
section
variable{P:T3}{w:World}{fs:List Addr}{ZQ H:Hp}{h₀ h h':Heap}
def Ih(u:Un fs [] ZQ H h₀ h)(ka:∀b o,h.get? b=some o->b∉fs->(H b≠none\/(h₀.get? b).isSome=true)->h'.get? b=some o)(kb:∀b o,h.get? b=some o->b∈fs->∃sl,h'.get? b=some {o with slots:=sl}):Un fs [] ZQ H h₀ h' where
 keep:=λb o e n hb hx=>ka b o (u.keep b o e n hb hx) hb (.inr (by rw[e];rfl))
 slot:=λb o e n hb hx=>by
  obtain⟨sl,q⟩:=u.slot b o e n hb hx;obtain⟨fG,q'⟩:=kb b _ q hb;exact⟨fG,q'⟩
 free:=u.free
 there:=λb o e hx=>by
  obtain⟨o',q⟩:=u.there b o e hx;by_cases hb:b∈fs
  ·obtain⟨sl,q'⟩:=kb b _ q hb;exact⟨_,q'⟩
  ·exact⟨o',ka b o' q hb (.inr (by rw[e];rfl))⟩
 tups:=u.tups
 frzs:=u.frzs
 tbls:=u.tbls
def D7(x:HOk P w H h)(hf:∀b∈fs,H b=none)(ka:∀b o,h.get? b=some o->b∉fs->H b≠none->h'.get? b=some o):HOk P w H h':=λa o e=>by
 refine(x a o e).stay (λb u hb q=>ka b u q (λz=>?_) ?_) (λ_ q=>q) λ_ _ q=>q
 ·have hz:=hf b z;rcases hb with rfl | hb
  ·rw[hz] at e;cases e
  ·rw[hz] at hb;cases hb
 ·rcases hb with rfl | hb
  ·rw[e];exact λz=>nomatch z
  ·rw[hb];exact λz=>nomatch z
end
section
variable{P:T3}{w:World}{K:Ti}{mg:Str->Option Value}{base:Heap}{N:List Str}{qual:Str}{scope:Scope}{f:Addr}{cd:Value}{A:Uu}{outer:List Env}{ZR:Tp}{ZQ:Hp}{E:XK}{cv:Nat->Value}
def aJ:Passes (f7 P w cv) (eC (f7 P w cv) P w K mg base N qual scope f cd A outer ZR ZQ E) (EX cv λn H'=>E (cv n) none H'):=by
 intro f8 σ H s e s' I ⟨ea,n,a0,B,H',he,B6,hg,hok,un,Qp,hB,m,hm,hE⟩;subst he;have JI:((eC (f7 P w cv) P w K mg base N qual scope f cd A outer ZR ZQ E)).env.locals=ZR.heap.objs.size:=rfl;have GU:o9 ((eC (f7 P w cv) P w K mg base N qual scope f cd A outer ZR ZQ E)).stack=ZR.heap.objs.size::o9 outer:=rfl;show wpAny (model P w) (A.deeper (VB qual scope ZR.heap.objs.size f cd)) (leaving (VB qual scope ZR.heap.objs.size f cd) (.ref ea)) _ _ s';refine wpAny_leaves_onW I.ok.frames rfl Qp λh' Jy ups=>?_;have AJ:∀b∈o9 ((eC (f7 P w cv) P w K mg base N qual scope f cd A outer ZR ZQ E)).stack,H' b=none:=λb hb=>by
  obtain⟨o,ho⟩:∃o,s.heap.get? b=some o:=by
   obtain⟨_,o,ho,_⟩:=I.stack.mem hb;exact⟨o,ho⟩
  exact un.free b o ho (I.stkFree b hb) (by simp)
 have IW:∀b o,s'.heap.get? b=some o->b∉o9 ((eC (f7 P w cv) P w K mg base N qual scope f cd A outer ZR ZQ E)).stack->(H' b≠none\/(s.heap.get? b).isSome=true)->h'.get? b=some o:=λb o e hb hc=>Jy.1 b o (hB b o e hc hb);have unA:Un (o9 outer) [] ZQ H' ZR.heap s'.heap:=by
  have u1:Un (o9 outer) [] ZQ H ZR.heap s.heap:=I.base;refine⟨λb o e nn hb hx=>?_,λb o e nn hb hx=>?_,λb o e nn hx=>?_,λb o e hx=>?_,λb xs q=>un.tups b xs (u1.tups b xs q),λb o u q=>un.frzs b o u (u1.frzs b o u q),λb ps q=>?_⟩
  ·refine un.keep b o (u1.keep b o e nn hb hx) (u1.free b o e nn hx) (λz=>?_) (by simp);rw[GU] at z;rcases Tz.mp z with z | z
   ·exact Zp (TJ e) (by rw[z];exact Uv _)
   ·exact hb z
  ·obtain⟨sl,q⟩:=u1.slot b o e nn hb hx;obtain⟨fG,q'⟩:=un.slot b _ q (u1.free b o e nn hx) (by rw[GU];exact Tf _ hb) (by simp);exact⟨fG,q'⟩
  ·obtain⟨o',q⟩:=u1.there b o e hx;exact un.free b o' q (u1.free b o e nn hx) (by simp)
  ·obtain⟨o',q⟩:=u1.there b o e hx;exact un.there b o' q (by simp)
  ·obtain⟨m1,q1⟩:=u1.tbls b ps q;obtain⟨m2,q2⟩:=un.tbls b _ q1;exact⟨m1++m2,by rw[q2,Xr]⟩
 have QN:∀b,(ZR.heap.get? b).isSome=true->(s.heap.get? b).isSome=true:=λb hb=>by
  obtain⟨o,ho⟩:=U4.mp hb;obtain⟨o',q⟩:=(show Un (o9 outer) [] ZQ H ZR.heap s.heap from I.base).there b o ho (by simp);rw[q];rfl
 have Pl:∀b,(ZR.heap.get? b).isSome=true->b≠ZR.heap.objs.size:=λb hb z=>by
  obtain⟨o,ho⟩:=U4.mp hb;exact Zp (TJ ho) (by rw[z];exact Uv _)
 have Mu:∀b,b∉o9 outer->(H' b≠none\/(ZR.heap.get? b).isSome=true)->b∉o9 ((eC (f7 P w cv) P w K mg base N qual scope f cd A outer ZR ZQ E)).stack:=λb hb hc z=>by
  rcases hc with hc | hc
  ·exact hc (AJ b z)
  ·rw[GU] at z;rcases Tz.mp z with z | z
   ·exact Pl b hc z
   ·exact hb z
 refine⟨ea,n,a0,B,H',rfl,B6.trans I.os,hg,D7 hok AJ (λb o e hb hc=>IW b o e hb (.inl hc)),Ih unA (λb o e hb hc=>IW b o e (Mu b hb hc) (hc.imp id (QN b))) (λb o e hb=>?_),Jy,λb o e hc hb=>?_,?_⟩
 ·obtain⟨_,o',tx,hd⟩:=Qp.2.2.1.mem (show b∈o9 ((eC (f7 P w cv) P w K mg base N qual scope f cd A outer ZR ZQ E)).stack by rw[GU];exact Tf _ hb);rw[e] at tx;cases tx;exact ups b o e hd
 ·have F9:=Mu b hb hc;obtain⟨o',tx⟩:∃o',s'.heap.get? b=some o':=by
   rcases hc with hc | hc
   ·cases q:H' b with
    |none=>exact Zp q hc
    |some u=>
     exact obj_some (hok b u q)
   ·obtain⟨o1,h1⟩:=U4.mp hc;exact unA.there b o1 h1 (by simp)
  have:=hB b o' tx (hc.imp id (QN b)) F9;rw[Jy.1 b o' this] at e;cases e;exact this
 ·rw[hm];exact hE
end
def IX:D->Option String
 | .non=>some "NoneType"
 | .bl _=>some "bool"
 | .int _=>some "int"
 | .str _=>some "str"
 | .tup _=>some "tuple"
 | .lst _=>some "list"
 |_=>none
def JY(k T:String):Option Bool:=if T="str"\/T="int"\/T="bool"\/T="tuple"\/T="list" then some (decide (k=T)||(decide (k="bool")&&decide (T="int"))) else none
def jm:List D->M D
 |[d, .raw (.ty T)]=>match IX d with
  |some k=>match JY k T with
   |some b=>aa (.bl b)
   |none=>af
  |none=>af
 |_=>af
def J7{K:Ti}(hk:k="NoneType"\/k="bool"\/k="int"\/k="str"\/k="tuple"\/k="list")(h:JY k T=some b):XX K (.type k) (.type T)=some b:=by
 unfold JY at h;split at h
 ·rename_i hT;cases h;rcases hk with rfl | rfl | rfl | rfl | rfl | rfl<;>rcases hT with rfl | rfl | rfl | rfl | rfl<;>with_unfolding_all rfl
 ·cases h
section
variable{X:Cx}{Xw:Nat->Hp->Prop}{a b e e2:Expr}{δs:DA}{pos p:Pos}
def MN(K:Ti):List V->Hp->VK->Prop:=λxs H Q=>∃x T t b,xs=[x, .ty T]/\TyOf K H x t/\XX K t (.type T)=some b/\Q (.bl b) H
def Dk:CallR X (.builtin "isinstance") (MN X.K):=by
 intro f8 s σ H xs us Q I r h;obtain⟨x,T,t,b,rfl,ty,e,q⟩:=h;obtain⟨u,w',rfl,r1,r2⟩:=vals2 r;cases (show w'=_ from r2);exact B9 I r1 ty e λtk=>⟨.bl b,H,I.tok tk,rfl,q⟩
def FT{K:Ti}(s:Same F H)(h:Den K F d v)(hk:IX d=some k):TyOf K H v (.type k)/\(k="NoneType"\/k="bool"\/k="int"\/k="str"\/k="tuple"\/k="list"):=by
 cases d with
 |non=>cases hk;cases (show _=_ from h);exact⟨.non, .inl rfl⟩
 |bl x=>cases hk;cases (show _=_ from h);exact⟨.bl x, .inr (.inl rfl)⟩
 |int x=>cases hk;cases (show _=_ from h);exact⟨.int x, .inr (.inr (.inl rfl))⟩
 |str x=>cases hk;cases (show _=_ from h.1);exact⟨.str x, .inr (.inr (.inr (.inl rfl)))⟩
 |tup x=>cases hk;obtain⟨a,vs,rfl,h2,_⟩:=h;exact⟨.tup (s _ _ h2), .inr (.inr (.inr (.inr (.inl rfl))))⟩
 |lst x=>cases hk;obtain⟨a,vs,rfl,h2,_⟩:=h;exact⟨.lst (s _ _ h2), .inr (.inr (.inr (.inr (.inr rfl))))⟩
 |_=>cases hk
def B8{K:Ti}:wC K (MN K) jm:=λXw F H vs ds Q s h w=>by
 unfold jm at w;split at w
 ·rename_i d T;obtain⟨v,v',rfl,h1,h2⟩:=h.two;cases (show _=_ from h2);split at w
  ·rename_i k hk;split at w
   ·rename_i b hb;obtain⟨ty,NC⟩:=FT s h1 hk;exact⟨v,T, .type k,b,rfl,ty,J7 NC hb,WP.now w s rfl⟩
   ·exact w.elim
  ·exact w.elim
 ·exact w.elim
def nG(hg:Gl X "isinstance")(hm:X.mg "isinstance"=none)(hb:Uw "isinstance"=some (.builtin "isinstance"))(ha:lz X Xw [e,e2] δs)(he:Tq [e,e2] X.env=(false,eval e X.env)::Tq [e2] X.env:=by rfl)
 (iX:(UM pos (Tq [e2] X.env)).any (·.1)=false:=by rfl):PD X Xw (.Call (.Name "isinstance" p) [e,e2] [] pos) (dA jm δs):=
 fw Dk B8 hg hm hb ha (by decide) (by decide) he iX
def t7{x:Str}(hg:Gl X x)(hm:X.mg x=none)(hv:Uw x=some (.type T))(hn:x≠"__name__":=by decide)(hd:(x==("__debug__":Str))=false:=by decide):PD X Xw (.Name x pos) (dC (.raw (.ty T))):=
 iy (Hw hg hm hv (show RelV (.ty T) (.type T) from rfl) hn hd) λ_=>rfl
def bools:List D->Option (List Bool)
 |[]=>some []
 | .bl b::r=>(bools r).map (b:: ·)
 |_=>none
def allM:List D->M D
 |[.lst ds]=>match bools ds with
  |some bs=>aa (.bl (bs.all id))
  |none=>af
 |_=>af
theorem s9{K:Ti}:∀{ds:List D}{vs:List V}{bs:List Bool},bools ds=some bs->DenL K F ds vs->vs=bs.map V.bl
 |[],_,_,e,h=>by cases e;exact h
 | .bl b::r,_,_,e,⟨v,r',h1,h2,h3⟩=>by
   unfold bools at e;cases q:bools r with
   |none=>rw[q] at e;cases e
   |some bs=>rw[q] at e;cases e;subst h1;rw[s9 q h3,show v= .bl b from h2];rfl
 | .non::_,_,_,e,_=>by cases e
 | .int _::_,_,_,e,_=>by cases e
 | .str _::_,_,_,e,_=>by cases e
 | .raw _::_,_,_,e,_=>by cases e
 | .exc _::_,_,_,e,_=>by cases e
 | .scr _::_,_,_,e,_=>by cases e
 | .tup _::_,_,_,e,_=>by cases e
 | .lst _::_,_,_,e,_=>by cases e
theorem Bx:∀{bs:List Bool}{aO:List Value},Vals (bs.map V.bl) aO->aO=bs.map V8
 |[],_,r=>by cases r;rfl
 |b::bs,_,r=>by
  cases r with
  |cons r1 r2=>cases (show _=_ from r1);rw[Bx r2];rfl
def Pu:List V->Hp->VK->Prop:=λxs H Q=>∃(a:Addr) (bs:List Bool),xs=[.ref a]/\H a=some (.lst (bs.map V.bl))/\Q (.bl (bs.all id)) H
def all_range{bs:List Bool}:(TB bs.length).all (λi=>bs.getD i false)=bs.all id:=by
 induction bs with
 |nil=>rfl
 |cons b bs ih=>
  rw[Tn,Vr,Wa,Wo,Wa];congr 1
def BK(hc:X.calm=true):CallR X (.builtin "all") Pu:=by
 intro f8 s σ H xs us Q I r h;obtain⟨a,bs,rfl,hH,q⟩:=h;obtain⟨u,rfl,r1⟩:=vals1 r;cases (show u=_ from r1);obtain⟨aO,r2,pl,hz⟩:=I.list (SqL.of hH);obtain rfl:=Bx r2;have iM:a≠s.heap.objs.size:=T1 (I.hok.lt hH);refine call_all_walk (wpAny_pyIter_list pl.isList ?_);refine⟨s.heap.objs.size,_,_,_,_,_,λi=>bs.getD i false,rfl,Walks.list (show X.A.in1.handled=none from I.ok.hd hc) s.heap.objs.size a iM (bs.map V8).toArray,⟨⟨_,TM _ rfl,rfl,rfl⟩,Heap.IsList.at pl.isList λo e=>Tj _ e⟩,?_,λh' tk k=>?_⟩
 ·intro i v s' Q' E' hv hq;have hv:(bs.map V8).toArray[i]? =some v:=hv;rw[List.getElem?_toArray,Tx] at hv;cases q':bs[i]? with
  |none=>rw[q'] at hv;cases hv
  |some b=>
   rw[q'] at hv;cases hv;have:bs.getD i false=b:=by rw[Tw,q'];rfl
   have hq:Q' (bs.getD i false) s':=hq;rw[this] at hq;exact Vc hq
 ·have e:(TB (bs.map V8).toArray.size).all (λi=>bs.getD i false)=bs.all id:=by
   rw[Tv,Te];exact all_range
  rw[e];refine⟨.bl (bs.all id),H,I.kept λb o e'=>k b o (λz=>?_) (Tj _ e'),rfl,q⟩;have z:b=s.heap.objs.size:=by simpa using z
  exact Zp (TJ e') (by rw[z];exact Uv _)
def zW(hc:X.calm=true)(hg:Gl X "all")(hm:X.mg "all"=none)(hb:Uw "all"=some (.builtin "all"))(ha:lz X Xw [e] δs)(he:Tq [e] X.env=[(false,eval e X.env)]:=by rfl):PD X Xw (.Call (.Name "all" p) [e] [] pos) (dA allM δs):=
 fw (BK hc) (λXw F H vs ds Q s h w=>by
  unfold allM at w;split at w
  ·rename_i ds;obtain⟨v,rfl,h1⟩:=h.one;obtain⟨a,ws,rfl,h2,h3,_⟩:=h1;split at w
   ·rename_i bs hb;exact⟨a,bs,rfl,by rw[<-s9 hb h3];exact s _ _ h2,WP.now w s rfl⟩
   ·exact w.elim
  ·exact w.elim) hg hm hb ha (by decide) (by decide) he rfl
end
section
variable{X:Cx}{Xw:Nat->Hp->Prop}{a b e e2:Expr}{es:List Expr}{δ δa δb:DE}{pos p v6 a7:Pos}
def H9:∀u8 ZQ D σ H,tS X.K Xw u8 ZQ (k_ i δ) D σ H->FJ (PM X.K "list" Bf (fE i) (FI (tD X.K Xw δ) Ia)) D σ H:=λu8 ZQ D σ H ⟨F,ρ,s,w⟩=>by
 unfold k_ at w;cases ho:i4 ρ i with
 |none=>rw[ho] at w;exact w.elim
 |some ds=>
  rw[ho] at w;have hi:=ix ho;obtain⟨v,hv,a,o,rfl,hH,hF,vs,rfl,hd,hl⟩:=s.st.den i _ hi;have w:WPS X.K Xw u8 ZQ (δ ρ>>=λd=>if ds.length<lim then aa (.nx (ρ.set i (some (.ow (.lst (ds++[d])))))) else af) D:=w;refine⟨.ref a,hv, .inl ⟨rfl,vs,SqL.of hH⟩,F,ρ,s.st,?_⟩;rcases(δ ρ).cs with q | ⟨n,q⟩ | ⟨d,q⟩
  ·rw[q] at w;exact w.elim
  ·rw[q] at w⊢;exact λF' H' e'=>w F' H' (s.ext.trans e')
  ·rw[q] at w⊢;intro u H1 F1 e1 hq;have w:WPS X.K Xw u8 ZQ (if ds.length<lim then aa (.nx (ρ.set i (some (.ow (.lst (ds++[d])))))) else af) D:=w;split at w
   ·rename_i iL;have P3:=hd.len;refine⟨a,vs,u,rfl,rfl,e1.hh _ _ hH,by have:=dH;omega,?_⟩;exact w σ F1 _ ((s.ext' e1).chg hi hv ⟨_,rfl,DenL.append (DenL.mono e1.ff hd) (.cons hq .nil),by rw[Tt];exact iL⟩)
   ·exact w.elim
def H_:∀u8 ZQ D σ H,tS X.K Xw u8 ZQ (Fo i δ) D σ H->FJ (PM X.K "list" Bg (fE i) (FI (tD X.K Xw δ) Ia)) D σ H:=λu8 ZQ D σ H ⟨F,ρ,s,w⟩=>by
 unfold Fo at w;cases ho:i4 ρ i with
 |none=>rw[ho] at w;exact w.elim
 |some ds=>
  rw[ho] at w;have hi:=ix ho;obtain⟨v,hv,a,o,rfl,hH,hF,vs,rfl,hd,hl⟩:=s.st.den i _ hi;have w:WPS X.K Xw u8 ZQ (δ ρ>>=λd=>lstM d>>=λes=>if ds.length+es.length<=lim then aa (.nx (ρ.set i (some (.ow (.lst (ds++es)))))) else af) D:=w;refine⟨.ref a,hv, .inl ⟨rfl,vs,SqL.of hH⟩,F,ρ,s.st,?_⟩;rcases(δ ρ).cs with q | ⟨n,q⟩ | ⟨d,q⟩
  ·rw[q] at w;exact w.elim
  ·rw[q] at w⊢;exact λF' H' e'=>w F' H' (s.ext.trans e')
  ·rw[q] at w⊢;intro u H1 F1 e1 hq;cases d with
   |lst es=>
    obtain⟨b,ws,rfl,k2,k3,k4⟩:=hq;have w:WPS X.K Xw u8 ZQ (if ds.length+es.length<=lim then aa (.nx (ρ.set i (some (.ow (.lst (ds++es)))))) else af) D:=w;split at w
    ·rename_i iL;have P3:=hd.len;have QC:=k3.len;refine⟨a,b,vs,ws,rfl,rfl,e1.hh _ _ hH,e1.fh _ _ k2,by have:=dH;omega,?_⟩;exact w σ F1 _ ((s.ext' e1).chg hi hv ⟨_,rfl,DenL.append (DenL.mono e1.ff hd) k3,by rw[Tt];exact iL⟩)
    ·exact w.elim
   |_=>exact w.elim
def kQ(hv:PE X (.Name x p) (fE i))(he:PD X Xw e δ)(hs:VL (.Call (.Attribute (.Name x p) "append" v6) [e] [] a7) none pos.line X.env=pure false:=by rfl)
 (eF:UJ (.Name x p) "append" X.env (eval (.Name x p) X.env)=eval (.Name x p) X.env:=by rfl)
 (iV:((UM a7 (Tq [e] X.env)).all (λx=>!x.1)&&(Vg a7 (Ux [] X.env)).all (λx=>x.1.isSome)&&decide ([e].length+([]:List Vo).length+(if ([]:List Vo).isEmpty then 0 else 1)<30))=true:=by rfl)
 (eG:(v6.endLine==a7.line)=true:=by rfl)(pM:Tq [e] X.env=[(false,eval e X.env)]:=by rfl):pJ X Xw (.Expr (.Call (.Attribute (.Name x p) "append" v6) [e] [] a7) pos) (k_ i δ):=λu8 ZQ=>
 PS.weak (kP (A7 Wy X2 X1 kN hv (gT he lQ pM) eF iV eG pM rfl) hs) λD σ H w=>H9 u8 ZQ D σ H w
def HE(hv:PE X (.Name x p) (fE i))(he:PD X Xw e δ)(hs:VL (.Call (.Attribute (.Name x p) "extend" v6) [e] [] a7) none pos.line X.env=pure false:=by rfl)
 (eF:UJ (.Name x p) "extend" X.env (eval (.Name x p) X.env)=eval (.Name x p) X.env:=by rfl)
 (iV:((UM a7 (Tq [e] X.env)).all (λx=>!x.1)&&(Vg a7 (Ux [] X.env)).all (λx=>x.1.isSome)&&decide ([e].length+([]:List Vo).length+(if ([]:List Vo).isEmpty then 0 else 1)<30))=true:=by rfl)
 (eG:(v6.endLine==a7.line)=true:=by rfl)(pM:Tq [e] X.env=[(false,eval e X.env)]:=by rfl):pJ X Xw (.Expr (.Call (.Attribute (.Name x p) "extend" v6) [e] [] a7) pos) (Fo i δ):=λu8 ZQ=>
 PS.weak (kP (A7 Wy PySem.F.slot_list_extend PySem.F.type_list_extend Cj hv (gT he lQ pM) eF iV eG pM rfl) hs) λD σ H w=>H_ u8 ZQ D σ H w
def EH:OpR X (Wk .Add) (λx y H Q=>∃a b ys,x= .ref a/\y= .ref b/\SqT X.K H a []/\SqT X.K H b ys/\Q (.ref b) H):=by
 intro f8 s σ H x y v u Q I rx ry h;obtain⟨a,b,ys,rfl,rfl,ha,hb,q⟩:=h;cases rx;cases ry;obtain⟨aO,r1,p1,_⟩:=I.tuple ha;obtain⟨iq,r2,p2,_⟩:=I.tuple hb;cases r1;obtain⟨⟨cls,dd,data,sl⟩,ho,hc,n,hd⟩:=id p1;obtain⟨⟨Od,Gx,data2,NU⟩,C8,GO,n2,hd2⟩:=id p2;simp only at hc hd GO hd2;subst hc hd GO hd2;exact concat_meets ⟨_,ho,rfl⟩ ⟨_,C8,rfl⟩ Ys Y5 WH Wz (Wl _ _)
  (tuple_addW0 a b _ _ n n2 dd Gx sl NU (by simp)) ⟨ho,C8,⟨.ref b,H,I,rfl,q⟩⟩
def AI:D->D->M D
 | .tup x, .tup y=>if x.length+y.length<=lim then aa (.tup (x++y)) else af
 |_,_=>af
def Hn(ha:PD X Xw a δa)(hb:PD X Xw b δb):PD X Xw (.BinOp a .Add b pos) (d2 AI δa δb):=rj (EH.or He) (λXw F H x y dx dy Q s hx hy w=>by
 unfold AI at w;split at w
 ·rename_i i j;obtain⟨a,vs,h1,h2,h3,h4⟩:=hx;obtain⟨a',pY,k1,k2,k3,k4⟩:=hy;split at w
  ·rename_i hl;have e1:=h3.len;have e2:=k3.len;have:=dH;by_cases hv:vs=[]
   ·subst hv;have:i=[]:=by cases i with | nil=>rfl | cons _ _=>simp at e1
    subst this;exact .inl ⟨a,a',pY,h1,k1,SqT.of (s _ _ h2),SqT.of (s _ _ k2),WP.now w s ⟨a',pY,k1▸rfl,k2,k3,k4⟩⟩
   ·refine .inr ⟨a,a',vs,pY,h1,k1,SqT.of (s _ _ h2),SqT.of (s _ _ k2),hv,by omega,λz=>?_,λz p hp=>?_⟩
    ·subst z;have:j=[]:=by cases j with | nil=>rfl | cons _ _=>simp at e2
     subst this;rw[T_] at w;exact WP.now w s ⟨a,vs,rfl,h2,h3,h4⟩
    ·exact WP.fin w (Ext.lay s hp) ⟨p,_,rfl,ar,DenL.mono (Ext.lay s hp).ff (h3.append k3),by rw[Tt];exact hl⟩
  ·exact w.elim
 ·exact w.elim) ha hb
end
section
variable{X:Cx}{Xw:Nat->Hp->Prop}{a b e e2 o:Expr}{es:List Expr}{δa δb δo:DE}{δs:DA}{pos p v6 a7:Pos}
def dM(kd:D->Bool)(g:D->List D->M D)(o:DE)(s:DA):DE:=λρ=>o ρ>>=λd=>if kd d then s ρ>>=λds=>g d ds else af
def EL{id:String}(pa:PlainAttrs T)(slot:Slot T name id)(O9:typeOf (.builtin id)=pure (.type "method_descriptor"))(hm:Li X id r)
 (hk:∀(F H:Hp) (x:V) (d:D),kd d=true->Same F H->Den X.K F d x->M9 X.K T x H)
 (hd:∀(Xw:Nat->Hp->Prop) (F H:Hp) (x:V) (vs:List V) (d:D) (ds:List D) (Q:VK),Same F H->Den X.K F d x->DenL X.K F ds vs->WP X.K Xw F H (g d ds) Q->r x vs H Q)
 (ho:PD X Xw o δo)(ha:lz X Xw (e::es) δs)
 (eF:UJ o name X.env (eval o X.env)=eval o X.env:=by rfl)
 (iV:((UM a7 (Tq (e::es) X.env)).all (λx=>!x.1)&&(Vg a7 (Ux [] X.env)).all (λx=>x.1.isSome)
  &&decide ((e::es).length+([]:List Vo).length+(if ([]:List Vo).isEmpty then 0 else 1)<30))=true:=by rfl)
 (eG:(v6.endLine==a7.line)=true:=by rfl) (hs:Tq (e::es) X.env=(false,eval e X.env)::Tq es X.env:=by rfl) (zq:(UM a7 (Tq es X.env)).any (·.1)=false:=by rfl):
 PD X Xw (.Call (.Attribute o name v6) (e::es) [] a7) (dM kd g δo δs):=PE.weak (A7 pa slot O9 hm ho ha eF iV eG hs zq) λσ H Q ⟨F,ρ,s,w⟩=>by
 refine⟨F,ρ,s,WP.mono (WP.bind w) λv H1 ⟨F1,d,e1,q1,w1⟩=>?_⟩;split at w1
 ·rename_i RQ;refine⟨hk F1 H1 v d RQ e1.fh q1,F1,ρ,s.ext e1,WPL.mono (WP.bindL w1) λvs H2 ⟨F2,ds,e2,q2,w2⟩=>?_⟩;exact hd Xw F2 H2 v vs d ds Q e2.fh (Den.mono e2.ff q1) q2 w2
 ·exact w1.elim
def sC:D->Bool
 | .str _=>true
 |_=>false
def zu{K:Ti}(F H:Hp)(x:V)(d:D)(h:sC d=true)(s:Same F H)(q:Den K F d x):M9 K "str" x H:=by
 cases d with
 |str z=>cases (show _=_ from q.1);exact rfl
 |_=>cases h
def pF:List D->Option (List Str)
 |[]=>some []
 | .str x::r=>(pF r).map (x:: ·)
 |_=>none
theorem rT{K:Ti}:∀{ds:List D}{vs:List V}{xs:List Str},pF ds=some xs->DenL K F ds vs->vs=xs.map V.str
 |[],_,_,e,h=>by cases e;exact h
 | .str b::r,_,_,e,⟨v,r',h1,h2,h3⟩=>by
   unfold pF at e;cases q:pF r with
   |none=>rw[q] at e;cases e
   |some bs=>rw[q] at e;cases e;subst h1;rw[rT q h3,show v= .str b from h2.1];rfl
 | .non::_,_,_,e,_=>by cases e
 | .int _::_,_,_,e,_=>by cases e
 | .bl _::_,_,_,e,_=>by cases e
 | .raw _::_,_,_,e,_=>by cases e
 | .exc _::_,_,_,e,_=>by cases e
 | .scr _::_,_,_,e,_=>by cases e
 | .tup _::_,_,_,e,_=>by cases e
 | .lst _::_,_,_,e,_=>by cases e
theorem rX:∀{xs:List Str}{aO:List Value},Vals (xs.map V.str) aO->StrsAre aO xs
 |[],_,r=>by cases r;exact .nil
 |b::bs,_,r=>by
  cases r with
  |cons r1 r2=>obtain⟨t,rfl⟩:=r1;exact .cons b t (rX r2)
def eB:List Str->Str
 |[]=>⟨#[]⟩
 |x::r=>x++eB r
def joinM:D->List D->M D
 | .str sep,[.lst ds]=>match pF ds with
   |some xs=>if sep.length=0/\(xs.map (·.length)).sum<=lim then aa (.str (eB xs)) else af
   |none=>af
 | .str sep,[.tup ds]=>match pF ds with
   |some xs=>if sep.length=0/\(xs.map (·.length)).sum<=lim then aa (.str (eB xs)) else af
   |none=>af
 |_,_=>af
theorem qc:∀xs:List Str,(eB xs).length=(xs.map (·.length)).sum
 |[]=>rfl
 |x::r=>by
  show (x++eB r).length=_;rw[kx,qc r,Ts,VN]
def H8{x:Str}(h:x.length=0):x=⟨#[]⟩:=by
 obtain⟨⟨l⟩⟩:=x;have:l.length=0:=h;cases l with
 |nil=>rfl
 |cons _ _=>simp at this
def oX(x:Str):x++(⟨#[]⟩:Str)=x:=by
 obtain⟨c⟩:=x;show (⟨c++ #[]⟩:Str)=⟨c⟩
 simp
def nY(sep:Str)(h:sep.length=0):∀xs:List Str,Txt.join sep xs=eB xs:=by
 have e:=H8 h;subst e;intro xs;show Builtin.Str.glued _ xs=_;rw[StrLaws.glued_eq_join];induction xs with
 |nil=>rfl
 |cons x r ih=>
  cases r with
  |nil=>show x=x++(⟨#[]⟩:Str);rw[oX]
  |cons y r=>show x++(⟨#[]⟩:Str)++Str.join _ (y::r)=x++eB (y::r);rw[oX,ih]
def rJoin(K:Ti):V->List V->Hp->VK->Prop:=λx vs H Q=>∃(sep:Str) (a:Addr) (xs:List Str),x= .str sep/\vs=[.ref a]/\(H a=some (.lst (xs.map V.str))\/H a=some (.tup (xs.map V.str)))/\sep.length=0/\(xs.map (·.length)).sum<=lim/\Q (.str (eB xs)) H
def Ha:Li X "str.join" (rJoin X.K):=by
 intro f8 s σ H x vs v us Q I rx rv h;obtain⟨sep,a,xs,rfl,rfl,hH,hs,hl,q⟩:=h;obtain⟨t,rfl⟩:=rx;obtain⟨u,rfl,r1⟩:=rv.one;cases (show u=_ from r1);have hok:(xs.map (·.length)).sum+xs.length*sep.length<=16777216:=by
  rw[hs,Nat.mul_zero];unfold lim at hl;omega
 rcases hH with hH | hH
 ·obtain⟨aO,r2,pl,hz⟩:=I.list (SqL.of (K:=X.K) hH);refine join_list pl.isList (by simpa using rX r2) hok λt' k=>⟨.str (eB xs),H,I.tok k,⟨t',by rw[nY sep hs]⟩,q⟩
 ·obtain⟨aO,r2,pl,hz⟩:=I.tuple (SqT.of hH);refine join_tuple pl (by simpa using rX r2) hok λt' k=>⟨.str (eB xs),H,I.tok k,⟨t',by rw[nY sep hs]⟩,q⟩
def pS(ho:PD X Xw o δo)(ha:lz X Xw [e] δs)(eF:UJ o "join" X.env (eval o X.env)=eval o X.env:=by rfl)
 (iV:((UM a7 (Tq [e] X.env)).all (λx=>!x.1)&&(Vg a7 (Ux [] X.env)).all (λx=>x.1.isSome)&&decide ([e].length+([]:List Vo).length+(if ([]:List Vo).isEmpty then 0 else 1)<30))=true:=by rfl)
 (eG:(v6.endLine==a7.line)=true:=by rfl)(pM:Tq [e] X.env=[(false,eval e X.env)]:=by rfl):PD X Xw (.Call (.Attribute o "join" v6) [e] [] a7) (dM sC joinM δo δs):=
 EL VM PySem.F.slot_str_join PySem.F.type_str_join Ha zu (λXw F H x vs d ds Q s hx hv w=>by
  unfold joinM at w;split at w
  ·rename_i sep ds;obtain⟨v,rfl,h1⟩:=hv.one;obtain⟨a,ws,rfl,h2,h3,_⟩:=h1;split at w
   ·rename_i xs L9;split at w
    ·rename_i hc;exact⟨sep,a,xs,hx.1,rfl, .inl (by rw[<-rT L9 h3];exact s _ _ h2),hc.1,hc.2,WP.now w s ⟨rfl,by rw[qc];exact hc.2⟩⟩
    ·exact w.elim
   ·exact w.elim
  ·rename_i sep ds;obtain⟨v,rfl,h1⟩:=hv.one;obtain⟨a,ws,rfl,h2,h3,_⟩:=h1;split at w
   ·rename_i xs L9;split at w
    ·rename_i hc;exact⟨sep,a,xs,hx.1,rfl, .inr (by rw[<-rT L9 h3];exact s _ _ h2),hc.1,hc.2,WP.now w s ⟨rfl,by rw[qc];exact hc.2⟩⟩
    ·exact w.elim
   ·exact w.elim
  ·exact w.elim) ho ha eF iV eG pM rfl
def Bu:List D->M D
 |[.lst ds]=>aa (.tup ds)
 |[.tup ds]=>aa (.tup ds)
 |_=>af
def Ek:List D->M D
 |[.lst ds]=>aa (.lst ds)
 |[.tup ds]=>aa (.lst ds)
 |_=>af
def ya(hg:Gl X "tuple")(hm:X.mg "tuple"=none)(hb:Uw "tuple"=some (.type "tuple"))(ha:lz X Xw [e] δs)(he:Tq [e] X.env=[(false,eval e X.env)]:=by rfl):PD X Xw (.Call (.Name "tuple" p) [e] [] pos) (dA Bu δs):=
 t5 sv (λXw F H vs ds Q s h w=>by
  unfold Bu at w;split at w
  ·rename_i ds;obtain⟨v,rfl,h1⟩:=h.one;obtain⟨a,ws,rfl,h2,h3,h4⟩:=h1;exact⟨a,ws,rfl, .inl ⟨SqL.of (s _ _ h2),λl hl=>WP.fin w (Ext.lay s hl) ⟨l,ws,rfl,ar,DenL.mono (Ext.lay s hl).ff h3,h4⟩⟩⟩
  ·rename_i ds;obtain⟨v,rfl,h1⟩:=h.one;obtain⟨a,ws,rfl,h2,h3,h4⟩:=h1;exact⟨a,ws,rfl, .inr ⟨SqT.of (s _ _ h2),WP.now w s ⟨a,ws,rfl,h2,h3,h4⟩⟩⟩
  ·exact w.elim) hg hm hb ha (by decide) (by decide) he rfl
def Hr(hg:Gl X "list")(hm:X.mg "list"=none)(hb:Uw "list"=some (.type "list"))(ha:lz X Xw [e] δs)(he:Tq [e] X.env=[(false,eval e X.env)]:=by rfl):PD X Xw (.Call (.Name "list" p) [e] [] pos) (dA Ek δs):=
 t5 uL (λXw F H vs ds Q s h w=>by
  unfold Ek at w;split at w
  ·rename_i ds;obtain⟨v,rfl,h1⟩:=h.one;obtain⟨a,ws,rfl,h2,h3,h4⟩:=h1;exact⟨a,ws,rfl, .inl (SqL.of (s _ _ h2)),λl hl=>WP.fin w (Ext.lay s hl) ⟨l,ws,rfl,ar,DenL.mono (Ext.lay s hl).ff h3,h4⟩⟩
  ·rename_i ds;obtain⟨v,rfl,h1⟩:=h.one;obtain⟨a,ws,rfl,h2,h3,h4⟩:=h1;exact⟨a,ws,rfl, .inr (SqT.of (s _ _ h2)),λl hl=>WP.fin w (Ext.lay s hl) ⟨l,ws,rfl,ar,DenL.mono (Ext.lay s hl).ff h3,h4⟩⟩
  ·exact w.elim) hg hm hb ha (by decide) (by decide) he rfl
def zX(hc:X.calm=true)(hg:Gl X "max")(hm:X.mg "max"=none)(hb:Uw "max"=some (.builtin "max"))(ha:lz X Xw [e,e2] δs)(he:Tq [e,e2] X.env=(false,eval e X.env)::Tq [e2] X.env:=by rfl)
 (iX:(UM pos (Tq [e2] X.env)).any (·.1)=false:=by rfl):PD X Xw (.Call (.Name "max" p) [e,e2] [] pos) (dA zG δs):=
 fw (BL hc) (λXw F H vs ds Q s h w=>by
  unfold zG at w;split at w
  ·obtain⟨v,v',rfl,h1,h2⟩:=h.two;cases (show _=_ from h1);cases (show _=_ from h2);exact⟨_,_,rfl,WP.now w s rfl⟩
  ·exact w.elim) hg hm hb ha (by decide) (by decide) he iX
def EN(hc:X.calm=true)(hg:Gl X "min")(hm:X.mg "min"=none)(hb:Uw "min"=some (.builtin "min"))(ha:lz X Xw [e,e2] δs)(he:Tq [e,e2] X.env=(false,eval e X.env)::Tq [e2] X.env:=by rfl)
 (iX:(UM pos (Tq [e2] X.env)).any (·.1)=false:=by rfl):PD X Xw (.Call (.Name "min" p) [e,e2] [] pos) (dA Ci δs):=
 fw (BM hc) (λXw F H vs ds Q s h w=>by
  unfold Ci at w;split at w
  ·obtain⟨v,v',rfl,h1,h2⟩:=h.two;cases (show _=_ from h1);cases (show _=_ from h2);exact⟨_,_,rfl,WP.now w s rfl⟩
  ·exact w.elim) hg hm hb ha (by decide) (by decide) he iX
def nums:List D->Option (List Int)
 |[]=>some []
 | .int x::r=>(nums r).map (x:: ·)
 |_=>none
theorem qu{K:Ti}:∀{ds:List D}{vs:List V}{xs:List Int},nums ds=some xs->DenL K F ds vs->vs=xs.map V.int
 |[],_,_,e,h=>by cases e;exact h
 | .int b::r,_,_,e,⟨v,r',h1,h2,h3⟩=>by
   unfold nums at e;cases q:nums r with
   |none=>rw[q] at e;cases e
   |some bs=>rw[q] at e;cases e;subst h1;rw[qu q h3,show v= .int b from h2];rfl
 | .non::_,_,_,e,_=>by cases e
 | .str _::_,_,_,e,_=>by cases e
 | .bl _::_,_,_,e,_=>by cases e
 | .raw _::_,_,_,e,_=>by cases e
 | .exc _::_,_,_,e,_=>by cases e
 | .scr _::_,_,_,e,_=>by cases e
 | .tup _::_,_,_,e,_=>by cases e
 | .lst _::_,_,_,e,_=>by cases e
def GJ(neg:Bool):D->D->M D
 | .int i, .tup ds=>match nums ds with | some ns=>aa (.bl (if neg then !ns.contains i else ns.contains i)) | none=>af
 |_,_=>af
def Ea(i:Int)(ns:List Int):NM (.int i) (ns.map V.int)=ns.contains i:=by
 unfold NM;rw[List.any_map];induction ns with
 |nil=>rfl
 |cons n ns ih=>
  rw[V_,List.contains_cons,ih];congr 1;show F8 (.int n) (.int i)=(i==n)
  unfold F8;exact Bool.beq_comm
def JT{neg:Bool}{K:Ti}:wF K (QW K neg) (GJ neg):=λXw F H x y dx dy Q s hx hy w=>by
 unfold GJ at w;split at w
 ·rename_i i ds;obtain⟨a,vs,h1,h2,h3,h4⟩:=hy;split at w
  ·rename_i ns hn;have hv:=qu hn h3;subst hv;cases (show _=_ from hx);refine⟨a,ns.map V.int,h1, .inr (SqT.of (s _ _ h2)),rfl,?_,?_⟩
   ·rw[Wo];exact UG.mpr λ_ _=>rfl
   ·rw[Ea];exact WP.now w s rfl
  ·exact w.elim
 ·exact w.elim
def CI(ha:PD X Xw a δa)(hb:PD X Xw b δb)(hm:Uz .NotIn b=false:=by rfl):sV X Xw (.Compare a [.NotIn] [b] pos) (ej (d2 (GJ true) δa δb)):=mK vy JT ha hb hm
def DX(neg:Bool):D->D->M D
 | .str x, .str y=>aa (.bl (if neg then !(!(U7 y x 0 y.length 1).isEmpty) else !(U7 y x 0 y.length 1).isEmpty))
 |_,_=>af
def Kh(ha:PD X Xw a δa)(hb:PD X Xw b δb)(hm:Uz .In b=false:=by rfl):PD X Xw (.Compare a [.In] [b] pos) (d2 (DX false) δa δb):=vz Cs (λXw F H x y dx dy Q s hx hy w=>by
 unfold DX at w;split at w
 ·exact⟨_,_,hx.1,hy.1,WP.now w s rfl⟩
 ·exact w.elim) ha hb hm
end
end L3
namespace L3
open PySem PySem.Spec L2 SeqAt HT
open PyProof.Rows hiding St
section
variable{prog:T3}{w:World}{A:Uu}{E:Value->Tp->Prop}{s:Tp}
def k8{t sl:Addr}{items:Array Value}{vl vu:Value}{lo hi:Option Int}{Q:Value->Tp->Prop}(ht:IsTup s.heap t items)(hs:s.heap.IsSliceOf sl vl vu .none)(pl:Yp vl lo)(pu:Yp vu hi)
 (hw:sIx items.size 0 lo=0/\sIx items.size items.size hi=items.size)(h:Q (.ref t) s):wpAny (model prog w) A (YB (.ref t) (.ref sl)) Q E s:=by
 obtain⟨os,B6,Ny,IJ⟩:=id hs;have Ox:s.TypeIs (.ref sl) "slice":=⟨os,B6,Ny⟩
 unfold YB
 try with_reducible refine VT ?_
 first | refine Td (Tu ?_) | skip
 refine Td (wpAny_sequenceKey ht.typeIs (by decide) ?_);refine Td (VW (name:=TC "__getitem__") ht.typeIs Ve
  (Vu Ve ht.typeIs entry_tuple_getitem ?_ (args_tuple_getitem _ _)))
 show wpAny _ _ (Xi (.ref t)>>=_) _ _ s;refine Td (tupleItemsOf_ ht ?_);refine Td (Yi Ox ?_);rw[Zn (by decide)];refine Td (sliceApplied_gen hs pl pu ?_);have nj:((((sIx items.size 0 lo:Nat):Int)==0&&(1:Int)==1&&(sIx items.size items.size hi - sIx items.size 0 lo)==items.size)=true):=by
  rw[hw.1,hw.2];simp
 show wpAny _ _ (if (((sIx items.size 0 lo:Nat):Int)==0&&(1:Int)==1&&(sIx items.size items.size hi - sIx items.size 0 lo)==items.size)=true then _ else _) _ _ s;rw[Zn nj];refine Td ?_;unfold Builtin.Tuple.tupleIsExact;refine Td (Yi ht.typeIs (Tu ?_));rw[Zn (by decide)];exact Td (wpAny_rule (Tu ⟨_,rfl,Tu h⟩))
end
section
variable{X:Cx}{Xw:Nat->Hp->Prop}{a b e:Expr}{lo hi:Option Expr}{δ:DE}{pos p p2:Pos}
def HV:SlR X (λx lo hi H Q=>∃a xs,x= .ref a/\SqT X.K H a xs/\(sIx xs.length 0 lo=0/\sIx xs.length xs.length hi=xs.length)/\Q (.ref a) H):=by
 intro f8 s σ H x v vl vu lo hi sl Q I rx hs pl pu h;obtain⟨a,xs,rfl,hx,hw,q⟩:=h;cases rx;obtain⟨aO,r,ht,hz⟩:=I.tuple hx;have P3:aO.toArray.size=xs.length:=by rw[Tv];exact r.length.symm
 exact⟨"tuple",_,PyProof.Rows.slot_tuple_getitem.lookup,ht.typeIs,k8 ht hs pl pu (by rw[P3];exact hw) ⟨.ref a,H,I,rfl,q⟩⟩
def KO:SlR X (λx lo hi H Q=>∃z:Str,x= .str z/\z.length<=lim/\Q (.str (Txt.slice z lo hi)) H):=by
 intro f8 s σ H x v vl vu lo hi sl Q I rx hs pl pu h;obtain⟨z,rfl,hl,q⟩:=h;obtain⟨t,rfl⟩:=rx;have hz:z.length<=TK:=by have:=dH;omega
 cases pl with
 |none=>
  cases pu with
  |none=>exact⟨"str",_,PySem.F.slot_str_getitem.lookup,WU _ _ _,VU (l:=none) (u:=none) (st:=none) hs rfl (Xl ⟨T2 (W4 z _ _) hz,λt' k=>⟨.str _,H,I.tok k,⟨t',rfl⟩,q⟩⟩)⟩
  |int j uj=>exact⟨"str",_,PySem.F.slot_str_getitem.lookup,WU _ _ _,VU (l:=none) (u:=some (j,uj)) (st:=none) hs rfl (Xl ⟨T2 (W4 z _ _) hz,λt' k=>⟨.str _,H,I.tok k,⟨t',rfl⟩,q⟩⟩)⟩
 |int i ui=>
  cases pu with
  |none=>exact⟨"str",_,PySem.F.slot_str_getitem.lookup,WU _ _ _,VU (l:=some (i,ui)) (u:=none) (st:=none) hs rfl (Xl ⟨T2 (W4 z _ _) hz,λt' k=>⟨.str _,H,I.tok k,⟨t',rfl⟩,q⟩⟩)⟩
  |int j uj=>exact⟨"str",_,PySem.F.slot_str_getitem.lookup,WU _ _ _,VU (l:=some (i,ui)) (u:=some (j,uj)) (st:=none) hs rfl (Xl ⟨T2 (W4 z _ _) hz,λt' k=>⟨.str _,H,I.tok k,⟨t',rfl⟩,q⟩⟩)⟩
abbrev DO:=aM->M (Option Int)
def WPO(Xw:Nat->Hp->Prop)(F H:Hp)(m:M (Option Int))(Q:Option Int->Hp->Prop):Prop:=
 match m with
 |none=>False
 |some (.ok b)=>∀H' F',Ext F H F' H'->Q b H'
 |some (.ex n)=>∀F' H',Ext F H F' H'->Xw n H'
def SA(K:Ti)(Xw:Nat->Hp->Prop)(δ:DO):TO:=λσ H Q=>∃F ρ,StE K F H σ ρ/\WPO Xw F H (δ ρ) Q
def Ni(X:Cx)(Xw:Nat->Hp->Prop)(e:Option Expr)(δ:DO):Prop:=PO X e (SA X.K Xw δ)
def oN:DO:=λ_=>aa none
def oS(δ:DE):DO:=λρ=>δ ρ>>=λd=>match d with | .int i=>aa (some i) | _=>af
def rk:Ni X Xw none oN:=λf8 s σ H Q I ⟨F,ρ,S,w⟩=>HA f8 s σ H Q I (w H F (Ext.refl S.fh))
def rl(h:PD X Xw e δ):Ni X Xw (some e) (oS δ):=λf8 s σ H Q I ⟨F,ρ,S,w⟩=>HB h f8 s σ H Q I ⟨F,ρ,S,by
 have w:WPO Xw F H (δ ρ>>=λd=>match d with | .int i=>aa (some i) | _=>af) Q:=w;rcases(δ ρ).cs with q | ⟨n,q⟩ | ⟨d,q⟩
 ·rw[q] at w;exact w.elim
 ·rw[q] at w⊢;exact w
 ·rw[q] at w⊢;intro v H' F' e' hd;cases d with
  |int i=>exact⟨i,hd,w H' F' e'⟩
  |_=>exact w.elim⟩
def WP.bindO{K:Ti}{Xw:Nat->Hp->Prop}{F H:Hp}{Q:VK}{m:M (Option Int)}{k:Option Int->M D}(h:WP K Xw F H (m>>=k) Q):WPO Xw F H m λb H1=>∃F1,Ext F H F1 H1/\WP K Xw F1 H1 (k b) Q:=by
 match m,h with
 |none,h=>exact h
 |some (.ok d),h=>exact λH2 F2 e2=>⟨F2,e2,WP.ext e2 (show WP K Xw F H (k d) Q from h)⟩
 |some (.ex n),h=>exact h
def WPO.mono{Xw:Nat->Hp->Prop}{F H:Hp}{m:M (Option Int)}{Q Q':Option Int->Hp->Prop}(h:WPO Xw F H m Q)(k:∀v H',Q v H'->Q' v H'):WPO Xw F H m Q':=by
 match m,h with
 |none,h=>exact h
 |some (.ok d),h=>exact λH2 F2 e2=>k _ _ (h H2 F2 e2)
 |some (.ex n),h=>exact h
def cutD(ds:List D)(lo hi:Option Int):List D:=(ds.drop (sIx ds.length 0 lo)).take (sIx ds.length ds.length hi - sIx ds.length 0 lo)
def QX:D->Option Int->Option Int->M D
 | .tup ds,lo,hi=>aa (.tup (cutD ds lo hi))
 | .lst ds,lo,hi=>aa (.lst (cutD ds lo hi))
 | .str x,lo,hi=>aa (.str (Txt.slice x lo hi))
 |_,_,_=>af
def Js(a:DE)(lo hi:DO):DE:=λρ=>a ρ>>=λd=>lo ρ>>=λl=>hi ρ>>=λh=>QX d l h
def xc(ds:List D)(lo hi:Option Int):(cutD ds lo hi).length<=ds.length:=by
 unfold cutD;rw[UU,XM];omega
def DenL.cut{K:Ti}{F:Hp}{ds:List D}{vs:List V}(h:DenL K F ds vs)(lo hi:Option Int):DenL K F (cutD ds lo hi) (xf vs lo hi):=by
 unfold cutD xf;rw[h.len];exact(h.drop _).take _
def ES{δo:DE}{κl κh:DO}(he:PD X Xw e δo)(hl:Ni X Xw lo κl)(hh:Ni X Xw hi κh):PD X Xw (.Subscript e (.Slice lo hi none p2) pos) (Js δo κl κh):=
 PE.weak (EY (HV.or (KP.or (HU.or KO))) he hl hh) λσ H Q ⟨F,ρ,s,w⟩=>by
  refine⟨F,ρ,s,WP.mono (WP.bind w) λv H1 ⟨F1,d,e1,q1,w1⟩=>?_⟩;refine⟨F1,ρ,s.ext e1,WPO.mono (WP.bindO w1) λl H2 ⟨F2,e2,w2⟩=>?_⟩;refine⟨F2,ρ,(s.ext e1).ext e2,WPO.mono (WP.bindO w2) λh H3 ⟨F3,e3,w3⟩=>?_⟩;have q3:=Den.mono (e2.ff.trans e3.ff) q1;have fh:=e3.fh;cases d with
  |tup ds=>
   obtain⟨a,vs,rfl,h2,h3,h4⟩:=q3;by_cases hw:sIx vs.length 0 l=0/\sIx vs.length vs.length h=vs.length
   ·refine .inl ⟨a,vs,rfl,SqT.of (fh _ _ h2),hw,?_⟩;have hc:cutD ds l h=ds:=by
     unfold cutD;rw[h3.len,hw.1,hw.2,YR,Xc,<-h3.len,List.take_length]
    have w3:WP X.K Xw F3 H3 (aa (.tup (cutD ds l h))) Q:=w3;rw[hc] at w3;exact WP.now w3 fh ⟨a,vs,rfl,h2,h3,h4⟩
   ·exact .inr (.inl ⟨a,vs,rfl,SqT.of (fh _ _ h2),hw,λp hp=>WP.fin w3 (Ext.lay fh hp) ⟨p,_,rfl,ar,DenL.mono (Ext.lay fh hp).ff (h3.cut l h),T2 (xc _ _ _) h4⟩⟩)
  |lst ds=>
   obtain⟨a,vs,rfl,h2,h3,h4⟩:=q3;exact .inr (.inr (.inl ⟨a,vs,rfl,SqL.of (fh _ _ h2),λp hp=>WP.fin w3 (Ext.lay fh hp) ⟨p,_,rfl,ar,DenL.mono (Ext.lay fh hp).ff (h3.cut l h),T2 (xc _ _ _) h4⟩⟩))
  |str x=>exact .inr (.inr (.inr ⟨x,q3.1,q3.2,WP.now w3 fh ⟨rfl,T2 (W4 x _ _) q3.2⟩⟩))
  |_=>exact w3.elim
end
def Nf(x:Str):It:=⟨λi _=>i<x.cps.size,λi H v H'=>H'=H/\∃c,x.cps[i]? =some c/\v= .str ⟨#[c]⟩,λi _=>x.cps.size<=i⟩
def CW{P:T3}{K:Ti}(it:Addr)(x:Str)(t:Tok):Turn P w K tg (Nf x) [it] it (λi h=>i<=x.cps.size/\h.IsStrIter it "str_ascii_iterator" x t i) where
 mem:=by simp
 obj:=λi h st b hb=>by
  have e:b=it:=by simpa using hb
  subst e;obtain⟨_,o,e,c,d⟩:=st;exact⟨o,e,λv z=>by rw[d] at z;cases z⟩
 keep:=λi h h' st k=>⟨st.1,let ⟨o,e,r⟩:=st.2;⟨o,k it (by simp) o e,r⟩⟩
 item:=by
  intro X hP hw hK hc i f8 s σ H E I hf st hg;subst hP hw hK;obtain⟨f0,f1,f2,f3,f4,f5⟩:=hf it (by simp);have hi:i<x.cps.size:=hg;refine(Walks.strAscii (I.ok.hd hc) it x t).item i s _ _ hi st.2 λv h' tk hv mV kk=>?_;obtain⟨c,u,OC,rfl⟩:=hv;have I1:Inv X f8 σ H {s with heap:=h',toks:=tk}:=I.turned (λb o hb e=>kk b o (by simpa using hb) e) f0 f1 f3 f4 f5;obtain⟨o,e,cc,dd⟩:=id mV;exact⟨_,rfl,qr e cc dd (by decide) ⟨.str ⟨#[c]⟩,H,I1,⟨u,rfl⟩,⟨rfl,c,OC,rfl⟩,⟨hi,mV⟩,λb hb=>(hf b hb).1⟩⟩
 done:=by
  intro X hP hw hK hc i f8 s σ H E I hf st hg;subst hP hw hK;obtain⟨f0,f1,f2,f3,f4,f5⟩:=hf it (by simp);have hi:i=x.cps.size:=Yd st.1 hg;subst hi;exact(Walks.strAscii (I.ok.hd hc) it x t).done s _ _ st.2 λh' tk kk=>⟨rfl,I.turned (λb o hb e=>kk b o (by simpa using hb) e) f0 f1 f3 f4 f5⟩
 self:=λ_ _ _ _ _ st h=>wpAny_pyIter_striter_ascii st.2 h
def CY{P:T3}{K:Ti}(it:Addr)(x:Str)(t:Tok):Turn P w K tg (Nf x) [it] it (λi h=>i<=x.cps.size/\h.IsStrIter it "str_iterator" x t i) where
 mem:=by simp
 obj:=λi h st b hb=>by
  have e:b=it:=by simpa using hb
  subst e;obtain⟨_,o,e,c,d⟩:=st;exact⟨o,e,λv z=>by rw[d] at z;cases z⟩
 keep:=λi h h' st k=>⟨st.1,let ⟨o,e,r⟩:=st.2;⟨o,k it (by simp) o e,r⟩⟩
 item:=by
  intro X hP hw hK hc i f8 s σ H E I hf st hg;subst hP hw hK;obtain⟨f0,f1,f2,f3,f4,f5⟩:=hf it (by simp);have hi:i<x.cps.size:=hg;refine(Walks.strWide (I.ok.hd hc) it x t).item i s _ _ hi st.2 λv h' tk hv mV kk=>?_;obtain⟨c,u,OC,rfl⟩:=hv;have I1:Inv X f8 σ H {s with heap:=h',toks:=tk}:=I.turned (λb o hb e=>kk b o (by simpa using hb) e) f0 f1 f3 f4 f5;obtain⟨o,e,cc,dd⟩:=id mV;exact⟨_,rfl,qr e cc dd (by decide) ⟨.str ⟨#[c]⟩,H,I1,⟨u,rfl⟩,⟨rfl,c,OC,rfl⟩,⟨hi,mV⟩,λb hb=>(hf b hb).1⟩⟩
 done:=by
  intro X hP hw hK hc i f8 s σ H E I hf st hg;subst hP hw hK;obtain⟨f0,f1,f2,f3,f4,f5⟩:=hf it (by simp);have hi:i=x.cps.size:=Yd st.1 hg;subst hi;exact(Walks.strWide (I.ok.hd hc) it x t).done s _ _ st.2 λh' tk kk=>⟨rfl,I.turned (λb o hb e=>kk b o (by simpa using hb) e) f0 f1 f3 f4 f5⟩
 self:=λ_ _ _ _ _ st h=>wpAny_pyIter_striter_wide st.2 h
section
variable{X:Cx}{Xw:Nat->Hp->Prop}{tg a b e l o:Expr}{δ:DE}
def Pd(tl:TE):TI:=λσ H R=>tl σ H λx H1=>∃z,x= .str z/\R (Nf z) H1
def Kv{tl:TE}(hl:PE X l tl):PI X tg l (Pd tl):=by
 intro f8 s σ H R I h _;refine bQ (hl f8 s σ H _ I h) λv s1 ⟨x,H1,I1,r1,q1⟩=>?_;obtain⟨z,e,q⟩:=q1;subst e;obtain⟨t,rfl⟩:=r1;have fp:∀b∈[s1.heap.objs.size],uy X f8 H1 b:=λb hb=>by
  have e:b=s1.heap.objs.size:=by simpa using hb
  subst e;exact I1.fpOk (Tr _) (I1.hok.fresh (Tr _))
 cases ha:z.cps.all (· <128)
 ·exact wpAny_pyIter_wide ha ⟨s1.heap.objs.size,[s1.heap.objs.size],_,_,H1,rfl,I1.kept (t':=s1.toks) λb o e=>Tj _ e,CY _ z t,⟨Ur _,_,TM _ rfl,rfl,rfl⟩,fp,q⟩
 ·exact wpAny_pyIter_ascii ha ⟨s1.heap.objs.size,[s1.heap.objs.size],_,_,H1,rfl,I1.kept λb o e=>Tj _ e,CW _ z t,⟨Ur _,_,TM _ rfl,rfl,rfl⟩,fp,q⟩
def signs(x:Str):List D:=x.cps.toList.map λc=>D.str ⟨#[c]⟩
def KN:D->M (List D)
 | .str x=>aa (signs x)
 |_=>af
def GX{K:Ti}{F:Hp}(x:Str):ItD K F (Nf x) (signs x):=λF' H' i s1 s2=>by
 refine⟨λd e=>?_,λhl=>show x.cps.size<=i by simpa[signs] using hl⟩;unfold signs at e;rw[Tx] at e;cases q:x.cps.toList[i]? with
 |none=>rw[q] at e;cases e
 |some c=>
  rw[q] at e;cases e;have hi:i<x.cps.size:=by
   have:=(To.mp q).1;simpa using this
  refine⟨hi,λv H'' y=>?_⟩;obtain⟨e2,c',zo,rfl⟩:=y;subst e2;have:c'=c:=by
   have q':x.cps[i]? =some c:=by simpa using q
   rw[q'] at zo;exact(Ub zo).symm
  subst this;exact⟨F',Ext.refl s2,rfl,by show 1<=lim;decide⟩
def Hv(h:PD X Xw l δ):wG X Xw tg l (λρ=>δ ρ>>=KN):=PI.weak (Kv h) λσ H R ⟨F,ρ,s,w⟩=>by
 refine⟨F,ρ,s,WP.mono (WPI.bind w) λv H1 ⟨F1,d,e1,q1,w1⟩=>?_⟩;cases d with
 |str z=>exact⟨z,q1.1,w1 _ _ _ (Ext.refl e1.fh) (GX z)⟩
 |_=>exact w1.elim
end
end L3
namespace L3
open PySem PySem.Spec L2 SeqAt HT
open PyProof.Rows hiding St
open PySem.W (Frag Looks InstAt findIn mroIn)
open PySem.Builtin PySem.Builtin.ObjectAttr PySem.Builtin.Getset_descriptor
end L3
namespace L3
open PySem PySem.Spec L2 SeqAt HT
open PyProof.Rows hiding St
structure RoomH (k:Nat) (A:Uu):Prop where
 dp:A.depth+3*k+5<YL
 un:A.units+16*k+200<cLine
theorem RoomH.deeper(r:RoomH (k+1) A)(env:Env):RoomH k (A.deeper env):=
 ⟨by have:=r.dp;show A.depth+1+3*k+5<_;omega,by have:=r.un;show A.units+3+16*k+200<_;omega⟩
theorem RoomH.units(r:RoomH k A):A.units+64<cLine:=by have:=r.un;omega
def FD{K:Ti}(fh:Same F H)(hd:DenL K F ds vs):StOk K F H F H (L2.start N vs) (ds.map (λd=>some (Sl.fz d))++TH (N.length - ds.length) none):=by
 have P3:=hd.len;have get:∀(i:Nat) (sl:Sl),(ds.map (λd=>some (Sl.fz d))++TH (N.length - ds.length) none)[i]? =some (some sl)->∃d,ds[i]? =some d/\sl= .fz d:=λi sl e=>by
  by_cases hi:i<ds.length
  ·rw[TF (by simpa using hi),Tx] at e;cases q:ds[i]? with
   |none=>rw[q] at e;cases e
   |some d=>rw[q] at e;cases e;exact⟨d,rfl,rfl⟩
  ·rw[TR (by simpa using hi),Um] at e;split at e<;>cases e
 refine⟨Ext.refl fh,⟨fh,λi sl e=>?_⟩,?_,λi c a e=>?_,λi j sl fG v v' b e _ _ _ hb _=>?_⟩
 ·obtain⟨d,q,rfl⟩:=get i sl e;obtain⟨v,e1,e2⟩:=hd.get q;have hi:=(To.mp q).1;refine⟨v,?_,e2⟩;unfold L2.start;rw[TF (by simp;omega),Tx,e1];rfl
 ·unfold L2.start;simp[P3]
 ·obtain⟨d,_,z⟩:=get i _ e;cases z
 ·obtain⟨d,_,z⟩:=get i _ e;rw[z] at hb;cases hb
def Ay(N:List Str)(osc scope:Scope)(tn:List Str):Bool:=
 decide (scope.kind= .function)&&scope.names.all (λy=>decide (y.2≠ .cell))&&scope.names.all (λy=>decide (y.2= .local->scope.names.lookup y.1=some .local))&&
 scope.names.all (λy=>decide (y.2= .free->(osc.names.lookup y.1=some .cell\/osc.names.lookup y.1=some .free)))&&
 ((bY tn N).zip N).all (λp=>decide (scope.names.lookup p.1=none\/(p.1=p.2/\scope.names.lookup p.1=some .free)))
def bq(hN:X.N=N)(ho:X.env.scope=osc)(h:Ay N osc scope tn=true):CompSc X scope tn:=by
 unfold Ay at h;simp only[Uh,UG,Zs] at h;obtain⟨⟨⟨⟨h1,h2⟩,h3⟩,h4⟩,h5⟩:=h;refine⟨h1,h2,h3,λy hy hf=>?_,?_⟩
 ·have:=h4 y hy hf;rw[<-ho] at this;exact this
 ·rw[hN];exact h5
def cE(hN:X.N.Nodup)(h0:X.N[0]? =some x)(JI:X.env.scope.names.lookup x=some .local):wI X (.Name x px) 0 σ:=λf8 s σ' F H d ts v u I fh hd rv q e _=>by
 have e:aa [d]=aa ts:=e;have e:=dX e;subst e;refine X_ (yA I hN h0 (.inl JI) rv (λs' I'=>⟨[v],?_, .cons q .nil⟩) (.inr JI));have hl:0<σ'.length:=by rw[I.len];exact(To.mp h0).1
 have:σ'.set 0 (some v)=[v].map some++σ:=by
  cases σ' with
  |nil=>simp at hl
  |cons a r=>
   have hd:r=σ:=by simpa using hd
   subst hd;rfl
 rw[<-this];exact I'
def cG:Passes (f7 P w cv) X (EX cv λ_ _=>False):=λ_ _ _ _ _ _ _ ⟨_,_,_,_,_,_,_,_,_,_,_,_,_,_,z⟩=>z.elim
def bO(K:Ti)(mg:Str->Option Value)(x:Str)(st:Stmt)(f:Addr):Prop:=mg x=some (.ref f)/\∃fd,Fun K x x st f fd
def ax(P:T3)(w:World)(K:Ti)(mg:Str->Option Value)(base:Heap)(cv:Nat->Value)(k:Nat)(x:Str)(m:Nat)(g:List D->M D):Prop:=
 ∃f fd ps,mg x=some (.ref f)/\Uk K (.ref f)=true/\Binds K fd ps []/\FnOk P w K mg base (f7 P w cv) k f fd ps (KR K cv m g)
section
variable{X:Cx}{Xw:Nat->Hp->Prop}{cv:Nat->Value}{k m:Nat}{g:List D->M D}{x:Str}{p pos:Pos}{e:Expr}{es:List Expr}{δs:DA}
def aw(m:Nat)(g:List D->M D)(δs:DA):DE:=λρ=>δs ρ>>=λds=>if ds.length=m then g ds else af
def cx(F:ax X.prog X.w X.K X.mg X.base cv k x m g)(hr:Room k X.A)(hg:Gl X x)(hx:Passes (f7 X.prog X.w cv) X (EX cv Xw))
 (ha:lz X Xw (e::es) δs)(hl:(e::es).length=m)(lN:(x==("__debug__":Str))=false:=by decide)(he:Tq (e::es) X.env=(false,eval e X.env)::Tq es X.env:=by rfl)(iX:(UM pos (Tq es X.env)).any (·.1)=false:=by rfl):
 PD X Xw (.Call (.Name x p) (e::es) [] pos) (aw m g δs):=by
 obtain⟨f,fd,ps,h1,h2,h3,h4⟩:=F;exact Hl h4 hr hg h1 h2 h3 hx ha hl lN he iX
end
def aK{K:Ti}{st:Stmt}(T:bO K mg x st f)(S:FnScope N ps (ag st))
 (zm:∀(kV doc pm:Value) (an:Option Addr) (bT ct:Value) (us:List Value),us.length=ps.length->WJ (Uj x x (aS st) (aB st) (ag st) .none kV doc pm an bT ct) ⟨us,[]⟩=pure (ps.zip us))
 (bX:∀(bT:Value) (A:Uu) (outer:List Env) (s:Tp) (H:Hp) (E:XK),Room k (A.deeper (VB x (ag st) s.heap.objs.size f bT))->
  PSDs (eC (f7 P w cv) P w K mg base N x (ag st) f bT A outer s H E) (λn H'=>E (cv n) none H') (aB st) τ):ax P w K mg base cv (k+1) x ps.length (dF N.length τ):=by
 obtain⟨h1,fd,Fn⟩:=T;exact⟨f,fd,ps,h1,Fn.kp,Fn.binds zm,Og Fn S bX⟩
section
variable{X:Cx}{Xw:Nat->Hp->Prop}{a:Expr}{δ:DE}{pos:Pos}
def va:D->M D
 | .int i=>aa (.int (-i))
 |_=>af
def vD(ha:PD X Xw a δ):PD X Xw (.UnaryOp .USub a pos) (d1 va δ):=PE.weak (MJ K2 ha) λσ H Q ⟨F,ρ,s,w⟩=>by
 refine⟨F,ρ,s,WP.mono (WP.bind w) λv H1 ⟨F1,d,e1,q,w1⟩=>?_⟩;cases d with
 |int i=>
  have q:v= .int i:=q;subst q;exact⟨i,rfl,WP.now w1 e1.fh rfl⟩
 |_=>exact w1.elim
end
section
variable{X:Cx}{Xw:Nat->Hp->Prop}{pos:Pos}
def mJ{x z:Str}(hg:Gl X x)(h:∃t,X.mg x=some (.str z t))(hz:z.length<=lim)(lN:(x==("__debug__":Str))=false:=by decide):PD X Xw (.Name x pos) (dC (.str z)):=by
 obtain⟨t,h⟩:=h;exact A2 (v:= .str z) hg h ⟨t,rfl⟩ (λ_=>⟨rfl,hz⟩) lN
def A3{x:Str}{i:Int}(hg:Gl X x)(h:∃t,X.mg x=some (.int i t))(lN:(x==("__debug__":Str))=false:=by decide):PD X Xw (.Name x pos) (dC (.int i)):=by
 obtain⟨t,h⟩:=h;exact A2 (v:= .int i) hg h ⟨t,rfl⟩ (λ_=>rfl) lN
end
def HJ(sc osc:Scope):Scope:={sc with names:=sc.names.map λ(n,k)=>if (k== .free&&osc.kind== .function&&osc.names.lookup n==some .cell) then(n, .cell) else(n,k)}
section
variable{X:Cx}{Xw:Nat->Hp->Prop}{e:Expr}
variable{o:Expr}{δo:DE}{δl:DA}{v6 a7:Pos}
def y7(x y:Str):Nat:=(U7 x y 0 x.length (x.length+1)).length
def AA:D->List D->M D
 | .str x,[.str y]=>aa (.int (y7 x y))
 |_,_=>af
def G_:Li X "str.count" (λx vs H Q=>∃y z:Str,x= .str y/\vs=[.str z]/\Q (.int (y7 y z)) H):=by
 intro f8 s σ H x vs v us Q I rx rv h;obtain⟨y,z,rfl,rfl,q⟩:=h;obtain⟨t,rfl⟩:=rx;obtain⟨u,rfl,r1⟩:=rv.one;obtain⟨t2,rfl⟩:=r1;exact call_gives F.slot_str_count (WU _ _ _) F.entry_str_count (F.args_str_count_2 _ _) (gives_str_count y z t t2) ⟨.int (y7 y z),H,I.tok _,⟨_,rfl⟩,q⟩
def Ho(ho:PD X Xw o δo)(ha:lz X Xw [e] δl)(eF:UJ o "count" X.env (eval o X.env)=eval o X.env:=by rfl)
 (iV:((UM a7 (Tq [e] X.env)).all (λx=>!x.1)&&(Vg a7 (Ux [] X.env)).all (λx=>x.1.isSome)&&decide ([e].length+([]:List Vo).length+(if ([]:List Vo).isEmpty then 0 else 1)<30))=true:=by rfl)
 (eG:(v6.endLine==a7.line)=true:=by rfl)(pM:Tq [e] X.env=[(false,eval e X.env)]:=by rfl):PD X Xw (.Call (.Attribute o "count" v6) [e] [] a7) (dM sC AA δo δl):=
 EL VM PySem.F.slot_str_count PySem.F.type_str_count G_ zu (λXw F H x vs d ds Q s hx hv w=>by
  unfold AA at w;split at w
  ·rename_i y z;obtain⟨v,rfl,h1⟩:=hv.one;exact⟨y,z,hx.1,by rw[h1.1],WP.now w s rfl⟩
  ·exact w.elim) ho ha eF iV eG pM rfl
end
def IsTupRev(h:Heap)(it t:Addr)(i:Int):Prop:=∃o,h.get? it=some o/\o.cls= .type "reversed"/\o.data= .fields #[.ref t,Yj i]
def IsTupRev.at{h h':Heap}{it t:Addr}{i:Int}(x:IsTupRev h it t i)(e:∀o,h.get? it=some o->h'.get? it=some o):IsTupRev h' it t i:=let ⟨o,ho,r⟩:=x;⟨o,e _ ho,r⟩
section
variable{e:Expr}
end
def Eg:D->Option Key
 | .int i=>some (.inl i)
 | .str x=>some (.inr x)
 |_=>none
def G3:List D->Option (List Key)
 |[]=>some []
 |d::ds=>match Eg d,G3 ds with
  |some k,some ks=>some (k::ks)
  |_,_=>none
def pb:D->Option (List Key)
 | .tup ds=>G3 ds
 |_=>none
def qD{K:Ti}{F:Hp}(e:Eg d=some k)(h:Den K F d v):v=kV k:=by
 cases d<;>first | cases e | skip
 ·exact h
 ·exact h.1
theorem mf{K:Ti}{F:Hp}:∀{ds:List D}{vs:List V}{ks:List Key},G3 ds=some ks->DenL K F ds vs->vs=ks.map kV
 |[],_,_,e,h=>by cases e;exact h
 |d::ds,_,_,e,⟨v,r,h1,h2,h3⟩=>by
  unfold G3 at e;split at e
  ·rename_i k ks e1 e2;cases e;subst h1;rw[Ts,qD e1 h2,mf e2 h3]
  ·cases e
section
variable{κ:Type}[DecidableEq κ]
def iI:List κ->List D->κ->Option D
 |k'::ks,d::ds,k=>if k'=k then some d else iI ks ds k
 |_,_,_=>none
def pA:List κ->List D->κ->D->List D
 |k'::ks,d'::ds,k,d=>(if k'=k then d else d')::pA ks ds k d
 |_,_,_,_=>[]
theorem mW{K:Ti}{F:Hp}:∀{ks:List κ}{ds:List D}{vs:List V}(k:κ),DenL K F ds vs->ks.length=ds.length->
 (match iI ks ds k with | some d=>∃v,mX (ks.zip vs) k=some v/\Den K F d v | none=>mX (ks.zip vs) k=none)
 |[],[],_,_,_,_=>rfl
 |k'::ks,d::ds,_,k,⟨v,r,h1,h2,h3⟩,hl=>by
  subst h1;unfold iI;rw[Wm];by_cases e:k'=k
  ·rw[Zn e,mZ e];exact⟨v,rfl,h2⟩
  ·rw[Zo e,mY e];exact mW k h3 (by simpa using hl)
 |[],_::_,_,_,_,hl=>by simp at hl
 |_::_,[],_,_,_,hl=>by simp at hl
def ky{K:Ti}{F:Hp}(k:κ)(h:DenL K F ds vs)(hl:ks.length=ds.length):(mX (ks.zip vs) k).isSome=(iI ks ds k).isSome:=by
 have:=mW k h hl;split at this
 ·rename_i d e;obtain⟨v,e1,_⟩:=this;rw[e1,e];rfl
 ·rename_i e;rw[this,e];rfl
theorem yn{K:Ti}{F:Hp}(hd:Den K F d v):∀{ks:List κ}{ds:List D}{vs:List V}(k:κ),DenL K F ds vs->ks.length=ds.length->
 ∃ws,(ks.zip vs).map (λkv=>if kv.1=k then(kv.1,v) else kv)=ks.zip ws/\DenL K F (pA ks ds k d) ws
 |[],[],_,_,h,_=>⟨[],rfl,rfl⟩
 |k'::ks,d'::ds,_,k,⟨v',r,h1,h2,h3⟩,hl=>by
  subst h1;obtain⟨ws,e1,e2⟩:=yn hd k h3 (by simpa using hl);by_cases e:k'=k
  ·refine⟨v::ws,?_,?_⟩
   ·rw[Wm,Ts,e1,Zn e];rfl
   ·unfold pA;rw[Zn e];exact .cons hd e2
  ·refine⟨v'::ws,?_,?_⟩
   ·rw[Wm,Ts,e1,Zo e];rfl
   ·unfold pA;rw[Zo e];exact .cons h2 e2
 |[],_::_,_,_,_,hl=>by simp at hl
 |_::_,[],_,_,_,hl=>by simp at hl
theorem j3:∀(ks:List κ) (ds:List D) (k:κ) (d:D),ks.length=ds.length->(pA ks ds k d).length=ds.length
 |[],[],_,_,_=>rfl
 |_::ks,_::ds,k,d,h=>by unfold pA;rw[Tn,Tn,j3 ks ds k d (by simpa using h)]
 |[],_::_,_,_,h=>by simp at h
 |_::_,[],_,_,h=>by simp at h
def eQ(ks:List κ)(ds:List D)(k:κ):List κ:=if (iI ks ds k).isSome then ks else ks++[k]
def dn(ks:List κ)(ds:List D)(k:κ)(d:D):List D:=if (iI ks ds k).isSome then pA ks ds k d else ds++[d]
def vK{K:Ti}(hd:Den K F d v)(k:κ)(h:DenL K F ds vs)(hl:ks.length=ds.length):
 ∃ws,putK (ks.zip vs) k v=(eQ ks ds k).zip ws/\DenL K F (dn ks ds k d) ws/\(eQ ks ds k).length=(dn ks ds k d).length:=by
 have hs:=ky k h hl;unfold putK eQ dn;have ha:((ks.zip vs).any λkv=>decide (kv.1=k))=(mX (ks.zip vs) k).isSome:=rW ..;rw[ha,hs];cases e:(iI ks ds k).isSome with
 |true=>
  rw[Zn rfl,Zn rfl,Zn rfl];obtain⟨ws,e1,e2⟩:=yn hd k h hl;exact⟨ws,e1,e2,by rw[j3 ks ds k d hl];exact hl⟩
 |false=>
  rw[Zo T6,Zo T6,Zo T6];refine⟨vs++[v],?_,h.append (.cons hd .nil),by simp[hl]⟩;rw[List.zip_append (by rw[hl];exact h.len)];rfl
end
def BA{κ:Type}{K:Ti}{ks:List κ}(h:DenL K F ds vs)(hl:ks.length=ds.length):(ks.zip vs).length=ds.length:=by
 rw[X5,hl,<-h.len];omega
def rP(ρ:aM)(i:Nat):Option D:=match ρ[i]? with
 |some (some (.fz d))=>some d
 |some (some (.ow c))=>some c.d
 |_=>none
def Fy{K:Ti}(s:StE K F H σ ρ)(e:rP ρ i=some (.dct ks ds)):
 ∃a vs,σ[i]? =some (some (.ref a))/\Rd H a (.dT (ks.zip vs))/\DenL K F ds vs/\ks.length=ds.length/\ds.length<=lim:=by
 unfold rP at e;split at e
 ·rename_i d e1;cases e;obtain⟨v,h1,a,ob,vs,rfl,h2,h3,h4,h5⟩:=s.den i _ e1;exact⟨a,vs,h1, .inr ⟨ob,s.fh _ _ h2⟩,h3,h4,h5⟩
 ·rename_i c e1;cases c<;>cases e
  obtain⟨v,h1,a,o,rfl,h2,_,vs,rfl,h3,h4,h5⟩:=s.den i _ e1;exact⟨a,vs,h1, .inl h2,h3,h4,h5⟩
 ·cases e
def Fx{K:Ti}(s:StE K F H σ ρ)(e:rP ρ i=some (.dci ks ds)):
 ∃a vs,σ[i]? =some (some (.ref a))/\Rd H a (.dK (ks.zip vs))/\DenL K F ds vs/\ks.length=ds.length/\ds.length<=lim:=by
 unfold rP at e;split at e
 ·rename_i d e1;cases e;obtain⟨v,h1,a,ob,vs,rfl,h2,h3,h4,h5⟩:=s.den i _ e1;exact⟨a,vs,h1, .inr ⟨ob,s.fh _ _ h2⟩,h3,h4,h5⟩
 ·rename_i c e1;cases c<;>cases e
  obtain⟨v,h1,a,o,rfl,h2,_,vs,rfl,h3,h4,h5⟩:=s.den i _ e1;exact⟨a,vs,h1, .inl h2,h3,h4,h5⟩
 ·cases e
def Iu:D->D->Option (Option D)
 | .dct ks ds,k=>(pb k).map (iI ks ds)
 | .dci ks ds,k=>(Eg k).map (iI ks ds)
 |_,_=>none
def Au{K:Ti}(s:StE K F H σ ρ)(hi:rP ρ i=some d)(hk:Den K F k y)(e:Iu d k=some o):
 ∃a ov,σ[i]? =some (some (.ref a))/\yP H a y ov/\ov.isSome=o.isSome/\∀d',o=some d'->∃v,ov=some v/\Den K F d' v:=by
 unfold Iu at e;split at e
 ·rename_i ks ds;cases q:pb k with
  |none=>rw[q] at e;cases e
  |some kk=>
   rw[q] at e;cases e;obtain⟨a,vs,h1,h2,h3,h4,h5⟩:=Fy s hi;unfold pb at q;split at q
   ·rename_i es;obtain⟨b,ws,rfl,k2,k3,_⟩:=hk;have e1:=mf q k3;subst e1;refine⟨a,_,h1, .inr ⟨_,kk,b,h2,rfl,s.fh _ _ k2,rfl⟩,ky kk h3 h4,λd' wz=>?_⟩;have:=mW kk h3 h4;rw[wz] at this;exact this
   ·cases q
 ·rename_i ks ds;cases q:Eg k with
  |none=>rw[q] at e;cases e
  |some kk=>
   rw[q] at e;cases e;obtain⟨a,vs,h1,h2,h3,h4,h5⟩:=Fx s hi;have e1:=qD q hk;subst e1;refine⟨a,_,h1, .inl ⟨_,kk,h2,rfl,rfl⟩,ky kk h3 h4,λd' wz=>?_⟩;have:=mW kk h3 h4;rw[wz] at this;exact this
 ·cases e
section
variable{X:Cx}{Xw:Nat->Hp->Prop}{a b:Expr}{δa δb:DE}{pos:Pos}
def MC(ha:PD X Xw a δa)(hb:PD X Xw b δb):PD X Xw (.Compare a [.Gt] [b] pos) (d2 Oi δa δb):=vz Mz (AY λ_ _ _=>rfl) ha hb
end
section
variable{X:Cx}{Xw:Nat->Hp->Prop}{a e:Expr}{δ δk δv:DE}{pos p pos' vH:Pos}{x:Str}{i:Nat}
def Lr(neg:Bool)(i:Nat)(δ:DE):DE:=λρ=>δ ρ>>=λk=>match rP ρ i with
 |some d=>match Iu d k with
  |some o=>aa (.bl (if neg then !o.isSome else o.isSome))
  |none=>af
 |none=>af
def JU{neg:Bool}{σ:St}(h:tD X.K Xw (Lr neg i δ) σ H Q):(λσ H Q=>tD X.K Xw δ σ H λy H1=>fE i σ H1 λx H2=>∃a o,x= .ref a/\yP H2 a y o/\Q (.bl (if neg then !o.isSome else o.isSome)) H2) σ H Q:=by
 obtain⟨F,ρ,s,w⟩:=h;refine⟨F,ρ,s,WP.mono (WP.bind w) λy H1 ⟨F1,k,e1,q1,w1⟩=>?_⟩;have s1:=s.ext e1;cases hi:rP ρ i with
 |none=>rw[hi] at w1;exact w1.elim
 |some d=>
  rw[hi] at w1;have w1:WP X.K Xw F1 H1 (match Iu d k with | some o=>aa (.bl (if neg then !o.isSome else o.isSome)) | none=>af) Q:=w1;cases he:Iu d k with
  |none=>rw[he] at w1;exact w1.elim
  |some o=>
   rw[he] at w1;obtain⟨a,ov,h1,h2,h3,_⟩:=Au s1 hi q1 he;refine⟨.ref a,h1,a,ov,rfl,h2,?_⟩;rw[h3];exact WP.now w1 e1.fh rfl
def Pq(hu:X.A.units+64<cLine)(ha:PD X Xw a δ)(hv:PE X (.Name x p) (fE i))(hm:Uz .In (.Name x p)=false:=by rfl):PD X Xw (.Compare a [.In] [.Name x p] pos) (Lr false i δ):=
 PE.weak (Km (Kg (by omega) ha hv) hm) λσ H Q h=>JU (neg:=false) h
def Fs(i:Nat):DS:=λρ=>aa (.nx (ρ.set i (some (.ow (.dct [] [])))))
def yd(hN:X.N.Nodup)(hi:X.N[i]? =some x)(hx:Loc X.env.scope x)(hf:X.fn x=true\/X.env.scope.names.lookup x=some .local:=by first | exact .inl rfl | exact .inr rfl):
 pJ X Xw (.Assign [.Name x pos'] (.Dict [] [] vH) pos) (Fs i):=λu8 ZQ=>PS.weak (ro EV (b_ hN hi hx hf) rfl) λD σ H ⟨F,ρ,s,w⟩=>λq hq=>
 w _ F _ (s.setNew (c₀:= .dct [] []) hq ⟨[],rfl,rfl,rfl,Ur _⟩)
def rA:C->D->D->Option C
 | .dct ks ds,k,d=>match pb k with
   |some kk=>if ds.length<lim then some (.dct (eQ ks ds kk) (dn ks ds kk d)) else none
   |none=>none
 | .dci ks ds,k,d=>match Eg k with
   |some kk=>if ds.length<lim then some (.dci (eQ ks ds kk) (dn ks ds kk d)) else none
   |none=>none
 |_,_,_=>none
def Cu(ρ:aM)(i:Nat):Option C:=match ρ[i]? with
 |some (some (.ow c))=>some c
 |_=>none
def tY{ρ:aM}{i:Nat}(h:Cu ρ i=some c):ρ[i]? =some (some (.ow c)):=by
 unfold Cu at h;split at h
 ·rename_i c' e;cases h;exact e
 ·cases h
def yr(i:Nat)(δk δv:DE):DS:=λρ=>match Cu ρ i with
 |some c=>δv ρ>>=λv=>δk ρ>>=λk=>match rA c k v with
  |some c'=>aa (.nx (ρ.set i (some (.ow c'))))
  |none=>af
 |none=>af
def t9{κ:Type}[DecidableEq κ]{ks:List κ}{k:κ}(hl:ks.length=ds.length)(h:ds.length<lim):(dn ks ds k d).length<=lim:=by
 unfold dn;split
 ·rw[j3 ks ds k d hl];omega
 ·rw[Tt];exact h
def E7{K:Ti}{F H:Hp}(hs:Same F H)(hb:H b=some o)(hc:DenC K F c o)(hk:Den K F k y)(hd:Den K F d v)(e:rA c k d=some c'):∃o',DPut H b y v (upd H b o')/\DenC K F c' o':=by
 have LX:=dH;unfold rA at e;split at e
 ·rename_i ks ds k d;obtain⟨vs,rfl,h3,h4,h5⟩:=hc;split at e
  ·rename_i kk q;split at e
   ·rename_i iL;cases e;unfold pb at q;split at q
    ·rename_i es;obtain⟨b2,ws,rfl,k2,k3,_⟩:=hk;have e1:=mf q k3;subst e1;obtain⟨us,e2,e3,e4⟩:=vK hd kk h3 h4;refine⟨_,DPut.t hb (hs _ _ k2) (by rw[BA h3 h4];omega),us,?_,e3,e4,t9 h4 iL⟩;rw[e2]
    ·cases q
   ·cases e
  ·cases e
 ·rename_i ks ds k d;obtain⟨vs,rfl,h3,h4,h5⟩:=hc;split at e
  ·rename_i kk q;split at e
   ·rename_i iL;cases e;have e1:=qD q hk;subst e1;obtain⟨us,e2,e3,e4⟩:=vK hd kk h3 h4;refine⟨_,DPut.k hb (by rw[BA h3 h4];omega),us,?_,e3,e4,t9 h4 iL⟩;rw[e2]
   ·cases e
  ·cases e
 ·cases e
def ye(hu:X.A.units+64<cLine)(hv:PE X (.Name x p) (fE i))(hk:PD X Xw a δk)(he:PD X Xw e δv)(hs:VL e (some (.Subscript (.Name x p) a pos')) pos.line X.env=pure false:=by rfl):
 pJ X Xw (.Assign [.Subscript (.Name x p) a pos'] e pos) (yr i δk δv):=λu8 ZQ=>PS.weak (HD (by omega) hv hk he hs) λD σ H ⟨F,ρ,s,w⟩=>by
 unfold yr at w;cases ho:Cu ρ i with
 |none=>rw[ho] at w;exact w.elim
 |some c=>
  rw[ho] at w;have hi:=tY ho;have w:WPS X.K Xw u8 ZQ (δv ρ>>=λv=>δk ρ>>=λk=>match rA c k v with | some c'=>aa (.nx (ρ.set i (some (.ow c')))) | none=>af) D:=w;refine⟨F,ρ,s.st,?_⟩;rcases(δv ρ).cs with q | ⟨n,q⟩ | ⟨dv,q⟩
  ·rw[q] at w;exact w.elim
  ·rw[q] at w⊢;exact λF' H' e'=>w F' H' (s.ext.trans e')
  ·rw[q] at w⊢;intro v H1 F1 e1 hq;have s1:=s.ext' e1;obtain⟨u,h1,b,o,rfl,h2,h3,h4⟩:=s1.st.den i _ hi;have w:WPS X.K Xw u8 ZQ (δk ρ>>=λk=>match rA c k dv with | some c'=>aa (.nx (ρ.set i (some (.ow c')))) | none=>af) D:=w;refine⟨.ref b,h1,F1,ρ,s1.st,?_⟩;rcases(δk ρ).cs with q2 | ⟨n,q2⟩ | ⟨dk,q2⟩
   ·rw[q2] at w;exact w.elim
   ·rw[q2] at w⊢;exact λF' H' e'=>w F' H' (s1.ext.trans e')
   ·rw[q2] at w⊢;intro y H2 F2 e2 hy;have w:WPS X.K Xw u8 ZQ (match rA c dk dv with | some c'=>aa (.nx (ρ.set i (some (.ow c')))) | none=>af) D:=w;cases hp:rA c dk dv with
    |none=>rw[hp] at w;exact w.elim
    |some c'=>
     rw[hp] at w;have s2:=s1.ext' e2;obtain⟨u2,k1,b2,o2,Nw,k2,k3,k4⟩:=s2.st.den i _ hi;rw[h1] at k1;cases k1;cases Nw;obtain⟨o',g,hc⟩:=E7 s2.st.fh k2 k4 hy (Den.mono e2.ff hq) hp;exact⟨b,_,rfl,g,w σ F2 _ (s2.chg hi h1 hc)⟩
end
def fN(c:DT)(body:DS):Nat->DS
 |0,_=>af
 |n+1,ρ=>c ρ>>=λb=>if b then body ρ>>=λo=>match o with | .nx ρ'=>fN c body n ρ' | .rt d=>aa (.rt d) else aa (.nx ρ)
def Fu(c:DT)(body:DS):DS:=λρ=>fN c body lim ρ
section
variable{X:Cx}{Xw:Nat->Hp->Prop}{τ:DS}{tc:DT}{pos:Pos}
def CH(hp:YD (model X.prog X.w) X.A X.env X.xe)(hc:sV X Xw c tc)(hb:PSDs X Xw body τ):pJ X Xw (.While c body [] pos) (Fu tc τ):=λu8 ZQ=>PS.weak (E3 hp hc hb.ex) λD σ H ⟨F,ρ,s,w⟩=>by
 refine⟨λm σ H=>∃F ρ,StOk X.K u8 ZQ F H σ ρ/\WPS X.K Xw u8 ZQ (fN tc τ m ρ) D,⟨lim,F,ρ,s,w⟩,?_⟩;rintro m σ H ⟨F,ρ,s,w⟩;cases m with
 |zero=>exact w.elim
 |succ m=>
  refine⟨F,ρ,s.st,?_⟩;unfold fN at w
  match tc ρ,w with
  |none,w=>exact w
  |some (.ex n),w=>exact λF' H' e'=>w F' H' (s.ext.trans e')
  |some (.ok false),w=>exact λH' F' e'=>w σ F' H' (s.ext' e')
  |some (.ok true),w=>
   intro H' F' e';have w:WPS X.K Xw u8 ZQ (τ ρ>>=λo=>match o with | .nx ρ'=>fN tc τ m ρ' | .rt d=>aa (.rt d)) D:=w;refine⟨λσ' H'=>∃F' ρ',StOk X.K u8 ZQ F' H' σ' ρ'/\WPS X.K Xw u8 ZQ (fN tc τ m ρ') D,λσ' H' h=>⟨m,VI m,h⟩,u8,ZQ,F',ρ,s.ext' e',?_⟩
   match τ ρ,w with
   |none,w=>exact w
   |some (.ok (.nx ρ')),w=>exact λσ' F' H' s'=>⟨F',ρ',s',w⟩
   |some (.ok (.rt d)),w=>exact w
   |some (.ex n),w=>exact w
end
end L3
namespace L3
open PySem PySem.W PyProof.Rows
def dP(b:Nat->Nat->Bool):KasT α->α
 | .ret a=>a
 | .ask i j k=>dP b (k (b i j))
theorem gc(b:Nat->Nat->Bool)(f:α->KasT β):∀t:KasT α,dP b (t.bind f)=dP b (f (dP b t))
 | .ret _=>rfl
 | .ask i j k=>gc b f (k (b i j))
structure Lt (n:Nat) (b:Nat->Nat->Bool):Prop where
 tr:∀i j k,b i j=true->b j k=true->b i k=true
 SR:∀i j,b i j=true->b j i=false
 tot:∀i j,i<n->j<n->i≠j->b i j=true\/b j i=true
abbrev at'(p:Array Nat)(i:Nat):Nat:=p.getD i 0
def Ri(b:Nat->Nat->Bool)(p:Array Nat)(k:Nat):Prop:=∀i j,i<j->j<k->b (at' p i) (at' p j)=true
def Fa(b:Nat->Nat->Bool)(p:Array Nat)(k:Nat):Prop:=∀i j,i<j->j<k->b (at' p j) (at' p i)=true
structure PN (n:Nat) (p:Array Nat):Prop where
 sz:p.size=n
 lt:∀i,i<n->at' p i<n
 inj:∀i j,i<n->j<n->at' p i=at' p j->i=j
section
variable{n:Nat}{b:Nat->Nat->Bool}(L:Lt n b)
include L
theorem Ri.more(h:Ri b p k)(h1:1<=k)(e:b (at' p (k - 1)) (at' p k)=true):Ri b p (k+1):=λi j wA hj=>by
 by_cases hk:j<k
 ·exact h i j wA hk
 ·have:j=k:=by omega
  subst this;by_cases hi:i=j - 1
  ·subst hi;exact e
  ·exact L.tr _ _ _ (h i (j - 1) (by omega) (by omega)) e
theorem Fa.more(h:Fa b p k)(h1:1<=k)(e:b (at' p k) (at' p (k - 1))=true):Fa b p (k+1):=λi j wA hj=>by
 by_cases hk:j<k
 ·exact h i j wA hk
 ·have:j=k:=by omega
  subst this;by_cases hi:i=j - 1
  ·subst hi;exact e
  ·exact L.tr _ _ _ e (h i (j - 1) (by omega) (by omega))
theorem uC(P:PN n p):∀(f k:Nat),1<=k->k+f<=n->Ri b p k->k<=dP b (kas_asc p f k)/\dP b (kas_asc p f k)<=k+f/\Ri b p (dP b (kas_asc p f k))/\(dP b (kas_asc p f k)<k+f->b (at' p (dP b (kas_asc p f k))) (at' p (dP b (kas_asc p f k) - 1))=true)
 |0,k,h1,hn,h=>⟨Tr _,Tr _,h,λz=>Zp z (Uv _)⟩
 |f+1,k,h1,hn,h=>by
  have e:dP b (kas_asc p (f+1) k)=dP b (if b (at' p k) (at' p (k - 1))=true then KasT.ret k else kas_asc p f (k+1)):=rfl;rw[e];by_cases hb:b (at' p k) (at' p (k - 1))=true
  ·rw[Zn hb];exact⟨Tr _,by show k<=_;omega,h,λ_=>hb⟩
  ·rw[Zo hb];have hr:b (at' p (k - 1)) (at' p k)=true:=by
    rcases L.tot (at' p (k - 1)) (at' p k) (P.lt _ (by omega)) (P.lt _ (by omega)) (λz=>by have:=P.inj _ _ (by omega) (by omega) z;omega) with q | q
    ·exact q
    ·exact Zp q hb
   obtain⟨a1,a2,a3,a4⟩:=uC P f (k+1) (by omega) (by omega) (Ri.more L h h1 hr);exact⟨by omega,by omega,a3,λz=>a4 (by omega)⟩
theorem xh(P:PN n p):∀(f k:Nat),1<=k->k+f<=n->Fa b p k->∃m,dP b (kas_desc f p k 0)=(p,m,0)/\k<=m/\m<=k+f/\Fa b p m
 |0,k,h1,hn,h=>⟨k,rfl,Tr _,Tr _,h⟩
 |f+1,k,h1,hn,h=>by
  have e:dP b (kas_desc (f+1) p k 0)=dP b (if b (at' p k) (at' p (k - 1))=true then(if 0>0 then kas_desc f (kas_rev p (k - (0+1)) k) (k+1) 0 else kas_desc f p (k+1) 0)
   else .ask (p.getD (k - 1) 0) (p.getD k 0) λd=>if d=true then .ret (p,k,0) else kas_desc f p (k+1) (0+1)):=rfl
  rw[e];by_cases hb:b (at' p k) (at' p (k - 1))=true
  ·rw[Zn hb,Zo (by omega)];obtain⟨m,e1,e2,e3,e4⟩:=xh P f (k+1) (by omega) (by omega) (Fa.more L h h1 hb);exact⟨m,e1,by omega,by omega,e4⟩
  ·rw[Zo hb];have hr:b (at' p (k - 1)) (at' p k)=true:=by
    rcases L.tot (at' p (k - 1)) (at' p k) (P.lt _ (by omega)) (P.lt _ (by omega)) (λz=>by have:=P.inj _ _ (by omega) (by omega) z;omega) with q | q
    ·exact q
    ·exact Zp q hb
   refine⟨k,?_,Tr _,by omega,h⟩;show dP b (if b (at' p (k - 1)) (at' p k)=true then KasT.ret (p,k,0) else kas_desc f p (k+1) (0+1))=_;rw[Zn hr];rfl
end
def fJ(p:Array Nat)(k:Nat):at' p k=(p[k]?).getD 0:=by
 unfold at';rw[Array.getD_eq_getD_getElem?]
def Fg(hm:m<=p.size)(k:Nat):at' (kas_rev p 0 m) k=if k<m then at' p (m - 1 - k) else at' p k:=by
 have e:=getElem?_mirror_all (i:=0) hm k;rw[fJ];show (((mirror p 0 m ((m - 0) / 2))[k]?).getD 0)=_;rw[e];by_cases h:k<m
 ·rw[Zn ⟨Ur _,h⟩,Zn h,fJ,Wr]
 ·rw[Zo (λz=>h z.2),Zo h,fJ]
def De(hk:k<p.size)(hl:l<=k)(j:Nat):at' (bubble p k (k - l)) j=if j=l then at' p k else if l<j/\j<=k then at' p (j - 1) else at' p j:=by
 have e:=getElem?_bubble hk (k - l) (by omega) j;have e2:k - (k - l)=l:=by omega
 rw[e2] at e;rw[fJ (bubble p k (k - l)),e,fJ p k,fJ p (j - 1),fJ p j];by_cases c1:j=l
 ·rw[Zn c1,Zn c1]
 ·rw[Zo c1,Zo c1];by_cases c2:l<j/\j<=k
  ·rw[Zn c2,Zn c2]
  ·rw[Zo c2,Zo c2]
section
variable{n:Nat}{b:Nat->Nat->Bool}
def PN.rev(P:PN n p)(hm:m<=n):PN n (kas_rev p 0 m):=by
 have ha:=Fg (by rw[P.sz];exact hm);refine⟨(mirror_size ..).trans P.sz,λi hi=>?_,λi j hi hj e=>?_⟩
 ·rw[ha];split
  ·exact P.lt _ (by omega)
  ·exact P.lt _ hi
 ·rw[ha,ha] at e;split at e<;>split at e
  ·have:=P.inj _ _ (by omega) (by omega) e;omega
  ·have:=P.inj _ _ (by omega) hj e;omega
  ·have:=P.inj _ _ hi (by omega) e;omega
  ·exact P.inj _ _ hi hj e
def PN.bub(P:PN n p)(hk:k<n)(hl:l<=k):PN n (bubble p k (k - l)):=by
 have ha:=De (by rw[P.sz];exact hk) hl;refine⟨(bubble_size ..).trans P.sz,λi hi=>?_,λi j hi hj e=>?_⟩
 ·rw[ha];split
  ·exact P.lt _ hk
  ·split
   ·exact P.lt _ (by omega)
   ·exact P.lt _ hi
 ·rw[ha,ha] at e;split at e
  ·split at e
   ·omega
   ·split at e
    ·have:=P.inj _ _ hk (by omega) e;omega
    ·have:=P.inj _ _ hk hj e;omega
  ·split at e
   ·split at e
    ·have:=P.inj _ _ (by omega) hk e;omega
    ·split at e
     ·have:=P.inj _ _ (by omega) (by omega) e;omega
     ·have:=P.inj _ _ (by omega) hj e;omega
   ·split at e
    ·have:=P.inj _ _ hi hk e;omega
    ·split at e
     ·have:=P.inj _ _ hi (by omega) e;omega
     ·exact P.inj _ _ hi hj e
def Fa.rev(P:PN n p)(hm:m<=n)(h:Fa b p m):Ri b (kas_rev p 0 m) m:=λi j wA hj=>by
 have ha:=Fg (by rw[P.sz];exact hm);rw[ha,ha,Zn (by omega),Zn hj];exact h _ _ (by omega) (by omega)
variable(L:Lt n b)
include L
theorem FN(P:PN n p)(h1:1<=m)(hm:m<=n)(h:Fa b p m):∃k q,dP b (kas_tail3 m n p)=(k,q)/\PN n q/\1<=k/\k<=n/\Ri b q k:=by
 unfold kas_tail3;rw[gc];obtain⟨a1,a2,a3,_⟩:=uC L (P.rev hm) (n - m) m h1 (by omega) (Fa.rev P hm h);exact⟨_,_,rfl,P.rev hm,by omega,by omega,a3⟩
theorem BR(P:PN n p)(h2:2<=n):∃k q,dP b (kas_count n p)=(k,q)/\PN n q/\1<=k/\k<=n/\Ri b q k:=by
 unfold kas_count;rw[gc];obtain⟨a1,a2,a3,a4⟩:=uC L P (n - 1) 1 (Tr _) (by omega) (λi j wA hj=>by omega);generalize dP b (kas_asc p (n - 1) 1)=m at a1 a2 a3 a4;by_cases he:m=n
 ·subst he;rw[Zn (by simp)];exact⟨m,p,rfl,P,by omega,Tr _,a3⟩
 ·rw[Zo (by simpa using he)];by_cases hg:m>1
  ·rw[Zn hg];have hb:b (p.getD 0 0) (p.getD (m - 1) 0)=true:=a3 0 (m - 1) (by omega) (by omega);show∃k q,dP b (if b (p.getD 0 0) (p.getD (m - 1) 0)=true then KasT.ret (m,p) else kas_descPart m n (kas_rev p 0 m))=(k,q)/\_;rw[Zn hb];exact⟨m,p,rfl,P,by omega,by omega,a3⟩
  ·rw[Zo hg];have hm:m=1:=by omega
   subst hm;have hb:=a4 (by omega);unfold kas_descPart;rw[gc];obtain⟨m,e1,e2,e3,e4⟩:=xh L P (n - (1+1)) (1+1) (by omega) (by omega) (λi j wA hj=>by
    have hi:i=0:=by omega
    have hj:j=1:=by omega
    subst hi hj;exact hb)
   rw[e1]
   dsimp only
   rw[Zo (by omega)];exact FN L P (by omega) (by omega) e4
theorem nJ(P:PN n p)(hk:k<n)(h:Ri b p k):∀(f l r:Nat),l<=r->r<=k->r - l<=f->(∀i,i<l->b (at' p i) (at' p k)=true)->(∀i,r<=i->i<k->b (at' p k) (at' p i)=true)->
 dP b (kas_place p k f l r)<=k/\(∀i,i<dP b (kas_place p k f l r)->b (at' p i) (at' p k)=true)/\∀i,dP b (kas_place p k f l r)<=i->i<k->b (at' p k) (at' p i)=true
 |0,l,r,h1,h2,h3,h4,h5=>by
  have:r=l:=by omega
  subst this;exact⟨h2,h4,h5⟩
 |f+1,l,r,h1,h2,h3,h4,h5=>by
  unfold kas_place;by_cases QD:l>=r
  ·rw[Zn QD];have:r=l:=by omega
   subst this;exact⟨h2,h4,h5⟩
  ·rw[Zo QD];have hm:(l+r) / 2<r:=by omega
   have La:l<=(l+r) / 2:=by omega
   show dP b (if b (at' p k) (at' p ((l+r) / 2))=true then kas_place p k f l ((l+r) / 2) else kas_place p k f ((l+r) / 2+1) r)<=k/\(∀i,i<dP b (if b (at' p k) (at' p ((l+r) / 2))=true then kas_place p k f l ((l+r) / 2) else kas_place p k f ((l+r) / 2+1) r)->_)/\∀i,dP b (if b (at' p k) (at' p ((l+r) / 2))=true then kas_place p k f l ((l+r) / 2) else kas_place p k f ((l+r) / 2+1) r)<=i->_;by_cases hb:b (at' p k) (at' p ((l+r) / 2))=true
   ·rw[Zn hb];refine nJ P hk h f l ((l+r) / 2) La (by omega) (by omega) h4 λi hi RN=>?_;by_cases e:i=(l+r) / 2
    ·rw[e];exact hb
    ·exact L.tr _ _ _ hb (h _ _ (by omega) RN)
   ·rw[Zo hb];have hr:b (at' p ((l+r) / 2)) (at' p k)=true:=by
     rcases L.tot (at' p ((l+r) / 2)) (at' p k) (P.lt _ (by omega)) (P.lt _ hk) (λz=>by have:=P.inj _ _ (by omega) hk z;omega) with q | q
     ·exact q
     ·exact Zp q hb
    refine nJ P hk h f ((l+r) / 2+1) r (by omega) h2 (by omega) (λi hi=>?_) h5;by_cases e:i=(l+r) / 2
    ·rw[e];exact hr
    ·exact L.tr _ _ _ (h i ((l+r) / 2) (by omega) (by omega)) hr
theorem Aw:∀(f:Nat) {p:Array Nat}{k:Nat},PN n p->k+f<=n->Ri b p k->PN n (dP b (kas_bin f p k))/\Ri b (dP b (kas_bin f p k)) (k+f)
 |0,p,k,P,_,h=>⟨P,h⟩
 |f+1,p,k,P,hn,h=>by
  have hk:k<n:=by omega
  unfold kas_bin;rw[gc];obtain⟨a1,a2,a3⟩:=nJ L P hk h k 0 k (Ur _) (Tr _) (by omega) (λi hi=>by omega) (λi h1 h2=>by omega);generalize dP b (kas_place p k k 0 k)=l at a1 a2 a3;have ha:=De (by rw[P.sz];exact hk) a1;have hR:Ri b (bubble p k (k - l)) (k+1):=λi j wA hj=>by
   rw[ha,ha];by_cases c1:i=l
   ·rw[Zn c1,Zo (by omega),Zn ⟨by omega,by omega⟩];exact a3 _ (by omega) (by omega)
   ·rw[Zo c1];by_cases c2:j=l
    ·rw[Zn c2,Zo (by omega)];exact a2 _ (by omega)
    ·rw[Zo c2];by_cases c3:l<i/\i<=k
     ·rw[Zn c3,Zn ⟨by omega,by omega⟩];exact h _ _ (by omega) (by omega)
     ·rw[Zo c3];by_cases c4:l<j/\j<=k
      ·rw[Zn c4];exact h _ _ (by omega) (by omega)
      ·rw[Zo c4];exact h _ _ wA (by omega)
  have:=Aw f (P.bub hk a1) (by omega) hR;rw[show k+(f+1)=k+1+f by omega];exact this
theorem Fz(h2:2<=n):PN n (dP b (kas_sort n))/\Ri b (dP b (kas_sort n)) n:=by
 have P0:PN n (U_ (TB n)):=by
  have e:∀i,i<n->at' (U_ (TB n)) i=i:=λi hi=>by rw[fJ];simp[hi]
  exact⟨by simp,λi hi=>by rw[e i hi];exact hi,λi j hi hj z=>by rw[e i hi,e j hj] at z;exact z⟩
 unfold kas_sort;rw[gc];obtain⟨k,q,e,P,k1,kn,hR⟩:=BR L P0 h2;rw[e]
 dsimp only
 by_cases iL:k<n
 ·rw[Zn iL];have:=Aw L (n - max k 1) (k:=max k 1) P (by omega) (by rw[show max k 1=k by omega];exact hR);rw[show max k 1+(n - max k 1)=n by omega] at this;exact this
 ·rw[Zo iL];have:k=n:=by omega
  subst this;exact⟨P,hR⟩
end
def Asks{α:Type}(n:Nat)(P:α->Prop):KasT α->Prop
 | .ret a=>P a
 | .ask i j k=>i<n/\j<n/\∀c,Asks n P (k c)
theorem Asks.bind{α β:Type}{n:Nat}{P:α->Prop}{Q:β->Prop}{f:α->KasT β}:∀{t:KasT α},Asks n P t->(∀a,P a->Asks n Q (f a))->Asks n Q (t.bind f)
 | .ret a,h,hf=>hf a h
 | .ask i j k,h,hf=>⟨h.1,h.2.1,λc=>Asks.bind (h.2.2 c) hf⟩
theorem wp_run{α:Type}{n:Nat}{P:α->Prop}{b:Nat->Nat->Bool}{cmp:Nat->Nat->(Bool->Tp->Prop)->Tp->Prop}{Q:α->Tp->Prop}{s:Tp}(hc:∀i j C,i<n->j<n->C (b i j) s->cmp i j C s):∀{t:KasT α},Asks n P t->Q (dP b t) s->t.kasWp cmp Q s
 | .ret a,_,h=>h
 | .ask i j k,ha,h=>hc i j _ ha.1 ha.2.1 (wp_run hc (ha.2.2 _) h)
def Below(n:Nat)(p:Array Nat):Prop:=∀x∈p,x<n
section
variable{n:Nat}(hn:0<n)
include hn
theorem Below.at{p:Array Nat}(h:Below n p)(i:Nat):at' p i<n:=by
 rw[fJ];cases e:p[i]? with
 |none=>exact hn
 |some x=>exact h x (Array.mem_of_getElem? e)
theorem Below.rev{p:Array Nat}(h:Below n p)(i j:Nat):Below n (kas_rev p i j):=λx hx=>h x ((mirror_perm p i j ((j - i) / 2)).mem_iff.mp hx)
theorem Below.bub{p:Array Nat}(h:Below n p)(k d:Nat):Below n (bubble p k d):=λx hx=>h x ((bubble_perm p k d).mem_iff.mp hx)
theorem p5{p:Array Nat}(h:Below n p):∀f k,Asks n (λ_=>True) (kas_asc p f k)
 |0,k=>trivial
 |f+1,k=>⟨Below.at hn h _,Below.at hn h _,λc=>by
  show Asks n _ (if c=true then KasT.ret k else kas_asc p f (k+1));cases c
  ·exact p5 h f (k+1)
  ·exact trivial⟩
theorem kD:∀f {p:Array Nat} k q,Below n p->Asks n (λr=>Below n r.1) (kas_desc f p k q)
 |0,p,k,q,h=>h
 |f+1,p,k,q,h=>⟨Below.at hn h _,Below.at hn h _,λc=>by
  cases c
  ·refine⟨Below.at hn h _,Below.at hn h _,λd=>?_⟩;cases d
   ·exact kD f _ _ h
   ·exact h
  ·show Asks n _ (if q>0 then kas_desc f (kas_rev p (k - (q+1)) k) (k+1) 0 else kas_desc f p (k+1) 0);split
   ·exact kD f _ _ (Below.rev hn h _ _)
   ·exact kD f _ _ h⟩
theorem sW{p:Array Nat}(h:Below n p)(m r:Nat):Asks n (λx=>Below n x.2) (kas_tail3 m r p):=Asks.bind (p5 hn (Below.rev hn h 0 m) _ _) λ_ _=>Below.rev hn h 0 m
theorem p6{p:Array Nat}(h:Below n p)(m r:Nat):Asks n (λx=>Below n x.2) (kas_descPart m r p):=Asks.bind (kD hn _ _ _ h) λx hx=>by
 split
 ·exact sW hn (Below.rev hn hx _ _) _ _
 ·exact sW hn hx _ _
theorem yU{p:Array Nat}(h:Below n p)(r:Nat):Asks n (λx=>Below n x.2) (kas_count r p):=Asks.bind (p5 hn h _ _) λm _=>by
 split
 ·exact h
 ·split
  ·refine⟨Below.at hn h _,Below.at hn h _,λc=>?_⟩;cases c
   ·exact p6 hn (Below.rev hn h _ _) _ _
   ·exact h
  ·exact p6 hn h _ _
theorem lB{p:Array Nat}(h:Below n p)(k:Nat):∀f l r,Asks n (λ_=>True) (kas_place p k f l r)
 |0,l,r=>trivial
 |f+1,l,r=>by
  unfold kas_place;split
  ·exact trivial
  ·refine⟨Below.at hn h _,Below.at hn h _,λc=>?_⟩;cases c
   ·exact lB h k f _ _
   ·exact lB h k f _ _
theorem wJ:∀f {p:Array Nat} k,Below n p->Asks n (λ_=>True) (kas_bin f p k)
 |0,p,k,h=>trivial
 |f+1,p,k,h=>Asks.bind (lB hn h k _ _ _) λl _=>wJ f _ (Below.bub hn h _ _)
theorem BE:Asks n (λ_=>True) (kas_sort n):=by
 have h0:Below n (U_ (TB n)):=λx hx=>by simpa using hx
 refine Asks.bind (yU hn h0 n) λx hx=>?_;split
 ·exact wJ hn _ _ hx
 ·exact trivial
end
def e9:List Int->List Int->Bool
 |[],[]=>false
 |[],_::_=>true
 |_::_,[]=>false
 |x::xs,y::ys=>if x=y then e9 xs ys else decide (x<y)
theorem u4:∀a b c:List Int,e9 a b=true->e9 b c=true->e9 a c=true
 |[],[],_,h,_=>by cases h
 |[],_::_,[],_,h=>by cases h
 |[],_::_,_::_,_,_=>rfl
 |_::_,[],_,h,_=>by cases h
 |_::_,_::_,[],_,h=>by cases h
 |x::a,y::b,z::c,h1,h2=>by
  unfold e9 at h1 h2⊢;by_cases e1:x=y
  ·subst e1;rw[Zn rfl] at h1;by_cases e2:x=z
   ·subst e2;rw[Zn rfl] at h2⊢;exact u4 a b c h1 h2
   ·rw[Zo e2] at h2⊢;exact h2
  ·rw[Zo e1] at h1;have h1:=Zt h1;by_cases e2:y=z
   ·subst e2;rw[Zo e1];exact Zq h1
   ·rw[Zo e2] at h2;have h2:=Zt h2;rw[Zo (by omega)];exact Zq (by omega)
theorem mh:∀a b:List Int,e9 a b=true->e9 b a=false
 |[],[],h=>by cases h
 |[],_::_,_=>rfl
 |_::_,[],h=>by cases h
 |x::a,y::b,h=>by
  unfold e9 at h⊢;by_cases e:x=y
  ·subst e;rw[Zn rfl] at h⊢;exact mh a b h
  ·rw[Zo e] at h;have h:=Zt h;rw[Zo (λz=>e z.symm)];exact Zr (by omega)
theorem qG:∀a b:List Int,a≠b->e9 a b=true\/e9 b a=true
 |[],[],h=>Zp rfl h
 |[],_::_,_=> .inl rfl
 |_::_,[],_=> .inr rfl
 |x::a,y::b,h=>by
  unfold e9;by_cases e:x=y
  ·subst e;rw[Zn rfl,Zn rfl];exact qG a b λz=>h (by rw[z])
  ·rw[Zo e,Zo (λz=>e z.symm)];by_cases q:x<y
   ·exact .inl (Zq q)
   ·exact .inr (Zq (by omega))
section
variable{prog:T3}{w:World}{A:Uu}{E:Value->Tp->Prop}{s:Tp}
theorem xE{Q:Bool->Tp->Prop}:∀{us vs:List Value}{xs ys:List Int}(i:Nat) {fin:Bool},WB us xs->WB vs ys->fin=decide (xs.length<ys.length)->Q (e9 xs ys) s->KatLex prog w A true fin Q (us.zip vs) i s
 |_,_,_,_,i,_, .nil, .nil,e,h=>by subst e;exact kat_nil h
 |_,_,_,_,i,_, .nil, .cons y t r,e,h=>by subst e;exact kat_nil h
 |_,_,_,_,i,_, .cons x t r, .nil,e,h=>by subst e;exact kat_nil h
 |_,_,_,_,i,_, .cons (vs:=us) (ns:=xs) x t r, .cons (vs:=vs) (ns:=ys) y u r',e,h=>by
  refine kat_cons (wpAny_eqBool_int ?_);by_cases q:x=y
  ·subst q;rw[show (x==x)=true by simp];refine kat_yes (xE (i+1) r r' (by rw[e];simp) ?_);unfold e9 at h;rw[Zn rfl] at h;exact h
  ·rw[show (x==y)=false by simpa using q];unfold e9 at h;rw[Zo q] at h;refine kat_no ?_;by_cases hi:(i==0)=true
   ·rw[hi];exact oneLt_int h
   ·rw[show (i==0)=false by simpa using hi];exact kat_one _ _ (PyProof.Rows.lt_int h)
def TupsAt(h:Heap):List Value->List (List Int)->Prop
 |[],[]=>True
 |v::vs,k::ks=>(∃a o us m,v= .ref a/\h.get? a=some o/\o.cls= .type "tuple"/\o.data= .seq (U_ us) m/\WB us k/\k≠[])/\TupsAt h vs ks
 |_,_=>False
theorem TupsAt.len{h:Heap}:∀{vs:List Value}{ks:List (List Int)},TupsAt h vs ks->vs.length=ks.length
 |[],[],_=>rfl
 |v::vs,k::ks,t=>by rw[Tn,Tn,TupsAt.len t.2]
 |[],_::_,t=>t.elim
 |_::_,[],t=>t.elim
theorem TupsAt.get{h:Heap}:∀{vs:List Value}{ks:List (List Int)}{i:Nat},TupsAt h vs ks->i<vs.length->∃a o us m,vs.getD i UX= .ref a/\h.get? a=some o/\o.cls= .type "tuple"/\o.data= .seq (U_ us) m/\WB us (ks.getD i [])/\ks.getD i []≠[]
 |v::vs,k::ks,0,t,_=>t.1
 |v::vs,k::ks,i+1,t,hi=>TupsAt.get (i:=i) t.2 (by simpa using hi)
 |[],_,_,_,hi=>by simp at hi
 |_::_,[],_,t,_=>t.elim
theorem TupsAt.keep{h h':Heap}{a:Addr}(k:∀b o,b≠a->h.get? b=some o->h'.get? b=some o)(ha:∀o,h.get? a=some o->o.cls≠ .type "tuple"):∀{vs:List Value}{ks:List (List Int)},TupsAt h vs ks->TupsAt h' vs ks
 |[],[],_=>trivial
 |v::vs,x::ks,⟨⟨b,o,us,m,e1,e2,e3,e4⟩,t⟩=>⟨⟨b,o,us,m,e1,k b o (λz=>ha o (by rw[<-z];exact e2) e3) e2,e3,e4⟩,TupsAt.keep k ha t⟩
 |[],_::_,t=>t.elim
 |_::_,[],t=>t.elim
theorem qw:∀{us:List Value}{xs:List Int},WB us xs->us.length=xs.length
 |_,_, .nil=>rfl
 |_,_, .cons x t r=>by rw[Tn,Tn,qw r]
theorem TupsAt.firsts{M:Model}{h:Heap}:∀{vs:List Value}{ks:List (List Int)},TupsAt h vs ks->∃fs,KatTups h vs fs/\fs.length=vs.length/\∀v∈fs,Looks M h (typeOf v) (.type "int")
 |[],[],_=>⟨[],KatTups.nil,rfl,λ_ z=>by cases z⟩
 |v::vs,k::ks,⟨⟨a,o,us,m,e1,e2,e3,e4,e5,e6⟩,t⟩=>by
  obtain⟨fs,q1,q2,q3⟩:=TupsAt.firsts (M:=M) t;subst e1;cases e5 with
  |nil=>exact Zp rfl e6
  |cons x t r=>
   refine⟨.int x t::fs,KatTups.cons e2 e3 e4 (by simp) q1,by simp[q2],λv hv=>?_⟩;rcases Tz.mp hv with rfl | hv
   ·exact show Looks M h (pure (Yl "int")) (Yl "int") from .now
   ·exact q3 v hv
 |[],_::_,t=>t.elim
 |_::_,[],t=>t.elim
def asked{vs:List Value}{ks:List (List Int)}(t:TupsAt s.heap vs ks)(i j:Nat)(C:Bool->Tp->Prop)(hi:i<vs.length)(hj:j<vs.length)(h:C (e9 (ks.getD i []) (ks.getD j [])) s):kas_ask prog w A (tuples' true) vs i j C s:=by
 obtain⟨a,o,us,m,e1,e2,_,e4,e5,_⟩:=t.get hi;obtain⟨a',o',Tc,m',wx,F7,_,Q8,Qn,_⟩:=t.get hj;unfold kas_ask;rw[e1,wx];refine kat_lt e2 e4 F7 Q8 (xE 0 e5 Qn ?_ h);rw[Tv,Tv,qw e5,qw Qn]
def Ez{α:Type}{l:List α}(h:l.Nodup){i j:Nat}(hi:i<l.length)(hj:j<l.length)(e:l[i]=l[j]):i=j:=by
 rcases Nat.lt_trichotomy i j with q | q | q
 ·exact Zp e (VC.mp h i j hi hj q)
 ·exact q
 ·exact Zp e.symm (VC.mp h j i hj hi q)
def CO{a:Addr}{c:Nat}{vs:List Value}{ks:List (List Int)}{P:PySem.Fin->Tp->Prop}(ho:s.heap.get? a=some (VY "list" vs.toArray c))(ht:TupsAt s.heap vs ks)(hd:ks.Nodup)(Oj:vs.length<64)
 (h:∀(p:Array Nat) (h':Heap) (c':Nat),PN vs.length p->Ri (λi j=>e9 (ks.getD i []) (ks.getD j [])) p vs.length->h'.get? a=some (VY "list" (U_ (p.toList.map λi=>vs.getD i UX)) c')->
  (∀b o,b≠a->s.heap.get? b=some o->h'.get? b=some o)->P (.done (.ret .none)) {s with heap:=h'}):wpAny (model prog w) A (Builtin.«list.sort» ⟨[.ref a],[]⟩) P E s:=by
 have IT:TK=16777216:=Ww;have s1:=Us s.heap a (Vq λ_=>(#[]:Array Value));obtain⟨e1,NF⟩:∃e1,(s.heap.update a (Vq λ_=>(#[]:Array Value))).get? a=some (VY "list" #[] e1):=⟨_,get?_update_seq ho λ_=> #[]⟩
 have k1:∀b o,b≠a->s.heap.get? b=some o->(((s.heap.update a (Vq λ_=>(#[]:Array Value))).push (VY "tuple" vs.toArray 0)).push (VY "list" #[] 0)).get? b=some o:=λb o hb e=>
  Tj _ (Tj _ ((s1.2 b hb).trans e))
 have OZ:=Tj (VY "list" #[] 0) (Tj (VY "tuple" vs.toArray 0) NF);have t3:=ht.keep k1 (λo e z=>by rw[ho] at e;cases e;exact Zp (Value.type.inj z) (by decide));have fin:∀(st:SortSt) (p:Array Nat),PN vs.length p->Ri (λi j=>e9 (ks.getD i []) (ks.getD j [])) p vs.length->(arrOf st).map (·.2)=U_ (p.toList.map λi=>vs.getD i UX)->failedOf st=none->
  wpAny (model prog w) A (do
   let touched:=(<-seqEpoch a) !=e1
   Builtin.List.listUpdate (.ref a) λ_=>(arrOf st).map (·.2)
   if let some e:=failedOf st then rule "list.sort.comparison-raised";throw e
   if touched then rule "list.sort.modified";raiseError "ValueError" "list modified during sort"
   ret .none) P E {s with heap:=((s.heap.update a (Vq λ_=>(#[]:Array Value))).push (VY "tuple" vs.toArray 0)).push (VY "list" #[] 0)}:=λst p hp hr he hf=>by
  have hz:(U_ (p.toList.map λi=>vs.getD i UX)).size=vs.length:=by rw[Tv,Te,TZ,hp.sz]
  rw[he,hf];refine Td (seqEpoch_at OZ rfl (Td (listUpdate_at OZ rfl ?_ (Ur _) (by rw[hz,IT];omega))));simp only[bne_self_eq_false,Uc,if_false];have s2:=Us (((s.heap.update a (Vq λ_=>(#[]:Array Value))).push (VY "tuple" vs.toArray 0)).push (VY "list" #[] 0)) a (Vq λ_=>U_ (p.toList.map λi=>vs.getD i UX));exact Tu (h p _ _ hp hr (get?_update_seq OZ λ_=>U_ (p.toList.map λi=>vs.getD i UX)) λb o hb e=>(s2.2 b hb).trans (k1 b o hb e))
 rw[list_sort_plain];refine Td (listItems_at ho rfl (Td (listUpdate_at ho rfl (Td (seqEpoch_at NF rfl ?_)) (by rw[Tv,IT];omega) (Ur _))));refine Td (wpAny_newTuple (Td (wpAny_newList (VT ?_) (Ur _))) (by show vs.length<=_;rw[IT];omega));show wpAny (model prog w) A _ P E {s with heap:=((s.heap.update a (Vq λ_=>(#[]:Array Value))).push (VY "tuple" vs.toArray 0)).push (VY "list" #[] 0)}
 dsimp only
 by_cases hs:vs.toArray.size<2
 ·rw[Zn hs,Zn hs];have Ga:vs.length<2:=by simpa using hs
  refine Td (Tu (Td (Tu ?_)));refine fin (SortSt.mk' general' (vs.toArray.zip vs.toArray) #[] 7 none) (U_ (TB vs.length)) ⟨by simp,λi hi=>?_,λi j hi hj _=>by omega⟩ (λi j wA hj=>by omega) ?_ rfl
  ·rw[fJ];simp[hi]
  ·show (vs.toArray.zip vs.toArray).map (·.2)=_;apply Array.toList_inj.mp;refine V5 (by simp) λi a1 a2=>?_;simp at a1;simp[a1]
 ·rw[Zo hs,Zo hs];have Ga:2<=vs.length:=by
   have:¬vs.length<2:=by simpa using hs
   omega
  obtain⟨fs,q1,q2,q3⟩:=t3.firsts (M:=model prog w);refine Td (kat_kind q1 (by omega) q3 rfl ?_);have hb:Lt vs.length (λi j=>e9 (ks.getD i []) (ks.getD j [])):=⟨λi j k=>u4 _ _ _,λi j=>mh _ _,λi j hi hj wA=>qG _ _ λz=>wA (by
   rw[ht.len] at hi hj;rw[Tw,Tw,Tg hi,Tg hj] at z;exact Ez hd hi hj (by simpa using z))⟩
  obtain⟨r1,r2⟩:=Fz hb Ga;have run:=kat_run (prog:=prog) (w:=w) (A:=A) (E:=E) (ks:=vs) (vs:=vs) (κ:=tuples' true) (Q:=λst s'=>s'={s with heap:=((s.heap.update a (Vq λ_=>(#[]:Array Value))).push (VY "tuple" vs.toArray 0)).push (VY "list" #[] 0)}/\∃p,PN vs.length p/\Ri (λi j=>e9 (ks.getD i []) (ks.getD j [])) p vs.length/\(arrOf st).map (·.2)=U_ (p.toList.map λi=>vs.getD i UX)/\failedOf st=none)
   (G:=λp s'=>s'={s with heap:=((s.heap.update a (Vq λ_=>(#[]:Array Value))).push (VY "tuple" vs.toArray 0)).push (VY "list" #[] 0)}/\PN vs.length p/\Ri (λi j=>e9 (ks.getD i []) (ks.getD j [])) p vs.length) rfl Ga Oj
   (λp mV s' a1 a2 a3 a4=>⟨a4.1,p,a4.2.1,a4.2.2,kat_snds rfl a2,a3⟩)
   (wp_run (s:={s with heap:=((s.heap.update a (Vq λ_=>(#[]:Array Value))).push (VY "tuple" vs.toArray 0)).push (VY "list" #[] 0)}) (λi j C hi hj hC=>asked t3 i j C hi hj hC) (BE (by omega)) ⟨rfl,r1,r2⟩)
  refine Td (UO run ?_ λ_ _ e=>e);rintro⟨⟨⟩,mV⟩ s' ⟨rfl,p,a1,a2,a3,a4⟩;exact fin mV p a1 a2 a3 a4
end
section
variable{prog:T3}{w:World}{A:Uu}{E:Value->Tp->Prop}{s:Tp}
def tH(lo:(d==U9)=false)(ho:s.heap.get? d=some od)(hx:od.ExactDict)(hd:od.data= .dict es ep)
 (hQ:Q (.ref s.heap.objs.size) {s with heap:=s.heap.push {cls:= .type "dict_keyiterator",data:= .fields #[.ref d, .int 0 0, .int es.size 0, .int ep 0]} }):wpAny (model prog w) A (pyIter (.ref d)) Q E s:=by
 have hT:s.TypeIs (.ref d) "dict":=⟨od,ho,hx.1⟩
 refine wpAny_pyIter_slot hT F.slot_dict_iter (Vu F.slot_dict_iter hT F.entry_dict_iter ?_ (F.args_dict_iter_1 _));unfold Builtin.«dict.__iter__» Builtin.Dict.dictSlotNone;refine Td (Td (wpAny_notOrdered_dict hT ?_));show wpAny _ _ (pure (Ua d)) _ _ s;refine Tu ?_;show wpAny _ _ (Wt d>>=_) _ _ s;unfold Wt;rw[Zo (by rw[lo];exact T6)];refine Td (Tu (Td (Vd ho hd (Td (Wu ho hd ?_)))));refine Td (U3 (Tu ⟨_,rfl,"dict_keyiterator",_,⟨_,TM _ rfl,rfl⟩,F.slot_dict_keyiterator_next.lookup,?_⟩));simpa[Yj] using hQ
def xI(ZC:s.heap.IsKeyIter it d i es.size ep)(B5:s.heap.get? d=some od)(o_:od.data= .dict es ep)(hx:es[i]? =some e)
 (hQ:∀h',h'.IsKeyIter it d (i+1) es.size ep->Vw it s.heap h'->Q (some e.key) {s with heap:=h'}):wpAny (model prog w) A (YV (.ref it)) Q E s:=by
 obtain⟨o,ho,hc,hd⟩:=id ZC;have iL:i<es.size:=(Array.getElem?_eq_some_iff.mp hx).1;have JN:WS "dict_keyiterator"=false:=by decide
 unfold YV;refine Td (wpAny_attempt (VW ZC.typeIs Vx
  (Vu Vx ZC.typeIs Yh ?_ (X8 _))))
 refine Td (Tu (Td (Td ?_)))
 first | refine Td (Vt ZC.typeIs (Tu ?_)) | refine Td (VQ ZC.typeIs (Tu ?_))
 refine Td (wpAny_fieldsOf ho hd ?_);simp only[JN,Uc,if_false];show wpAny _ _ (if (Ua d==UX)=true then _ else _) _ _ s;rw[Zo (show¬((Ua d==UX)=true) from T6)];refine Td (Tu (Td (Vd B5 o_ ?_)));rw[Zo (by simp)];refine Td (Tu (Td (Wu B5 o_ ?_)));rw[Zo (by simp)];refine Tu ?_;simp only[show¬((i:Int)<0) from by omega,if_false,XI,hx];refine Td ?_
 first | refine Td (Vt ZC.typeIs (Tu ?_)) | refine Td (VQ ZC.typeIs (Tu ?_))
 refine Td (wpAny_isOneOf_keyiter ZC.typeIs ?_);show wpAny _ _ (setField (.ref it) 1 (Yj ((i:Int)+1))>>=_) _ _ s;refine Td (wpAny_setField ho hd (by simp) ?_);have GP:(s.heap.update it (Obj.mapFields (·.setIfInBounds 1 (Yj ((i:Int)+1))))).IsKeyIter it d (i+1) es.size ep:=
  ⟨_,V1 _ ho (Obj.isFreed_of_fields (Zi hd _)),(Obj.cls_mapFields ..).trans hc,by rw[Zi hd];simp[Yj]⟩
 refine Td (VT (Td (wpAny_isOneOf_keyiter GP.typeIs ?_)));show wpAny _ _ (pure e.key) _ _ _;exact Tu (Tu ⟨_,rfl,Tu (hQ _ GP (Us ..))⟩)
def tq(hh:A.handled=none)(ZC:s.heap.IsKeyIter it d i es.size ep)(hi:es.size<=i)(B5:s.heap.get? d=some od)(o_:od.data= .dict es ep)
 (hQ:∀h',Heap.ExtBut it s.heap h'->Q none {s with heap:=h'}):wpAny (model prog w) A (YV (.ref it)) Q E s:=by
 obtain⟨o,ho,hc,hd⟩:=id ZC;have JN:WS "dict_keyiterator"=false:=by decide
 unfold YV;refine Td (wpAny_attempt (VW ZC.typeIs Vx
  (Vu Vx ZC.typeIs Yh ?_ (X8 _))))
 refine Td (Tu (Td (Td ?_)))
 first | refine Td (Vt ZC.typeIs (Tu ?_)) | refine Td (VQ ZC.typeIs (Tu ?_))
 refine Td (wpAny_fieldsOf ho hd ?_);simp only[JN,Uc,if_false];show wpAny _ _ (if (Ua d==UX)=true then _ else _) _ _ s;rw[Zo (show¬((Ua d==UX)=true) from T6)];refine Td (Tu (Td (Vd B5 o_ ?_)));rw[Zo (by simp)];refine Td (Tu (Td (Wu B5 o_ ?_)));rw[Zo (by simp)];refine Tu ?_;simp only[show¬((i:Int)<0) from by omega,if_false,XI,Array.getElem?_eq_none hi];refine Td ?_
 first | refine Td (Vt ZC.typeIs (Tu ?_)) | refine Td (VQ ZC.typeIs (Tu ?_))
 show wpAny _ _ (setField (.ref it) 0 .none>>=_) _ _ s;refine Td (wpAny_setField ho hd (by simp) ?_);show wpAny _ _ (newExc (.type "StopIteration") []>>=_) _ _ _;refine Td ?_;simp only[newExc,newTuple];refine Td (U3 ?_ (by size_fits));refine Td (wpAny_of_eq (by first | rfl | (simp only[firstArgMember];rfl)) ?_);refine U3 ?_ (by size_fits);simp only[raiseNew];refine Td (wpAny_handled ?_);rw[show A.in1.handled=none from hh];refine Td (Tu (wpAny_throw ?_));refine Td (wpAny_isInstance ⟨_,TM _ rfl,rfl⟩ isSubtype_stop ?_);exact Tu (hQ _ (((Us ..).extBut.push _).push _))
def DK(hh:A.handled=none)(ZC:s.heap.IsKeyIter it d es.size es.size ep)(B5:s.heap.get? d=some od)(o_:od.data= .dict es ep)
 (hQ:∀h',Heap.ExtBut it s.heap h'->Q none {s with heap:=h'}):wpAny (model prog w) A (YV (.ref it)) Q E s:=tq hh ZC (Tr _) B5 o_ hQ
def Io(es:Array WW):Nat->Value->Prop:=λi v=>∃e,es[i]? =some e/\v=e.key
def Aj(hh:A.handled=none)(I d:Addr)(iM:d≠I)(o_:od.data= .dict es ep):
 Walks prog w A I [I,d] [I] es.size (Io es) (λi h=>h.IsKeyIter I d i es.size ep/\h.get? d=some od) where
 sub:=λb hb=>by simp at hb;simp[hb]
 frame:=λ_ _ _ st hk=>⟨st.1.at λo e=>hk I (by simp) o e,hk d (by simp) _ st.2⟩
 item:=λi s Q E hi st hQ=>by
  have hx:es[i]? =some es[i]:=Wq hi;exact xI st.1 st.2 o_ hx λh' GP GS=>hQ _ h' s.toks ⟨_,hx,rfl⟩ ⟨GP,(GS.2 d iM).trans st.2⟩ λb o hb e=>GS.extBut b o (λh=>hb (by simp[h])) e
 done:=λs Q E st hQ=>DK hh st.1 st.2 o_ λh' RG=>hQ h' s.toks λb o hb e=>RG b o (λh=>hb (by simp[h])) e
 self:=λ_ _ _ _ st hQ=>wpAny_pyIter_keyiter st.1 hQ
def FC(lo:(d==U9)=false)(hx:od.ExactDict)(o_:od.data= .dict es ep):KdlSrc prog w "dict" d d es.size (Io es) (λh=>h.get? d=some od) where
 type:=λ_ hm=>⟨od,hm,hx.1⟩
 there:=λ_ hm=>⟨TJ hm,TJ hm⟩
 keep:=λ_ _ hm hk=>hk d (.inl rfl) od hm
 notList:=by decide
 notTuple:=by decide
 hint:=λ_ _ s _ hm hq=>kdl_hint_dict ⟨od,hm,hx.1⟩ hq
 iter:=λ_ _ hh hm=>⟨_,_,(λ_ _ hq=>tH lo hm hx o_ hq),Aj hh _ d (T1 (TJ hm)) o_,⟨⟨_,TM _ rfl,rfl,rfl⟩,Tj _ hm⟩⟩
end
end L3
namespace L3
open PySem
def insI(k:List Int):List (List Int)->List (List Int)
 |[]=>[k]
 |x::r=>if e9 k x then k::x::r else x::insI k r
def sortI:List (List Int)->List (List Int)
 |[]=>[]
 |k::r=>insI k (sortI r)
def yS(l:List (List Int)):Prop:=l.Pairwise λa b=>e9 a b=true
theorem qt:∀{l:List (List Int)},x∈insI k l↔x=k\/x∈l
 |[]=>by simp[insI]
 |y::r=>by
  unfold insI;split
  ·simp
  ·rw[Tz,qt,Tz];constructor
   ·rintro(h | h | h)<;>simp[h]
   ·rintro(h | h | h)<;>simp[h]
theorem tB:∀{l:List (List Int)},yS l->k∉l->yS (insI k l)
 |[],_,_=>List.pairwise_singleton _ _
 |x::r,h,hk=>by
  have h:=UQ.mp h;unfold insI;split
  ·rename_i q;refine UQ.mpr ⟨λy hy=>?_,UQ.mpr h⟩;rcases Tz.mp hy with rfl | hy
   ·exact q
   ·exact u4 _ _ _ q (h.1 y hy)
  ·rename_i q;have hx:e9 x k=true:=by
    rcases qG k x (λz=>hk (by rw[z];exact Th ..)) with z | z
    ·exact Zp z q
    ·exact z
   refine UQ.mpr ⟨λy hy=>?_,tB h.2 λz=>hk (Tf _ z)⟩;rcases qt.mp hy with rfl | hy
   ·exact hx
   ·exact h.1 y hy
theorem iG:∀{l:List (List Int)},x∈sortI l↔x∈l
 |[]=>Iff.rfl
 |k::r=>by unfold sortI;rw[qt,iG,Tz]
theorem lW:∀{l:List (List Int)},l.Nodup->yS (sortI l)
 |[],_=>Ye
 |k::r,h=>by
  have h:=Ul.mp h;exact tB (lW h.2) λz=>h.1 (iG.mp z)
theorem rH:∀{a b:List (List Int)},yS a->yS b->(∀x,x∈a↔x∈b)->a=b
 |[],[],_,_,_=>rfl
 |[],y::b,_,_,h=>by have:=(h y).mpr (Th ..);cases this
 |x::a,[],_,_,h=>by have:=(h x).mp (Th ..);cases this
 |x::a,y::b,ha,hb,h=>by
  have ha:=UQ.mp ha;have hb:=UQ.mp hb;have e:x=y:=by
   rcases Tz.mp ((h x).mp (Th ..)) with q | q
   ·exact q
   ·rcases Tz.mp ((h y).mpr (Th ..)) with p | p
    ·exact p.symm
    ·have z1:=hb.1 x q;have z2:=ha.1 y p;rw[mh _ _ z1] at z2;cases z2
  subst e;have QO:∀k,e9 k k≠true:=λk z=>by have:=mh _ _ z;rw[z] at this;cases this
  rw[rH ha.2 hb.2 λz=>?_];constructor
  ·intro hz;rcases Tz.mp ((h z).mp (Tf _ hz)) with q | q
   ·subst q;exact Zp (ha.1 z hz) (QO z)
   ·exact q
  ·intro hz;rcases Tz.mp ((h z).mpr (Tf _ hz)) with q | q
   ·subst q;exact Zp (hb.1 z hz) (QO z)
   ·exact q
theorem z7:∀(n:Nat) (l:List Nat),l.Nodup->(∀x∈l,x<n)->l.length=n->∀k,k<n->k∈l
 |0,_,_,_,_,k,hk=>by omega
 |n+1,l,hd,hl,hn,k,hk=>by
  by_cases h:n∈l
  ·by_cases e:k=n
   ·subst e;exact h
   ·refine List.mem_of_mem_erase (z7 n (l.erase n) (hd.erase n) (λx hx=>?_) (by rw[Yv h,hn];rfl) k (by omega));have hx:=hd.mem_erase_iff.mp hx;have:=hl x hx.2;have:=hx.1;omega
  ·cases l with
   |nil=>simp at hn
   |cons x r=>
    have hd:=Ul.mp hd;have lt:∀y∈x::r,y<n:=λy hy=>by
     have:=hl y hy;have:y≠n:=λz=>h (by rw[<-z];exact hy);omega
    exact Zp (z7 n r hd.2 (λy hy=>lt y (Tf _ hy)) (by simpa using hn) x (lt x (Th ..))) hd.1
def CP(hd:ks.Nodup)(P:PN ks.length p)(R:Ri (λi j=>e9 (ks.getD i []) (ks.getD j [])) p ks.length):(p.toList.map λi=>ks.getD i [])=sortI ks:=by
 have hsz:p.toList.length=ks.length:=by rw[TZ];exact P.sz
 have K_:∀i (h:i<p.toList.length),p.toList[i]=at' p i:=λi h=>by
  have h':i<p.size:=by rw[TZ] at h;exact h
  rw[fJ,Wq h'];simp
 refine rH ?_ (lW hd) λx=>?_
 ·refine VC.mpr λi j hi hj wA=>?_;rw[Te] at hi hj;rw[Vp,Vp,K_ i hi,K_ j hj];exact R i j wA (by omega)
 ·rw[iG];constructor
  ·intro hx;obtain⟨i,hi,rfl⟩:=TV.mp hx;obtain⟨j,hj,rfl⟩:=V7.mp hi;have:=P.lt j (by omega);rw[K_ j hj,Tw,Tg this];exact XN this
  ·intro hx;obtain⟨k,hk,rfl⟩:=V7.mp hx;have L5:k∈p.toList:=by
    have hn:p.toList.Nodup:=VC.mpr λi j hi hj wA z=>by
     rw[K_ i hi,K_ j hj] at z;have:=P.inj i j (by omega) (by omega) z;omega
    exact z7 ks.length p.toList hn (λx hx=>by
     obtain⟨j,hj,rfl⟩:=V7.mp hx;rw[K_ j hj];exact P.lt j (by omega)) hsz k hk
   refine TV.mpr ⟨k,L5,?_⟩;rw[Tw,Tg hk];rfl
end L3
namespace L3
open PySem PySem.Spec L2 SeqAt HT
open PyProof.Rows hiding St
def tupI(k:List Int):D:= .tup (k.map D.int)
def jO(ks:List (List Int)):Bool:=decide ks.Nodup&&decide (ks.length<64)&&ks.all λk=>!k.isEmpty
def fI(H:Hp):List V->List (List Int)->Prop:=XZ λv k=>∃a,v= .ref a/\H a=some (.tup (k.map V.int))
theorem yj{K:Ti}:∀{ws:List V}{ks:List (List Int)},fI F ws ks->(∀k∈ks,k.length<=lim)->DenL K F (ks.map tupI) ws
 |_,_, .nil,_=>rfl
 |_,_, .cons (b:=k) h t,hl=>by
  obtain⟨a,rfl,h⟩:=h;exact .cons ⟨a,_,rfl,h,DenL.ints k,by rw[Te];exact hl k (Th ..)⟩ (yj t λk hk=>hl k (Tf _ hk))
theorem ud(I:Inv X f8 σ H s):∀{vs:List V}{aO:List Value}{ks:List (List Int)},fI H vs ks->Vals vs aO->(∀k∈ks,k≠[])->TupsAt s.heap aO ks
 |_,_,_, .nil,r,_=>by cases r;exact trivial
 |_,_,_, .cons (b:=k) h t,r,hn=>by
  obtain⟨a,rfl,h⟩:=h;cases r with
  |cons r1 r2=>
   cases (show _=_ from r1);obtain⟨us,ru,pt,_⟩:=I.tuple (SqT.of h);obtain⟨o,q1,q2,m,q3⟩:=pt;exact⟨⟨a,o,us,m,rfl,q1,q2,q3,intsAre_of ru,hn k (Th ..)⟩,ud I t r2 λk hk=>hn k (Tf _ hk)⟩
theorem yl:∀{vs:List V}{ks:List (List Int)}{i:Nat},fI H vs ks->i<vs.length->∃a,vs.getD i .non= .ref a/\H a=some (.tup ((ks.getD i []).map V.int))
 |_,_,i, .nil,hi=>by simp at hi
 |_,_,0, .cons h t,_=>h
 |_,_,i+1, .cons h t,hi=>yl (i:=i) t (by simpa using hi)
theorem ym:∀{vs:List V}{ks:List (List Int)},fI H vs ks->vs.length=ks.length
 |_,_, .nil=>rfl
 |_,_, .cons h t=>by rw[Tn,Tn,ym t]
theorem uc(h:fI H vs ks):∀{is:List Nat},(∀i∈is,i<vs.length)->fI H (is.map λi=>vs.getD i .non) (is.map λi=>ks.getD i [])
 |[],_=> .nil
 |i::is,hi=> .cons (yl h (hi i (Th ..))) (uc h λj hj=>hi j (Tf _ hj))
theorem um:∀{vs:List V}{us:List Value}(i:Nat),Vals vs us->i<vs.length->RelV (vs.getD i .non) (us.getD i UX)
 |_,_,i, .nil,hi=>by simp at hi
 |_,_,0, .cons h t,_=>h
 |_,_,i+1, .cons h t,hi=>um i t (by simpa using hi)
theorem uq(h:Vals vs us):∀{is:List Nat},(∀i∈is,i<vs.length)->Vals (is.map λi=>vs.getD i .non) (is.map λi=>us.getD i UX)
 |[],_=> .nil
 |i::is,hi=> .cons (um i h (hi i (Th ..))) (uq h λj hj=>hi j (Tf _ hj))
theorem uf:∀l:List (List Int),(sortI l).length=l.length
 |[]=>rfl
 |k::r=>by
  have ins:∀(k:List Int) (l:List (List Int)),(insI k l).length=l.length+1:=by
   intro k l;induction l with
   |nil=>rfl
   |cons x l ih=>
    unfold insI;split
    ·rfl
    ·rw[Tn,ih,Tn]
  unfold sortI;rw[ins,uf r,Tn]
def qB(k:List Int):List Key:=k.map XG
def MR:List V->Hp->VK->Prop:=λxs H Q=>∃p ay ks,xs=[.ref p]/\Rd H p (.dT ay)/\ay.map (·.1)=ks.map qB/\jO ks=true/\∀(q:Addr) (ws:List V),H q=none->fI H ws (sortI ks)->Q (.ref q) (upd H q (.lst ws))
theorem tL:∀{ay:List (List Key×V)}{xs:List (List Key×Addr×Value)}{ks:List (List Int)},XZ (λ(p:List Key×V) (q:List Key×Addr×Value)=>p.1=q.1/\H q.2.1=some (.tup (p.1.map kV))/\RelV p.2 q.2.2) ay xs->
 ay.map (·.1)=ks.map qB->fI H (xs.map λx=>V.ref x.2.1) ks
 |_,_,[], .nil,_=> .nil
 |_,_,_::_, .nil,e=>by simp at e
 |_,_,[], .cons h t,e=>by simp at e
 |_,_,k::ks, .cons h t,e=>by
  rw[Ts,Ts] at e;injection e with e1 e2
  refine .cons ⟨_,rfl,?_⟩ (tL t e2);have hk:(qB k).map kV=k.map V.int:=by unfold qB;rw[T7];rfl
  rw[h.2.1,e1,hk]
section
variable{X:Cx}{Xw:Nat->Hp->Prop}{e:Expr}{δs:DA}{pos p:Pos}
def BN(hc:X.calm=true):CallR X (.builtin "sorted") MR:=by
 intro f8 s σ H xs us Q I r h;obtain⟨a,ay,ks,rfl,hH,IP,hk,q⟩:=h;obtain⟨u,rfl,r1⟩:=r.one;cases (show u=_ from r1);obtain⟨z,lo,xs,rel,o,es,ep,g1,g2,g3,g4,g5⟩:=(show ObjOk X.prog X.w H s.heap a (.dT ay) from hH.ok I.hok)
 unfold jO at hk;rw[Uh,Uh] at hk;have hd:ks.Nodup:=Zt hk.1.1;have Oj:ks.length<64:=Zt hk.1.2;have iM:∀k∈ks,k≠[]:=λk NC z=>by have:=UG.mp hk.2 k NC;rw[z] at this;cases this
 have hr:=tL rel IP;have LV:=ym hr;rw[Te] at LV;have QA:es.size=xs.length:=by rw[<-TZ,g4,Te]
 have IT:TK=16777216:=Ww;refine Calls.call_function_entry kind_sorted plain_sorted entry_sorted (args_sorted1 _) ?_;unfold Builtin.«sorted»;refine Td (Tu (Td (PySem.W.kdu_collect (FC lo g2 g3) (I.ok.hd hc) g1 (by rw[QA,IT];omega) λh1 tk M2 Mi zl=>?_)));have LM:M2.toList.length=xs.length:=by rw[TZ,<-QA];exact zl.1
 have I1:Inv X f8 σ H {s with heap:=h1,toks:=tk}:=I.kept λb ob e=>Mi b ob e;have rv:Vals (xs.map λx=>V.ref x.2.1) M2.toList:=by
  have ext:∀{vs:List V}{us:List Value},vs.length=us.length->(∀(i:Nat) (v:V) (u:Value),vs[i]? =some v->us[i]? =some u->RelV v u)->Vals vs us:=by
   intro vs;induction vs with
   |nil=>intro us h _;cases us with | nil=>exact .nil | cons _ _=>simp at h
   |cons v vs ih=>
    intro us h hh;cases us with
    |nil=>simp at h
    |cons u us=>exact .cons (hh 0 v u rfl rfl) (ih (by simpa using h) λi v u h1 h2=>hh (i+1) v u h1 h2)
  refine ext (by rw[Te,LM]) λi v u e1 e2=>?_;rw[VZ] at e2;obtain⟨en,q1,q2⟩:=zl.2 i u e2;rw[<-VZ,g4,Tx] at q1;rw[Tx] at e1;cases w:xs[i]? with
  |none=>rw[w] at e1;cases e1
  |some x=>
   rw[w] at e1 q1;cases e1;cases q1;exact q2
 have ht:=ud I1 hr rv iM;refine Td (wpAny_newList ?_ (by rw[IT];omega));have NG:(h1.push (VY "list" M2.toList.toArray 0)).get? h1.objs.size=some (VY "list" M2.toList.toArray 0):=TM _ rfl;refine Td (VT (Vu slot_list_sort ⟨_,NG,rfl⟩ entry_list_sort (CO NG
  (ht.keep (λb o _ e=>Tj _ e) (λo e=>Zp (TJ e) (Uv _))) hd (by omega) λP h' c' hP hR OK LS=>?_) (args_list_sort _)))
 have Ov:∀i∈P.toList,i<(xs.map λx=>V.ref x.2.1).length:=λi hi=>by
  obtain⟨j,hj,rfl⟩:=V7.mp hi;have h':j<P.size:=by rw[TZ] at hj;exact hj
  have:=hP.lt j (by rw[hP.sz] at h';exact h');rw[fJ,Wq h'] at this;have e:P.toList[j]=P[j]:=by simp
  rw[e,Te];have:P[j]<M2.toList.length:=this;omega
 have Rp:PN ks.length P:=by rw[<-LV,<-LM];exact hP
 have Rq:Ri (λi j=>e9 (ks.getD i []) (ks.getD j [])) P ks.length:=by rw[<-LV,<-LM];exact hR
 have NK:=CP hd Rp Rq;have QL:=uc hr Ov;rw[NK] at QL;refine⟨_,rfl,Tu ⟨_,rfl,⟨.ref h1.objs.size,_,I1.laid (λb ob e=>LS b ob (T1 (TJ e)) (Tj _ e)) (Tr _) ?_,rfl,q _ _ (I1.hok.fresh (Tr _)) QL⟩⟩⟩;exact⟨by rw[Te,TZ,hP.sz,IT];omega,_,c',uq rv Ov,OK⟩
theorem ub(e:Same F F'):∀{ws:List V}{ks:List (List Int)},fI F ws ks->fI F' ws ks
 |_,_, .nil=> .nil
 |_,_, .cons ⟨b,q1,q2⟩ t=> .cons ⟨b,q1,e _ _ q2⟩ (ub e t)
theorem yk(hs:Same F H):∀{ws:List V}{ks:List (List Int)},fI H ws ks->∃F',Ext F H F' H/\fI F' ws ks
 |_,_, .nil=>⟨F,Ext.refl hs, .nil⟩
 |_,_, .cons h t=>by
  obtain⟨a,rfl,h⟩:=h;obtain⟨F1,e1,r1⟩:=yk hs t;have e2:=Ext.tup e1.fh h;refine⟨_,e1.trans e2, .cons ⟨a,rfl,ar⟩ ?_⟩;exact ub e2.ff r1
def tE:List Key->Option (List Int)
 |[]=>some []
 | .inl i::r=>(tE r).map (i:: ·)
 |_=>none
def gu:List (List Key)->Option (List (List Int))
 |[]=>some []
 |k::r=>match tE k,gu r with
  |some x,some xs=>some (x::xs)
  |_,_=>none
theorem xA:∀{k:List Key}{x:List Int},tE k=some x->k=qB x
 |[],_,e=>by cases e;rfl
 | .inl i::r,_,e=>by
   unfold tE at e;cases q:tE r with
   |none=>rw[q] at e;cases e
   |some y=>rw[q] at e;cases e;rw[xA q];rfl
 | .inr _::r,_,e=>by cases e
theorem nk:∀{kk:List (List Key)}{ks:List (List Int)},gu kk=some ks->kk=ks.map qB
 |[],_,e=>by cases e;rfl
 |k::r,_,e=>by
  unfold gu at e;split at e
  ·rename_i x xs e1 e2;cases e;rw[Ts,<-xA e1,<-nk e2]
  ·cases e
def rR:List D->M D
 |[.dct kk ds]=>match gu kk with
  |some ks=>if jO ks&&ks.all (λk=>decide (k.length<=lim)) then aa (.lst ((sortI ks).map tupI)) else af
  |none=>af
 |_=>af
theorem kZ:∀{a:List α}{b:List β},a.length=b.length->(a.zip b).map (·.1)=a
 |[],[],_=>rfl
 |x::a,y::b,h=>by rw[Wm,Ts,kZ (by simpa using h)]
 |[],_::_,h=>by simp at h
 |_::_,[],h=>by simp at h
def A5(hc:X.calm=true)(hg:Gl X "sorted")(hm:X.mg "sorted"=none)(hb:Uw "sorted"=some (.builtin "sorted"))(ha:lz X Xw [e] δs)(he:Tq [e] X.env=[(false,eval e X.env)]:=by rfl):PD X Xw (.Call (.Name "sorted" p) [e] [] pos) (dA rR δs):=
 fw (BN hc) (λXw F H vs ds Q s h w=>by
  unfold rR at w;split at w
  ·rename_i kk ds;obtain⟨v,rfl,h1⟩:=h.one;obtain⟨a,ob,ws,rfl,h2,h3,h4,h5⟩:=h1;split at w
   ·rename_i ks RS;split at w
    ·rename_i hok;rw[Uh] at hok;have hl:∀k∈ks,k.length<=lim:=λk hk=>Zt (UG.mp hok.2 k hk);have Oj:ks.length<64:=by
      have:=hok.1;unfold jO at this;rw[Uh,Uh] at this;exact Zt this.1.2
     refine⟨a,_,ks,rfl, .inr ⟨ob,s _ _ h2⟩,by rw[kZ (by rw[h4];exact h3.len),nk RS],hok.1,λq us hq hr=>?_⟩;obtain⟨F1,e1,r1⟩:=yk s hr;have e2:=Ext.lay (o:= .lst us) e1.fh hq;exact WP.fin w (e1.trans e2) ⟨q,_,rfl,ar,DenL.mono e2.ff (yj r1 λk hk=>hl k (iG.mp hk)),by rw[Te,uf];unfold lim;omega⟩
    ·exact w.elim
   ·exact w.elim
  ·exact w.elim) hg hm hb ha (by decide) (by decide) he rfl
end
end L3
namespace L3
open PySem PySem.Spec L2
open PyProof.Rows hiding St
def orM(a b:M α):M α:=match a with
 |none=>b
 |some r=>some r
def JS(a b:DA):DA:=λρ=>orM (a ρ) (b ρ)
section
variable{X:Cx}{Xw:Nat->Hp->Prop}{e tg:Expr}{δi δi':DA}
def Hu(h:wG X Xw tg e δi)(h':wG X Xw tg e δi'):wG X Xw tg e (JS δi δi'):=λf8 s σ H Q I ⟨F,ρ,S,w⟩=>by
 unfold JS orM at w;cases q:δi ρ with
 |none=>rw[q] at w;exact h' f8 s σ H Q I ⟨F,ρ,S,w⟩
 |some r=>rw[q] at w;exact h f8 s σ H Q I ⟨F,ρ,S,by rw[q];exact w⟩
def gb{st:Stmt}:pJ X Xw st (λ_=>af):=λu8 ZQ f8 s σ H D I ⟨F,ρ,S,w⟩=>w.elim
end
def fgt:List Nat->aM->aM
 |[],ρ=>ρ
 |i::is,ρ=>fgt is (ρ.set i none)
def MA(f:aM->aM):Out->M Out
 | .nx ρ=>aa (.nx (f ρ))
 | .rt d=>aa (.rt d)
def fZ(is:List Nat)(τ:DS):DS:=λρ=>τ ρ>>=MA (fgt is)
def StOk.fgt1{K:Ti}(s:StOk K u8 ZQ F H σ ρ)(i:Nat):StOk K u8 ZQ F H σ (ρ.set i none):=by
 have get:∀(j:Nat) (sl:Sl),(ρ.set i none)[j]? =some (some sl)->ρ[j]? =some (some sl):=λj sl e=>by
  by_cases hj:j=i
  ·subst hj;by_cases hl:j<ρ.length
   ·rw[TY hl] at e;cases e
   ·rw[V0 (by simpa using hl)] at e;cases e
  ·rw[T5 (Vh hj)] at e;exact e
 exact⟨s.ext,⟨s.st.fh,λj sl e=>s.st.den j sl (get j sl e)⟩,by simp[s.len],λj c a e e'=>s.own j c a (get j _ e) e',λj k sl fG v v' b e1 e2 e3 e4 h5 h6=>s.sep j k sl fG v v' b (get j _ e1) (get k _ e2) e3 e4 h5 h6⟩
theorem StOk.fgt{K:Ti}:∀(is:List Nat) {ρ:aM},StOk K u8 ZQ F H σ ρ->StOk K u8 ZQ F H σ (L3.fgt is ρ)
 |[],_,s=>s
 |i::is,_,s=>StOk.fgt is (s.fgt1 i)
theorem WPS.fgt{K:Ti}(w:WPS K Xw u8 ZQ (m>>=MA (L3.fgt is)) Dn):WPS K Xw u8 ZQ m Dn:=by
 match m,w with
 |none,w=>exact w
 |some (.ok (.nx ρ)),w=>exact λσ F H s=>w σ F H (s.fgt is)
 |some (.ok (.rt d)),w=>exact w
 |some (.ex n),w=>exact w
section
variable{X:Cx}{Xw:Nat->Hp->Prop}{QY:List Stmt}{τ:DS}{is:List Nat}
def dm(h:PSDs X Xw QY τ):PSDs X Xw QY (fZ is τ):=λu8 ZQ=>PSs.weak (h u8 ZQ) λD σ H ⟨F,ρ,s,w⟩=>⟨F,ρ,s,WPS.fgt w⟩
end
def Rk:Option Sl->Option Sl
 |some (.ow c)=>some (.fz c.d)
 |some (.ob _ _)=>none
 |x=>x
def IG(ρ:aM):aM:=ρ.map Rk
def refA(h:Heap)(P:Addr->Prop)[DecidablePred P](H:Hp):Hp:=λb=>if P b then(H b).map (jA ((h.get? b).getD {cls:= .none,data:= .fields #[]})) else H b
def zg(ob:Obj)(o:HO):jA ob o=o\/((∃k,o= .dT k)\/∃k,o= .dK k)/\jA ob o= .frz ob o:=by
 cases o<;>first | exact .inl rfl | exact .inr ⟨.inl ⟨_,rfl⟩,rfl⟩ | exact .inr ⟨.inr ⟨_,rfl⟩,rfl⟩
section
variable{X:Cx}{f8:List (Addr×Obj)}{σ:St}{H:Hp}{s:Tp}{P:Addr->Prop}[DecidablePred P]
def iA(e:H b=none):refA h P H b=none:=by
 unfold refA;split
 ·rw[e];rfl
 ·exact e
def ua(e:H b=some o):refA h P H b=some o\/((∃k,o= .dT k)\/∃k,o= .dK k)/\P b/\refA h P H b=some (.frz ((h.get? b).getD {cls:= .none,data:= .fields #[]}) o):=by
 unfold refA;split
 ·rename_i hp;rw[e];rcases zg ((h.get? b).getD {cls:= .none,data:= .fields #[]}) o with q | ⟨q1,q2⟩
  ·exact .inl (by show some _=_;rw[q])
  ·exact .inr ⟨q1,hp,by show some _=_;rw[q2]⟩
 ·exact .inl e
def iz(e:H b=some o)(n1:∀k,o≠ .dT k)(n2:∀k,o≠ .dK k):refA h P H b=some o:=by
 rcases ua (P:=P) e with q | ⟨⟨k,q⟩ | ⟨k,q⟩,_⟩
 ·exact q
 ·exact Zp q (n1 k)
 ·exact Zp q (n2 k)
theorem Inv.refA(I:Inv X f8 σ H s):Inv X f8 σ (L3.refA s.heap P H) s:=by
 have obj:∀b o,H b=some o->((∃k,o=HO.dT k)\/∃k,o= .dK k)->∃ob,s.heap.get? b=some ob:=λb o e hu=>by
  have hk:=I.hok b o e;rcases hu with⟨k,h1⟩ | ⟨k,h1⟩
  ·subst h1;obtain⟨_,_,_,_,ob,_,_,q,_⟩:=hk;exact⟨ob,q⟩
  ·subst h1;obtain⟨_,_,_,_,ob,_,_,q,_⟩:=hk;exact⟨ob,q⟩
 refine⟨I.ok,I.os,I.bare,⟨I.base.keep,I.base.slot,λb q h1 h2 h3=>iA (I.base.free b q h1 h2 h3),I.base.there,λb xs q=>iz (I.base.tups b xs q) (λ_ z=>nomatch z) (λ_ z=>nomatch z),
  λb q1 v q=>iz (I.base.frzs b q1 v q) (λ_ z=>nomatch z) (λ_ z=>nomatch z),λb ps q=>?_⟩,I.loc,I.cell,iA I.free,λx c q=>iA (I.freeC x c q),λp hp=>?_,λb v q=>?_,I.len⟩
 ·obtain⟨m,this⟩:=I.base.tbls b ps q;exact⟨m,iz this (λ_ z=>nomatch z) (λ_ z=>nomatch z)⟩
 ·obtain⟨h1,h2,h3⟩:=I.pin p hp;exact⟨h1,iA h2,h3⟩
 ·have st:∀{c:Addr}{v:HO},ObjOk X.prog X.w H s.heap c v->ObjOk X.prog X.w (L3.refA s.heap P H) s.heap c v:=λ{c v} k=>k.stay (λ_ _ _ q=>q)
   (λc' q=>iz q (λ_ z=>nomatch z) (λ_ z=>nomatch z)) λc' xs q=>iz q (λ_ z=>nomatch z) (λ_ z=>nomatch z)
  cases e:H b with
  |none=>rw[iA e] at q;cases q
  |some o=>
   rcases ua (P:=P) e with z | ⟨hu,hp,z⟩
   ·rw[z] at q;cases q;exact st (I.hok b _ e)
   ·rw[z] at q;cases q;obtain⟨ob,JJ⟩:=obj b o e hu;rw[JJ];exact⟨JJ,st (I.hok b o e)⟩
def unA(P:Addr->Prop)[DecidablePred P](H:Hp):Hp:=λb=>if P b then(match H b with | some (.frz _ u)=>some u | x=>x) else H b
theorem Inv.unA(I:Inv X f8 σ H s)(hP:∀b,P b->∀o u,X.ZQ b≠some (.frz o u))(hQ:∀b,P b->∀o u,H b=some (.frz o u)->(∃k,u= .dT k)\/∃k,u= .dK k):Inv X f8 σ (L3.unA P H) s:=by
 have non:∀b,H b=none->L3.unA P H b=none:=λb e=>by unfold L3.unA;rw[e];split<;>rfl
 have keep:∀b o,H b=some o->(∀q u,o≠ .frz q u)->L3.unA P H b=some o:=λb o e n=>by
  unfold L3.unA;split
  ·rw[e];cases o<;>first | rfl | exact Zp rfl (n _ _)
  ·exact e
 refine⟨I.ok,I.os,I.bare,⟨I.base.keep,I.base.slot,λb q h1 h2 h3=>non b (I.base.free b q h1 h2 h3),I.base.there,λb xs q=>keep b _ (I.base.tups b xs q) (λ_ _ z=>nomatch z),
  λb q1 v q=>?_,λb ps q=>?_⟩,I.loc,I.cell,non _ I.free,λx c q=>non _ (I.freeC x c q),λp hp=>?_,λb v q=>?_,I.len⟩
 ·have:=I.base.frzs b q1 v q;unfold L3.unA;rw[Zo (λhp=>hP b hp q1 v q)];exact this
 ·obtain⟨m,this⟩:=I.base.tbls b ps q;exact⟨m,keep b _ this (λ_ _ z=>nomatch z)⟩
 ·obtain⟨h1,h2,h3⟩:=I.pin p hp;exact⟨h1,non _ h2,h3⟩
 ·have st:∀{c:Addr}{v:HO},ObjOk X.prog X.w H s.heap c v->ObjOk X.prog X.w (L3.unA P H) s.heap c v:=λ{c v} k=>k.stay (λ_ _ _ q=>q)
   (λc' q=>keep c' _ q (λ_ _ z=>nomatch z)) λc' xs q=>keep c' _ q (λ_ _ z=>nomatch z)
  cases e:H b with
  |none=>rw[non b e] at q;cases q
  |some o=>
   have ko:=I.hok b o e;by_cases hf:∃ob u,o= .frz ob u
   ·obtain⟨ob,u,rfl⟩:=hf;unfold L3.unA at q;split at q
    ·rw[e] at q;cases q;obtain⟨_,k2⟩:=ko;exact st k2
    ·rw[e] at q;cases q;exact st ko
   ·rw[keep b o e (λq u z=>hf ⟨q,u,z⟩)] at q;cases q;exact st ko
end
mutual
def IF:D->Bool
 | .non=>true
 | .bl _=>true
 | .int _=>true
 | .str _=>true
 | .tup ds=>AH ds
 | .raw _=>false
 | .exc _=>false
 | .scr _=>false
 | .lst _=>false
 | .dct _ _=>false
 | .dci _ _=>false
def AH:List D->Bool
 |[]=>true
 |d::ds=>IF d&&AH ds
end
def OwnAt(σ:St)(ρ:aM)(b:Addr):Prop:=∃(i:Nat) (c:C),ρ[i]? =some (some (Sl.ow c))/\σ[i]? =some (some (V.ref b))
section
variable{K:Ti}{F H F' H':Hp}{σ:St}{ρ:aM}{h:Heap}{b:Addr}
def OwnAt.obj(S:StE K F H σ ρ)(p:OwnAt σ ρ b):F b=none/\∃o,H b=some o/\((∃x,o= .lst x)\/(∃x,o= .dT x)\/∃x,o= .dK x):=by
 obtain⟨i,c,h1,h2⟩:=p;obtain⟨v,h3,a,o,rfl,h4,h5,h6⟩:=S.den i _ h1;rw[h3] at h2;cases h2;refine⟨h5,o,h4,?_⟩;cases c with
 |lst ds=>obtain⟨vs,rfl,_⟩:=h6;exact .inl ⟨_,rfl⟩
 |dct ks ds=>obtain⟨vs,rfl,_⟩:=h6;exact .inr (.inl ⟨_,rfl⟩)
 |dci ks ds=>obtain⟨vs,rfl,_⟩:=h6;exact .inr (.inr ⟨_,rfl⟩)
open Classical in
noncomputable def fA(σ:St)(ρ:aM)(H1 F:Hp):Hp:=λb=>if OwnAt σ ρ b then H1 b else F b
open Classical in
def AG(S:StE K F H σ ρ):Same F (fA σ ρ H1 F):=λb u e=>by
 unfold fA;rw[Zo (λp=>by rw[(OwnAt.obj S p).1] at e;cases e)];exact e
open Classical in
def Jz(S:StE K F H σ ρ):StE K (fA σ ρ (refA h (OwnAt σ ρ) H) F) (refA h (OwnAt σ ρ) H) σ (IG ρ):=by
 refine⟨λb u e=>?_,λj sl e=>?_⟩
 ·unfold fA at e;split at e
  ·exact e
  ·rename_i hp;unfold refA;rw[Zo hp];exact S.fh b u e
 ·unfold IG at e;rw[Tx] at e;cases q:ρ[j]? with
  |none=>rw[q] at e;cases e
  |some x=>
   rw[q] at e;cases x with
   |none=>cases e
   |some y=>
    cases y with
    |fz d=>
     cases e;obtain⟨v,h1,h2⟩:=S.den j _ q;exact⟨v,h1,Den.mono (AG S) h2⟩
    |ow c=>
     cases e;obtain⟨v,h1,a,o,rfl,h4,h5,h6⟩:=S.den j _ q;refine⟨_,h1,DenC.den (ob:=(h.get? a).getD {cls:= .none,data:= .fields #[]}) h6 (AG S) ?_⟩;have hp:OwnAt σ ρ a:=⟨j,c,q,h1⟩
     unfold fA refA;rw[Zn hp,Zn hp,h4];rfl
    |ob a o=>cases e
open Classical in
def DV(S:StE K F H σ ρ)(E:Ext (fA σ ρ (refA h (OwnAt σ ρ) H) F) (refA h (OwnAt σ ρ) H) F' H'):
 Ext F H (λb=>if OwnAt σ ρ b then none else F' b) (unA (OwnAt σ ρ) H')/\∀b,OwnAt σ ρ b->∀o u,H' b=some (.frz o u)->(∃k,u= .dT k)\/∃k,u= .dK k:=by
 have Ql:∀b,OwnAt σ ρ b->∃o,H b=some o/\H' b=some (jA ((h.get? b).getD {cls:= .none,data:= .fields #[]}) o)/\((∃x,o= .lst x)\/(∃x,o= .dT x)\/∃x,o= .dK x):=λb hp=>by
  obtain⟨_,o,h1,h2⟩:=OwnAt.obj S hp;refine⟨o,h1,E.hh b _ ?_,h2⟩;unfold refA;rw[Zn hp,h1];rfl
 refine⟨⟨λb o e=>?_,λb u e=>?_,λb u e=>?_,λb hb=>?_⟩,λb hp o u e=>?_⟩
 ·unfold unA;by_cases hp:OwnAt σ ρ b
  ·obtain⟨o',h1,h2,h3⟩:=Ql b hp;rw[e] at h1;cases h1;rw[Zn hp,h2];rcases h3 with⟨x,rfl⟩ | ⟨x,rfl⟩ | ⟨x,rfl⟩<;>rfl
  ·rw[Zo hp];refine E.hh b o ?_;unfold refA;rw[Zo hp];exact e
 ·have hp:¬OwnAt σ ρ b:=λp=>by rw[(OwnAt.obj S p).1] at e;cases e
  show (if OwnAt σ ρ b then none else F' b)=_;rw[Zo hp];refine E.ff b u ?_;unfold fA;rw[Zo hp];exact e
 ·have e:(if OwnAt σ ρ b then none else F' b)=some u:=e;split at e
  ·cases e
  ·rename_i hp;unfold unA;rw[Zo hp];exact E.fh b u e
 ·show (if OwnAt σ ρ b then none else F' b)=F b\/_;by_cases hp:OwnAt σ ρ b
  ·rw[Zn hp];exact .inl (OwnAt.obj S hp).1.symm
  ·rw[Zo hp];have e1:refA h (OwnAt σ ρ) H b=H b:=by unfold refA;rw[Zo hp]
   have e2:fA σ ρ (refA h (OwnAt σ ρ) H) F b=F b:=by unfold fA;rw[Zo hp]
   rcases E.new b (by rw[e1];exact hb) with q | q
   ·exact .inl (q.trans e2)
   ·rw[e1] at q;exact .inr q
 ·obtain⟨o',h1,h2,h3⟩:=Ql b hp;rw[e] at h2;rcases h3 with⟨x,rfl⟩ | ⟨x,rfl⟩ | ⟨x,rfl⟩
  ·cases h2
  ·cases h2;exact .inl ⟨_,rfl⟩
  ·cases h2;exact .inr ⟨_,rfl⟩
open Classical in
mutual
theorem DR(S:StE K F H σ ρ)(E:Ext (fA σ ρ (refA h (OwnAt σ ρ) H) F) (refA h (OwnAt σ ρ) H) F' H'):∀{d:D}{v:V},IF d=true->Den K F' d v->Den K (λb=>if OwnAt σ ρ b then none else F' b) d v
 | .non,_,_,q=>q
 | .bl _,_,_,q=>q
 | .int _,_,_,q=>q
 | .str _,_,_,q=>q
 | .tup ds,_,f,⟨a,vs,h1,h2,h3,h4⟩=>by
   refine⟨a,vs,h1,?_,tu S E ?_ h3,h4⟩
   ·show (if OwnAt σ ρ a then none else F' a)=_;rw[Zo,h2];intro hp;obtain⟨_,o,k1,k2⟩:=OwnAt.obj S hp;have k3:fA σ ρ (refA h (OwnAt σ ρ) H) F a=some (jA ((h.get? a).getD {cls:= .none,data:= .fields #[]}) o):=by
     unfold fA refA;rw[Zn hp,Zn hp,k1];rfl
    have k4:=E.ff a _ k3;rw[h2] at k4;rcases k2 with⟨x,rfl⟩ | ⟨x,rfl⟩ | ⟨x,rfl⟩<;>cases k4
   ·exact f
 | .raw _,_,f,_=>by cases f
 | .exc _,_,f,_=>by cases f
 | .scr _,_,f,_=>by cases f
 | .lst _,_,f,_=>by cases f
 | .dct _ _,_,f,_=>by cases f
 | .dci _ _,_,f,_=>by cases f
theorem tu(S:StE K F H σ ρ)(E:Ext (fA σ ρ (refA h (OwnAt σ ρ) H) F) (refA h (OwnAt σ ρ) H) F' H'):∀{ds:List D}{vs:List V},AH ds=true->DenL K F' ds vs->DenL K (λb=>if OwnAt σ ρ b then none else F' b) ds vs
 |[],_,_,q=>q
 |d::ds,_,f,⟨v,r,h1,h2,h3⟩=>by
  unfold AH at f;rw[Uh] at f;exact⟨v,r,h1,DR S E f.1 h2,tu S E f.2 h3⟩
end
end
def mx(h:noex m=aa a):m=aa a:=by
 match m,h with
 |some (.ok b),h=>exact h
section
variable{X:Cx}{Xw:Nat->Hp->Prop}{e:Expr}{τ:DT}
def Cv(I:Inv X f8 σ H s)(S:StE X.K F H σ ρ)(b:Addr)(p:OwnAt σ ρ b)(o:Obj)(u:HO):X.ZQ b≠some (.frz o u):=λz=>by
 obtain⟨_,o',k1,k2⟩:=OwnAt.obj S p;have:=I.base.frzs b o u z;rw[k1] at this;rcases k2 with⟨x,rfl⟩ | ⟨x,rfl⟩ | ⟨x,rfl⟩<;>cases this
def zI(m:M α):noex m=af\/∃a,m=aa a/\noex m=aa a:=by
 rcases m.cs with h | ⟨n,h⟩ | ⟨a,h⟩
 ·subst h;exact .inl rfl
 ·subst h;exact .inl rfl
 ·subst h;exact .inr ⟨a,rfl,rfl⟩
def zZ(h:sV X Xw e τ):sV X Xw e (λρ=>noex (τ (IG ρ))):=λf8 s σ H Q I ⟨F,ρ,S,w⟩=>by
 classical
 rcases zI (τ (IG ρ)) with q | ⟨b,q,q2⟩
 ·have w:WPB Xw F H (noex (τ (IG ρ))) Q:=w;rw[q] at w;exact w.elim
 ·have w:WPB Xw F H (noex (τ (IG ρ))) Q:=w;rw[q2] at w;refine bQ (h f8 s σ _ (λb' H'=>Q b' (unA (OwnAt σ ρ) H')/\∀c,OwnAt σ ρ c->∀o u,H' c=some (.frz o u)->(∃k,u= .dT k)\/∃k,u= .dK k) (Inv.refA I) ⟨_,_,Jz S,?_⟩) λb' s' ⟨H',I',q1,q3⟩=>⟨_,Inv.unA I' (Cv I S) q3,q1⟩
  rw[q];intro H' F' E;obtain⟨E1,q3⟩:=DV S E;exact⟨w _ _ E1,q3⟩
end
abbrev DF:=aM->M C
def WPF(K:Ti)(Xw:Nat->Hp->Prop)(F H:Hp)(m:M C)(Q:VK):Prop:=
 match m with
 |none=>False
 |some (.ok c)=>∀a o H' F',Ext F H F' H'->H' a=some o->F' a=none->H a=none->DenC K F' c o->Q (.ref a) H'
 |some (.ex n)=>∀F' H',Ext F H F' H'->Xw n H'
def Sy(K:Ti)(Xw:Nat->Hp->Prop)(δ:DF):TE:=λσ H Q=>∃F ρ,StE K F H σ ρ/\WPF K Xw F H (δ ρ) Q
def N1(X:Cx)(Xw:Nat->Hp->Prop)(e:Expr)(δ:DF):Prop:=PE X e (Sy X.K Xw δ)
def yq(i:Nat)(δ:DF):DS:=λρ=>δ ρ>>=λc=>aa (.nx (ρ.set i (some (.ow c))))
def StOk.setFresh{K:Ti}(s:StOk K u8 ZQ F H σ ρ)(E:Ext F H F' H')(ho:H' a=some o)(nF:F' a=none)(n:H a=none)(h:DenC K F' c₀ o):
 StOk K u8 ZQ F' H' (σ.set i (some (.ref a))) (ρ.set i (some (.ow c₀))):=by
 refine s.put (nsl:= .ow c₀) (nv:= .ref a) ⟨a,_,rfl,ho,nF,h⟩ (s.ext.trans E) E.ff (λj sl v hj h1 h2 b hb=>?_) λc b _ hb=>?_
 ·obtain⟨q1,u,q2,q3⟩:=(s.foot h1 h2).cell b hb;have iM:b≠a:=λz=>by rw[z,n] at q2;cases q2
  exact⟨by rw[q2];exact E.hh b u q2,by rw[E.old q2 q3];exact q1,λq=>iM (TQ.mp q)⟩
 ·cases hb;exact Same.free s.ext.hh n
def WPF.mono{K:Ti}(h:WPF K Xw F H m Q)(k:∀v H',Q v H'->Q' v H'):WPF K Xw F H m Q':=by
 match m,h with
 |none,h=>exact h
 |some (.ok d),h=>exact λa o H' F' e h1 h2 h3 h4=>k _ _ (h a o H' F' e h1 h2 h3 h4)
 |some (.ex n),h=>exact h
def WPF.ext{K:Ti}(e:Ext F H F1 H1)(h:WPF K Xw F H m Q):WPF K Xw F1 H1 m Q:=by
 match m,h with
 |none,h=>exact h
 |some (.ok d),h=>exact λa o H' F' e' h1 h2 h3 h4=>h a o H' F' (e.trans e') h1 h2 (Same.free e.hh h3) h4
 |some (.ex n),h=>exact λF2 H2 e2=>h F2 H2 (e.trans e2)
def WPF.bind{K:Ti}(h:WPF K Xw F H (m>>=k) Q):WP K Xw F H m λv H1=>∃F1 d,Ext F H F1 H1/\Den K F1 d v/\WPF K Xw F1 H1 (k d) Q:=by
 match m,h with
 |none,h=>exact h
 |some (.ok d),h=>exact λv H2 F2 e2 q=>⟨F2,d,e2,q,WPF.ext e2 (show WPF K Xw F H (k d) Q from h)⟩
 |some (.ex n),h=>exact h
def WPF.bindL{K:Ti}(h:WPF K Xw F H (m>>=k) Q):WPL K Xw F H m λv H1=>∃F1 d,Ext F H F1 H1/\DenL K F1 d v/\WPF K Xw F1 H1 (k d) Q:=by
 match m,h with
 |none,h=>exact h
 |some (.ok d),h=>exact λv H2 F2 e2 q=>⟨F2,d,e2,q,WPF.ext e2 (show WPF K Xw F H (k d) Q from h)⟩
 |some (.ex n),h=>exact h
def NN(ds:List D):M C:=if ds.length<=lim then aa (.lst ds) else af
section
variable{X:Cx}{Xw:Nat->Hp->Prop}{e k v a b:Expr}{es:List Expr}{δ:DF}{δs:DA}{pos pos' p:Pos}{x:Str}{i:Nat}
def yc(hN:X.N.Nodup)(hi:X.N[i]? =some x)(hx:Loc X.env.scope x)(he:N1 X Xw e δ)(hf:X.fn x=true\/X.env.scope.names.lookup x=some .local:=by first | exact .inl rfl | exact .inr rfl)
 (hs:XR [.Name x pos'] e pos.line X.env=pure false:=by rfl):
 pJ X Xw (.Assign [.Name x pos'] e pos) (yq i δ):=λu8 ZQ=>PS.weak (ro he (b_ hN hi hx hf) hs) λD σ H ⟨F,ρ,s,w⟩=>by
 refine⟨F,ρ,s.st,?_⟩;unfold yq at w
 match δ ρ,w with
 |none,w=>exact w
 |some (.ok c),w=>exact λa o H' F' E h1 h2 h3 h4=>w _ F' H' (s.setFresh E h1 h2 h3 h4)
 |some (.ex n),w=>exact λF' H' e'=>w F' H' (s.ext.trans e')
def Ext.fresh{F H:Hp}{p:Addr}(s:Same F H)(hp:H p=none):Ext F H F (upd H p o)/\F p=none:=⟨Ext.free s hp,Same.free s hp⟩
def Ht(h:lz X Xw es δs):N1 X Xw (.List es pos) (λρ=>δs ρ>>=NN):=PE.weak (z6 h) λσ H Q ⟨F,ρ,s,w⟩=>by
 refine⟨F,ρ,s,WPL.mono (WPF.bindL w) λvs H1 ⟨F1,ds,e1,q1,w1⟩=>?_⟩;unfold NN at w1;split at w1
 ·rename_i hl;have hv:=q1.len;refine⟨by have:=dH;omega,λp hp=>?_⟩;obtain⟨E,nF⟩:=Ext.fresh (o:= .lst vs) e1.fh hp;exact w1 p _ _ F1 E ar nF hp ⟨vs,rfl,q1,hl⟩
 ·exact w1.elim
def Lu{a:Addr}{y v:V}(hu:A.units+1<cLine)(I:Inv X f8 σ H s)(g:DPut H a y v H')(ry:RelV y u)(rv:RelV v r)(h:∀s',Inv X f8 σ H' s'->Q () s'):
 wpAny (model X.prog X.w) A (dictSet a u r) Q E s:=by
 rcases g with⟨ay,k,e,ey,l,eH⟩ | ⟨ay,k,b,e,ey,eb,l,eH⟩
 ·subst ey eH;obtain⟨z,hd,vs,rel,dd⟩:=ID I.hok e;have hz:vs.length<=TK:=by rw[<-rel.length];exact z
  have hl:(putK ay k v).length<=TK:=by have:=fv ay k v;omega
  refine wpAny_dictSet_pairs (xC ry) dd λh' Dz hs=>h _ ?_;have he:∃q,h'.get? a=some q:=let ⟨q,_,_,hq,_⟩:=Dz;⟨q,hq⟩
  exact l9 I (by rw[e];exact Vf) hs he (DD hl hd (rel.put k rv) Dz)
 ·subst ey eH;cases (show u=Ua b from ry);obtain⟨z,hd,xs,rel,dd⟩:=DH I.hok e;have hz:xs.length<=TK:=by rw[<-Vm rel];exact z
  have hl:(putK ay k v).length<=TK:=by have:=fv ay k v;omega
  refine wpAny_dictSet_heap (by exact(show A.units<cLine by omega)) (qE I.hok eb) dd λh' Dz hs=>h _ ?_;obtain⟨q,es,ep,hq,h2,h3,h4,_,h5⟩:=Dz;refine l9 I (by rw[e];exact Vf) hs ⟨q,hq⟩ ⟨hl,hd,_,(rel.put k eb rv).keeps λc ys ec=>?_,q,es,ep,hq,h2,h3,h4,h5⟩;rw[aj (Eu ec e (λz=>nomatch z))];exact ec
end
section
variable{X:Cx}{Xw:Nat->Hp->Prop}{e k v a b:Expr}{es:List Expr}{δk δv δa δb:DE}{pos p:Pos}{x:Str}{i:Nat}
def DC(hu:X.A.units+1<cLine)(h0:∀(H:Hp) (h:Heap),U9<h.objs.size->ObjOk X.prog X.w H (h.push {cls:= .type "dict",data:= .dict #[]}) h.objs.size o0)(hk:PE X k tk)(hv:PE X v tv):
 PE X (.Dict [some k] [v] pos) (λσ H Q=>∀p,H p=none->tk σ (upd H p o0) λy H1=>tv σ H1 λz H2=>∃H3,DPut H2 p y z H3/\Q (.ref p) H3):=by
 intro f8 s σ H Q I q _;have hn:=I.hok.fresh (Tr s.heap.objs.size);have I1:=I.laid (t':=s.toks) (λ_ _ q=>Tj _ q) (Tr _) (h0 _ s.heap I.big);refine wpAny_Dict_any rfl rfl (by simp) (by simp) (bQ (E0 hk hv HC f8 _ σ _ (λps H2=>∃y z H3,ps=[(y,z)]/\DPut H2 s.heap.objs.size y z H3/\Q (.ref s.heap.objs.size) H3) I1 ?_) λws s2 ⟨ps,H2,I2,rel,y,z,H3,ep,g,q2⟩=>?_)
 ·refine ?_;have:=q _ hn;show tk σ _ λy H1=>tv σ H1 λz H2=>∃y' z' H3,[(y,z)]=[(y',z')]/\DPut H2 s.heap.objs.size y' z' H3/\Q (.ref s.heap.objs.size) H3;have e:(λ(y:V) (H1:Hp)=>tv σ H1 λz H2=>∃y' z' H3,[(y,z)]=[(y',z')]/\DPut H2 s.heap.objs.size y' z' H3/\Q (.ref s.heap.objs.size) H3)=(λy H1=>tv σ H1 λz H2=>∃H3,DPut H2 s.heap.objs.size y z H3/\Q (.ref s.heap.objs.size) H3):=by
   funext y H1;congr 1;funext z H2;refine propext ⟨λ⟨y',z',H3,ee,r⟩=>?_,λ⟨H3,r⟩=>⟨y,z,H3,rfl,r⟩⟩;cases ee;exact⟨H3,r⟩
  rw[e];exact this
 ·subst ep;cases rel with
  | @cons a b as bs h t=>
    cases t;obtain⟨r1,r2⟩:=h;unfold storeAll;rw[WY];refine Td (Td (Lu hu I2 g r1 r2 λs3 I3=>?_));refine Tu ?_;show wpAny _ _ (forIn ([]:List (Value×Value)) VS _) _ _ _;rw[List.forIn_nil];exact Tu ⟨V.ref s.heap.objs.size,_,I3,rfl,q2⟩
def tp(k v:D):M C:=match pb k with
 |some kk=>aa (.dct [kk] [v])
 |none=>af
def Cz(hu:X.A.units+64<cLine)(hk:PD X Xw k δk)(hv:PD X Xw v δv):N1 X Xw (.Dict [some k] [v] pos) (λρ=>δk ρ>>=λx=>δv ρ>>=λy=>tp x y):=
 PE.weak (DC (o0:= .dT []) (by omega) (λH h hb=>xi h hb) hk hv) λσ H Q ⟨F,ρ,s,w⟩ q hq=>by
  have e0:=Ext.free (o:= .dT []) s.fh hq;refine⟨F,ρ,s.ext e0,?_⟩;have w:WPF X.K Xw F H (δk ρ>>=λx=>δv ρ>>=λy=>tp x y) Q:=w
  match NC:δk ρ,w with
  |none,w=>exact w
  |some (.ex n),w=>exact λF' H' e'=>w F' H' (e0.trans e')
  |some (.ok kd),w=>
   intro y H1 F1 e1 q1;refine⟨F1,ρ,(s.ext e0).ext e1,?_⟩;have w:WPF X.K Xw F H (δv ρ>>=λy=>tp kd y) Q:=w
   match GV:δv ρ,w with
   |none,w=>exact w
   |some (.ex n),w=>exact λF' H' e'=>w F' H' (e0.trans (e1.trans e'))
   |some (.ok vd),w=>
    intro z H2 F2 e2 q2;have w3:WPF X.K Xw F H (tp kd vd) Q:=w;clear w;unfold tp at w3;cases IP:pb kd with
    |none=>rw[IP] at w3;exact w3.elim
    |some kk=>
     rw[IP] at w3;have E:=e1.trans e2;have R6:H2 q=some (.dT []):=E.hh _ _ ar;have Oo:F2 q=none:=by
      have:=E.old ar (λ_ z=>nomatch z);rw[this];exact Same.free s.fh hq
     unfold pb at IP;split at IP
     ·rename_i es;obtain⟨b,ws,rfl,k2,k3,_⟩:=Den.mono e2.ff q1;have e5:=mf IP k3;subst e5;refine⟨_,DPut.t R6 (e2.fh _ _ k2) (by rw[Ww];decide),?_⟩;refine w3 q (.dT (putK [] kk z)) _ F2 ⟨λc u hc=>?_,(e0.trans E).ff,λc u hc=>?_,(e0.trans E).new⟩ ar Oo hq ⟨[z],rfl, .cons q2 .nil,rfl,show 1<=lim by decide⟩
      ·rw[aj (λzz=>by rw[zz,hq] at hc;cases hc)];exact(e0.trans E).hh c u hc
      ·rw[aj (λzz=>by rw[zz,Oo] at hc;cases hc)];exact e2.fh c u hc
     ·cases IP
def Gk{K:Ti}{d k:D}{x y:V}(s:Same F H)(hd:Den K F d x)(hk:Den K F k y)(e:Iu d k=some o):
 ∃a ov,x= .ref a/\yP H a y ov/\ov.isSome=o.isSome/\∀d',o=some d'->∃v,ov=some v/\Den K F d' v:=by
 obtain⟨a,ov,h1,h2,h3,h4⟩:=Au (σ:=[some x]) (ρ:=[some (.fz d)]) (i:=0) ⟨s,λi sl q=>by
  match i,q with
  |0,q=>cases q;exact⟨x,rfl,hd⟩
  |i+1,q=>simp at q⟩ rfl hk e
 cases h1;exact⟨a,ov,rfl,h2,h3,h4⟩
def lL(neg:Bool)(k d:D):M D:=match Iu d k with
 |some o=>aa (.bl (if neg then !o.isSome else o.isSome))
 |none=>af
def KD(neg:Bool):R2:=λy x H Q=>∃a o,x= .ref a/\yP H a y o/\Q (.bl (if neg then !o.isSome else o.isSome)) H
def Kc(hu:X.A.units+64<cLine):OpR X (Uy .In) (KD false):=λf8 s σ H y x v u Q I ry rx ⟨a,o,ex,g,q⟩=>by
 subst ex;obtain rfl:u=Ua a:=rx;exact Ls (by omega) I g ry λs' I'=>⟨.bl o.isSome,_,I',rfl,q⟩
def Ct(hu:X.A.units+64<cLine):OpR X (Uy .NotIn) (KD true):=λf8 s σ H y x v u Q I ry rx ⟨a,o,ex,g,q⟩=>by
 subst ex;obtain rfl:u=Ua a:=rx;exact Gw (by omega) I g ry λs' I'=>⟨.bl (!o.isSome),_,I',rfl,q⟩
def AZ{K:Ti}:wF K (KD neg) (lL neg):=λXw F H y x dk dd Q s hk hd w=>by
 unfold lL at w;cases he:Iu dd dk with
 |none=>rw[he] at w;exact w.elim
 |some o=>
  rw[he] at w;obtain⟨a,ov,h1,h2,h3,_⟩:=Gk s hd hk he;refine⟨a,ov,h1,h2,?_⟩;rw[h3];exact WP.now w s rfl
def Ky(hu:X.A.units+64<cLine)(ha:PD X Xw a δa)(hb:PD X Xw b δb)(hm:Uz .In b=false:=by rfl):sV X Xw (.Compare a [.In] [b] pos) (ej (d2 (lL false) δa δb)):=mK (Kc hu) AZ ha hb hm
def t8(hu:X.A.units+64<cLine)(ha:PD X Xw a δa)(hb:PD X Xw b δb)(hm:Uz .NotIn b=false:=by rfl):sV X Xw (.Compare a [.NotIn] [b] pos) (ej (d2 (lL true) δa δb)):=mK (Ct hu) AZ ha hb hm
end
def G2:Key->D
 | .inl i=> .int i
 | .inr x=> .str x
def Im(H:Hp)(d:Addr)(od:Obj)(i:Nat)(x:V):Prop:=
 (∃ay k b,H d=some (.frz od (.dT ay))/\(ay.map (·.1))[i]? =some k/\x= .ref b/\H b=some (.tup (k.map kV)))\/
 ∃ay k,H d=some (.frz od (.dK ay))/\(ay.map (·.1))[i]? =some k/\x=kV k
def Qh(d:Addr)(od:Obj):It:=
 ⟨λi H=>(∃ay,H d=some (.frz od (.dT ay))/\i<ay.length)\/∃ay,H d=some (.frz od (.dK ay))/\i<ay.length,λi H x H'=>H'=H/\Im H d od i x,
  λi H=>(∃ay,H d=some (.frz od (.dT ay))/\ay.length<=i)\/∃ay,H d=some (.frz od (.dK ay))/\ay.length<=i⟩
theorem oU{R:α->β->Prop}(h:∀a b,R a b->f a=g b):∀{l:List α}{m:List β},XZ R l m->l.map f=m.map g
 |_,_, .nil=>rfl
 |_,_, .cons r t=>by rw[Ts,Ts,h _ _ r,oU h t]
theorem lR:∀{l:List α}{m:List β}{i:Nat}{a:α},XZ R l m->l[i]? =some a->∃b,m[i]? =some b/\R a b
 |_,_,i,_, .nil,e=>by simp at e
 |_,_,0,_, .cons r t,e=>by simp at e;subst e;exact⟨_,rfl,r⟩
 |_,_,i+1,_, .cons r t,e=>by
  obtain⟨b,e1,e2⟩:=lR t (by simpa using e);exact⟨b,by simpa using e1,e2⟩
def Cw{w:World}{κ:Type}[DecidableEq κ]{knd:KeyKind prog w κ}:∀{es:List WW}{ay:List (κ×Value)}{i:Nat}{kv:κ×Value},Pairs knd es ay->ay[i]? =some kv->∃e,es[i]? =some e/\knd.is kv.1 e.key=true:=by
 intro es ay i kv h e;induction h generalizing i with
 |nil=>simp at e
 | @cons en S8 K7 Si h1 h2 h3 ih=>
   cases i with
   |zero=>simp at e;subst e;exact⟨en,rfl,h1⟩
   |succ i=>
    obtain⟨q,e1,e2⟩:=ih (by simpa using e);exact⟨q,by simpa using e1,e2⟩
def J2(h:qC k u=true):RelV (kV k) u:=by
 rcases bR h with⟨i,t,rfl,rfl⟩ | ⟨x,t,rfl,rfl⟩
 ·exact⟨t,rfl⟩
 ·exact⟨t,rfl⟩
def qj{σ:St}{H:Hp}(I:Inv X f8 σ H s)
 (h:(∃ay,H d=some (.frz od (.dT ay))/\n=ay.length)\/∃ay,H d=some (.frz od (.dK ay))/\n=ay.length):
 ∃es ep,(d==U9)=false/\s.heap.get? d=some od/\od.ExactDict/\od.data= .dict es ep/\es.size=n/\∀i,i<n->∃e x,es[i]? =some e/\RelV x e.key/\Im H d od i x:=by
 rcases h with⟨ay,e,rfl⟩ | ⟨ay,e,rfl⟩
 ·obtain⟨ho,z,lo,xs,rel,o,es,ep,h1,h2,h3,h4,h5⟩:=(show ObjOk X.prog X.w H s.heap d (.frz od (.dT ay)) from I.hok d _ e)
  rw[ho] at h1;cases h1;have hl:es.size=ay.length:=by
   rw[<-TZ,h4,Te];exact(Vm rel).symm
  refine⟨es,ep,lo,ho,h2,h3,hl,λi hi=>?_⟩;obtain⟨q,e1,e2,e3,e4⟩:=lR rel (Tg hi);refine⟨YW (VX (bJ X.prog X.w)) q, .ref q.2.1,?_,rfl, .inl ⟨ay,ay[i].1,q.2.1,e,?_,rfl,e3⟩⟩
  ·rw[<-VZ,h4,Tx,e1];rfl
  ·rw[Tx,Tg hi];rfl
 ·obtain⟨ho,z,lo,vs,rel,o,es,ep,h1,h2,h3,h4,h5,h6⟩:=(show ObjOk X.prog X.w H s.heap d (.frz od (.dK ay)) from I.hok d _ e)
  rw[ho] at h1;cases h1;have hl:es.size=ay.length:=by
   rw[<-TZ,h5.length];exact(Vm rel).symm
  refine⟨es,ep,lo,ho,h2,h3,hl,λi hi=>?_⟩;obtain⟨q,e1,e2,e3⟩:=lR rel (Tg hi);obtain⟨en,e4,e5⟩:=Cw h5 e1;refine⟨en,kV ay[i].1,by rw[<-VZ];exact e4,?_, .inr ⟨ay,ay[i].1,e,by rw[Tx,Tg hi];rfl,rfl⟩⟩;rw[e2];exact J2 e5
def CU{K:Ti}(d it:Addr)(od:Obj)(es:Array WW)(ep:Nat)(o_:od.data= .dict es ep):
 Turn P w K tg (Qh d od) [it] it (λi h=>h.IsKeyIter it d i es.size ep) where
 mem:=by simp
 obj:=λi h st b hb=>by
  have e:b=it:=by simpa using hb
  subst e;obtain⟨o,e,c,dd⟩:=st;exact⟨o,e,λv z=>by rw[dd] at z;cases z⟩
 keep:=λi h h' st k=>st.at λo e=>k it (by simp) o e
 item:=by
  intro X hP hw hK hc i f8 s σ H E I hf st hg;subst hP hw hK;obtain⟨n,hn,hi⟩:∃n,((∃ay,H d=some (.frz od (.dT ay))/\n=ay.length)\/∃ay,H d=some (.frz od (.dK ay))/\n=ay.length)/\i<n:=by
   rcases hg with⟨ay,e,hi⟩ | ⟨ay,e,hi⟩
   ·exact⟨_, .inl ⟨ay,e,rfl⟩,hi⟩
   ·exact⟨_, .inr ⟨ay,e,rfl⟩,hi⟩
  obtain⟨K7,GF,lo,ho,hx,wz,hsz,hk⟩:=qj I hn;rw[o_] at wz;cases wz;obtain⟨en,x,e1,rx,ka⟩:=hk i hi;obtain⟨f0,f1,f2,f3,f4,f5⟩:=hf it (by simp);refine xI st ho o_ e1 λh' mV sb=>?_;have I1:Inv X f8 σ H {s with heap:=h'}:=I.turned (λb o hb e=>(sb.2 b hb).trans e) f0 f1 f3 f4 f5;obtain⟨o,e2,c,dd⟩:=id mV;exact⟨_,rfl,qr e2 c dd (by decide) ⟨x,H,I1,rx,⟨rfl,ka⟩,mV,λb hb=>(hf b hb).1⟩⟩
 done:=by
  intro X hP hw hK hc i f8 s σ H E I hf st hg;subst hP hw hK;obtain⟨n,hn,hi⟩:∃n,((∃ay,H d=some (.frz od (.dT ay))/\n=ay.length)\/∃ay,H d=some (.frz od (.dK ay))/\n=ay.length)/\n<=i:=by
   rcases hg with⟨ay,e,hi⟩ | ⟨ay,e,hi⟩
   ·exact⟨_, .inl ⟨ay,e,rfl⟩,hi⟩
   ·exact⟨_, .inr ⟨ay,e,rfl⟩,hi⟩
  obtain⟨K7,GF,lo,ho,hx,wz,hsz,hk⟩:=qj I hn;rw[o_] at wz;cases wz;obtain⟨f0,f1,f2,f3,f4,f5⟩:=hf it (by simp);exact tq (I.ok.hd hc) st (by omega) ho o_ λh' eb=>⟨rfl,I.turned (λb o hb e=>eb b o hb e) f0 f1 f3 f4 f5⟩
 self:=λ_ _ _ _ _ st h=>wpAny_pyIter_keyiter st h
def tupK(k:List Key):D:= .tup (k.map G2)
def AX:Key->Bool
 | .inl _=>true
 | .inr x=>decide (x.length<=lim)
def nZ:D->M (List D)
 | .dct ks _=>if ks.all (λk=>decide (k.length<=lim)&&k.all AX) then aa (ks.map tupK) else af
 | .dci ks _=>if ks.all AX then aa (ks.map G2) else af
 |_=>af
def xD{K:Ti}(h:AX k=true):Den K F (G2 k) (kV k):=by
 cases k with
 |inl i=>exact rfl
 |inr x=>exact⟨rfl,Zt h⟩
theorem tJ{K:Ti}:∀{k:List Key},k.all AX=true->DenL K F (k.map G2) (k.map kV)
 |[],_=>rfl
 |x::k,h=>by
  rw[Wa,Uh] at h;exact .cons (xD h.1) (tJ h.2)
def Ee{K:Ti}(hd:Den K F d (.ref a))(hF:∃u,F a=some (.frz ob u))(e:nZ d=aa ds):ItD K F (Qh a ob) ds:=λF' H' i s1 s2=>by
 unfold nZ at e;split at e
 ·rename_i ks es;split at e
  ·rename_i hok;obtain rfl:=dX e;obtain⟨a',Pn,vs,z,h2,h3,h4,h5⟩:=hd;cases z;obtain⟨u,hu⟩:=hF;rw[h2] at hu;cases hu;have hh:=s2 _ _ (s1 _ _ h2);have hz:=kZ (b:=vs) (by rw[h4];exact h3.len);have hl:(ks.zip vs).length=ks.length:=by rw[<-Te,hz]
   refine⟨λd e=>?_,λhle=> .inl ⟨_,hh,by rw[hl];simpa using hle⟩⟩;rw[Tx] at e;cases q:ks[i]? with
   |none=>rw[q] at e;cases e
   |some k=>
    rw[q] at e;cases e;have hi:=(To.mp q).1;refine⟨.inl ⟨_,hh,by rw[hl];exact hi⟩,λx H'' ⟨y1,y2⟩=>?_⟩;subst y1;have hk:=UG.mp hok k (TU q);rw[Uh] at hk;rcases y2 with⟨ay,k',b,q1,q2,rfl,q3⟩ | ⟨ay,k',q1,q2,rfl⟩
    ·rw[hh] at q1;cases q1;rw[hz,q] at q2;cases q2;have E:=Ext.tup s2 q3;exact⟨_,E,b,_,rfl,ar,tJ hk.2,by rw[Te];exact Zt hk.1⟩
    ·rw[hh] at q1;cases q1
  ·exact(du e).elim
 ·rename_i ks es;split at e
  ·rename_i hok;obtain rfl:=dX e;obtain⟨a',Pn,vs,z,h2,h3,h4,h5⟩:=hd;cases z;obtain⟨u,hu⟩:=hF;rw[h2] at hu;cases hu;have hh:=s2 _ _ (s1 _ _ h2);have hz:=kZ (b:=vs) (by rw[h4];exact h3.len);have hl:(ks.zip vs).length=ks.length:=by rw[<-Te,hz]
   refine⟨λd e=>?_,λhle=> .inr ⟨_,hh,by rw[hl];simpa using hle⟩⟩;rw[Tx] at e;cases q:ks[i]? with
   |none=>rw[q] at e;cases e
   |some k=>
    rw[q] at e;cases e;have hi:=(To.mp q).1;refine⟨.inr ⟨_,hh,by rw[hl];exact hi⟩,λx H'' ⟨y1,y2⟩=>?_⟩;subst y1;have hk:=UG.mp hok k (TU q);rcases y2 with⟨ay,k',b,q1,q2,rfl,q3⟩ | ⟨ay,k',q1,q2,rfl⟩
    ·rw[hh] at q1;cases q1
    ·rw[hh] at q1;cases q1;rw[hz,q] at q2;cases q2;exact⟨F',Ext.refl s2,xD hk⟩
  ·exact(du e).elim
 ·exact(du e).elim
section
variable{X:Cx}{Xw:Nat->Hp->Prop}{tg l:Expr}{δ:DE}
def ET(h:PD X Xw l δ):wG X Xw tg l (λρ=>δ ρ>>=nZ):=by
 intro f8 s σ H R I ⟨F,ρ,S,w⟩ _;refine bQ (h f8 s σ H (λv H1=>∃F1 d,Ext F H F1 H1/\Den X.K F1 d v/\WPI X.K Xw F1 H1 (nZ d) R) I ⟨F,ρ,S,WPI.bind w⟩) λu s1 ⟨v,H1,I1,r1,F1,d,e1,q1,w1⟩=>?_;rcases(nZ d).cs with z | ⟨n,z⟩ | ⟨ds,z⟩
 ·rw[z] at w1;exact w1.elim
 ·exfalso
  unfold nZ at z;split at z
  ·split at z<;>cases z
  ·split at z<;>cases z
  ·cases z
 ·rw[z] at w1;obtain⟨a,ob,u',rfl,hF,hn⟩:∃a ob u',v= .ref a/\F1 a=some (.frz ob u')/\∃n,((∃ay,H1 a=some (.frz ob (.dT ay))/\n=ay.length)\/∃ay,H1 a=some (.frz ob (.dK ay))/\n=ay.length):=by
   unfold nZ at z;split at z
   ·obtain⟨a,ob,vs,e,h2,_⟩:=q1;exact⟨a,ob,_,e,h2,_, .inl ⟨_,e1.fh _ _ h2,rfl⟩⟩
   ·obtain⟨a,ob,vs,e,h2,_⟩:=q1;exact⟨a,ob,_,e,h2,_, .inr ⟨_,e1.fh _ _ h2,rfl⟩⟩
   ·exact(du z).elim
  obtain⟨n,hn⟩:=hn;cases (show u=_ from r1);obtain⟨es,ep,lo,ho,hx,hd,hsz,hk⟩:=qj I1 hn;refine tH lo ho hx hd ?_;refine⟨s1.heap.objs.size,[s1.heap.objs.size],_,_,H1,rfl,I1.kept (t':=s1.toks) λb o e=>Tj _ e,CU a _ ob es ep hd,⟨_,TM _ rfl,rfl,rfl⟩,λb hb=>?_,w1 _ _ _ (Ext.refl e1.fh) (Ee q1 ⟨_,hF⟩ z)⟩;have e:b=s1.heap.objs.size:=by simpa using hb
  subst e;exact I1.fpOk (Tr _) (I1.hok.fresh (Tr _))
end
end L3
namespace L3
open PySem
section
variable{prog:T3}{w:World}{K:Type}[DecidableEq K]{knd:HeapKind prog w K}{A:Uu}{E:Value->Tp->Prop}{s:Tp}
def rN(hu:knd.room A)(GQ:knd.is s.heap k a)(hm:s.heap.DictOfH knd d xs)(hsz:xs.length<=TK)
 (hQ:∀h',h'.DictOfH knd d (WZ xs k a v)->Vw d s.heap h'->Q () {s with heap:=h'}):wpAny (model prog w) A (XU d (.ref a) (knd.hash k) v) Q E s:=by
 obtain⟨o,es,ep,ho,hc,hd,he,OM,hn⟩:=hm;unfold XU;refine VT (Td (wpAny_dictFind_heap hu GQ ho hd he OM hn (λnj=>?_) λj p hj=>?_))
 ·have e0:=atKey_none_of_get nj;have hz:es.size<=TK:=by rw[YA he];exact hsz
  refine Td (wpAny_rule (wpAny_updateDictKeys ho hd (hQ _ ?_ (Us ..))));rw[storedH_new e0];refine⟨_,_,ep+1,V1 _ ho (Xp (V9 hd _)),hc.mapDictKeys _,V9 hd _,by simp[he,YW],λx hx=>?_,?_⟩
  ·rcases Ud.mp hx with hx | hx
   ·exact knd.keeps (OM x hx) ho hd (Us ..)
   ·obtain rfl:x=(k,a,v):=by simpa using hx
    exact knd.keeps GQ ho hd (Us ..)
  ·rw[UR];refine UI.mpr ⟨hn,by simp,λx hx y hy z=>?_⟩;have hy:y=k:=by simpa using hy
   exact not_mem_keys_of_get nj (by rw[<-hy,<-z];exact hx)
 ·have e0:=atKey_of_get hn hj;refine Td (wpAny_rule (Td (wpAny_updateDict ho hd (wpAny_point (hQ _ ?_ (Us ..))))));rw[storedH_old e0];refine⟨_,_,ep,V1 _ ho (Xp (Obj.data_mapDict hd _)),hc.mapDict _,Obj.data_mapDict hd _,?_,λx hx=>?_,by rw[keys_map_putAt];exact hn⟩
  ·have:=modify_map_putAt (YW knd) (λe:WW=>{e with val:=v}) k v (λ_ _=>rfl) hn hj;rw[<-he] at this;obtain⟨l⟩:=es;simpa using this
  ·obtain⟨y,hy,rfl⟩:=TV.mp hx;unfold putAt;split<;>exact knd.keeps (OM y hy) ho hd (Us ..)
def c5(xs ys:List (K×Addr×Value)):List (K×Addr×Value):=ys.foldl (λM2 y=>WZ M2 y.1 y.2.1 y.2.2) xs
def yB(xs:List (K×Addr×Value))(k:K)(a:Addr)(v:Value):(WZ xs k a v).length<=xs.length+1:=by
 unfold WZ;split<;>simp
theorem n6:∀(ys xs:List (K×Addr×Value)),(c5 xs ys).length<=xs.length+ys.length
 |[],xs=>Tr _
 |y::ys,xs=>by
  have h1:=n6 ys (WZ xs y.1 y.2.1 y.2.2);have h2:=yB xs y.1 y.2.1 y.2.2;show (c5 (WZ xs y.1 y.2.1 y.2.2) ys).length<=_;rw[Tn];omega
def u6{xs ys:List (K×Addr×Value)}(h:ys[i]? =some y):c5 xs (ys.take (i+1))=WZ (c5 xs (ys.take i)) y.1 y.2.1 y.2.2:=by
 rw[List.take_add_one,h];unfold c5;rw[List.foldl_append];rfl
theorem n8:∀(ys M2:List (K×Addr×Value)),((M2++ys).map (·.1)).Nodup->c5 M2 ys=M2++ys
 |[],M2,_=>by simp[c5]
 |y::ys,M2,hn=>by
  show c5 (WZ M2 y.1 y.2.1 y.2.2) ys=_;have OY:y.1∉M2.map (·.1):=λh=>by
   rw[UR] at hn;exact(UI.mp hn).2.2 _ h _ (by simp) rfl
  have e0:atKey M2 y.1=none:=atKey_none_of_get λj p hj=>OY (TV.mpr ⟨_,TU hj,rfl⟩);rw[storedH_new e0,n8 ys (M2++[(y.1,y.2.1,y.2.2)]) (by simpa using hn)];simp
def uO{id:String}(ho:s.heap.get? o=some ob)(hd:ob.data= .dict es ep)
 (hq:∀e∈es.toList,∃a,e.key= .ref a/\s.TypeIs (.ref a) "tuple")(hh:∀e∈es.toList,(es.filter (·.hash==e.hash)).size<=1)(h:Q es s):wpAny (model prog w) A (Xe id o) Q E s:=by
 unfold Xe;refine Td (Vd ho hd ?_);rw[<-Array.forIn_toList];refine Td (wpAny_forIn_list _ (λZw _ s'=>s'=s/\∀e∈Zw,e∈es.toList) _ ?_ ?_ _ _ ⟨rfl,λ_ h=>h⟩)
 ·rintro e Zw b s' ⟨rfl,hr⟩;obtain⟨a,ea,ta⟩:=hq e (hr e (Th ..));have hf:=hh e (hr e (Th ..));have iL:¬((es.filter (·.hash==e.hash)).size>1):=by omega
  rw[ea];unfold Builtin.Dict.quietEq;refine Td (Td (wpAny_specialOf ta F.slot_tuple_eq.lookup (Tu ?_)));simp only[iL,if_false];have:(some (Value.builtin "tuple.__eq__")==some (Value.builtin "object.__eq__"))=false:=by decide
  simp only[this,Xf,if_true];exact Tu ⟨rfl,λx hx=>hr x (Tf _ hx)⟩
 ·rintro b s' ⟨rfl,_⟩;exact Tu h
def qM(hu:knd.room A)(Qz:d≠o)(R3:(o==U9)=false)(hd:s.heap.DictOfH knd d xs)(ho:s.heap.DictOfH knd o ys)
 (RT:∀{h:Heap}{k:K}{a:Addr},knd.is h k a->∃ob,h.get? a=some ob/\ob.cls= .type "tuple")(hh:xs=[]->(ys.map λy=>knd.hash y.1).Nodup)(hsz:xs.length+ys.length<=TK)
 (hQ:∀h',h'.DictOfH knd d (c5 xs ys)->Vw d s.heap h'->Q () {s with heap:=h'}):wpAny (model prog w) A (XJ nm d o) Q E s:=by
 obtain⟨od,Rc,Q_,B5,sj,o_,RH,S0,ND⟩:=id hd;obtain⟨oo,zc,Ra,L1,SY,B3,C6,OL,nj⟩:=id ho;have P3:=YA C6;unfold XJ;rw[Zo (by simpa using Qz)];unfold Wt;rw[Zo (by rw[R3];exact T6)];refine Td (Tu (Td (Vd L1 B3 ?_)));have loop:∀(body:Nat->PUnit->Sem (ForInStep PUnit)),body=(λi (_:PUnit)=>(do
       let l'<-dictEntries o
       match l'[i]? with
        |some e=>do
         holding [e.key,e.val] (XU d e.key e.hash e.val)
         let GF<-dictEpoch o
         if (GF !=Ra)=true then do (unsupported (toString nm++toString ":source-changed-during-callback"):Sem PUnit);pure (UB VS) else pure (UB VS)
        |_=>do
         (unsupported "internal:dict-merge":Sem PUnit)
         pure (UB VS):Sem (ForInStep PUnit)))->wpAny (model prog w) A (forIn [:zc.size] VS body) (λ_ s'=>Q () s') E s:=by
  rintro _ rfl;rw[Std.Legacy.Range.forIn_eq_forIn_range'];simp only[Std.Legacy.Range.size,YR,Nat.add_sub_cancel,Nat.div_one];refine wpAny_forIn_list _ (λZw _ s'=>∃h' i,s'={s with heap:=h'}/\Zw=Uq i (zc.size - i)/\i<=zc.size/\h'.DictOfH knd d (c5 xs (ys.take i))/\h'.get? o=some oo/\Vw d s.heap h') _ ?_ ?_ _ _
   ⟨s.heap,0,rfl,by simp,Ur _,by simpa[c5] using hd,L1,Yq _ _⟩
  ·rintro x Zw b s' ⟨h',i,rfl,hr,hi,wz,JM,GS⟩;have iL:i<zc.size:=by
    by_cases h:i<zc.size
    ·exact h
    ·rw[show zc.size - i=0 by omega] at hr;simp at hr
   rw[show zc.size - i=(zc.size - (i+1))+1 by omega,VG] at hr;injection hr with h1 h2
   subst h1;refine Td (Vd JM B3 ?_);obtain⟨y,hy⟩:∃y,ys[x]? =some y:=⟨_,Tg (by omega)⟩
   rw[entry_at C6 x,hy];have RY:(c5 xs (ys.take x)).length<=TK:=by
    have e1:=n6 (ys.take x) xs;rw[UU] at e1;omega
   have RU:knd.is h' y.1 y.2.1:=knd.keeps (OL y (TU hy)) B5 o_ GS;refine Td (VT (rN hu RU wz RY λQq OD L7=>?_));have IS:Qq.get? o=some oo:=(L7.2 o (Vh Qz)).trans JM;refine Td (Wu IS B3 ?_);rw[Zo (by simp)];exact Tu ⟨Qq,x+1,rfl,h2,iL,by rw[u6 hy];exact OD,IS,GS.trans L7⟩
  ·rintro b s' ⟨h',i,rfl,hr,hi,wz,JM,GS⟩;have F_:i=zc.size:=by
    by_cases h:i<zc.size
    ·rw[show zc.size - i=(zc.size - (i+1))+1 by omega,VG] at hr;exact nomatch hr
    ·omega
   refine hQ h' ?_ GS;rw[F_,P3,List.take_length] at wz;exact wz
 have go:wpAny (model prog w) A (do
  let Lw<-dictEpoch o
  let l<-dictEntries o
  forIn [:l.size] VS λi (_:PUnit)=>(do
   let l'<-dictEntries o
   match l'[i]? with
    |some e=>do
     holding [e.key,e.val] (XU d e.key e.hash e.val)
     let GF<-dictEpoch o
     if (GF !=Lw)=true then do (unsupported (toString nm++toString ":source-changed-during-callback"):Sem PUnit);pure (UB VS) else pure (UB VS)
    |_=>do
     (unsupported "internal:dict-merge":Sem PUnit)
     pure (UB VS):Sem (ForInStep PUnit))
  pure ()) Q E s:=by
  refine Td (Wu L1 B3 (Td (Vd L1 B3 (Td ?_))));exact UO (loop _ rfl) (λ_ _ h=>Tu h) λ_ _ h=>h
 dsimp only
 split
 ·refine Td (Vd B5 o_ ?_);split
  ·rename_i OG;have L9:xs=[]:=by
    have h0:Rc= #[]:=Zc.mp OG;have:=YA RH;rw[h0] at this;exact WL.mp (by simpa using this.symm)
   subst L9;have R0:=hh rfl;refine Td (uO L1 B3 (λe he=>?_) (λe he=>?_) ?_)
   ·rw[C6] at he;obtain⟨y,hy,rfl⟩:=TV.mp he;obtain⟨ob,h1,h2⟩:=RT (OL y hy);exact⟨y.2.1,rfl,ob,h1,h2⟩
   ·have:(zc.filter (·.hash==e.hash)).size=((ys.map λy=>knd.hash y.1).filter (· ==e.hash)).length:=by
     rw[<-TZ,Array.toList_filter,C6,X7,X7,Te,Te];rfl
    rw[this];have hc:=List.nodup_iff_count.mp R0 e.hash;rw[List.count_eq_countP,X0] at hc;exact hc
   ·have hm:c5 ([]:List (K×Addr×Value)) ys=ys:=by
     rw[n8 ys [] (by simpa using nj)];rfl
    rw[hm] at hQ;split
    ·have R9:zc.size<=TK+1:=by simp at hsz;omega
     refine Td (wpAny_updateDictKeysTo B5 o_ (Tu (hQ _ ⟨_,_,Q_+1,V1 _ B5 (Xp (V9 o_ _)),sj.mapDictKeys _,V9 o_ _,C6,λx hx=>?_,nj⟩ (Us ..))) R9);exact knd.keeps (OL x hx) B5 o_ (Us ..)
    ·rename_i iM;have h0:zc= #[]:=Zc.mp (by simpa using iM);have RV:ys=[]:=WL.mp (by rw[<-P3,h0];rfl);subst RV;exact Tu (hQ _ hd (Yq _ _))
  ·exact go
 ·exact go
end
end L3
namespace L3
open PySem PySem.Spec L2
open PyProof.Rows hiding St
def Ig(h1:(VX (bJ P w)).is h k a):∃ob,h.get? a=some ob/\ob.cls= .type "tuple":=by
 obtain⟨ob,aO,n,q1,q2,_⟩:=h1;exact⟨ob,q1,q2⟩
def jF(ay more:List (List Key×V)):List (List Key×V):=more.foldl (λM2 kv=>putK M2 kv.1 kv.2) ay
theorem AQ:∀{more:List (List Key×V)}{ys:List (List Key×Addr×Value)},KT H more ys->∀{ay:List (List Key×V)}{xs:List (List Key×Addr×Value)},KT H ay xs->KT H (jF ay more) (c5 xs ys)
 |_,_, .nil,_,_,q=>q
 |_,_, .cons h t,ay,xs,r=>by
  refine AQ t ?_;have:=KT.put r _ h.2.1 h.2.2;rw[h.1] at this;show KT H (putK ay _ _) (WZ xs _ _ _);rw[h.1];exact this
theorem qF:∀(more ay:List (List Key×V)),(jF ay more).length<=ay.length+more.length
 |[],ay=>Tr _
 |p::r,ay=>by
  have h1:=qF r (putK ay p.1 p.2);have h2:=fv ay p.1 p.2;show (jF (putK ay p.1 p.2) r).length<=_;rw[Tn];omega
def gN(k:List Int):Int:=reduceHash (Xq (k.map hashInt))
def D3(k:List Int):(VX (bJ P w)).hash (qB k)=gN k:=by
 show reduceHash (Xq ((qB k).map (Mj w)))=_;unfold gN qB;rw[T7];rfl
section
variable{X:Cx}{f8:List (Addr×Obj)}{σ:St}{H:Hp}{s:Tp}{a b:Addr}{A:Uu}{E:Value->Tp->Prop}
def Dy{ks:List (List Int)}(hu:A.units+2<cLine)(I:Inv X f8 σ H s)(ha:H a=some (.dT ay))(hb:Rd H b (.dT more))(Oy:a≠b)(hk:more.map (·.1)=ks.map qB)
 (hh:ay=[]->(ks.map gN).Nodup)(hz:ay.length+more.length<=TK)(h:∀s',Inv X f8 σ (upd H a (.dT (jF ay more))) s'->Q .none s'):
 wpAny (model X.prog X.w) A (call (.builtin "dict.update") [.ref a, .ref b]) Q E s:=by
 obtain⟨z1,lo1,xs,MS,Qm⟩:=DH I.hok ha;obtain⟨z2,Sj,ys,HJ,Gx⟩:=xj I.hok hb;have l1:=Vm MS;have l2:=Vm HJ;have hT:=Qm.typeIs;refine Vu X3 hT PySem.F.entry_dict_update ?_ (PySem.F.args_dict_update_2 _ _);unfold Builtin.«dict.update»;refine Td ?_;unfold Builtin.Dict.selfAndRest;refine Td (wpAny_notOrdered_dict hT ?_);show wpAny _ _ (pure (a,[Ua b])) _ _ s;refine Tu ?_;show wpAny _ _ (XD "dict.update" a (.ref b) [] .none) _ _ s;unfold XD;refine Td (Yi Gx.typeIs ?_);rw[Zo (by decide)];refine Td ?_;unfold Builtin.Dict.merge;refine Td ?_;unfold Builtin.Dict.readDirectly;refine Td (wpAny_isInstance Gx.typeIs isSubtype_dict_dict ?_);simp only[Bool.not_true,Uc,if_false];refine Td (wpAny_specialOf Gx.typeIs PySem.F.slot_dict_iter.lookup (Tu ?_));simp only[beq_self_eq_true,if_true];refine Td (Tu ?_);refine qM (show A.in1.units<cLine by show A.units+1<cLine;omega) Oy Sj Qm Gx Ig (λe0=>?_) (by omega) λh' Dz GS=>?_
 ·have e1:ay=[]:=WL.mp (by rw[l1,e0];rfl);have:=hh e1;have e2:(ys.map λy=>(VX (bJ X.prog X.w)).hash y.1)=ks.map gN:=by
   have e3:more.map (·.1)=ys.map (·.1):=oU (λ_ _ r=>r.1) HJ;rw[show (λy:List Key×Addr×Value=>(VX (bJ X.prog X.w)).hash y.1)=(VX (bJ X.prog X.w)).hash∘(·.1) from rfl,<-T7,<-e3,hk,T7];exact UZ λk _=>D3 k
  rw[e2];exact this
 ·show wpAny _ _ (Builtin.Dict.addKeywords a []>>=_) _ _ _;refine Td (Tu (Tu ⟨.none,rfl,h _ ?_⟩));obtain⟨q,es,ep,hq,h2,h3,h4,_,h5⟩:=Dz;have hl:(jF ay more).length<=TK:=by have:=qF more ay;omega
  refine l9 I (by rw[ha];exact Vf) GS ⟨q,hq⟩ ⟨hl,lo1,_,(AQ HJ MS).keeps λc ys ec=>?_,q,es,ep,hq,h2,h3,h4,h5⟩;rw[aj (Eu ec ha (λz=>nomatch z))];exact ec
end
def cP(ks:List (List Key))(ds:List D):List (List Key)->List D->List (List Key)×List D
 |k::ks',d::ds'=>cP (eQ ks ds k) (dn ks ds k d) ks' ds'
 |_,_=>(ks,ds)
def FV(ks:List (List Key))(ds:List D):D->Option C
 | .dct ks' ds'=>match gu ks' with
   |some ns=>if ds.length+ds'.length<=lim/\(ks.isEmpty=true->(ns.map gN).Nodup) then some (.dct (cP ks ds ks' ds').1 (cP ks ds ks' ds').2) else none
   |none=>none
 |_=>none
theorem qK{K:Ti}:∀{ks':List (List Key)}{ds':List D}{pY:List V}{ks:List (List Key)}{ds:List D}{vs:List V},DenL K F ds' pY->ks'.length=ds'.length->DenL K F ds vs->ks.length=ds.length->
 ∃ws,jF (ks.zip vs) (ks'.zip pY)=(cP ks ds ks' ds').1.zip ws/\DenL K F (cP ks ds ks' ds').2 ws/\(cP ks ds ks' ds').1.length=(cP ks ds ks' ds').2.length
 |[],[],pY,ks,ds,vs,h',_,h,hl=>⟨vs,rfl,h,hl⟩
 |k::ks',d::ds',pY,ks,ds,vs,⟨v,r,e,h1,h2⟩,IQ,h,hl=>by
  subst e;obtain⟨ws,e1,e2,e3⟩:=vK h1 k h hl;obtain⟨us,q1,q2,q3⟩:=qK h2 (by simpa using IQ) e2 e3;refine⟨us,?_,q2,q3⟩;show jF (putK (ks.zip vs) k v) (ks'.zip r)=_;rw[e1];exact q1
 |[],_::_,_,_,_,_,_,IQ,_,_=>by simp at IQ
 |_::_,[],_,_,_,_,_,IQ,_,_=>by simp at IQ
def E9[DecidableEq κ]{k:κ}(hl:ks.length=ds.length):(dn ks ds k d).length<=ds.length+1:=by
 unfold dn;split
 ·rw[j3 ks ds k d hl];omega
 ·simp
def E_[DecidableEq κ]{k:κ}(hl:ks.length=ds.length):(eQ ks ds k).length=(dn ks ds k d).length:=by
 unfold dn eQ;split
 ·rw[j3 ks ds k d hl];exact hl
 ·simp[hl]
theorem qL:∀{ks':List (List Key)}{ds':List D}{ks:List (List Key)}{ds:List D},ks.length=ds.length->(cP ks ds ks' ds').2.length<=ds.length+ds'.length
 |[],ds',ks,ds,_=>by show ds.length<=_;omega
 |_::_,[],ks,ds,_=>by show ds.length<=_;simp
 |k::ks',d::ds',ks,ds,hl=>by
  have h1:=qL (ks':=ks') (ds':=ds') (ks:=eQ ks ds k) (ds:=dn ks ds k d) (E_ hl);have h2:=E9 (k:=k) (d:=d) hl;show (cP (eQ ks ds k) (dn ks ds k d) ks' ds').2.length<=_;rw[Tn];omega
section
variable{X:Cx}{Xw:Nat->Hp->Prop}{o e:Expr}{δ:DE}{pos p v6 a7:Pos}{x:Str}{i:Nat}
def Ft(i:Nat)(δ:DE):DS:=λρ=>match Cu ρ i with
 |some (.dct ks ds)=>δ ρ>>=λd=>match FV ks ds d with
  |some c'=>aa (.nx (ρ.set i (some (.ow c'))))
  |none=>af
 |_=>af
def Kt(hu:X.A.units+2<cLine)(ho:PE X o td)(he:PE X e ty)(m:M1 X o "update" v6 e a7):
 PE X (.Call (.Attribute o "update" v6) [e] [] a7) (λσ H Q=>td σ H λx H1=>∃a,x= .ref a/\Qg H1 a/\ty σ H1 λy H2=>∃(b:Addr) (ay more:List (List Key×V)) (ks:List (List Int)),y= .ref b/\H2 a=some (.dT ay)/\Rd H2 b (.dT more)/\a≠b/\more.map (·.1)=ks.map qB/\(ay=[]->(ks.map gN).Nodup)/\ay.length+more.length<=TK/\Q .non (upd H2 a (.dT (jF ay more)))):=by
 intro f8 s σ H Q I h _;refine wpAny_Call_method m.base m.few m.line PySem.F.plainAttrs_dict X3 (by rfl) (bQ (ho f8 s σ H _ I h) λu s1 ⟨x,H1,I1,rx,a,ex,d,q1⟩=>?_);subst ex;obtain rfl:u=Ua a:=rx;obtain⟨t1,t2,_⟩:=JX I1 d;refine⟨t1,t2,?_⟩;rw[m.trees];refine WR rfl (W8 (Wj (bQ (he f8 s1 σ H1 _ I1 q1) λiv s2 ⟨y,H2,I2,ry,b,ay,more,ks,ey,k1,k2,k3,k4,k5,k6,q2⟩=>XB ?_)));subst ey;obtain rfl:iv=Ua b:=ry;exact Dy hu I2 k1 k2 k3 k4 k5 k6 λs3 I3=>⟨.non,_,I3,rfl,q2⟩
def HF(hu:X.A.units+64<cLine)(hv:PE X (.Name x p) (fE i))(he:PD X Xw e δ)(m:M1 X (.Name x p) "update" v6 e a7)(hs:VL (.Call (.Attribute (.Name x p) "update" v6) [e] [] a7) none pos.line X.env=pure false:=by rfl):
 pJ X Xw (.Expr (.Call (.Attribute (.Name x p) "update" v6) [e] [] a7) pos) (Ft i δ):=λu8 ZQ=>PS.weak (kP (Kt (by omega) hv he m) hs) λD σ H ⟨F,ρ,s,w⟩=>by
 unfold Ft at w;split at w
 ·rename_i ks ds NH;have hi:=tY NH;obtain⟨v,GV,a,oh,rfl,hH,hF,vs,rfl,hd,hl,hz⟩:=s.st.den i _ hi;refine⟨.ref a,GV,a,rfl, .inr ⟨_, .inl hH⟩,F,ρ,s.st,?_⟩;rcases(δ ρ).cs with q | ⟨n,q⟩ | ⟨d,q⟩
  ·rw[q] at w;exact w.elim
  ·rw[q] at w⊢;exact λF' H' e'=>w F' H' (s.ext.trans e')
  ·rw[q] at w⊢;intro u H1 F1 e1 hq;have w:WPS X.K Xw u8 ZQ (match FV ks ds d with | some c'=>aa (.nx (ρ.set i (some (.ow c')))) | none=>af) D:=w;cases d with
   |dct ks' ds'=>
    obtain⟨b,ob,pY,rfl,k2,k3,k4,k5⟩:=hq;cases hc:FV ks ds (.dct ks' ds') with
    |none=>rw[hc] at w;exact w.elim
    |some c'=>
     rw[hc] at w;have hc:(match gu ks' with | some ns=>if ds.length+ds'.length<=lim/\(ks.isEmpty=true->(ns.map gN).Nodup) then some (C.dct (cP ks ds ks' ds').1 (cP ks ds ks' ds').2) else none | none=>none)=some c':=hc;cases hn:gu ks' with
     |none=>rw[hn] at hc;cases hc
     |some ns=>
      rw[hn] at hc;have hc:(if ds.length+ds'.length<=lim/\(ks.isEmpty=true->(ns.map gN).Nodup) then some (C.dct (cP ks ds ks' ds').1 (cP ks ds ks' ds').2) else none)=some c':=hc;split at hc
      ·rename_i LQ;cases hc;have Qy:=DenL.mono e1.ff hd;have l1:=Qy.len;have l2:=k3.len;have Oy:a≠b:=λz=>by
        have:=e1.old hH (λ_ z=>nomatch z);rw[hF,z,k2] at this;cases this
       obtain⟨ws,m1,m2,m3⟩:=qK k3 k4 Qy hl;refine⟨b,ks.zip vs,ks'.zip pY,ns,rfl,e1.hh _ _ hH, .inr ⟨ob,e1.fh _ _ k2⟩,Oy,by rw[kZ (by rw[k4];exact l2),nk hn],λz=>LQ.2 ?_,?_,?_⟩
       ·have:=kZ (a:=ks) (b:=vs) (by rw[hl];exact l1);rw[z] at this;rw[<-this];rfl
       ·rw[X5,X5];have:=dH;omega
       ·rw[m1];exact w σ F1 _ ((s.ext' e1).chg hi GV ⟨ws,rfl,m2,m3,by have:=qL (ks':=ks') (ds':=ds') hl;omega⟩)
      ·cases hc
   |_=>exact w.elim
 ·exact w.elim
end
section
variable{a:Expr}
end
mutual
def IC:D->Bool
 | .non=>true
 | .bl _=>true
 | .int _=>true
 | .str _=>true
 | .tup ds=>xg ds
 | .lst ds=>xg ds
 | .raw _=>false
 | .exc _=>false
 | .scr _=>false
 | .dct _ _=>false
 | .dci _ _=>false
def xg:List D->Bool
 |[]=>true
 |d::ds=>IC d&&xg ds
end
def xY(ρ:aM):Bool:=ρ.all λx=>match x with
 |some (.ow (.lst _))=>false
 |_=>true
def EI{i:Nat}(h:xY ρ=true)(e:ρ[i]? =some (some (.ow (.lst ds)))):False:=by
 have:=UG.mp h _ (TU e);cases this
section
variable{K:Ti}{F H F' H':Hp}{σ:St}{ρ:aM}{h:Heap}{b:Addr}
def OwnAt.dict(S:StE K F H σ ρ)(hd:xY ρ=true)(p:OwnAt σ ρ b):∃o,H b=some o/\((∃x,o= .dT x)\/∃x,o= .dK x):=by
 obtain⟨i,c,h1,h2⟩:=p;obtain⟨v,h3,a,o,rfl,h4,h5,h6⟩:=S.den i _ h1;rw[h3] at h2;cases h2;refine⟨o,h4,?_⟩;cases c with
 |lst ds=>exact(EI hd h1).elim
 |dct ks ds=>obtain⟨vs,rfl,_⟩:=h6;exact .inl ⟨_,rfl⟩
 |dci ks ds=>obtain⟨vs,rfl,_⟩:=h6;exact .inr ⟨_,rfl⟩
open Classical in
def AV(S:StE K F H σ ρ)(hd:xY ρ=true)(E:Ext (fA σ ρ (refA h (OwnAt σ ρ) H) F) (refA h (OwnAt σ ρ) H) F' H'){o:HO}(e:F' a=some o)(iM:∀q u,o≠ .frz q u):(if OwnAt σ ρ a then none else F' a)=some o:=by
 rw[Zo,e];intro hp;obtain⟨o',k1,k2⟩:=OwnAt.dict S hd hp;have k3:fA σ ρ (refA h (OwnAt σ ρ) H) F a=some (jA ((h.get? a).getD {cls:= .none,data:= .fields #[]}) o'):=by
  unfold fA refA;rw[Zn hp,Zn hp,k1];rfl
 have k4:=E.ff a _ k3;rw[e] at k4;rcases k2 with⟨x,rfl⟩ | ⟨x,rfl⟩<;>cases k4<;>exact iM _ _ rfl
open Classical in
mutual
theorem DB(S:StE K F H σ ρ)(hd:xY ρ=true)(E:Ext (fA σ ρ (refA h (OwnAt σ ρ) H) F) (refA h (OwnAt σ ρ) H) F' H'):∀{d:D}{v:V},IC d=true->Den K F' d v->Den K (λb=>if OwnAt σ ρ b then none else F' b) d v
 | .non,_,_,q=>q
 | .bl _,_,_,q=>q
 | .int _,_,_,q=>q
 | .str _,_,_,q=>q
 | .tup ds,_,f,⟨a,vs,h1,h2,h3,h4⟩=>⟨a,vs,h1,AV S hd E h2 (λ_ _ z=>nomatch z),m9 S hd E f h3,h4⟩
 | .lst ds,_,f,⟨a,vs,h1,h2,h3,h4⟩=>⟨a,vs,h1,AV S hd E h2 (λ_ _ z=>nomatch z),m9 S hd E f h3,h4⟩
 | .raw _,_,f,_=>by cases f
 | .exc _,_,f,_=>by cases f
 | .scr _,_,f,_=>by cases f
 | .dct _ _,_,f,_=>by cases f
 | .dci _ _,_,f,_=>by cases f
theorem m9(S:StE K F H σ ρ)(hd:xY ρ=true)(E:Ext (fA σ ρ (refA h (OwnAt σ ρ) H) F) (refA h (OwnAt σ ρ) H) F' H'):∀{ds:List D}{vs:List V},xg ds=true->DenL K F' ds vs->DenL K (λb=>if OwnAt σ ρ b then none else F' b) ds vs
 |[],_,_,q=>q
 |d::ds,_,f,⟨v,r,h1,h2,h3⟩=>by
  unfold xg at f;rw[Uh] at f;exact⟨v,r,h1,DB S hd E f.1 h2,m9 S hd E f.2 h3⟩
end
end
def Jf(τ:DT):DT:=λρ=>noex (τ (IG ρ))
section
variable{a b:Expr}
def H0{x y:Str}(h:x.cps.toList=y.cps.toList):x=y:=by
 obtain⟨⟨a⟩⟩:=x;obtain⟨⟨b⟩⟩:=y;cases (show a=b from h);rfl
end
section
variable{a:Expr}
end
end L3
namespace L3
open PySem PySem.SetTable
def iK(m b:Nat):Nat->Nat×Nat
 |0=>(b % (m+1),b)
 |k+1=>leap m (iK m b k).1 (iK m b k).2
def Ld(m i:Nat):Nat:=(i*5+1) % (m+1)
def it(m:Nat):Nat->Nat->Nat
 |0,x=>x
 |n+1,x=>Ld m (it m n x)
theorem qy(m:Nat):∀a b x,it m (a+b) x=it m a (it m b x)
 |0,b,x=>by rw[Wr];rfl
 |a+1,b,x=>by rw[Zj];show Ld m _=Ld m _;rw[qy m a b x]
theorem Mb(m b:Nat):∀k,(iK m b k).2=b / 32 ^ k
 |0=>by simp[iK]
 |k+1=>by
  show (iK m b k).2 / 32=_;rw[Mb m b k,YI,Nat.pow_succ]
theorem AL{m b:Nat}(hb:b<2 ^ 64):∀k,(iK m b (k+13)).1=it m k (iK m b 13).1
 |0=>by rw[Wr];rfl
 |k+1=>by
  rw[Zj];have hq:(iK m b (k+13)).2 / 32=0:=by
   rw[Mb];refine Nat.div_eq_of_lt ?_;refine VP (m:=b / 32 ^ 13) ?_ ?_
   ·rw[Nat.pow_add,Nat.mul_comm,<-YI];exact Nat.div_le_self ..
   ·have:b / 32 ^ 13<1:=Nat.div_lt_of_lt_mul (by omega);omega
  show ((iK m b (k+13)).1*5+1+(iK m b (k+13)).2 / 32) % (m+1)=Ld m _;rw[hq,AL hb k];rfl
def Ng(m:Nat):Prop:=m=7\/m=31\/m=127
def Pp(m:Nat):Nat->Nat->List Nat
 |0,_=>[]
 |n+1,x=>x::Pp m n (Ld m x)
theorem zT(m:Nat):∀(n x j:Nat),j∈Pp m n x->∃a,a<n/\it m a x=j
 |0,x,j,h=>by cases h
 |n+1,x,j,h=>by
  rcases Tz.mp h with rfl | h
  ·exact⟨0,by omega,rfl⟩
  ·obtain⟨a,ha,e⟩:=zT m n (Ld m x) j h;exact⟨a+1,by omega,by rw[qy m a 1 x];exact e⟩
def Hk(hm:Ng m):(∀j,j<m+1->j∈Pp m (m+1) 0)/\it m (m+1) 0=0:=by
 rcases hm with rfl | rfl | rfl
 ·exact⟨by decide+kernel,by decide+kernel⟩
 ·exact⟨by decide+kernel,by decide+kernel⟩
 ·exact⟨by decide+kernel,by decide+kernel⟩
def Q5(hm:Ng m)(hi:i<m+1)(hj:j<m+1):∃n,n<=m/\it m n i=j:=by
 obtain⟨h1,h2⟩:=Hk hm;obtain⟨a,ha,rfl⟩:=zT m _ 0 i (h1 i hi);obtain⟨b,hb,rfl⟩:=zT m _ 0 j (h1 j hj);by_cases h:a<=b
 ·exact⟨b - a,by omega,by rw[<-qy,Nat.sub_add_cancel h]⟩
 ·refine⟨m+1 - a+b,by omega,?_⟩;rw[<-qy,show m+1 - a+b+a=b+(m+1) by omega,qy,h2]
def Ma(m b k:Nat):(iK m b k).1<m+1:=by
 cases k with
 |zero=>exact Nat.mod_lt _ (by omega)
 |succ k=>exact Nat.mod_lt _ (by omega)
def reach(hm:Ng m)(hb:b<2 ^ 64)(hj:j<m+1):∃k,k<=m+13/\(iK m b k).1=j:=by
 obtain⟨n,hn,e⟩:=Q5 hm (Ma m b 13) hj;exact⟨n+13,by omega,by rw[AL hb,e]⟩
def Qk(t:SetTable):Nat->Probe->Probe
 |0,p=>p
 |n+1,p=>Qk t n (t.advance p)
def vals(o:Array (Option Nat))(n:Nat):List Nat:=(TB n).filterMap λj=>o.getD j none
structure TabOk (t:SetTable) (n:Nat) (ld:Bool):Prop where
 S9:Ng t.mask
 size:t.place.size=n
 SU:t.dummies= #[]
 room:5*n<3*t.mask
 plain:t.plain=true
 led:t.led=ld
 rise:t.place.toList.Pairwise (· < ·)
def SetH(ld:Bool)(h:Heap)(a:Addr)(xs:List (Int×Value)):Prop:=∃o es ep t,h.get? a=some o/\o.ExactSet/\o.data= .set es ep t/\es.toList.Perm xs/\TabOk t es.size ld
def SetH.at{ld:Bool}{h h':Heap}{a:Addr}{xs:List (Int×Value)}(x:SetH ld h a xs)(e:∀o,h.get? a=some o->h'.get? a=some o):SetH ld h' a xs:=
 let ⟨o,es,ep,t,ho,r⟩:=x
 ⟨o,es,ep,t,e o ho,r⟩
end L3
namespace L3
open PySem PySem.Spec L2 HT
open PyProof.Rows hiding St
theorem items_int{P:T3}{w:World}:∀{us:List Value}{ns:List Int},WB us ns->ItemsAre (intKind P w) ns us
 |_,_, .nil=> .nil
 |_,_, .cons n t h=> .cons (intKind_is _ _ _ _) (items_int h)
end L3
namespace L3
open PySem PySem.SetTable PySem.W PyProof.Rows
def IsSI(h:Heap)(it a:Addr)(sl k n ep:Nat):Prop:=∃o,h.get? it=some o/\o.cls= .type "set_iterator"/\o.data= .fields #[Yj sl,Yj k, .ref a,Yj n,Yj ep]
def IsSI.at{h h':Heap}{it a:Addr}{sl k n ep:Nat}(x:IsSI h it a sl k n ep)(e:∀o,h.get? it=some o->h'.get? it=some o):IsSI h' it a sl k n ep:=let ⟨o,ho,r⟩:=x;⟨o,e o ho,r⟩
end L3
namespace L3
open PySem PySem.Spec L2 HT
open PyProof.Rows hiding St
section
variable{X:Cx}{Xw:Nat->Hp->Prop}{e:Expr}{δs:DA}{pos p:Pos}
def uh:List D->M D
 |[.lst ds]=>match nums ds with
  |some ns=>aa (.int ns.sum)
  |none=>af
 |_=>af
def BO(hc:X.calm=true):CallR X (.builtin "sum") (λxs H Q=>∃(p:Addr) (ns:List Int),xs=[.ref p]/\SqL X.K H p (ns.map V.int)/\Q (.int ns.sum) H):=by
 intro f8 s σ H xs us Q I r h;obtain⟨a,ns,rfl,hq,q⟩:=h;obtain⟨u,rfl,r1⟩:=r.one;cases (show u=_ from r1);obtain⟨aO,rv,pl,hz⟩:=I.list hq;have hi:WB aO ns:=by simpa using intsAre_of rv
 obtain⟨xs,hx⟩:=hi.allInts.items;refine sum_intListG (I.ok.hd hc) (show s.heap.IsList a (intItems xs) from hx▸pl.isList) λh' tk t' hk=>?_;have e1:ns=xs.toList.map (·.1):=by
  rw[<-nums_intItems,<-hx];exact(show numsOf aO.toArray.toList=ns from hi.numsOf).symm
 rw[show preSum (numAt xs) xs.size=ns.sum by rw[preSum_eq,YF (by simp),e1]];exact⟨.int ns.sum,H,I.kept hk,⟨_,rfl⟩,q⟩
def A6(hc:X.calm=true)(hg:Gl X "sum")(hm:X.mg "sum"=none)(hb:Uw "sum"=some (.builtin "sum"))(ha:lz X Xw [e] δs)(he:Tq [e] X.env=[(false,eval e X.env)]:=by rfl):PD X Xw (.Call (.Name "sum" p) [e] [] pos) (dA uh δs):=
 fw (BO hc) (λXw F H vs ds Q s h w=>by
  unfold uh at w;split at w
  ·rename_i ds;obtain⟨v,rfl,h1⟩:=h.one;obtain⟨a,ws,rfl,h2,h3,h4⟩:=h1;split at w
   ·rename_i ns C7;have e:=qu C7 h3;subst e;exact⟨a,ns,rfl,SqL.of (s _ _ h2),WP.now w s rfl⟩
   ·exact w.elim
  ·exact w.elim) hg hm hb ha (by decide) (by decide) he rfl
end
section
variable{prog:T3}{w:World}
def SetS(prog:T3)(w:World)(h:Heap)(a:Addr)(xs:List Str):Prop:=h.SetOf (strKind prog w) a (λk=>decide (k∈xs)) xs.length
def SetS.at{h h':Heap}{a:Addr}{xs:List Str}(x:SetS prog w h a xs)(e:∀o,h.get? a=some o->h'.get? a=some o):SetS prog w h' a xs:=
 let ⟨o,es,ep,t,ho,r⟩:=x
 ⟨o,es,ep,t,e o ho,r⟩
end
def G9:List Int->Int
 |[]=>0
 |[x]=>x
 |x::r=>min x (G9 r)
def Mn:List D->M D
 |[.lst ds]=>match nums ds with
  |some ns=>if 0<ns.length then aa (.int (G9 ns)) else af
  |none=>af
 |_=>af
end L3
namespace L3
open PySem PySem.Spec L2
open PyProof.Rows hiding St
end L3
namespace L3
open PySem PySem.Spec L2 SeqAt HT
open PyProof.Rows hiding St
section
variable{a:Expr}
end
end L3
namespace L3
open PySem PySem.Spec L2 HT
open PyProof.Rows hiding St
end L3
namespace L3
open PySem PySem.Spec L2 SeqAt HT
open PyProof.Rows hiding St
abbrev N4:=List (Key×List Key)
def Hd(ps:N4):Bool:=decide (ps.length<lim)&&ps.all λp=>decide (p.2.length<lim)
def Ir(ρ:aM):Bool:=ρ.all λx=>match x with | some (.ow _)=>false | some (.ob _ _)=>false | _=>true
structure Nr (K:Ti) (u8 ZQ G F H:Hp) (σ:St) (ρ:aM) (ni:Nat) (a:Addr) (bs:List Addr) (ps:N4):Prop where
 ext:Ext u8 ZQ F H
 gf:Same G F
 st:StE K F H σ ρ
 len:ρ.length=σ.length
 near:σ[ni]? =some (some (.ref a))
 ha:H a=some (.dK ((ps.map (·.1)).zip (bs.map V.ref)))
 hb:∀(i:Nat) (b:Addr) (p:Key×List Key),bs[i]? =some b->ps[i]? =some p->H b=some (.dK (p.2.map λk=>(k,V.bl true)))
 sz:bs.length=ps.length
 nd:(a::bs).Nodup
 fr:∀b∈a::bs,F b=none/\ZQ b=none
 fz:Ir ρ=true
section
variable{K:Ti}{u8 ZQ G F H:Hp}{σ:St}{ρ:aM}{ni:Nat}{a:Addr}{bs:List Addr}{ps:N4}
def Nr.at(n:Nr K u8 ZQ G F H σ ρ ni a bs ps){b:Addr}(hb:b∈a::bs):∃ay,H b=some (.dK ay):=by
 rcases Tz.mp hb with rfl | hb
 ·exact⟨_,n.ha⟩
 ·obtain⟨i,hi,rfl⟩:=Xg hb;exact⟨_,n.hb i _ (ps[i]'(by rw[<-n.sz];exact hi)) (Tg hi) (Tg _)⟩
end
end L3
namespace L3
open PySem PySem.SetTable
def tM(m:Nat):SetTable:={mask:=m,place:= #[],dummies:= #[],finger:=0,led:=false,moves:=0,plain:=true}
def pos(m:Nat)(h:Int)(n:Nat):Nat:=(Qk (tM m) n ((tM m).probeStart h)).j
def N5(m:Nat)(Z:List (Nat×Int)):Prop:=∀x∈Z,∃n,n<10*turns m/\pos m x.2 n=x.1/\∀n',n'<n->∃h',(pos m x.2 n',h')∈Z
def So(t:SetTable)(es:Array (Int×Value)):List (Nat×Int):=t.place.toList.zip (es.toList.map (·.1))
def SetR(ld:Bool)(h:Heap)(a:Addr)(xs:List (Int×Value)):Prop:=∃o es ep t,h.get? a=some o/\o.ExactSet/\o.data= .set es ep t/\es.toList.Perm xs/\TabOk t es.size ld/\N5 t.mask (So t es)
def SetR.set:SetR ld h a xs->SetH ld h a xs:=λ⟨o,es,ep,t,a1,a2,a3,a4,a5,_⟩=>⟨o,es,ep,t,a1,a2,a3,a4,a5⟩
def SetR.at(x:SetR ld h a xs)(e:∀o,h.get? a=some o->h'.get? a=some o):SetR ld h' a xs:=
 let ⟨o,es,ep,t,ho,r⟩:=x
 ⟨o,es,ep,t,e o ho,r⟩
end L3
namespace L3
open PySem PySem.Spec L2 SeqAt HT
open PyProof.Rows hiding St
end L3
namespace L3
open PySem PySem.Spec L2 PySem.W
open PyProof.Rows hiding St
def Prs(es:Array WW)(lo:Addr)(h:Heap)(n:Nat)(as:List Addr):Prop:=as.length=n/\as.Nodup/\∀(j:Nat) (a:Addr),as[j]? =some a->lo<a/\∃e,es[j]? =some e/\h.get? a=some {cls:= .type "tuple",data:= .seq #[e.key,e.val]}
def Prs.keep{es:Array WW}{lo QQ:Addr}{h h':Heap}{n:Nat}{as:List Addr}(p:Prs es lo h n as)(hl:QQ<=lo)(hk:∀b o,lo<b->h.get? b=some o->h'.get? b=some o):Prs es QQ h' n as:=⟨p.1,p.2.1,λj a hj=>by
 obtain⟨h1,e,h2,h3⟩:=p.2.2 j a hj;exact⟨VP hl h1,e,h2,hk a _ h1 h3⟩⟩
end L3
namespace L3
open PySem PySem.Spec L2 PySem.W SeqAt
open PyProof.Rows hiding St
end L3
namespace L3
open PySem PySem.W PyProof.Rows
end L3
namespace L3
open PySem PySem.Spec L2 PySem.W SeqAt
open PyProof.Rows hiding St
end L3
namespace L3
open PySem PySem.Spec L2 SeqAt HT
open PyProof.Rows hiding St
def LL(ZQ F H:Hp)(D:Addr)(bs:List Addr):Prop:=H D=some (.lst (bs.map V.ref))/\(∀b∈bs,H b=some (.lst []))/\(D::bs).Nodup/\∀b∈D::bs,F b=none/\ZQ b=none
section
variable{ZQ F H F' H':Hp}{D:Addr}{bs:List Addr}
def LL.at(l:LL ZQ F H D bs){b:Addr}(hb:b∈D::bs):∃xs,H b=some (.lst xs):=(Tz.mp hb).elim (λz=>z▸⟨_,l.1⟩) λz=>⟨_,l.2.1 b z⟩
def LL.ext(l:LL ZQ F H D bs)(e:Ext F H F' H'):LL ZQ F' H' D bs:=⟨e.hh _ _ l.1,λb hb=>e.hh _ _ (l.2.1 b hb),l.2.2.1,λb hb=>by
 obtain⟨xs,hx⟩:=l.at hb;exact⟨by rw[e.old hx λts z=>nomatch z];exact(l.2.2.2 b hb).1,(l.2.2.2 b hb).2⟩⟩
end
structure Nl (K:Ti) (u8 ZQ G F H:Hp) (σ:St) (ρ:aM) (ni:Nat) (a:Addr) (bs:List Addr) (ps:List (List Int)):Prop where
 ext:Ext u8 ZQ F H
 gf:Same G F
 st:StE K F H σ ρ
 len:ρ.length=σ.length
 near:σ[ni]? =some (some (.ref a))
 ha:H a=some (.lst (bs.map V.ref))
 hb:∀(i:Nat) (b:Addr) (p:List Int),bs[i]? =some b->ps[i]? =some p->H b=some (.lst (p.map V.int))
 sz:bs.length=ps.length
 nd:(a::bs).Nodup
 fr:∀b∈a::bs,F b=none/\ZQ b=none
 fz:Ir ρ=true
section
variable{K:Ti}{u8 ZQ G F H:Hp}{σ:St}{ρ:aM}{ni:Nat}{a:Addr}{bs:List Addr}{ps:List (List Int)}
def Nl.at(n:Nl K u8 ZQ G F H σ ρ ni a bs ps){b:Addr}(hb:b∈a::bs):∃xs,H b=some (.lst xs):=by
 rcases Tz.mp hb with rfl | hb
 ·exact⟨_,n.ha⟩
 ·obtain⟨i,hi,rfl⟩:=Xg hb;exact⟨_,n.hb i _ (ps[i]'(by rw[<-n.sz];exact hi)) (Tg hi) (Tg _)⟩
end
end L3
namespace L3
open PySem PySem.Spec L2
open PyProof.Rows hiding St
structure StX (K:Ti) (u8 ZQ F H:Hp) (σ:St) (ρ:aM):Prop where
 ok:StOk K u8 ZQ F H σ ρ
 obn:∀(i:Nat) (a:Addr) (o:Ob) (b:Addr),ρ[i]? =some (some (.ob a o))->b∈aW H o a->ZQ b=none
section
variable{K:Ti}{u8 ZQ F H F' H':Hp}{σ:St}{ρ:aM}
theorem StX.den(s:StX K u8 ZQ F H σ ρ){i:Nat}{sl:Sl}(h:ρ[i]? =some (some sl)):∃v,σ[i]? =some (some v)/\DenO K F H sl v:=s.ok.st.den i sl h
def StX.at(s:StX K u8 ZQ F H σ ρ){i:Nat}{a:Addr}{o:Ob}(h:ρ[i]? =some (some (.ob a o))):σ[i]? =some (some (.ref a))/\ObAt K F H o a:=by
 obtain⟨v,h1,h2,h3⟩:=s.den h;exact⟨by rw[h1,h2],h3⟩
theorem StX.ext'(s:StX K u8 ZQ F H σ ρ)(e:Ext F H F' H'):StX K u8 ZQ F' H' σ ρ:=⟨s.ok.ext' e,λi a o b h hb=>by
 have h2:=(s.at h).2;have:aW H' o a=aW H o a:=(DenO.ext' (K:=K) (sl:= .ob a o) (v:= .ref a) e ⟨rfl,h2⟩).2;exact s.obn i a o b h (this▸hb)⟩
def StX.tail(s:StX K u8 ZQ F H (x::σ) (y::ρ)):StX K u8 ZQ F H σ ρ:=
 ⟨⟨s.ok.ext,⟨s.ok.st.fh,λi sl h=>let ⟨v,h1,h2⟩:=s.ok.st.den (i+1) sl (by simpa using h);⟨v,by simpa using h1,h2⟩⟩,by have:=s.ok.len;simpa using this,
  λi c a h1 h2=>s.ok.own (i+1) c a (by simpa using h1) (by simpa using h2),λi j sl fG v v' b h1 h2 h3 h4 h5 h6=>Nat.succ.inj (s.ok.sep (i+1) (j+1) sl fG v v' b (by simpa using h1) (by simpa using h2) (by simpa using h3) (by simpa using h4) h5 h6)⟩,
  λi a o b h hb=>s.obn (i+1) a o b (by simpa using h) hb⟩
def StX.cons(s:StX K u8 ZQ F H σ ρ){d:D}{v:V}(h:Den K F d v):StX K u8 ZQ F H (some v::σ) (some (.fz d)::ρ):=by
 refine⟨⟨s.ok.ext,⟨s.ok.st.fh,λi sl e=>?_⟩,by simp[s.ok.len],λi c a e e'=>?_,λi j sl fG u u' b e1 e2 e3 e4 h5 h6=>?_⟩,λi a o b e hb=>?_⟩
 ·cases i with
  |zero=>cases e;exact⟨v,rfl,h⟩
  |succ i=>obtain⟨u,h1,h2⟩:=s.ok.st.den i sl (by simpa using e);exact⟨u,by simpa using h1,h2⟩
 ·cases i with
  |zero=>cases e
  |succ i=>exact s.ok.own i c a (by simpa using e) (by simpa using e')
 ·cases i with
  |zero=>cases e1;cases h5
  |succ i=>
   cases j with
   |zero=>cases e2;cases h6
   |succ j=>exact Zv _ (s.ok.sep i j sl fG u u' b (by simpa using e1) (by simpa using e2) (by simpa using e3) (by simpa using e4) h5 h6)
 ·cases i with
  |zero=>cases e
  |succ i=>exact s.obn i a o b (by simpa using e) hb
def StX.store(s:StX K u8 ZQ F H (some v::σ) (some r::ρ))(i:Nat):StX K u8 ZQ F H (σ.set i (some v)) (ρ.set i (some r)):=by
 have t:=s.tail;have hd:DenO K F H r v:=by
  obtain⟨u,h1,h2⟩:=s.ok.st.den 0 r rfl;cases h1;exact h2
 refine⟨t.ok.put hd t.ok.ext (Same.refl _) (λj sl u hj h1 h2 b hb=>⟨rfl,((t.ok.foot h1 h2).cell b hb).1,λq=>?_⟩) λc b h1 h2=>s.ok.own 0 c b (by rw[h1];rfl) (by rw[h2];rfl),λj a o b e hb=>?_⟩
 ·have:=s.ok.sep 0 (j+1) r sl v u b rfl (by simpa using h1) rfl (by simpa using h2) q hb;cases this
 ·by_cases hj:j=i
  ·subst hj;have hi:j<ρ.length:=by
    have:=(To.mp e).1;simpa using this
   rw[TY hi] at e;cases e;exact s.obn 0 a o b rfl hb
  ·rw[T5 (Vh hj)] at e;exact t.obn j a o b e hb
end
inductive OE where
 |val (r:Sl) (ρ:aM) | ex (n:Nat) (ρ:aM)
inductive TX where
 |val (b:Bool) (ρ:aM) | ex (n:Nat) (ρ:aM)
inductive OX where
 |nx (ρ:aM) | rt (r:Sl) (ρ:aM) | ex (n:Nat) (ρ:aM)
structure XF (α:Type) where
 f:aM->(α->Prop)->Prop
 mono:∀ρ P Q,(∀x,P x->Q x)->f ρ P->f ρ Q
abbrev XE:=XF OE
abbrev XT:=XF TX
abbrev XS:=XF OX
def eD(K:Ti)(Xw:Nat->Hp->Prop)(u8 ZQ:Hp)(σ:St)(Q:VK):OE->Prop
 | .val r ρ=>∀v F H,StX K u8 ZQ F H (some v::σ) (some r::ρ)->Q v H
 | .ex n ρ=>∀F H,StX K u8 ZQ F H σ ρ->Xw n H
def xk(K:Ti)(Xw:Nat->Hp->Prop)(u8 ZQ:Hp)(σ:St)(Q:Bool->Hp->Prop):TX->Prop
 | .val b ρ=>∀F H,StX K u8 ZQ F H σ ρ->Q b H
 | .ex n ρ=>∀F H,StX K u8 ZQ F H σ ρ->Xw n H
def gJ(K:Ti)(Xw:Nat->Hp->Prop)(u8 ZQ:Hp)(Dn:Ends):OX->Prop
 | .nx ρ=>∀σ F H,StX K u8 ZQ F H σ ρ->Dn.nx σ H
 | .rt r ρ=>∀v σ F H,StX K u8 ZQ F H (some v::σ) (some r::ρ)->Dn.rt v H
 | .ex n ρ=>∀σ F H,StX K u8 ZQ F H σ ρ->Xw n H
def tX(K:Ti)(Xw:Nat->Hp->Prop)(u8 ZQ:Hp)(χ:XE):TE:=λσ H Q=>∃F ρ,StX K u8 ZQ F H σ ρ/\χ.f ρ (eD K Xw u8 ZQ σ Q)
def SI(K:Ti)(Xw:Nat->Hp->Prop)(u8 ZQ:Hp)(χ:XT):TT:=λσ H Q=>∃F ρ,StX K u8 ZQ F H σ ρ/\χ.f ρ (xk K Xw u8 ZQ σ Q)
def P7(K:Ti)(Xw:Nat->Hp->Prop)(u8 ZQ:Hp)(τ:XS):TS:=λDn σ H=>∃F ρ,StX K u8 ZQ F H σ ρ/\τ.f ρ (gJ K Xw u8 ZQ Dn)
def PX(X:Cx)(Xw:Nat->Hp->Prop)(e:Expr)(χ:XE):Prop:=∀u8 ZQ,PE X e (tX X.K Xw u8 ZQ χ)
def Gg(X:Cx)(Xw:Nat->Hp->Prop)(e:Expr)(χ:XT):Prop:=∀u8 ZQ,PT X e (SI X.K Xw u8 ZQ χ)
def wH(X:Cx)(Xw:Nat->Hp->Prop)(st:Stmt)(τ:XS):Prop:=∀u8 ZQ,PS X st (P7 X.K Xw u8 ZQ τ)
def PXSs(X:Cx)(Xw:Nat->Hp->Prop)(st:List Stmt)(τ:XS):Prop:=∀u8 ZQ,PSs X st (P7 X.K Xw u8 ZQ τ)
def C3(i:Nat)(χ:XE):XS:=⟨λρ Q=>χ.f ρ λx=>match x with | .val r ρ'=>Q (.nx (ρ'.set i (some r))) | .ex n ρ'=>Q (.ex n ρ'),λρ P Q k h=>χ.mono ρ _ _ (λx hx=>by cases x<;>exact k _ hx) h⟩
def K3(χ:XE):XS:=⟨λρ Q=>χ.f ρ λx=>match x with | .val _ ρ'=>Q (.nx ρ') | .ex n ρ'=>Q (.ex n ρ'),λρ P Q k h=>χ.mono ρ _ _ (λx hx=>by cases x<;>exact k _ hx) h⟩
def C2(χ:XE):XS:=⟨λρ Q=>χ.f ρ λx=>match x with | .val r ρ'=>Q (.rt r ρ') | .ex n ρ'=>Q (.ex n ρ'),λρ P Q k h=>χ.mono ρ _ _ (λx hx=>by cases x<;>exact k _ hx) h⟩
def sS:XS:=⟨λρ Q=>Q (.nx ρ),λρ P Q k h=>k _ h⟩
def bN(a b:XS):XS:=⟨λρ Q=>a.f ρ λx=>match x with | .nx ρ'=>b.f ρ' Q | x=>Q x,λρ P Q k h=>a.mono ρ _ _ (λx hx=>by
 cases x with
 |nx ρ'=>exact b.mono ρ' _ _ k hx
 |rt r ρ'=>exact k _ hx
 |ex n ρ'=>exact k _ hx) h⟩
def C0(c:XT)(a b:XS):XS:=⟨λρ Q=>c.f ρ λx=>match x with | .val t ρ'=>if t then a.f ρ' Q else b.f ρ' Q | .ex n ρ'=>Q (.ex n ρ'),λρ P Q k h=>c.mono ρ _ _ (λx hx=>by
 cases x with
 |val t ρ'=>
  cases t
  ·exact b.mono ρ' _ _ k hx
  ·exact a.mono ρ' _ _ k hx
 |ex n ρ'=>exact k _ hx) h⟩
def Al(δ:DT):XT:=⟨λρ Q=>match δ ρ with | none=>False | some (.ok b)=>Q (.val b ρ) | some (.ex n)=>Q (.ex n ρ),λρ P Q k h=>by
 match δ ρ,h with
 |some (.ok d),h=>exact k _ h
 |some (.ex n),h=>exact k _ h⟩
section
variable{X:Cx}{Xw:Nat->Hp->Prop}{st:Stmt}{Zw:List Stmt}{τ τ':XS}{e:Expr}{χ:XE}{δ:DE}{pos pos':Pos}
def pV{x:Str}{i:Nat}(hN:X.N.Nodup)(hi:X.N[i]? =some x)(hx:Loc X.env.scope x)(he:PX X Xw e χ)(hf:X.fn x=true\/X.env.scope.names.lookup x=some .local:=by first | exact .inl rfl | exact .inr rfl)
 (hs:XR [.Name x pos'] e pos.line X.env=pure false:=by rfl):wH X Xw (.Assign [.Name x pos'] e pos) (C3 i χ):=λu8 ZQ=>PS.weak (ro (he u8 ZQ) (b_ hN hi hx hf) hs) λD σ H ⟨F,ρ,s,w⟩=>
 ⟨F,ρ,s,χ.mono ρ _ _ (λx hx=>by
  cases x with
  |val r ρ'=>exact λv F' H' st=>hx _ F' H' (st.store i)
  |ex n ρ'=>exact λF' H' st=>hx σ F' H' st) w⟩
def HI(he:PX X Xw e χ)(hs:VL e none pos.line X.env=pure false:=by rfl):wH X Xw (.Expr e pos) (K3 χ):=λu8 ZQ=>PS.weak (kP (he u8 ZQ) hs) λD σ H ⟨F,ρ,s,w⟩=>
 ⟨F,ρ,s,χ.mono ρ _ _ (λx hx=>by
  cases x with
  |val r ρ'=>exact λv F' H' st=>hx _ F' H' st.tail
  |ex n ρ'=>exact λF' H' st=>hx σ F' H' st) w⟩
def vN(he:PX X Xw e χ):wH X Xw (.Return (some e) pos) (C2 χ):=λu8 ZQ=>PS.weak (vI (he u8 ZQ)) λD σ H ⟨F,ρ,s,w⟩=>
 ⟨F,ρ,s,χ.mono ρ _ _ (λx hx=>by
  cases x with
  |val r ρ'=>exact λv F' H' st=>hx v σ F' H' st
  |ex n ρ'=>exact λF' H' st=>hx σ F' H' st) w⟩
def kR:PXSs X Xw [] sS:=λu8 ZQ=>PSs.weak Ba λD σ H ⟨F,ρ,s,w⟩=>w σ F H s
def az(h1:wH X Xw st τ)(h2:PXSs X Xw Zw τ'):PXSs X Xw (st::Zw) (bN τ τ'):=λu8 ZQ=>PSs.weak (rp (h1 u8 ZQ) (h2 u8 ZQ)) λD σ H ⟨F,ρ,s,w⟩=>
 ⟨F,ρ,s,τ.mono ρ _ _ (λx hx=>by
  cases x with
  |nx ρ'=>exact λσ' F' H' st=>⟨F',ρ',st,hx⟩
  |rt r ρ'=>exact hx
  |ex n ρ'=>exact hx) w⟩
def cu(h1:wH X Xw st τ):PXSs X Xw [st] τ:=λu8 ZQ=>pU (h1 u8 ZQ)
def rD{c:Expr}{δ:DT}(h:sV X Xw c δ):Gg X Xw c (Al δ):=λu8 ZQ=>λf8 sh σ H Q I ⟨F,ρ,s,w⟩=>by
 refine h f8 sh σ H Q I ⟨F,ρ,s.ok.st,?_⟩;have w:(match δ ρ with | none=>False | some (.ok d)=>xk X.K Xw u8 ZQ σ Q (.val d ρ) | some (.ex n)=>xk X.K Xw u8 ZQ σ Q (.ex n ρ)):=w
 match δ ρ,w with
 |some (.ok d),w=>exact λH' F' e=>w F' H' (s.ext' e)
 |some (.ex n),w=>exact λF' H' e=>w F' H' (s.ext' e)
def nL{c:Expr}{a b:List Stmt}{tc:XT}(hc:Gg X Xw c tc)(ha:PXSs X Xw a τ)(hb:PXSs X Xw b τ'):wH X Xw (.If c a b pos) (C0 tc τ τ'):=λu8 ZQ=>PS.weak (Ja (hc u8 ZQ) (ha u8 ZQ) (hb u8 ZQ)) λD σ H ⟨F,ρ,s,w⟩=>
 ⟨F,ρ,s,tc.mono ρ _ _ (λx hx=>by
  cases x with
  |val t ρ'=>
   cases t
   ·exact λF' H' st=>⟨F',ρ',st,hx⟩
   ·exact λF' H' st=>⟨F',ρ',st,hx⟩
  |ex n ρ'=>exact λF' H' st=>hx σ F' H' st) w⟩
end
inductive ObK:aM->aM->Prop where
 |nil:ObK ρ []
 |cons (h:y=x\/∀a o,y≠some (Sl.ob a o)) (t:ObK ρ ρ'):ObK (x::ρ) (y::ρ')
theorem ObK.at:∀{ρ ρ':aM},ObK ρ ρ'->∀(i:Nat) (a:Addr) (o:Ob),ρ'[i]? =some (some (.ob a o))->ρ[i]? =some (some (.ob a o))
 |_,_, .nil,i,a,o,e=>by simp at e
 |x::_,y::_, .cons h t,0,a,o,e=>by
  have e:y=some (Sl.ob a o):=by simpa using e
  rcases h with h | h
  ·rw[<-h,e];rfl
  ·exact Zp e (h a o)
 |_,_, .cons h t,i+1,a,o,e=>by
  have:=t.at i a o (by simpa using e);simpa using this
def kS:Option Sl->Option Sl
 |some (.ow _)=>none
 |x=>x
def kO(ρ:aM):aM:=ρ.map kS
def tI{ρ:aM}{i:Nat}{sl:Sl}(h:(kO ρ)[i]? =some (some sl)):ρ[i]? =some (some sl)/\∀c,sl≠ .ow c:=by
 unfold kO at h;rw[Tx] at h;cases q:ρ[i]? with
 |none=>rw[q] at h;cases h
 |some x=>
  rw[q] at h;cases x with
  |none=>cases h
  |some y=>
   cases y with
   |fz d=>cases h;exact⟨rfl,λc z=>nomatch z⟩
   |ow c=>cases h
   |ob a o=>cases h;exact⟨rfl,λc z=>nomatch z⟩
def cC(τ:DS):XS:=⟨λρ Q=>match τ ρ with | none=>False | some (.ok (.nx ρ'))=>ObK ρ ρ'/\Q (.nx ρ') | some (.ok (.rt d))=>Q (.rt (.fz d) (kO ρ)) | some (.ex n)=>Q (.ex n (kO ρ)),λρ P Q k h=>by
 match τ ρ,h with
 |some (.ok (.nx ρ')),h=>exact⟨h.1,k _ h.2⟩
 |some (.ok (.rt d)),h=>exact k _ h
 |some (.ex n),h=>exact k _ h⟩
section
variable{K:Ti}{u8 ZQ F H F' H':Hp}{σ:St}{ρ:aM}
def p3(ρ:aM)(H:Hp)(b:Addr):Prop:=∃(i:Nat) (a:Addr) (o:Ob),ρ[i]? =some (some (.ob a o))/\b∈aW H o a
open Classical in
noncomputable def fQ(F ZQ H:Hp)(ρ:aM):Hp:=λb=>if p3 ρ H b then H b else join F ZQ b
open Classical in
def StX.base(s:StX K u8 ZQ F H σ ρ):StOk K F (fQ F ZQ H ρ) F H σ ρ/\Same ZQ (fQ F ZQ H ρ)/\(∀F' H',Ext F (fQ F ZQ H ρ) F' H'->Ext u8 ZQ F' H')/\∀F' H',Ext F (fQ F ZQ H ρ) F' H'->∀(i:Nat) (a:Addr) (o:Ob),ρ[i]? =some (some (.ob a o))->ObAt K F' H' o a/\aW H' o a=aW H o a:=by
 obtain⟨s1,back⟩:=s.ok.rebase;have hj:=ir s.ok;have h0:Same ZQ (fQ F ZQ H ρ):=λb u e=>by
  unfold fQ;rw[Zo (λ⟨i,a,o,h1,h2⟩=>by rw[s.obn i a o b h1 h2] at e;cases e)];exact hj b u e
 have cl:∀b,p3 ρ H b->F b=none/\∃u,H b=some u/\∀ts,u≠ .tup ts:=λb ⟨i,a,o,h1,h2⟩=>⟨(s.at h1).2.nf b h2,(s.at h1).2.cell b h2⟩
 have sub:Same (join F ZQ) (fQ F ZQ H ρ):=λb u e=>by
  unfold fQ;by_cases q:p3 ρ H b
  ·rw[Zn q];exact s1.ext.hh b u e
  ·rw[Zo q];exact e
 refine⟨⟨⟨λb u e=>?_,Same.refl _,s.ok.st.fh,λ_ _=> .inl rfl⟩,s.ok.st,s.ok.len,λi c a e e'=>?_,s.ok.sep⟩,h0,λF' H' x=>back F' H' ⟨sub.trans x.hh,x.ff,x.fh,λb hb=>?_⟩,λF' H' x i a o h=>?_⟩
 ·unfold fQ at e;by_cases q:p3 ρ H b
  ·rw[Zn q] at e;exact e
  ·rw[Zo q] at e;exact s1.ext.hh b u e
 ·unfold fQ;rw[Zo (λ⟨j,a',o,h1,h2⟩=>by
   have:=s.ok.sep i j (.ow c) (.ob a' o) (.ref a) (.ref a') a e h1 e' (s.at h1).1 (TQ.mpr rfl) h2;subst this;rw[e] at h1;cases h1)]
  exact s1.own i c a e e'
 ·have F9:fQ F ZQ H ρ b≠none:=by
   cases q:join F ZQ b with
   |none=>exact Zp q hb
   |some u=>rw[sub b u q];exact λz=>nomatch z
  rcases x.new b F9 with p | ⟨ts,p⟩
  ·exact .inl p
  ·cases q:join F ZQ b with
   |none=>exact Zp q hb
   |some u=>rw[sub b u q] at p;exact .inr ⟨ts,p⟩
 ·have hh:∀b∈aW H o a,H' b=H b/\F' b=none:=λb hb=>by
   have hF:p3 ρ H b:=⟨i,a,o,h,hb⟩
   obtain⟨c1,u,c2,c3⟩:=cl b hF;have hu:fQ F ZQ H ρ b=some u:=by unfold fQ;rw[Zn hF];exact c2
   refine⟨by rw[c2];exact x.hh b u hu,?_⟩;rw[x.old hu c3];exact c1
  exact(s.at h).2.move x.ff (λb hb=>(hh b hb).1) λb hb=>(hh b hb).2
def StX.back(s:StX K u8 ZQ F H σ ρ){σ':St}{ρ':aM}(t:StOk K F (fQ F ZQ H ρ) F' H' σ' ρ')(k:ObK ρ ρ'):StX K u8 ZQ F' H' σ' ρ':=by
 obtain⟨_,h2,h3,h4⟩:=s.base;refine⟨t.unbase h3 h2,λi a o b e hb=>?_⟩;have e':=k.at i a o e;rw[(h4 F' H' t.ext i a o e').2] at hb;exact s.obn i a o b e' hb
def StX.gone(s:StX K u8 ZQ F H σ ρ)(x:Ext F (fQ F ZQ H ρ) F' H'):StX K u8 ZQ F' H' σ (kO ρ):=by
 obtain⟨_,_,h3,h4⟩:=s.base;have ft:∀{i:Nat}{sl:Sl}{v:V},(kO ρ)[i]? =some (some sl)->sl.foot H' v=sl.foot H v:=λ{i sl v} h=>by
  obtain⟨h1,h2⟩:=tI h;cases sl with
  |fz d=>rfl
  |ow c=>exact Zp rfl (h2 c)
  |ob a o=>exact(h4 F' H' x i a o h1).2
 refine⟨⟨h3 F' H' x,⟨x.fh,λi sl h=>?_⟩,by simp[kO,s.ok.len],λi c a h=>Zp rfl ((tI h).2 c),λi j sl fG v v' b h1 h2 h5 h6 h7 h8=>s.ok.sep i j sl fG v v' b (tI h1).1 (tI h2).1 h5 h6 (ft h1▸h7) (ft h2▸h8)⟩,λi a o b h hb=>?_⟩
 ·obtain⟨h1,h2⟩:=tI h;obtain⟨v,q1,q2⟩:=s.ok.st.den i sl h1;refine⟨v,q1,?_⟩;cases sl with
  |fz d=>exact Den.mono x.ff q2
  |ow c=>exact Zp rfl (h2 c)
  |ob a o=>exact⟨q2.1,(h4 F' H' x i a o h1).1⟩
 ·have h1:=(tI h).1;rw[(h4 F' H' x i a o h1).2] at hb;exact s.obn i a o b h1 hb
end
section
variable{X:Cx}{Xw:Nat->Hp->Prop}{st:Stmt}{τ:DS}
def aT(h:pJ X Xw st τ):wH X Xw st (cC τ):=λu8 ZQ=>λf8 sh σ H D I ⟨F,ρ,s,w⟩=>by
 refine h F (fQ F ZQ H ρ) f8 sh σ H D I ⟨F,ρ,s.base.1,?_⟩;have w:(match τ ρ with | none=>False | some (.ok (.nx ρ'))=>ObK ρ ρ'/\gJ X.K Xw u8 ZQ D (.nx ρ') | some (.ok (.rt d))=>gJ X.K Xw u8 ZQ D (.rt (.fz d) (kO ρ)) | some (.ex n)=>gJ X.K Xw u8 ZQ D (.ex n (kO ρ))):=w
 match τ ρ,w with
 |some (.ok (.nx ρ')),w=>exact λσ' F' H' t=>w.2 σ' F' H' (s.back t w.1)
 |some (.ok (.rt d)),w=>exact λv F' H' e q=>w v σ F' H' ((s.gone e).cons q)
 |some (.ex n),w=>exact λF' H' e=>w σ F' H' (s.gone e)
end
def fF(put:D->aM->Option aM)(body:XS):List D->aM->(OX->Prop)->Prop
 |[],ρ,Q=>Q (.nx ρ)
 |d::ds,ρ,Q=>match put d ρ with
  |none=>False
  |some ρ1=>body.f ρ1 λx=>match x with | .nx ρ2=>fF put body ds ρ2 Q | x=>Q x
theorem lZ{put:D->aM->Option aM}{body:XS}{P Q:OX->Prop}(k:∀x,P x->Q x):∀(ds:List D) (ρ:aM),fF put body ds ρ P->fF put body ds ρ Q
 |[],ρ,h=>k _ h
 |d::ds,ρ,h=>by
  unfold fF at h⊢
  match put d ρ,h with
  |some ρ1,h=>exact body.mono ρ1 _ _ (λx hx=>by
    cases x with
    |nx ρ2=>exact lZ k ds ρ2 hx
    |rt r ρ2=>exact k _ hx
    |ex n ρ2=>exact k _ hx) h
def CZ(put:D->aM->Option aM)(δi:DA)(body:XS):XS:=⟨λρ Q=>match δi ρ with | none=>False | some (.ok ds)=>fF put body ds ρ Q | some (.ex n)=>Q (.ex n ρ),λρ P Q k h=>by
 match δi ρ,h with
 |some (.ok ds),h=>exact lZ k ds ρ h
 |some (.ex n),h=>exact k _ h⟩
def Ll(K:Ti)(g:TG)(put:D->aM->Option aM):Prop:=∀(u8 ZQ F H:Hp) (σ:St) (ρ ρ':aM) (d:D) (v:V) (Q:St->Hp->Prop),StX K u8 ZQ F H σ ρ->Den K F d v->put d ρ=some ρ'->
 (∀σ',StX K u8 ZQ F H σ' ρ'->Q σ' H)->g v σ H Q
def nK{K:Ti}{i:Nat}:Ll K (D0 i) (putN i):=λu8 ZQ F H σ ρ ρ' d v Q s q e k=>by
 cases e;exact k _ ((s.cons q).store i)
theorem StX.rebase{K:Ti}{u8 ZQ F H:Hp}(s:StX K u8 ZQ F H σ ρ):StX K F (join F ZQ) F H σ ρ:=⟨s.ok.rebase.1,λi a o b h hb=>by
 unfold join;rw[(s.at h).2.nf b hb];exact s.obn i a o b h hb⟩
theorem StX.unbase{K:Ti}{u8 ZQ F U F' H':Hp}(k:∀F' H',Ext F U F' H'->Ext u8 ZQ F' H')(s:StX K F U F' H' σ ρ)(h:Same ZQ U):StX K u8 ZQ F' H' σ ρ:=
 ⟨s.ok.unbase k h,λi a o b e hb=>Same.free h (s.obn i a o b e hb)⟩
def P8(K:Ti)(Xw:Nat->Hp->Prop)(τ:XS):TS:=λD σ H=>∃u8 ZQ,P7 K Xw u8 ZQ τ D σ H
section
variable{X:Cx}{Xw:Nat->Hp->Prop}{τ:XS}{pos:Pos}{δi:DA}{g:TG}{put:D->aM->Option aM}
def PXSs.ex{body:List Stmt}(h:PXSs X Xw body τ):PSs X body (P8 X.K Xw τ):=λf8 s σ H D I ⟨u8,ZQ,w⟩=>h u8 ZQ f8 s σ H D I w
def vL{tg iter:Expr}{body:List Stmt}(hp:YD (model X.prog X.w) X.A X.env X.xe)(hc:X.calm=true)(hi:wG X Xw tg iter δi)(hg:PG X tg g)(JO:Ll X.K g put)(hb:PXSs X Xw body τ)
 (hs:∀x,VF iter X.env x=pure x:=by intro _;rfl):wH X Xw (.For tg iter body [] pos) (CZ put δi τ):=λu8 ZQ=>PS.weak (E2 hp hc hi hg hb.ex hs) λD σ H ⟨F,ρ,s,w⟩=>by
 refine⟨F,ρ,s.ok.st,?_⟩;have w:(match δi ρ with | none=>False | some (.ok ds)=>fF put τ ds ρ (gJ X.K Xw u8 ZQ D) | some (.ex n)=>gJ X.K Xw u8 ZQ D (.ex n ρ)):=w
 match δi ρ,w with
 |some (.ex n),w=>exact λF' H' e'=>w σ F' H' (s.ext' e')
 |some (.ok ds),w=>
  intro J H1 F1 e1 Mh;have s0:=s.ext' e1;have s1:=s0.rebase;have back:=s0.ok.rebase.2;have hU:=ir s0.ok;generalize join F1 ZQ=U at s1 back hU;refine⟨λi m σ H=>m=ds.length - i/\i<=ds.length/\∃F ρ,StX X.K F1 U F H σ ρ/\fF put τ (ds.drop i) ρ (gJ X.K Xw u8 ZQ D),⟨ds.length,by simp,Ur _,F1,ρ,s1,by simpa using w⟩,?_⟩;rintro i m σ2 H2 ⟨rfl,JH,F2,ρ2,s2,w2⟩;by_cases iL:i<ds.length
  ·obtain⟨d,hd⟩:∃d,ds[i]? =some d:=⟨_,Tg iL⟩
   obtain⟨JG,zr⟩:=(Mh F2 H2 i s2.ok.ext.ff s2.ok.st.fh).1 d hd;have ed:ds.drop i=d::ds.drop (i+1):=by
    obtain⟨hi,e⟩:=To.mp hd;rw[VD hi,e]
   rw[ed] at w2;unfold fF at w2;refine .inr ⟨JG,λσ' H'=>∃F' ρ',StX X.K F1 U F' H' σ' ρ'/\fF put τ (ds.drop (i+1)) ρ' (gJ X.K Xw u8 ZQ D),λσ' H' ⟨F',ρ',h2,h3⟩=>⟨ds.length - (i+1),by omega,rfl,iL,F',ρ',h2,h3⟩,λx H3 y3=>?_⟩;obtain⟨F3,wy,q3⟩:=zr x H3 y3
   match O3:put d ρ2,w2 with
   |some ρ3,w2=>
    refine JO F1 U F3 H3 σ2 ρ2 ρ3 d x _ (s2.ext' wy) q3 O3 λσ3 s3=>⟨F1,U,F3,ρ3,s3,?_⟩
    refine τ.mono ρ3 _ _ (λx hx=>?_) w2;cases x with
    |nx ρ'=>exact λσ' F' H' t=>⟨F',ρ',t,hx⟩
    |rt r ρ'=>exact λv σ' F' H' t=>hx v σ' F' H' (t.unbase back hU)
    |ex n ρ'=>exact λσ' F' H' t=>hx σ' F' H' (t.unbase back hU)
  ·have hi:i=ds.length:=by omega
   subst hi;rw[WQ] at w2;exact .inl ⟨(Mh F2 H2 ds.length s2.ok.ext.ff s2.ok.st.fh).2 (Tr _),w2 σ2 F2 H2 (s2.unbase back hU)⟩
end
section
variable{K:Ti}{F H:Hp}
theorem FsAt.get:∀{fs:List (Str×Fv)}{gs:List (Str×V)}{f:Str}{x:Fv},FsAt K F H fs gs->fs.lookup f=some x->∃v,gs.lookup f=some v/\Ge K F H x v
 |[],_,_,_,_,e=>by cases e
 |(n,y)::fs,_,f,x,⟨v,r,h1,h2,h3⟩,e=>by
  subst h1;rw[UT] at e⊢;by_cases q:(f==n)=true
  ·rw[q] at e⊢;cases e;exact⟨v,rfl,h2⟩
  ·have q:(f==n)=false:=by simpa using q
   rw[q] at e⊢;exact FsAt.get h3 e
theorem FsAt.no:∀{fs:List (Str×Fv)}{gs:List (Str×V)}{f:Str},FsAt K F H fs gs->fs.lookup f=none->gs.lookup f=none
 |[],_,_,h,_=>by cases (show _=_ from h);rfl
 |(n,y)::fs,_,f,⟨v,r,h1,h2,h3⟩,e=>by
  subst h1;rw[UT] at e⊢;by_cases q:(f==n)=true
  ·rw[q] at e;cases e
  ·have q:(f==n)=false:=by simpa using q
   rw[q] at e⊢;exact FsAt.no h3 e
end
def bu(ρ:aM)(i:Nat)(C:Addr):Option (Addr×Ob):=match ρ[i]? with
 |some (some (.ob a o))=>if o.c=C then some (a,o) else none
 |_=>none
def f_{ρ:aM}{i:Nat}{C a:Addr}{o:Ob}(h:bu ρ i C=some (a,o)):ρ[i]? =some (some (.ob a o))/\o.c=C:=by
 unfold bu at h;split at h
 ·rename_i a' o' e;split at h
  ·rename_i hc;cases h;exact⟨e,hc⟩
  ·cases h
 ·cases h
def StE.ob{K:Ti}{F H:Hp}{σ:St}{ρ:aM}(s:StE K F H σ ρ){i:Nat}{C a:Addr}{o:Ob}(h:bu ρ i C=some (a,o)):σ[i]? =some (some (.ref a))/\ObAt K F H o a/\o.c=C:=by
 obtain⟨h1,h2⟩:=f_ h;obtain⟨v,h3,h4,h5⟩:=s.den i _ h1;exact⟨by rw[h3,h4],h5,h2⟩
def eV(C:Addr)(i:Nat)(f:Str):DE:=λρ=>match bu ρ i C with
 |some (_,o)=>match o.fs.lookup f with
  |some (.fz d)=>aa d
  |_=>af
 |none=>af
section
variable{X:Cx}{Xw:Nat->Hp->Prop}{C:Addr}{i:Nat}{x f:Str}{p pos:Pos}
def cy(c:Cls X.K C)(n:NoAttr X.K C f)(h:PE X (.Name x p) (fE i))(hb:UJ (.Name x p) f X.env (eval (.Name x p) X.env)=eval (.Name x p) X.env:=by rfl):PD X Xw (.Attribute (.Name x p) f pos) (eV C i f):=PE.weak (Kn h hb) λσ H Q ⟨F,ρ,s,w⟩=>by
 unfold eV at w;split at w
 ·rename_i a o ho;obtain⟨h1,h2,h3⟩:=s.ob ho;obtain⟨dx,gs,q1,q2,q3,q4⟩:=h2.foot;split at w
  ·rename_i d hd;obtain⟨v,v1,v2⟩:=q3.get hd;exact⟨.ref a,h1,a,C,dx,gs,v,rfl,by rw[q1,h3],c,n,v1,WP.now w s.fh v2⟩
  ·exact w.elim
 ·exact w.elim
end
def NV(K:Ti)(cv:Nat->Value)(C:Addr)(m:Nat)(g:Addr->Ob->List D->M D):Sp:=λvs H Q E=>∃F o ds a ws,vs= .ref a::ws/\Same F H/\o.c=C/\ObAt K F H o a/\DenL K F ds ws/\ws.length=m/\WP K (λn H'=>E (cv n) none H') F H (g a o ds) Q
structure ObStep (K:Ti) (F H:Hp) (o:Ob) (a:Addr) (F' H':Hp) (o':Ob):Prop where
 hh:∀b u,b∉aW H o a->H b=some u->H' b=some u
 ff:Same F F'
 fh:Same F' H'
 new:∀b,b∉aW H o a->H b≠none->F' b=F b\/∃ts,H b=some (.tup ts)
 ob:ObAt K F' H' o' a
 foot:∀b∈aW H' o' a,b∈aW H o a\/H b=none
def Qj(K:Ti)(Xw:Nat->Hp->Prop)(F H:Hp)(o:Ob)(a:Addr)(m:M (D×Ob))(Q:VK):Prop:=match m with
 |none=>False
 |some (.ok (d,o'))=>∀v F' H',ObStep K F H o a F' H' o'->Den K F' d v->Q v H'
 |some (.ex n)=>∀F' H',ObStep K F H o a F' H' o->Xw n H'
def PJ(K:Ti)(cv:Nat->Value)(C:Addr)(m:Nat)(g:Addr->Ob->List D->M (D×Ob)):Sp:=λvs H Q E=>∃F o ds a ws,vs= .ref a::ws/\Same F H/\o.c=C/\ObAt K F H o a/\DenL K F ds ws/\ws.length=m/\Qj K (λn H'=>E (cv n) none H') F H o a (g a o ds) Q
def cR(P:T3)(w:World)(K:Ti)(mg:Str->Option Value)(base:Heap)(cv:Nat->Value)(k:Nat)(C:Addr)(x:Str)(m:Nat)(g:Addr->Ob->List D->M D):Prop:=
 ∃f fd ps,Cls K C/\Meth K C x f/\Binds K fd ps []/\FnOk P w K mg base (f7 P w cv) k f fd ps (NV K cv C m g)
def lb(P:T3)(w:World)(K:Ti)(mg:Str->Option Value)(base:Heap)(cv:Nat->Value)(k:Nat)(C:Addr)(x:Str)(m:Nat)(g:Addr->Ob->List D->M (D×Ob)):Prop:=
 ∃f fd ps,Cls K C/\Meth K C x f/\Binds K fd ps []/\FnOk P w K mg base (f7 P w cv) k f fd ps (PJ K cv C m g)
def aP(C:Addr)(i:Nat)(x:Str)(m:Nat)(g:Addr->Ob->List D->M D)(δs:DA):DE:=λρ=>match bu ρ i C with
 |some (a,o)=>match o.fs.lookup x with
  |none=>δs ρ>>=λds=>if ds.length=m then g a o ds else af
  |some _=>af
 |none=>af
def fV(C:Addr)(i:Nat)(x:Str)(m:Nat)(g:Addr->Ob->List D->M (D×Ob))(δs:DA):XE:=⟨λρ Q=>match bu ρ i C with
 |some (a,o)=>match o.fs.lookup x with
  |none=>match δs ρ with
   |none=>False
   |some (.ex n)=>Q (.ex n ρ)
   |some (.ok ds)=>ds.length=m/\match g a o ds with
    |none=>False
    |some (.ok (d,o'))=>Q (.val (.fz d) (ρ.set i (some (.ob a o'))))
    |some (.ex n)=>Q (.ex n ρ)
  |some _=>False
 |none=>False,λρ P Q k h=>by
 match bu ρ i C,h with
 |some (a,o),h=>
  have h:(match o.fs.lookup x with | none=>(match δs ρ with | none=>False | some (.ex n)=>P (.ex n ρ) | some (.ok ds)=>ds.length=m/\match g a o ds with | none=>False | some (.ok (d,o'))=>P (.val (.fz d) (ρ.set i (some (.ob a o')))) | some (.ex n)=>P (.ex n ρ)) | some _=>False):=h;show (match o.fs.lookup x with | none=>(match δs ρ with | none=>False | some (.ex n)=>Q (.ex n ρ) | some (.ok ds)=>ds.length=m/\match g a o ds with | none=>False | some (.ok (d,o'))=>Q (.val (.fz d) (ρ.set i (some (.ob a o')))) | some (.ex n)=>Q (.ex n ρ)) | some _=>False)
  match o.fs.lookup x,h with
  |none,h=>
   match δs ρ,h with
   |some (.ex n),h=>exact k _ h
   |some (.ok ds),h=>
    refine⟨h.1,?_⟩;have h:=h.2
    match g a o ds,h with
    |some (.ok (d,o')),h=>exact k _ h
    |some (.ex n),h=>exact k _ h⟩
section
variable{K:Ti}{u8 ZQ F H F' H':Hp}{σ:St}{ρ:aM}
def StX.step(s:StX K u8 ZQ F H σ ρ){i:Nat}{a:Addr}{o o':Ob}(h:ρ[i]? =some (some (.ob a o)))(t:ObStep K F H o a F' H' o'):StX K u8 ZQ F' H' σ (ρ.set i (some (.ob a o'))):=by
 obtain⟨ha,hO⟩:=s.at h;have hn:=λb hb=>s.obn i a o b h hb;have ext:Ext u8 ZQ F' H':=⟨λb u e=>t.hh b u (λq=>by rw[hn b q] at e;cases e) (s.ok.ext.hh b u e),s.ok.ext.ff.trans t.ff,t.fh,λb hb=>by
  have nb:b∉aW H o a:=λq=>hb (hn b q);have F9:H b≠none:=by
   cases q:ZQ b with
   |none=>exact Zp q hb
   |some u=>rw[s.ok.ext.hh b u q];exact λz=>nomatch z
  rcases s.ok.ext.new b hb with p | p
  ·rcases t.new b nb F9 with q | ⟨ts,q⟩
   ·exact .inl (q.trans p)
   ·cases z:ZQ b with
    |none=>exact Zp z hb
    |some u=>rw[s.ok.ext.hh b u z] at q;exact .inr ⟨ts,q⟩
  ·exact .inr p⟩
 have keep:∀(j:Nat) (sl:Sl) (v:V),j≠i->ρ[j]? =some (some sl)->σ[j]? =some (some v)->∀b∈sl.foot H v,H' b=H b/\F' b=none/\b∉(Sl.ob a o').foot H' (.ref a):=λj sl v hj h1 h2 b hb=>by
  obtain⟨c1,u,c2,c3⟩:=(s.ok.foot h1 h2).cell b hb;have nb:b∉aW H o a:=λq=>hj (s.ok.sep j i sl (.ob a o) v (.ref a) b h1 h h2 ha hb q);refine⟨by rw[c2];exact t.hh b u nb c2,?_,λq=>?_⟩
  ·rcases t.new b nb (by rw[c2];exact λz=>nomatch z) with q | ⟨ts,q⟩
   ·rw[q];exact c1
   ·rw[c2] at q;cases q;exact Zp rfl (c3 ts)
  ·rcases t.foot b q with z | z
   ·exact nb z
   ·rw[c2] at z;cases z
 have p:=s.ok.put (i:=i) (nsl:= .ob a o') (nv:= .ref a) ⟨rfl,t.ob⟩ ext t.ff keep (λc b z=>nomatch z);rw[set_same ha] at p;refine⟨p,λj a1 o1 b e hb=>?_⟩;by_cases hj:j=i
 ·subst hj;have hi:j<ρ.length:=(To.mp h).1;rw[TY hi] at e;cases e;rcases t.foot b hb with z | z
  ·exact hn b z
  ·exact Same.free s.ok.ext.hh z
 ·rw[T5 (Vh hj)] at e;obtain⟨e1,e2⟩:=s.at e;have:aW H' o1 a1=aW H o1 a1:=(DenO.move (K:=K) (sl:= .ob a1 o1) (v:= .ref a1) t.ff ⟨rfl,e2⟩ (λb hb=>(keep j _ _ hj e e1 b hb).1) λb hb=>(keep j _ _ hj e e1 b hb).2.1).2;exact s.obn j a1 o1 b e (this▸hb)
end
section
variable{X:Cx}{Xw:Nat->Hp->Prop}{cv:Nat->Value}{k m i:Nat}{C:Addr}{x y:Str}{p v6 pos:Pos}{e:Expr}{es:List Expr}{δs:DA}{pl:Sem Bool}
def vC{g:Addr->Ob->List D->M D}(F:cR X.prog X.w X.K X.mg X.base cv k C x m g)(hr:Room k X.A)(hx:Passes (f7 X.prog X.w cv) X (L3.EX cv Xw))(h:PE X (.Name y p) (fE i))(ha:lz X Xw (e::es) δs)
 (pM:Tq (e::es) X.env=(false,eval e X.env)::Tq es X.env:=by rfl)(iX:(UM pos (Tq es X.env)).any (·.1)=false:=by rfl)
 (ht:eval (.Call (.Attribute (.Name y p) x v6) (e::es) [] pos) X.env=(do
  let ov<-eval (.Name y p) X.env
  W0 v6.atName
  let (f,first)<-holding [ov] (Wc ov x pl)
  W3 pos f first (UM pos (Tq (e::es) X.env)) (Vg pos (Ux [] X.env))):=by rfl):
 PD X Xw (.Call (.Attribute (.Name y p) x v6) (e::es) [] pos) (aP C i x m g δs):=by
 obtain⟨f,fd,ps,hc,hm,hb,hF⟩:=F;refine PE.weak (A9 h hc hm hF hr hb .nil hx ha pM iX ht) λσ H Q ⟨F,ρ,s,w⟩=>?_;unfold aP at w;split at w
 ·rename_i a o ho;obtain⟨h1,h2,h3⟩:=s.ob ho;obtain⟨dx,gs,q1,q2,q3,q4⟩:=h2.foot;split at w
  ·rename_i nj;refine⟨.ref a,h1,a,dx,gs,rfl,by rw[q1,h3],q3.no nj,F,ρ,s,WPL.mono (WP.bindL w) λvs H2 ⟨F2,ds,e2,r2,w2⟩=>?_⟩;split at w2
   ·rename_i hl;refine⟨F2,o,ds,a,vs++[],rfl,e2.fh,h3,(DenO.ext (K:=X.K) (sl:= .ob a o) (v:= .ref a) e2 ⟨rfl,h2⟩).2,by rw[T_];exact r2,by rw[T_,<-r2.len];exact hl,WP.xw w2 λn H h=>⟨n,rfl,h⟩⟩
   ·exact w2.elim
  ·exact w.elim
 ·exact w.elim
def bb{g:Addr->Ob->List D->M D}(F:cR X.prog X.w X.K X.mg X.base cv k C x 0 g)(hr:Room k X.A)(hx:Passes (f7 X.prog X.w cv) X (L3.EX cv Xw))(h:PE X (.Name y p) (fE i))
 (ht:eval (.Call (.Attribute (.Name y p) x v6) [] [] pos) X.env=(do
  let ov<-eval (.Name y p) X.env
  W0 v6.atName
  let (f,first)<-holding [ov] (Wc ov x pl)
  W3 pos f first (UM pos (Tq [] X.env)) (Vg pos (Ux [] X.env))):=by rfl):
 PD X Xw (.Call (.Attribute (.Name y p) x v6) [] [] pos) (aP C i x 0 g aN):=by
 obtain⟨f,fd,ps,hc,hm,hb,hF⟩:=F;refine PE.weak (rm h hc hm hF hr hb .nil hx ht) λσ H Q ⟨F,ρ,s,w⟩=>?_;unfold aP at w;split at w
 ·rename_i a o ho;obtain⟨h1,h2,h3⟩:=s.ob ho;obtain⟨dx,gs,q1,q2,q3,q4⟩:=h2.foot;split at w
  ·rename_i nj;have w:WP X.K Xw F H (g a o []) Q:=w;exact⟨.ref a,h1,a,dx,gs,rfl,by rw[q1,h3],q3.no nj,F,o,[],a,[],rfl,s.fh,h3,h2,rfl,rfl,WP.xw w λn H h=>⟨n,rfl,h⟩⟩
  ·exact w.elim
 ·exact w.elim
end
section
variable{K:Ti}{u8 ZQ F H F' H':Hp}{σ:St}{ρ:aM}
def StX.consOb(s:StX K u8 ZQ F H σ ρ)(e:Ext F H F' H'){x:Addr}{o':Ob}(ob:ObAt K F' H' o' x)(nw:∀b∈aW H' o' x,H b=none):StX K u8 ZQ F' H' (some (.ref x)::σ) (some (.ob x o')::ρ):=by
 have t:=s.ext' e;have ft:∀{i:Nat}{sl:Sl}{v:V},ρ[i]? =some (some sl)->σ[i]? =some (some v)->∀b∈sl.foot H' v,b∉aW H' o' x:=λh1 h2 b hb q=>by
  have e1:=((s.ok.foot h1 h2).ext' e).2;obtain⟨_,u,c2,_⟩:=(s.ok.foot h1 h2).cell b (e1▸hb);rw[nw b q] at c2;cases c2
 refine⟨⟨t.ok.ext,⟨t.ok.st.fh,λi sl h=>?_⟩,by simp[t.ok.len],λi c a h h'=>?_,λi j sl fG u u' b h1 h2 h3 h4 h5 h6=>?_⟩,λi a o b h hb=>?_⟩
 ·cases i with
  |zero=>cases h;exact⟨_,rfl,rfl,ob⟩
  |succ i=>obtain⟨u,q1,q2⟩:=t.ok.st.den i sl (by simpa using h);exact⟨u,by simpa using q1,q2⟩
 ·cases i with
  |zero=>cases h
  |succ i=>exact t.ok.own i c a (by simpa using h) (by simpa using h')
 ·cases i with
  |zero=>
   cases j with
   |zero=>rfl
   |succ j=>cases h1;exact Zp h5 (ft (by simpa using h2) (by simpa using h4) b h6)
  |succ i=>
   cases j with
   |zero=>cases h2;exact Zp h6 (ft (by simpa using h1) (by simpa using h3) b h5)
   |succ j=>exact Zv _ (t.ok.sep i j sl fG u u' b (by simpa using h1) (by simpa using h2) (by simpa using h3) (by simpa using h4) h5 h6)
 ·cases i with
  |zero=>cases h;exact Same.free s.ok.ext.hh (nw b hb)
  |succ i=>exact t.obn i a o b (by simpa using h) hb
theorem StE.set{d:D}{v:V}{i:Nat}(s:StE K F H σ ρ)(hl:ρ.length=σ.length)(h:Den K F d v):StE K F H (σ.set i (some v)) (ρ.set i (some (.fz d))):=⟨s.fh,λj sl e=>by
 by_cases hj:j=i
 ·subst hj;have hi:j<ρ.length:=by
   have:=(To.mp e).1;simpa using this
  rw[TY hi] at e;cases e;exact⟨v,TY (by omega),h⟩
 ·rw[T5 (Vh hj)] at e;obtain⟨u,h1,h2⟩:=s.den j sl e;exact⟨u,by rw[T5 (Vh hj)];exact h1,h2⟩⟩
end
section
variable{X:Cx}{Xw:Nat->Hp->Prop}{cv:Nat->Value}{k m i:Nat}{C:Addr}{x y:Str}{p v6 pos:Pos}{e:Expr}{es:List Expr}{δs:DA}{pl:Sem Bool}
def yH{g:M (D×Ob)}{u8 ZQ F H:Hp}{σ:St}{ρ:aM}{a:Addr}{o:Ob}{Q:VK}(s:StX X.K u8 ZQ F H σ ρ)(h:ρ[i]? =some (some (.ob a o)))
 (w:match g with | none=>False | some (.ok (d,o'))=>eD X.K Xw u8 ZQ σ Q (.val (.fz d) (ρ.set i (some (.ob a o')))) | some (.ex n)=>eD X.K Xw u8 ZQ σ Q (.ex n ρ)):Qj X.K (λn H'=>L3.EX cv Xw (cv n) none H') F H o a g Q:=by
 match g,w with
 |some (.ok (d,o')),w=>exact λv F' H' t q=>w v F' H' ((s.step h t).cons q)
 |some (.ex n),w=>exact λF' H' t=>⟨n,rfl,w F' H' (by have:=s.step h t;rw[set_same h] at this;exact this)⟩
def HH{g:Addr->Ob->List D->M (D×Ob)}(F:lb X.prog X.w X.K X.mg X.base cv k C x m g)(hr:Room k X.A)(hx:Passes (f7 X.prog X.w cv) X (L3.EX cv Xw))(h:PE X (.Name y p) (fE i))(ha:lz X Xw (e::es) δs)
 (pM:Tq (e::es) X.env=(false,eval e X.env)::Tq es X.env:=by rfl)(iX:(UM pos (Tq es X.env)).any (·.1)=false:=by rfl)
 (ht:eval (.Call (.Attribute (.Name y p) x v6) (e::es) [] pos) X.env=(do
  let ov<-eval (.Name y p) X.env
  W0 v6.atName
  let (f,first)<-holding [ov] (Wc ov x pl)
  W3 pos f first (UM pos (Tq (e::es) X.env)) (Vg pos (Ux [] X.env))):=by rfl):
 PX X Xw (.Call (.Attribute (.Name y p) x v6) (e::es) [] pos) (fV C i x m g δs):=by
 obtain⟨f,fd,ps,hc,hm,hb,hF⟩:=F;refine λu8 ZQ=>PE.weak (A9 h hc hm hF hr hb .nil hx ha pM iX ht) λσ H Q ⟨F,ρ,s,w⟩=>?_;unfold fV at w
 dsimp only at w
 split at w
 ·rename_i a o ho;obtain⟨h1,h2,h3⟩:=s.ok.st.ob ho;obtain⟨dx,gs,q1,q2,q3,q4⟩:=h2.foot;split at w
  ·rename_i nj;refine⟨.ref a,h1,a,dx,gs,rfl,by rw[q1,h3],q3.no nj,F,ρ,s.ok.st,?_⟩
   match δs ρ,w with
   |some (.ex n),w=>exact λF' H' e'=>w F' H' (s.ext' e')
   |some (.ok ds),w=>
    intro vs H2 F2 e2 r2;exact⟨F2,o,ds,a,vs++[],rfl,e2.fh,h3,(DenO.ext (K:=X.K) (sl:= .ob a o) (v:= .ref a) e2 ⟨rfl,h2⟩).2,by rw[T_];exact r2,by rw[T_,<-r2.len];exact w.1,yH (s.ext' e2) (f_ ho).1 w.2⟩
  ·exact w.elim
 ·exact w.elim
def j2{g:Addr->Ob->List D->M (D×Ob)}(F:lb X.prog X.w X.K X.mg X.base cv k C x 0 g)(hr:Room k X.A)(hx:Passes (f7 X.prog X.w cv) X (L3.EX cv Xw))(h:PE X (.Name y p) (fE i))
 (ht:eval (.Call (.Attribute (.Name y p) x v6) [] [] pos) X.env=(do
  let ov<-eval (.Name y p) X.env
  W0 v6.atName
  let (f,first)<-holding [ov] (Wc ov x pl)
  W3 pos f first (UM pos (Tq [] X.env)) (Vg pos (Ux [] X.env))):=by rfl):
 PX X Xw (.Call (.Attribute (.Name y p) x v6) [] [] pos) (fV C i x 0 g aN):=by
 obtain⟨f,fd,ps,hc,hm,hb,hF⟩:=F;refine λu8 ZQ=>PE.weak (rm h hc hm hF hr hb .nil hx ht) λσ H Q ⟨F,ρ,s,w⟩=>?_;unfold fV at w
 dsimp only at w
 split at w
 ·rename_i a o ho;obtain⟨h1,h2,h3⟩:=s.ok.st.ob ho;obtain⟨dx,gs,q1,q2,q3,q4⟩:=h2.foot;split at w
  ·rename_i nj;exact⟨.ref a,h1,a,dx,gs,rfl,by rw[q1,h3],q3.no nj,F,o,[],a,[],rfl,s.ok.st.fh,h3,h2,rfl,rfl,yH s (f_ ho).1 (show _/\_ from w).2⟩
  ·exact w.elim
 ·exact w.elim
def MakeM(P:T3)(w:World)(K:Ti)(mg:Str->Option Value)(base:Heap)(cv:Nat->Value)(k:Nat)(C:Addr)(x:Str)(m:Nat)(g:Addr->Ob->List D->M (D×Ob)):Prop:=
 ∃f fd ps,Mk K C f/\mg x=some (.ref C)/\Binds K fd ps []/\FnOk P w K mg base (f7 P w cv) k f fd ps (PJ K cv C m g)
def Bz(C:Addr)(m:Nat)(g:Addr->Ob->List D->M (D×Ob))(δs:DA):XE:=⟨λρ Q=>match δs ρ with
 |none=>False
 |some (.ex n)=>Q (.ex n ρ)
 |some (.ok ds)=>ds.length=m/\∀a,match g a ⟨C,[]⟩ ds with
  |none=>False
  |some (.ok (d,o'))=>d= .non/\Q (.val (.ob a o') ρ)
  |some (.ex n)=>Q (.ex n ρ),λρ P Q k h=>by
 match δs ρ,h with
 |some (.ex n),h=>exact k _ h
 |some (.ok ds),h=>
  refine⟨h.1,λa=>?_⟩;have h:=h.2 a
  match g a ⟨C,[]⟩ ds,h with
  |some (.ok (d,o')),h=>exact⟨h.1,k _ h.2⟩
  |some (.ex n),h=>exact k _ h⟩
def Bd{g:Addr->Ob->List D->M (D×Ob)}(F:MakeM X.prog X.w X.K X.mg X.base cv k C x m g)(hr:Room (k+1) X.A)(hx:Passes (f7 X.prog X.w cv) X (L3.EX cv Xw))(hg:Gl X x)(ha:lz X Xw (e::es) δs)
 (lN:(x==("__debug__":Str))=false:=by decide)(he:Tq (e::es) X.env=(false,eval e X.env)::Tq es X.env:=by rfl)(iX:(UM pos (Tq es X.env)).any (·.1)=false:=by rfl):
 PX X Xw (.Call (.Name x p) (e::es) [] pos) (Bz C m g δs):=by
 obtain⟨f,fd,ps,hM,hm,hb,hF⟩:=F;refine λu8 ZQ=>PE.weak (Hy hM hF hr hg hm hb .nil hx ha lN he iX) λσ H Q ⟨F,ρ,s,w⟩=>?_;have w:(match δs ρ with
  |none=>False
  |some (.ex n)=>eD X.K Xw u8 ZQ σ Q (.ex n ρ)
  |some (.ok ds)=>ds.length=m/\∀a,match g a ⟨C,[]⟩ ds with
   |none=>False
   |some (.ok (d,o'))=>d= .non/\eD X.K Xw u8 ZQ σ Q (.val (.ob a o') ρ)
   |some (.ex n)=>eD X.K Xw u8 ZQ σ Q (.ex n ρ)):=w
 refine⟨F,ρ,s.ok.st,?_⟩
 match δs ρ,w with
 |some (.ex n),w=>exact λF' H' e'=>w F' H' (s.ext' e')
 |some (.ok ds),w=>
  intro vs H2 F2 e2 r2 a dx Nv Nz iM;have s2:=s.ext' e2;have na:F2 a=none:=Same.free s2.ok.st.fh Nv;have NP:F2 dx=none:=Same.free s2.ok.st.fh Nz;have hl:∀b,b≠a->b≠dx->upd (upd H2 dx (.own a)) a (.ins C dx []) b=H2 b:=λb h1 h2=>by rw[aj h1,aj h2]
  have fH:Same F2 (upd (upd H2 dx (.own a)) a (.ins C dx [])):=λb u q=>by
   rw[hl b (λz=>by rw[z,na] at q;cases q) (λz=>by rw[z,NP] at q;cases q)];exact s2.ok.st.fh b u q
  have ft:aW (upd (upd H2 dx (.own a)) a (.ins C dx [])) ⟨C,[]⟩ a=[a,dx]:=by unfold aW;rw[ar];rfl
  have Sn:ObAt X.K F2 (upd (upd H2 dx (.own a)) a (.ins C dx [])) ⟨C,[]⟩ a:=⟨⟨dx,[],ar,by rw[aj iM,ar],rfl⟩,λb hb=>by
   rw[ft] at hb;rcases Tz.mp hb with rfl | hb
   ·exact na
   ·rw[TQ.mp hb];exact NP,by rw[ft];simp[Vh iM]⟩
  have Oe:∀{F' H':Hp}{o':Ob},ObStep X.K F2 (upd (upd H2 dx (.own a)) a (.ins C dx [])) ⟨C,[]⟩ a F' H' o'->Ext F2 H2 F' H'/\∀b∈aW H' o' a,H2 b=none:=λ{F' H' o'} t=>by
   have nn:∀b,H2 b≠none->b≠a/\b≠dx/\b∉aW (upd (upd H2 dx (.own a)) a (.ins C dx [])) ⟨C,[]⟩ a:=λb hb=>by
    have h1:b≠a:=λz=>hb (by rw[z];exact Nv);have h2:b≠dx:=λz=>hb (by rw[z];exact Nz);exact⟨h1,h2,by rw[ft];simp[h1,h2]⟩
   refine⟨⟨λb u q=>?_,t.ff,t.fh,λb hb=>?_⟩,λb hb=>?_⟩
   ·obtain⟨h1,h2,h3⟩:=nn b (by rw[q];exact λz=>nomatch z);exact t.hh b u h3 (by rw[hl b h1 h2];exact q)
   ·obtain⟨h1,h2,h3⟩:=nn b hb;have:=t.new b h3 (by rw[hl b h1 h2];exact hb);rw[hl b h1 h2] at this;exact this
   ·rcases t.foot b hb with q | q
    ·rw[ft] at q;rcases Tz.mp q with rfl | q
     ·exact Nv
     ·rw[TQ.mp q];exact Nz
    ·by_cases h1:b=a
     ·rw[h1];exact Nv
     ·by_cases h2:b=dx
      ·rw[h2];exact Nz
      ·rw[hl b h1 h2] at q;exact q
  refine⟨F2,⟨C,[]⟩,ds,a,vs++[],rfl,fH,rfl,Sn,by rw[T_];exact r2,by rw[T_,<-r2.len];exact w.1,?_⟩;have w2:=w.2 a
  match g a ⟨C,[]⟩ ds,w2 with
  |some (.ok (d,o')),w2=>exact λv F' H' t q=>⟨by rw[w2.1] at q;exact q,w2.2 (.ref a) F' H' (s2.consOb (Oe t).1 t.ob (Oe t).2)⟩
  |some (.ex n),w2=>exact λF' H' t=>⟨n,rfl,w2 F' H' (s2.ext' (Oe t).1)⟩
end
def bB(n:Nat)(a:Addr)(o:Ob)(ds:List D):aM:=some (.ob a o)::(ds.map (λd=>some (Sl.fz d))++TH (n - (ds.length+1)) none)
def kT{n i:Nat}{a:Addr}{o:Ob}{ds:List D}{sl:Sl}(e:(bB n a o ds)[i]? =some (some sl)):(i=0/\sl= .ob a o)\/∃j d,i=j+1/\ds[j]? =some d/\sl= .fz d:=by
 cases i with
 |zero=>cases e;exact .inl ⟨rfl,rfl⟩
 |succ j=>
  have e:(ds.map (λd=>some (Sl.fz d))++TH (n - (ds.length+1)) none)[j]? =some (some sl):=by simpa[bB] using e
  by_cases hj:j<ds.length
  ·rw[TF (by simpa using hj),Tx] at e;cases q:ds[j]? with
   |none=>rw[q] at e;cases e
   |some d=>rw[q] at e;cases e;exact .inr ⟨j,d,rfl,q,rfl⟩
  ·rw[TR (by simpa using hj),Um] at e;split at e<;>cases e
section
variable{K:Ti}{F H:Hp}
def FE{N:List Str}{ws:List V}{a:Addr}:(L2.start N (.ref a::ws))[0]? =some (some (.ref a)):=by unfold L2.start;rfl
def nQ{N:List Str}{a:Addr}{o:Ob}{ds:List D}{ws:List V}(fh:Same F H)(ho:ObAt K F H o a)(hd:DenL K F ds ws):StE K F H (L2.start N (.ref a::ws)) (bB N.length a o ds):=⟨fh,λi sl e=>by
 rcases kT e with⟨rfl,rfl⟩ | ⟨j,d,rfl,q,rfl⟩
 ·exact⟨.ref a,FE,rfl,ho⟩
 ·obtain⟨v,e1,e2⟩:=hd.get q;have hj:=(To.mp e1).1;refine⟨v,?_,e2⟩;unfold L2.start;rw[Ts,VH,T4,TF (by simpa using hj),Tx,e1];rfl⟩
def tO{N:List Str}{a:Addr}{o:Ob}{ds:List D}{ws:List V}(hd:DenL K F ds ws):(bB N.length a o ds).length=(L2.start N (.ref a::ws)).length:=by
 have:=hd.len;unfold bB L2.start;simp only[Tn,Tt,Te,U1];omega
def less(H:Hp)(o:Ob)(a:Addr):Hp:=λb=>if b∈aW H o a then none else H b
def CQ{N:List Str}{a:Addr}{o:Ob}{ds:List D}{ws:List V}(fh:Same F H)(ho:ObAt K F H o a)(hd:DenL K F ds ws):StX K F (less H o a) F H (L2.start N (.ref a::ws)) (bB N.length a o ds):=by
 have zero:∀{i:Nat}{sl:Sl}{v:V}{b:Addr},(bB N.length a o ds)[i]? =some (some sl)->b∈sl.foot H v->i=0:=λ{i sl v b} e hb=>by
  rcases kT e with⟨h,_⟩ | ⟨j,d,_,_,rfl⟩
  ·exact h
  ·cases hb
 refine⟨⟨⟨λb u e=>?_,Same.refl _,fh,λb hb=> .inl rfl⟩,nQ fh ho hd,tO hd,λi c b e=>?_,λi j sl fG v v' b e1 e2 _ _ h5 h6=>by rw[zero e1 h5,zero e2 h6]⟩,λi a' o' b e hb=>?_⟩
 ·unfold less at e;split at e
  ·cases e
  ·exact e
 ·rcases kT e with⟨_,z⟩ | ⟨_,_,_,_,z⟩<;>cases z
 ·rcases kT e with⟨_,z⟩ | ⟨_,_,_,_,z⟩
  ·cases z;unfold less;rw[Zn hb]
  ·cases z
def StX.done{o o':Ob}{a:Addr}{F' H':Hp}{σ:St}{ρ:aM}(s:StX K F (less H o a) F' H' σ ρ){i:Nat}(h:ρ[i]? =some (some (.ob a o'))):ObStep K F H o a F' H' o' where
 hh:=λb u nb e=>s.ok.ext.hh b u (by unfold less;rw[Zo nb];exact e)
 ff:=s.ok.ext.ff
 fh:=s.ok.st.fh
 new:=λb nb hb=>by
  have e:less H o a b=H b:=by unfold less;rw[Zo nb]
  have:=s.ok.ext.new b (by rw[e];exact hb);rw[e] at this;exact this
 ob:=(s.at h).2
 foot:=λb hb=>by
  have:=s.obn i a o' b h hb;unfold less at this;split at this
  ·rename_i q;exact .inl q
  ·exact .inr this
end
section
variable{P:T3}{w:World}{K:Ti}{mg:Str->Option Value}{base:Heap}{cv:Nat->Value}{k:Nat}{f C:Addr}{fd:Vz}{N ps:List Str}
def LF{x qual:Str}{st:Stmt}{e:Expr}{pos:Pos}{δ:DE}(Fn:Fun K x qual st f fd)(S:FnScope N ps (ag st))(hb:aB st=[.Return (some e) pos])
 (bX:∀(bT:Value) (A:Uu) (outer:List Env) (s:Tp) (H:Hp) (E:XK),Room k (A.deeper (VB qual (ag st) s.heap.objs.size f bT))->
  PD (eC (f7 P w cv) P w K mg base N qual (ag st) f bT A outer s H E) (λn H'=>E (cv n) none H') e δ) (m:Nat) (hm:ps.length=m+1):FnOk P w K mg base (f7 P w cv) (k+1) f fd ps (NV K cv C m λa o ds=>δ (bB N.length a o ds)):=by
 obtain⟨oc,od,kV,doc,pm,an,bT,ct,A0,rfl,lk,sj⟩:=Fn.ex;refine qo lk sj S (λvs H Q E ⟨_,_,_,_,ws,h1,_,_,_,_,hl,_⟩=>by rw[h1,Tn,hl,hm]) λA outer s H vs Q E hr wB=>?_;obtain⟨F,o,ds,a,ws,rfl,fh,hc,ho,hd,hl,hw⟩:=wB;rw[hb];exact⟨_,pU (vI (bX bT A outer s H E hr)),F,_,nQ fh ho hd,hw⟩
def LG{x y qual:Str}{st:Stmt}{e e':Expr}{pos pos' vH:Pos}{δ δ':DE}{i:Nat}(Fn:Fun K x qual st f fd)(S:FnScope N ps (ag st))(hb:aB st=[.Assign [.Name y vH] e' pos', .Return (some e) pos])
 (bX:∀(bT:Value) (A:Uu) (outer:List Env) (s:Tp) (H:Hp) (E:XK),Room k (A.deeper (VB qual (ag st) s.heap.objs.size f bT))->
  pJ (eC (f7 P w cv) P w K mg base N qual (ag st) f bT A outer s H E) (λn H'=>E (cv n) none H') (.Assign [.Name y vH] e' pos') (da i δ')/\PD (eC (f7 P w cv) P w K mg base N qual (ag st) f bT A outer s H E) (λn H'=>E (cv n) none H') e δ) (m:Nat) (hm:ps.length=m+1):
 FnOk P w K mg base (f7 P w cv) (k+1) f fd ps (NV K cv C m λa o ds=>δ' (bB N.length a o ds)>>=λd=>δ ((bB N.length a o ds).set i (some (.fz d)))):=by
 obtain⟨oc,od,kV,doc,pm,an,bT,ct,A0,rfl,lk,sj⟩:=Fn.ex;refine qo lk sj S (λvs H Q E ⟨_,_,_,_,ws,h1,_,_,_,_,hl,_⟩=>by rw[h1,Tn,hl,hm]) λA outer s H vs Q E hr wB=>?_;obtain⟨F,o,ds,a,ws,rfl,fh,hc,ho,hd,hl,hw⟩:=wB;rw[hb];obtain⟨b1,b2⟩:=bX bT A outer s H E hr;refine⟨_,rp (b1 F H) (pU (vI b2)),F,bB N.length a o ds,⟨Ext.refl fh,nQ fh ho hd,tO hd,λi c b e=>?_,λi j sl fG v v' b e1 e2 _ _ h5 h6=>?_⟩,?_⟩
 ·rcases kT e with⟨_,z⟩ | ⟨_,_,_,_,z⟩<;>cases z
 ·have zero:∀{i:Nat}{sl:Sl}{v:V},(bB N.length a o ds)[i]? =some (some sl)->b∈sl.foot H v->i=0:=λ{i sl v} e hb=>by
   rcases kT e with⟨h,_⟩ | ⟨j,d,_,_,rfl⟩
   ·exact h
   ·cases hb
  rw[zero e1 h5,zero e2 h6]
 ·have hw:WP K (λn H'=>E (cv n) none H') F H (δ' (bB N.length a o ds)>>=λd=>δ ((bB N.length a o ds).set i (some (.fz d)))) Q:=hw;show WPS K (λn H'=>E (cv n) none H') F H (δ' (bB N.length a o ds)>>=λd=>aa (.nx ((bB N.length a o ds).set i (some (.fz d))))) _
  match δ' (bB N.length a o ds),hw with
  |none,hw=>exact hw
  |some (.ex n),hw=>exact λF' H' e'=>hw F' H' e'
  |some (.ok d),hw=>exact λσ' F' H' s'=>⟨F',_,s'.st,WP.ext s'.ext (show WP K _ F H (δ ((bB N.length a o ds).set i (some (.fz d)))) Q from hw)⟩
def LD{x qual:Str}{st:Stmt}{τ:XS}{g:Addr->Ob->List D->M (D×Ob)}(Fn:Fun K x qual st f fd)(S:FnScope N ps (ag st))
 (bX:∀(bT:Value) (A:Uu) (outer:List Env) (s:Tp) (H:Hp) (E:XK),Room k (A.deeper (VB qual (ag st) s.heap.objs.size f bT))->
  PXSs (eC (f7 P w cv) P w K mg base N qual (ag st) f bT A outer s H E) (λn H'=>E (cv n) none H') (aB st) τ) (m:Nat) (hm:ps.length=m+1)
 (hg:∀(a:Addr) (o:Ob) (ds:List D),o.c=C->ds.length=m->match g a o ds with
  |none=>True
  |some (.ok (d,o'))=>τ.f (bB N.length a o ds) λx=>∃(ρ:aM) (i:Nat),ρ[i]? =some (some (Sl.ob a o'))/\(x= .rt (.fz d) ρ\/(d= .non/\x= .nx ρ))
  |some (.ex n)=>τ.f (bB N.length a o ds) λx=>∃(ρ:aM) (i:Nat),ρ[i]? =some (some (Sl.ob a o))/\x= .ex n ρ):FnOk P w K mg base (f7 P w cv) (k+1) f fd ps (PJ K cv C m g):=by
 obtain⟨oc,od,kV,doc,pm,an,bT,ct,A0,rfl,lk,sj⟩:=Fn.ex;refine qo lk sj S (λvs H Q E ⟨_,_,_,_,ws,h1,_,_,_,_,hl,_⟩=>by rw[h1,Tn,hl,hm]) λA outer s H vs Q E hr wB=>?_;obtain⟨F,o,ds,a,ws,rfl,fh,hc,ho,hd,hl,hw⟩:=wB;refine⟨_,bX bT A outer s H E hr F (less H o a),F,_,CQ fh ho hd,?_⟩;have hg:=hg a o ds hc (hd.len.trans hl);generalize g a o ds=r at hg hw
 match r,hg,hw with
 |some (.ok (d,o')),hg,hw=>
  refine τ.mono _ _ _ (λx hx=>?_) hg;obtain⟨ρ,i,h1,h2⟩:=hx;rcases h2 with rfl | ⟨rfl,rfl⟩
  ·exact λv σ' F' H' t=>hw v F' H' (t.tail.done h1) (by obtain⟨u,q1,q2⟩:=t.ok.st.den 0 _ rfl;cases q1;exact q2)
  ·exact λσ' F' H' t=>hw .non F' H' (t.done h1) rfl
 |some (.ex n),hg,hw=>
  refine τ.mono _ _ _ (λx hx=>?_) hg;obtain⟨ρ,i,h1,rfl⟩:=hx;exact λσ' F' H' t=>hw F' H' (t.done h1)
end
def gz(f:Str)(x:Fv):List (Str×Fv)->List (Str×Fv)
 |[]=>[(f,x)]
 |(g,y)::r=>if g=f then(g,x)::r else(g,y)::gz f x r
def vS:Fv->V->List Addr
 | .ow _, .ref b=>[b]
 |_,_=>[]
def fY(n m:Str)(x:Fv)(v:V)(fs:List (Str×Fv))(gs:List (Str×V)):bK ((n,x)::fs) ((m,v)::gs)=vS x v++bK fs gs:=by
 cases x with
 |fz d=>cases v<;>rfl
 |ow l=>cases v<;>rfl
section
variable{K:Ti}{F H:Hp}
theorem FsAt.put{x:Fv}{v:V}{f:Str}(hx:Ge K F H x v):∀{fs:List (Str×Fv)}{gs:List (Str×V)},FsAt K F H fs gs->FsAt K F H (gz f x fs) (ek f v gs)
 |[],_,h=>by cases (show _=_ from h);exact⟨v,[],rfl,hx,rfl⟩
 |(n,y)::fs,_,⟨u,r,h1,h2,h3⟩=>by
  subst h1;unfold gz ek;by_cases q:n=f
  ·rw[Zn q,Zn q];exact⟨v,r,rfl,hx,h3⟩
  ·rw[Zo q,Zo q];exact⟨u,_,rfl,h2,FsAt.put hx h3⟩
theorem oC{x:Fv}{v:V}{f:Str}:∀{fs:List (Str×Fv)}{gs:List (Str×V)},FsAt K F H fs gs->(∀b∈bK (gz f x fs) (ek f v gs),b∈vS x v\/b∈bK fs gs)/\((∀b∈vS x v,b∉bK fs gs)->(bK fs gs).Nodup->(vS x v).Nodup->(bK (gz f x fs) (ek f v gs)).Nodup)
 |[],_,h=>by
  cases (show _=_ from h);have e:bK (gz f x []) (ek f v [])=vS x v++[]:=fY f f x v [] [];rw[e,T_];exact⟨λb hb=> .inl hb,λ_ _ h=>h⟩
 |(n,y)::fs,_,⟨u,r,h1,h2,h3⟩=>by
  subst h1;unfold gz ek;rw[fY];by_cases q:n=f
  ·rw[Zn q,Zn q,fY];refine⟨λb hb=>?_,λk1 k2 k3=>?_⟩
   ·rcases Ud.mp hb with z | z
    ·exact .inl z
    ·exact .inr (TL _ z)
   ·exact UI.mpr ⟨k3,(UI.mp k2).2.1,λb hb c hc e=>k1 b hb (TL _ (e▸hc))⟩
  ·rw[Zo q,Zo q,fY];obtain⟨i1,i2⟩:=oC (x:=x) (v:=v) (f:=f) h3;refine⟨λb hb=>?_,λk1 k2 k3=>?_⟩
   ·rcases Ud.mp hb with z | z
    ·exact .inr (Vj _ z)
    ·rcases i1 b z with z | z
     ·exact .inl z
     ·exact .inr (TL _ z)
   ·obtain⟨n1,n2,n3⟩:=UI.mp k2;refine UI.mpr ⟨n1,i2 (λb hb z=>k1 b hb (TL _ z)) n2 k3,λb hb c hc e=>?_⟩;rcases i1 c hc with z | z
    ·exact k1 c z (Vj _ (e▸hb))
    ·exact n3 b hb c z e
theorem ObAt.put{o:Ob}{a dx:Addr}{gs:List (Str×V)}{x:Fv}{v:V}{f:Str}(h:ObAt K F H o a)(ha:H a=some (.ins o.c dx gs)){H1:Hp}(hk:∀b∈aW H o a,H1 b=H b)(hx:Ge K F H1 x v)(hr:∀b∈vS x v,H b=none/\F b=none)(hn:(vS x v).Nodup)(hh:∀b u,H b=some u->H1 b=some u)(fh:Same F H1):
 ObStep K F H o a F (upd H1 a (.ins o.c dx (ek f v gs))) {o with fs:=gz f x o.fs}:=by
 obtain⟨Nm,SX,q1,q2,q3,q4⟩:=h.foot;rw[ha] at q1;cases q1;have nd:=h.nd;rw[q4] at nd;obtain⟨n1,n2⟩:=Ul.mp nd;obtain⟨n3,n4⟩:=Ul.mp n2;have iM:dx≠a:=λz=>n1 (z▸Th ..);have cell:=h.cell;have r1:∀b∈vS x v,b∉aW H o a:=λb hb q=>by
  obtain⟨u,e,_⟩:=cell b q;rw[(hr b hb).1] at e;cases e
 obtain⟨p1,p2⟩:=oC (x:=x) (v:=v) (f:=f) q3;have fA:F a=none:=h.nf a (by rw[q4];exact Th ..);have ft:aW (upd H1 a (.ins o.c dx (ek f v gs))) {o with fs:=gz f x o.fs} a=a::dx::bK (gz f x o.fs) (ek f v gs):=by unfold aW;rw[ar]
 have sub:∀b∈bK (gz f x o.fs) (ek f v gs),b∈vS x v\/b∈bK o.fs gs:=p1;have na:∀b∈bK (gz f x o.fs) (ek f v gs),b≠a:=λb hb z=>by
  rcases sub b hb with q | q
  ·exact r1 b q (by rw[q4,z];exact Th ..)
  ·exact n1 (z▸Tf _ q)
 have NP:dx∉bK (gz f x o.fs) (ek f v gs):=λhb=>by
  rcases sub dx hb with q | q
  ·exact r1 dx q (by rw[q4];exact Tf _ (Th ..))
  ·exact n3 q
 have nn:(bK (gz f x o.fs) (ek f v gs)).Nodup:=p2 (λb hb q=>r1 b hb (by rw[q4];exact Tf _ (Tf _ q))) n4 hn;have Su:FsAt K F H1 o.fs gs:=q3.move (Same.refl _) λb hb=>hk b (by rw[q4];exact Tf _ (Tf _ hb));refine⟨λb u nb e=>?_,Same.refl _,λb u e=>?_,λb _ _=> .inl rfl,⟨⟨dx,_,ar,?_,?_⟩,?_,?_⟩,?_⟩
 ·rw[aj (λz=>nb (by rw[z,q4];exact Th ..))];exact hh b u e
 ·rw[aj (λz=>by rw[z,fA] at e;cases e)];exact fh b u e
 ·rw[aj iM,hk dx (by rw[q4];exact Tf _ (Th ..))];exact q2
 ·exact(FsAt.put hx Su).move (Same.refl _) λb hb=>aj (na b hb)
 ·intro b hb;rw[ft] at hb;rcases Tz.mp hb with rfl | hb
  ·exact fA
  ·rcases Tz.mp hb with rfl | hb
   ·exact h.nf b (by rw[q4];exact Tf _ (Th ..))
   ·rcases sub b hb with q | q
    ·exact(hr b q).2
    ·exact h.nf b (by rw[q4];exact Tf _ (Tf _ q))
 ·rw[ft];refine Ul.mpr ⟨λq=>?_,Ul.mpr ⟨NP,nn⟩⟩;rcases Tz.mp q with z | z
  ·exact iM z.symm
  ·exact na a z rfl
 ·intro b hb;rw[ft] at hb;rcases Tz.mp hb with rfl | hb
  ·exact .inl (by rw[q4];exact Th ..)
  ·rcases Tz.mp hb with rfl | hb
   ·exact .inl (by rw[q4];exact Tf _ (Th ..))
   ·rcases sub b hb with q | q
    ·exact .inr (hr b q).1
    ·exact .inl (by rw[q4];exact Tf _ (Tf _ q))
end
def cq(o:Ob)(f:Str)(x:Fv):Ob:={o with fs:=gz f x o.fs}
def gZ(C:Addr)(i:Nat)(f:Str)(δ:DE):XS:=⟨λρ Q=>match δ ρ with
 |none=>False
 |some (.ex n)=>Q (.ex n ρ)
 |some (.ok d)=>match bu ρ i C with
  |some (a,o)=>o.fs.length<100/\Q (.nx (ρ.set i (some (.ob a (cq o f (.fz d))))))
  |none=>False,λρ P Q k h=>by
 match δ ρ,h with
 |some (.ex n),h=>exact k _ h
 |some (.ok d),h=>
  have h:(match bu ρ i C with | some (a,o)=>o.fs.length<100/\P (.nx (ρ.set i (some (.ob a (cq o f (.fz d)))))) | none=>False):=h;show (match bu ρ i C with | some (a,o)=>o.fs.length<100/\Q (.nx (ρ.set i (some (.ob a (cq o f (.fz d)))))) | none=>False)
  match bu ρ i C,h with
  |some (a,o),h=>exact⟨h.1,k _ h.2⟩⟩
def Ij(C:Addr)(i:Nat)(f:Str)(δs:DA):XS:=⟨λρ Q=>match δs ρ with
 |none=>False
 |some (.ex n)=>Q (.ex n ρ)
 |some (.ok ds)=>match bu ρ i C with
  |some (a,o)=>o.fs.length<100/\ds.length<=lim/\Q (.nx (ρ.set i (some (.ob a (cq o f (.ow ds))))))
  |none=>False,λρ P Q k h=>by
 match δs ρ,h with
 |some (.ex n),h=>exact k _ h
 |some (.ok ds),h=>
  have h:(match bu ρ i C with | some (a,o)=>o.fs.length<100/\ds.length<=lim/\P (.nx (ρ.set i (some (.ob a (cq o f (.ow ds)))))) | none=>False):=h;show (match bu ρ i C with | some (a,o)=>o.fs.length<100/\ds.length<=lim/\Q (.nx (ρ.set i (some (.ob a (cq o f (.ow ds)))))) | none=>False)
  match bu ρ i C,h with
  |some (a,o),h=>exact⟨h.1,h.2.1,k _ h.2.2⟩⟩
def Ii(C:Addr)(i:Nat)(f:Str)(δ:DE):XS:=⟨λρ Q=>match bu ρ i C with
 |none=>False
 |some (a,o)=>match o.fs.lookup f with
  |some (.ow ds)=>(match δ ρ with
   |none=>False
   |some (.ex n)=>Q (.ex n ρ)
   |some (.ok d)=>ds.length<lim/\Q (.nx (ρ.set i (some (.ob a (cq o f (.ow (ds++[d]))))))))
  |_=>False,λρ P Q k h=>by
 match bu ρ i C,h with
 |some (a,o),h=>
  have h:(match o.fs.lookup f with | some (.ow ds)=>(match δ ρ with | none=>False | some (.ex n)=>P (.ex n ρ) | some (.ok d)=>ds.length<lim/\P (.nx (ρ.set i (some (.ob a (cq o f (.ow (ds++[d])))))))) | _=>False):=h;show (match o.fs.lookup f with | some (.ow ds)=>(match δ ρ with | none=>False | some (.ex n)=>Q (.ex n ρ) | some (.ok d)=>ds.length<lim/\Q (.nx (ρ.set i (some (.ob a (cq o f (.ow (ds++[d])))))))) | _=>False)
  match o.fs.lookup f,h with
  |some (.ow ds),h=>
   match δ ρ,h with
   |some (.ex n),h=>exact k _ h
   |some (.ok d),h=>exact⟨h.1,k _ h.2⟩⟩
section
variable{K:Ti}
theorem FsAt.len{F H:Hp}:∀{fs:List (Str×Fv)}{gs:List (Str×V)},FsAt K F H fs gs->gs.length=fs.length
 |[],_,h=>by cases (show _=_ from h);rfl
 |_::fs,_,⟨_,r,h1,_,h3⟩=>by subst h1;rw[Tn,Tn,FsAt.len h3]
end
section
variable{X:Cx}{Xw:Nat->Hp->Prop}{C:Addr}{i:Nat}{x f:Str}{p pos v6:Pos}{e:Expr}{δ:DE}
def fc(c:Cls X.K C)(n:NoAttr X.K C f)(h:PE X (.Name x p) (fE i))(he:PD X Xw e δ)(hs:VL e (some (.Attribute (.Name x p) f v6)) pos.line X.env=pure false:=by rfl):wH X Xw (.Assign [.Attribute (.Name x p) f v6] e pos) (gZ C i f δ):=λu8 ZQ=>PS.weak (Kx h he hs) λD σ H ⟨F,ρ,s,w⟩=>by
 have w:(match δ ρ with
  |none=>False
  |some (.ex n)=>gJ X.K Xw u8 ZQ D (.ex n ρ)
  |some (.ok d)=>match bu ρ i C with
   |some (a,o)=>o.fs.length<100/\gJ X.K Xw u8 ZQ D (.nx (ρ.set i (some (.ob a (cq o f (.fz d))))))
   |none=>False):=w
 refine⟨F,ρ,s.ok.st,?_⟩
 match δ ρ,w with
 |some (.ex n),w=>exact λF' H' e'=>w σ F' H' (s.ext' e')
 |some (.ok d),w=>
  intro v H1 F1 e1 q;have s1:=s.ext' e1
  match ho:bu ρ i C,w with
  |some (a,o),w=>
   obtain⟨h1,h2,h3⟩:=s1.ok.st.ob ho;obtain⟨dx,gs,q1,q2,q3,q4⟩:=h2.foot;have st:=ObAt.put (f:=f) (x:= .fz d) (v:=v) (H1:=H1) h2 q1 (λ_ _=>rfl) q (λb hb=>by cases v<;>cases hb) (by cases v<;>exact Ws) (λ_ _ e=>e) s1.ok.st.fh;refine⟨.ref a,h1,a,C,dx,gs,rfl,by rw[q1,h3],c,n,by rw[q3.len];omega,?_⟩;have:=w.2 σ F1 _ (s1.step (f_ ho).1 st);rw[h3] at this;exact this
end
def MethAt(K:Ti)(C:Addr)(x qual:Str)(st:Stmt)(f:Addr):Prop:=Cls K C/\Meth K C x f/\∃fd,Fun K x qual st f fd
def yQ(K:Ti)(mg:Str->Option Value)(C:Addr)(x qual:Str)(st:Stmt)(f:Addr):Prop:=Mk K C f/\mg x=some (.ref C)/\∃fd,Fun K "__init__" qual st f fd
section
variable{P:T3}{w:World}{K:Ti}{mg:Str->Option Value}{base:Heap}{cv:Nat->Value}{k m:Nat}{f C:Addr}{N ps:List Str}{x y qual:Str}{st:Stmt}{e e':Expr}{pos pos' vH:Pos}{δ δ':DE}{i:Nat}
def mi(T:MethAt K C x qual st f)(S:FnScope N ps (ag st))(hm:ps.length=m+1)
 (zm:∀(kV doc pm:Value) (an:Option Addr) (bT ct:Value) (us:List Value),us.length=ps.length->WJ (Uj x qual (aS st) (aB st) (ag st) .none kV doc pm an bT ct) ⟨us,[]⟩=pure (ps.zip us))
 (hb:aB st=[.Return (some e) pos])
 (bX:∀(bT:Value) (A:Uu) (outer:List Env) (s:Tp) (H:Hp) (E:XK),Room k (A.deeper (VB qual (ag st) s.heap.objs.size f bT))->
  PD (eC (f7 P w cv) P w K mg base N qual (ag st) f bT A outer s H E) (λn H'=>E (cv n) none H') e δ):cR P w K mg base cv (k+1) C x m λa o ds=>δ (bB N.length a o ds):=by
 obtain⟨h1,h2,fd,Fn⟩:=T;exact⟨f,fd,ps,h1,h2,Fn.binds zm,LF Fn S hb bX m hm⟩
def tT(T:MethAt K C x qual st f)(S:FnScope N ps (ag st))(hm:ps.length=m+1)
 (zm:∀(kV doc pm:Value) (an:Option Addr) (bT ct:Value) (us:List Value),us.length=ps.length->WJ (Uj x qual (aS st) (aB st) (ag st) .none kV doc pm an bT ct) ⟨us,[]⟩=pure (ps.zip us))
 (hb:aB st=[.Assign [.Name y vH] e' pos', .Return (some e) pos])
 (bX:∀(bT:Value) (A:Uu) (outer:List Env) (s:Tp) (H:Hp) (E:XK),Room k (A.deeper (VB qual (ag st) s.heap.objs.size f bT))->
  pJ (eC (f7 P w cv) P w K mg base N qual (ag st) f bT A outer s H E) (λn H'=>E (cv n) none H') (.Assign [.Name y vH] e' pos') (da i δ')/\PD (eC (f7 P w cv) P w K mg base N qual (ag st) f bT A outer s H E) (λn H'=>E (cv n) none H') e δ):
 cR P w K mg base cv (k+1) C x m λa o ds=>δ' (bB N.length a o ds)>>=λd=>δ ((bB N.length a o ds).set i (some (.fz d))):=by
 obtain⟨h1,h2,fd,Fn⟩:=T;exact⟨f,fd,ps,h1,h2,Fn.binds zm,LG Fn S hb bX m hm⟩
def js(C:Addr)(m n:Nat)(τ:XS)(g:Addr->Ob->List D->M (D×Ob)):Prop:=∀(a:Addr) (o:Ob) (ds:List D),o.c=C->ds.length=m->match g a o ds with
 |none=>True
 |some (.ok (d,o'))=>τ.f (bB n a o ds) λx=>∃(ρ:aM) (i:Nat),ρ[i]? =some (some (Sl.ob a o'))/\(x= .rt (.fz d) ρ\/(d= .non/\x= .nx ρ))
 |some (.ex n')=>τ.f (bB n a o ds) λx=>∃(ρ:aM) (i:Nat),ρ[i]? =some (some (Sl.ob a o))/\x= .ex n' ρ
def qO{τ:XS}{g:Addr->Ob->List D->M (D×Ob)}(T:MethAt K C x qual st f)(S:FnScope N ps (ag st))(hm:ps.length=m+1)
 (zm:∀(kV doc pm:Value) (an:Option Addr) (bT ct:Value) (us:List Value),us.length=ps.length->WJ (Uj x qual (aS st) (aB st) (ag st) .none kV doc pm an bT ct) ⟨us,[]⟩=pure (ps.zip us))
 (hg:js C m N.length τ g)
 (bX:∀(bT:Value) (A:Uu) (outer:List Env) (s:Tp) (H:Hp) (E:XK),Room k (A.deeper (VB qual (ag st) s.heap.objs.size f bT))->
  PXSs (eC (f7 P w cv) P w K mg base N qual (ag st) f bT A outer s H E) (λn H'=>E (cv n) none H') (aB st) τ):lb P w K mg base cv (k+1) C x m g:=by
 obtain⟨h1,h2,fd,Fn⟩:=T;exact⟨f,fd,ps,h1,h2,Fn.binds zm,LD Fn S bX m hm hg⟩
def El{τ:XS}{g:Addr->Ob->List D->M (D×Ob)}(T:yQ K mg C x qual st f)(S:FnScope N ps (ag st))(hm:ps.length=m+1)
 (zm:∀(kV doc pm:Value) (an:Option Addr) (bT ct:Value) (us:List Value),us.length=ps.length->WJ (Uj "__init__" qual (aS st) (aB st) (ag st) .none kV doc pm an bT ct) ⟨us,[]⟩=pure (ps.zip us))
 (hg:js C m N.length τ g)
 (bX:∀(bT:Value) (A:Uu) (outer:List Env) (s:Tp) (H:Hp) (E:XK),Room k (A.deeper (VB qual (ag st) s.heap.objs.size f bT))->
  PXSs (eC (f7 P w cv) P w K mg base N qual (ag st) f bT A outer s H E) (λn H'=>E (cv n) none H') (aB st) τ):MakeM P w K mg base cv (k+1) C x m g:=by
 obtain⟨h1,h2,fd,Fn⟩:=T;exact⟨f,fd,ps,h1,h2,Fn.binds zm,LD Fn S bX m hm hg⟩
def BY:List D->M D
 |[.scr ns]=>if ns.length<=63 then aa (.bl true) else af
 |_=>af
def BZ(ns:List Int)(h:ns.length<=63):BY [.scr ns]=aa (.bl true):=Zn h
def Oh{fd:Vz}{τ:XS}(Fn:Fun K x qual st f fd)(S:FnScope N ps (ag st))(hp:ps.length=1)
 (bX:∀(bT:Value) (A:Uu) (outer:List Env) (s:Tp) (H:Hp) (E:XK),Room k (A.deeper (VB qual (ag st) s.heap.objs.size f bT))->
  PXSs (eC (f7 P w cv) P w K mg base N qual (ag st) f bT A outer s H E) (λn H'=>E (cv n) none H') (aB st) τ)
 (hg:∀ns:List Int,ns.length<=63->τ.f (some (.fz (.scr ns))::TH (N.length - 1) none) λx=>∃ρ,x= .rt (.fz (.bl true)) ρ):FnOk P w K mg base (f7 P w cv) (k+1) f fd ps (KR K cv 1 BY):=by
 obtain⟨oc,od,kV,doc,pm,an,bT,ct,A0,rfl,lk,sj⟩:=Fn.ex;refine qo lk sj S (λvs H Q E ⟨_,_,_,_,hl,_⟩=>hl.trans hp.symm) λA outer s H vs Q E hr wB=>?_;obtain⟨F,ds,fh,hd,hl,hw⟩:=wB;unfold BY at hw;split at hw
 ·rename_i ns;have st:=FD (N:=N) fh hd;split at hw
  ·rename_i Rl;have st:StOk K F H F H (L2.start N vs) (some (.fz (.scr ns))::TH (N.length - 1) none):=st;have stx:StX K F H F H (L2.start N vs) (some (.fz (.scr ns))::TH (N.length - 1) none):=by
    refine⟨st,λi a o b h _=>?_⟩;cases i with
    |zero=>cases h
    |succ i=>
     rw[T4,Um] at h;split at h<;>cases h
   refine⟨_,bX bT A outer s H E hr F H,F,_,stx,τ.mono _ _ _ (λx hx=>?_) (hg ns Rl)⟩;obtain⟨ρ,rfl⟩:=hx;intro v σ' F' H' t;obtain⟨u,q1,q2⟩:=t.ok.st.den 0 _ rfl;cases q1;exact hw v H' F' t.ok.ext q2
  ·exact hw.elim
 ·exact hw.elim
end
section
variable{X:Cx}{Xw:Nat->Hp->Prop}{st:Stmt}{τ:XS}{e:Expr}
def C1(τ:XS):XS:=⟨λρ Q=>τ.f ρ λx=>match x with | .ex _ _=>False | x=>Q x,λρ P Q k h=>τ.mono ρ _ _ (λx hx=>by
 cases x with
 |nx ρ'=>exact k _ hx
 |rt r ρ'=>exact k _ hx
 |ex n ρ'=>exact hx) h⟩
def vM(h:wH X.nox (λ_ _=>False) st τ):wH X Xw st (C1 τ):=λu8 ZQ f8 s σ H D I ⟨F,ρ,S,w⟩=>
 UO (h u8 ZQ f8 s σ H D (I.wish _) ⟨F,ρ,S,τ.mono ρ _ _ (λx hx=>by
  cases x with
  |nx ρ'=>exact hx
  |rt r ρ'=>exact hx
  |ex n ρ'=>exact hx.elim) w⟩) (λf s' q=>SP.unwish q) λ_ _ z=>z.elim
def NY(i:Nat)(τ:XS):XS:=⟨λρ Q=>τ.f (frz i ρ) Q,λρ P Q k h=>τ.mono _ _ _ k h⟩
theorem StX.frz{K:Ti}{u8 ZQ F H:Hp}{σ:St}{ρ:aM}(s:StX K u8 ZQ F H σ ρ)(i:Nat)(obj:Addr->Obj):(∃a o,H a=some o/\DenC K F (ρ[i]?.elim (.lst []) λx=>x.elim (.lst []) λy=>match y with | .ow c=>c | _=> .lst []) o/\σ[i]? =some (some (.ref a))/\StX K u8 ZQ (upd F a (jA (obj a) o)) (upd H a (jA (obj a) o)) σ (L3.frz i ρ))\/L3.frz i ρ=ρ:=by
 by_cases hc:∃c,ρ[i]? =some (some (.ow c))
 ·obtain⟨c0,hi⟩:=hc;rcases s.ok.frz i obj with⟨a,o,h1,h2,h3,h4⟩ | e
  ·refine .inl ⟨a,o,h1,h2,h3,h4,λj b ob x hj hx=>?_⟩;have e:L3.frz i ρ=ρ.set i (some (.fz c0.d)):=by unfold L3.frz;rw[hi]
   rw[e] at hj;by_cases z:j=i
   ·subst z;rw[TY (To.mp hi).1] at hj;cases hj
   ·rw[T5 (Vh z)] at hj;obtain⟨hs,JJ⟩:=s.at hj;obtain⟨dx,gs,f1,f2,f3,f4⟩:=JJ.foot;have RA:b≠a:=λq=>z (s.ok.sep j i (.ob b ob) (.ow c0) (.ref b) (.ref a) b hj hi hs h3 (by show b∈aW H ob b;rw[f4];exact Th) (TQ.mpr q));have:aW (upd H a (jA (obj a) o)) ob b=aW H ob b:=by
     unfold aW;rw[aj RA]
    exact s.obn j b ob x hj (this▸hx)
  ·exact .inr e
 ·refine .inr ?_;unfold L3.frz;split
  ·rename_i c h;exact Zp ⟨c,h⟩ hc
  ·rfl
def Be{i:Nat}(h:wH X Xw st τ):wH X Xw st (NY i τ):=λu8 ZQ f8 sh σ H D I ⟨F,ρ,s,w⟩=>by
 rcases s.frz i (λa=>(sh.heap.get? a).getD {cls:= .none,data:= .fields #[]}) with⟨a,o,ha,hc,hσ,s'⟩ | e
 ·refine h u8 ZQ f8 sh σ _ D (L3.Inv.refrz I ha ?_) ⟨_,_,s',w⟩;generalize (ρ[i]?.elim (C.lst []) λx=>x.elim (.lst []) λy=>match y with | .ow c=>c | _=> .lst [])=c at hc;cases c with
  |lst ds=>obtain⟨vs,rfl,_⟩:=hc;exact .inl rfl
  |dct ks ds=>obtain⟨vs,rfl,_⟩:=hc;exact .inr ⟨_,rfl, .inl ⟨_,rfl,rfl⟩⟩
  |dci ks ds=>obtain⟨vs,rfl,_⟩:=hc;exact .inr ⟨_,rfl, .inr ⟨_,rfl,rfl⟩⟩
 ·exact h u8 ZQ f8 sh σ H D I ⟨F,ρ,s,by have w:τ.f (frz i ρ) _:=w;rw[e] at w;exact w⟩
end
def Nd(lo:Int)(n:Nat):It:=⟨λi _=>i<n,λi H x H'=>H'=H/\x= .int (lo - i),λi _=>n<=i⟩
def CT{P:T3}{w:World}{K:Ti}{tg:Expr}(it:Addr)(lo:Int)(n:Nat):Turn P w K tg (Nd lo n) [it] it (λi h=>YG h it (lo+(i:Nat)*(-1)) ((n:Int) - (i:Nat)) (-1)) where
 mem:=by simp
 obj:=λi h st b hb=>by
  have e:b=it:=by simpa using hb
  subst e;exact⟨_,st,λv z=>by
   have z':UH _=Data.cell v:=z;cases z'⟩
 keep:=λi h h' st k=>k it (by simp) _ st
 item:=by
  intro X hP hw hK hc i f8 s σ H E I hf st hg;subst hP hw hK;obtain⟨f0,f1,f2,f3,f4,f5⟩:=hf it (by simp);have W:=Walks.range (prog:=X.prog) (w:=X.w) (I.ok.hd hc) it lo (-1) n;refine W.item i s _ _ hg st λv h' tk hv mV kk=>?_;obtain⟨t,rfl⟩:=hv;have I1:Inv X f8 σ H {s with heap:=h',toks:=tk}:=I.turned (λb o hb e=>kk b o (by simpa using hb) e) f0 f1 f3 f4 f5;refine⟨_,rfl,qr (s:={s with heap:=h',toks:=tk}) (n:="range_iterator") mV rfl rfl (by decide) ⟨.int (lo - i),H,I1,⟨t,?_⟩,⟨rfl,rfl⟩,mV,λb hb=>(hf b hb).1⟩⟩;rw[show lo+(i:Int)*(-1)=lo - i by omega]
 done:=by
  intro X hP hw hK hc i f8 s σ H E I hf st hg;subst hP hw hK;obtain⟨f0,f1,f2,f3,f4,f5⟩:=hf it (by simp);exact Zd (I.ok.hd hc) st (by have:n<=i:=hg;omega) λh' eb=>⟨rfl,I.turned (t':=s.toks) (λb o hb e=>eb b o hb e) f0 f1 f3 f4 f5⟩
 self:=λ_ _ _ _ _ st h=>Ze st h
section
variable{X:Cx}{tg:Expr}{Xw:Nat->Hp->Prop}{δs:DA}{p pos:Pos}
def Gz{f8:List (Addr×Obj)}{σ:St}{H:Hp}{s:Tp}{R:It->Hp->Prop}{E:Value->Tp->Prop}{lo hi:Int}{t u v:Tok}{tk:Nat}(I:Inv X f8 σ H s)(h1: -(2 ^ 62)<=lo)(h2:lo<2 ^ 62)(h3: -(2 ^ 62)<=hi)(h4:hi<2 ^ 62)
 (q:R (Nd lo (lo - hi).toNat) H):wpAny (model X.prog X.w) X.A (pyIter (.ref s.heap.objs.size)) (N2 X f8 σ tg R) E {s with heap:=s.heap.push {cls:= .type "range",data:= .fields #[.int lo t, .int hi u, .int (-1) v]},toks:=tk}:=by
 refine wpAny_pyIter_range (IsRange.new ..) (PySem.W.small_down h1 h2 h3 h4) ?_;have I1:Inv X f8 σ H {s with heap:=s.heap.push {cls:= .type "range",data:= .fields #[.int lo t, .int hi u, .int (-1) v]},toks:=tk}:=I.kept λb o e=>Tj _ e;refine⟨(s.heap.push {cls:= .type "range",data:= .fields #[.int lo t, .int hi u, .int (-1) v]}).objs.size,[(s.heap.push {cls:= .type "range",data:= .fields #[.int lo t, .int hi u, .int (-1) v]}).objs.size],_,_,H,rfl,
  I1.kept (t':=tk) λb o e=>Tj _ e,CT _ lo (lo - hi).toNat,?_,λb hb=>?_,q⟩
 ·have e1:lo+((0:Nat):Int)*(-1)=lo:=by simp
  have e2:(((lo - hi).toNat:Nat):Int) - ((0:Nat):Int)=XC lo hi (-1):=by rw[PySem.W.rangeSize_downNat];simp
  show YG _ _ (lo+((0:Nat):Int)*(-1)) ((((lo - hi).toNat:Nat):Int) - ((0:Nat):Int)) (-1);rw[e1,e2];exact TM _ rfl
 ·have e:b=(s.heap.push {cls:= .type "range",data:= .fields #[.int lo t, .int hi u, .int (-1) v]}).objs.size:=by simpa using hb
  subst e;exact I1.fpOk (Tr _) (I1.hok.fresh (Tr _))
def Mf(ta:TA):TI:=λσ H R=>ta σ H λvs H1=>∃i j:Int,vs=[.int i, .int j, .int (-1)]/\(-4096<=i/\i<=4096/\ -4096<=j/\j<=4096)/\R (Nd i (i - j).toNat) H1
def CD{a b c:Expr}{ta:TA}(hg:Gl X "range")(hm:X.mg "range"=none)(ha:PA X [a,b,c] ta)(hs:Tq [a,b,c] X.env=[(false,eval a X.env),(false,eval b X.env),(false,eval c X.env)]:=by rfl)(C9:Tq [b,c] X.env=[(false,eval b X.env),(false,eval c X.env)]:=by rfl):
 PI X tg (.Call (.Name "range" p) [a,b,c] [] pos) (Mf ta):=by
 intro f8 s σ H R I h _;refine Call_ (nu I hg hm boot_range (Vn (bQ (ha pos f8 s σ H _ I h) λus s1 ⟨vs,H1,I1,r1,q1⟩=>?_) (by rw[hs,C9]) (by rw[C9];rfl)));obtain⟨i,j,e,⟨q1,q2,q3,q4⟩,q⟩:=q1;subst e;cases r1 with
 |cons r rr=>
  cases rr with
  |cons r' rr=>
   cases rr with
   |cons Sv rr=>
    cases rr;obtain⟨t,rfl⟩:=r;obtain⟨t',rfl⟩:=r';obtain⟨S_,rfl⟩:=Sv;exact call_range_3 (by decide) (Gz I1 (by omega) (by omega) (by omega) (by omega) q) (Or.inl (Yn (by omega)))
def sN(lo:Int)(n:Nat):List D:=(TB n).map λ(i:Nat)=>D.int (lo - (i:Int))
def Bj:List D->M (List D)
 |[.int i, .int j, .int k]=>if (-4096<=i/\i<=4096)/\(-4096<=j/\j<=4096)/\k= -1 then aa (sN i (i - j).toNat) else af
 |_=>af
def Ed{K:Ti}{F:Hp}(lo:Int)(n:Nat):ItD K F (Nd lo n) (sN lo n):=λF' H' i s1 s2=>by
 refine⟨λd e=>?_,λhl=>show n<=i by simpa[sN] using hl⟩;unfold sN at e;rw[Tx] at e;have hi:i<n:=by
  by_cases hi:i<n
  ·exact hi
  ·rw[V0 (by simpa using hi)] at e;cases e
 rw[Vb hi] at e;cases e;refine⟨hi,λx H'' y=>?_⟩;obtain⟨e2,y⟩:=y;subst e2 y;exact⟨F',Ext.refl s2,rfl⟩
def zY{a b c:Expr}(hg:Gl X "range")(hm:X.mg "range"=none)(ha:lz X Xw [a,b,c] δs)(hs:Tq [a,b,c] X.env=[(false,eval a X.env),(false,eval b X.env),(false,eval c X.env)]:=by rfl)
 (C9:Tq [b,c] X.env=[(false,eval b X.env),(false,eval c X.env)]:=by rfl):wG X Xw tg (.Call (.Name "range" p) [a,b,c] [] pos) (λρ=>δs ρ>>=Bj):=
 PI.weak (CD hg hm ha hs C9) λσ H R ⟨F,ρ,s,w⟩=>by
  refine⟨F,ρ,s,WPL.mono (WPI.bindL w) λvs H1 ⟨F1,ds,e1,q1,w1⟩=>?_⟩;unfold Bj at w1;split at w1
  ·rename_i i j k;obtain⟨v,r,h1,h2,h3⟩:=q1;obtain⟨v',SM,h4,h5,h6⟩:=DenL.two h3;cases (show v=_ from h2);cases (show v'=_ from h5);cases (show SM=_ from h6);split at w1
   ·rename_i hb;obtain⟨Qw,Nw,rfl⟩:=hb;exact⟨i,j,by rw[h1,h4],⟨Qw.1,Qw.2,Nw.1,Nw.2⟩,w1 _ _ _ (Ext.refl e1.fh) (Ed i _)⟩
   ·exact w1.elim
  ·exact w1.elim
end
end L3
namespace L3
open PySem PySem.Spec L2 SeqAt HT
open PyProof.Rows hiding St
open PySem.W (Frag Looks findIn mroIn)
def rY(g:D->D->M D)(χ:XE)(δ:DE):XT:=⟨λρ Q=>χ.f ρ λx=>match x with
 | .val (.fz d) ρ'=>(match δ ρ' with | none=>False | some (.ok d2)=>∃b,g d d2=aa (.bl b)/\Q (.val b ρ') | some (.ex n)=>Q (.ex n ρ'))
 | .val _ _=>False
 | .ex n ρ'=>Q (.ex n ρ'),λρ P Q k h=>χ.mono ρ _ _ (λx hx=>by
 match x,hx with
 | .ex n ρ',hx=>exact k _ hx
 | .val (.fz d) ρ',hx=>
   have hx:(match δ ρ' with | none=>False | some (.ok d2)=>∃b,g d d2=aa (.bl b)/\P (.val b ρ') | some (.ex n)=>P (.ex n ρ')):=hx;show (match δ ρ' with | none=>False | some (.ok d2)=>∃b,g d d2=aa (.bl b)/\Q (.val b ρ') | some (.ex n)=>Q (.ex n ρ'))
   match δ ρ',hx with
   |some (.ok d2),⟨b,h1,h2⟩=>exact⟨b,h1,k _ h2⟩
   |some (.ex n),hx=>exact k _ hx) h⟩
def Ak(a b:XT):XT:=⟨λρ Q=>a.f ρ λx=>match x with | .val true ρ'=>Q (.val true ρ') | .val false ρ'=>b.f ρ' Q | .ex n ρ'=>Q (.ex n ρ'),λρ P Q k h=>a.mono ρ _ _ (λx hx=>by
 match x,hx with
 | .val true ρ',hx=>exact k _ hx
 | .val false ρ',hx=>exact b.mono ρ' _ _ k hx
 | .ex n ρ',hx=>exact k _ hx) h⟩
section
variable{X:Cx}{Xw:Nat->Hp->Prop}{a b:Expr}{χ:XE}{δ:DE}{ta tb:XT}{pos:Pos}
def vO{g:D->D->M D}{op:CmpOp}{r:R2}(ho:OpR X (Uy op) r)(hg:wF X.K r g)(ha:PX X Xw a χ)(hb:PD X Xw b δ)(hm:Uz op b=false:=by first | exact vb _ | rfl):Gg X Xw (.Compare a [op] [b] pos) (rY g χ δ):=λu8 ZQ=>
 PT.weak (Bb ho (ha u8 ZQ) hb hm) λσ H Q ⟨F,ρ,s,w⟩=>⟨F,ρ,s,χ.mono ρ _ _ (λx hx=>by
  match x,hx with
  | .ex n ρ',hx=>exact hx
  | .val (.fz d) ρ',hx=>
    intro v F' H' st;have qd:Den X.K F' d v:=by obtain⟨u,q1,q2⟩:=st.ok.st.den 0 _ rfl;cases q1;exact q2
    have st:=st.tail;refine⟨F',ρ',st.ok.st,?_⟩;have hx:(match δ ρ' with | none=>False | some (.ok d2)=>∃b,g d d2=aa (.bl b)/\xk X.K Xw u8 ZQ σ Q (.val b ρ') | some (.ex n)=>xk X.K Xw u8 ZQ σ Q (.ex n ρ')):=hx
    match δ ρ',hx with
    |some (.ex n),hx=>exact λF2 H2 e2=>hx F2 H2 (st.ext' e2)
    |some (.ok d2),⟨c,h1,h2⟩=>
     intro u H2 F2 e2 q2;refine hg Xw F2 H2 v u d d2 _ e2.fh (Den.mono e2.ff qd) q2 ?_;rw[h1];exact λz H3 F3 e3 q3=>⟨c,q3,h2 F3 H3 ((st.ext' e2).ext' e3)⟩) w⟩
def z9(ha:Gg X Xw a ta)(hb:Gg X Xw b tb):Gg X Xw (.BoolOp .Or [a,b] pos) (Ak ta tb):=λu8 ZQ=>PT.weak (Jb (ha u8 ZQ) (Fb (hb u8 ZQ))).pt λσ H Q ⟨F,ρ,s,w⟩=>⟨F,ρ,s,ta.mono ρ _ _ (λx hx=>by
 match x,hx with
 | .val true ρ',hx=>exact λF' H' st=>hx F' H' st
 | .val false ρ',hx=>exact λF' H' st=>⟨F',ρ',st,hx⟩
 | .ex n ρ',hx=>exact hx) w⟩
end
end L3
namespace L3
open PySem PySem.Spec PySem.W PySem.Calls L2
open PyProof.Rows hiding St
abbrev Iq(T:Nat)(q:T3)(loose:List Str)(XP:(Str->Option Value)->Heap->Prop)(YP:World->Heap->Prop)(l:OpenLaw)(d:DefRec):Prop:=
 ∀(w:World) (u v:Tp) (mg mb:Str->Option Value) (b:Addr) (ob:Obj) (pm cd dc:Value) (a:Addr) (us:List Value) (zs:List Int),
  Ground q loose [] XP w u mg mb v.heap->YP w v.heap->v.heap.get? b=some ob->ob.data= .func (docDef d.name d.params d.body d.scope pm cd dc)->
  v.heap.CodeRec cd d.name->mg d.name=some (.ref b)->v.heap.get? a=some {cls:= .type "list",data:= .seq us.toArray}->WB us zs->(∀n,l.most=some n->zs.length<=n)->v.gens= #[]->T<=v.toks->
  W2 (model l.prog w) Yb (.call (.ref b) ⟨[.ref a],[]⟩) (λr s'=>r= .ok (.ret (.bool true))/\OldK v.heap s'.heap/\s'.os=v.os/\Xs s'.gens) v
def Sm{r:RowW}(hm:r.makers=[]):r.claim.makers=[]:=by show r.makers.map _=[];rw[hm];rfl
def xy{l:OpenLaw}{T n:Nat}{q:T3}{loose:List Str}{Xt:Tp->Bool}{XP:(Str->Option Value)->Heap->Prop}{α:Type}{Yf:Tp->α}{Ya:World->α}{YP:World->Heap->Prop}{d:DefRec}{N:Nat}
 (left:LeftO l.row.prog q loose Xt Yf Ya N)(hY:∀w s,Yf s=Ya w->YP w s.heap)(Rw:∀w s,Yf s=Ya w->T<=s.toks)(Rv:∀w h h',YP w h->(∀b o,h.get? b=some o->h'.get? b=some o)->YP w h')
 (hX:∀s,Xt s=true->XP (s.heap.nsMap TN) s.heap)(Ru:∀mg h h',XP mg h->(∀b o,h.get? b=some o->h'.get? b=some o)->XP mg h')
 (JF:defOf q l.row.name=some (d,[]))(hp:l.row.prog.theDef l.row.name=some (d.params,d.body,d.scope))(hk:kwWritten? d.params.kwonlyargs d.params.kw_defaults=some [])(Rr:∀s,Xt s=true->RecFacts l.row.records s.heap)(QK:(!l.row.writes||l.row.records.isEmpty)=true)
 (k1:l.row.wellSaid=true)(ok:(chainsOk q&&opensWell l.row.prog&&(frees l.row.toRowW&&l.row.within.isEmpty))=true)(hb:l.row.prog.bare)(hw:l.row.toRowW.promised)
 (hn:l.most=some n)(RE:d.params.defaults=[])
 (go:Iq T q loose XP YP l d):l.row.Holds:=by
 obtain⟨c1,c2⟩:=UC.mp ok;obtain⟨B2,o1⟩:=UC.mp c1;obtain⟨k5,k6⟩:=UC.mp c2;obtain⟨QG,hu,ha,Ry,hm⟩:=frees_parts k5;refine⟨k1,hw,⟨hb,o1,Sm hm⟩,hw.witness,λw=>⟨(left.behind hX B2 w).1,λz hz=>?_⟩⟩;obtain⟨ZO,hf,RJ,u,hT,Sf,RK,hg,G1,y⟩:=(left.behind (XP:=λmg h=>XP mg h/\RecFacts l.row.records h) (λs hs=>⟨hX s hs,Rr s hs⟩) B2 w).2 z hz;have G0:Ground q loose [] XP w u (u.heap.nsMap TN) (u.heap.nsMap YX) u.heap:=⟨G1.T,G1.B,G1.D,G1.TE,G1.TD,G1.W,G1.X.1,G1.cls,G1.has,G1.apart,G1.once,G1.K⟩
 have RF:=G1.X.2;refine⟨ZO,hf,RJ,u,hT,?_,RF.1,RF.2.1,?_⟩
 ·intro m RW;obtain rfl:m=l.row.name:=by split at RW<;>simp_all
  exact pinned_of_view hg G0 JF hp hk
 have gn:u.gens= #[]:=Array.eq_empty_of_size_eq_zero (beq_iff_eq.mp RK);have G:Ground q loose l.row.records XP w u _ _ u.heap:=RF.ground G0;refine ClaimW.callFrom_of_specG (c:=l.row.toRowW.claim) Sf gn λargs D9 OT ord L4=>?_;obtain⟨⟨us,v⟩,hl⟩:=U4.mp (layAllW_isSome (P:=w.params) (ord:=ord) G.has args l.row.args u (pre_splitW D9).1);have kp:=layAllW_keeps _ _ _ hl;have al:=layAllW_rest _ _ _ hl;obtain⟨as,O4,F_,hold⟩:=reads_layAllW L4 _ _ _ hl OT v.heap (λ_ _ e=>e);have L:Laid l.row.records w u v args us as:=⟨⟨ord,L4,hl⟩,O4,F_,hold,kp,al.1.trans gn,al.2.2.1⟩
 have ZH:=G.keeps Ru kp;have tk:T<=v.toks:=T2 (Rw w u y) (layAllW_grows _ _ _ hl).toks;obtain⟨b,ob,pm,cd,dc,dV,kV,h1,h2,h3,h4,h5⟩:=ZH.fn JF;obtain rfl:dV= .none:=Dflts.none h5 RE;obtain rfl:kV= .none:=Dflts.noKw h5;have hi:=ident_freeW hu ha Ry;have QJ:l.row.toRowW.claim.within=[]:=List.isEmpty_iff.mp k6;obtain⟨a,vs,ns,rfl,rfl,JK,hints,P3⟩:=Att.script_of hn D9 L.well;have run:wpAny (model l.prog w) Yb (PySem.call (.ref b) [.ref a]) (λx s'=>GoodWG l.row.toRowW.claim (classAt u.heap) (ExcName.means u.heap) [WData.list (ns.map WData.int)] v (.ok (.ret x)) s') (λe s'=>GoodWG l.row.toRowW.claim (classAt u.heap) (ExcName.means u.heap) [WData.list (ns.map WData.int)] v (.error e) s') v:=
  enter_call (Yk (go w u v _ _ b ob pm cd dc a vs ns ZH (Rv _ _ _ (hY w u y) kp) h2 (fd_plain h3) h4 (defOf_name JF▸h1) JK hints (λm hm=>by rw[hn] at hm;cases hm;exact P3) L.gens tk) λr s' hq=>by
   obtain⟨rfl,q2,q3,q4⟩:=hq;exact⟨.inl ⟨.bool true, .bool true,[],rfl,λ_=>rfl, .bool true,Att.post_true l _,λ_=>⟨Ye,λ_ hm=>(nomatch hm)⟩⟩,q2,q3,q4⟩)
 refine⟨_,v,hl,Td (wpAny_nsGet ZH.T.g ?_)⟩;rw[show u.heap.nsMap TN l.row.name=some (.ref b) from h1];exact Td (UO run (λx s' g=>Tu ⟨_,rfl,
  have y:=g.laid (c:=l.row.toRowW.claim) QG QJ hi L
  ⟨y.1,y.2.1,y.2.2,λq=>⟨namesKept_of hT hg _ kp g.2.1.old,noTable QK q⟩⟩⟩) λe s' g=>
  have y:=g.laid (c:=l.row.toRowW.claim) QG QJ hi L
  ⟨y.1,y.2.1,y.2.2,λq=>⟨namesKept_of hT hg _ kp g.2.1.old,noTable QK q⟩⟩)
end L3
namespace L3
open PySem PySem.Spec PySem.W L2 SeqAt HT
open PyProof.Rows hiding St
def M_{l:OpenLaw}{n k:Nat}{q:T3}{loose:List Str}{XP:(Str->Option Value)->Heap->Prop}{YP:World->Heap->Prop}{d:DefRec}{K:YZ->Frag}{x:Str}{g:List D->M D}
 (hn:l.most=some n)(GR:n<=lim)(hr:Room k Yb)
 (hY:∀(w:World) (h:Heap),YP w h->(K w.params).In h)(hg:∀ns:List Int,ns.length<=n->g [.scr ns]=aa (.bl true))
 (F:∀(w:World) (mg:Str->Option Value) (b:Addr) (h:Heap),(K w.params).In h->h.Ns TN mg->mg d.name=some (.ref b)->
  ∃(cv:Nat->Value) (fd:Vz),(∀(s:Tp) (u:Value),BindsTo s fd ⟨[u],[]⟩ [(x,u)])/\
   ∀base:Heap,(K w.params).In base->base.Ns TN mg->FnOk l.prog w (K w.params) mg base (f7 l.prog w cv) k b fd [x] (KR (K w.params) cv 1 g)):
 Iq Jg q loose XP YP l d:=λw u v mg mb b ob pm cd dc a us zs G Y _ _ _ OU JK hints P3 RL tk=>by
 have P3:=P3 n hn;have KX:=hY w _ Y;obtain⟨cv,fd,hb,hF⟩:=F w mg b _ KX G.T.g OU
 haveI:Tk v:=⟨tk⟩
 refine Eh KX G.T.g G.T.b G.T.builtins G.T.nolimit RL JK hints (T2 P3 (T2 GR (U6 dH))) hr hF hb (λH hO hS=>?_) λH e s' z=>?_
 ·refine⟨H,[.scr zs],λ_ _ e=>e,⟨_,_,rfl,⟨a,rfl,hS,T2 P3 GR⟩,rfl⟩,rfl,?_⟩;rw[hg zs P3];exact λv H' F' e q=>q
 ·obtain⟨_,_,_,_,_,_,_,_,_,_,_,_,_,_,y⟩:=z
end L3
namespace L3
open PySem PySem.Spec L2 SeqAt HT
open PyProof.Rows hiding St
section
variable{X:Cx}{Xw:Nat->Hp->Prop}{e e2 o:Expr}{δo:DE}{δs:DA}{pos v6 a7 p1 p2:Pos}
def z_:D->List D->M D
 | .str x,[.int i, .str f]=>if PadOk i=true/\f.length=1/\(WG x i (f.cps.getD 0 0)).length<=lim then aa (.str (WG x i (f.cps.getD 0 0))) else af
 |_,_=>af
def Es:Li X "str.rjust" (λx vs H Q=>∃(y:Str) (i:Int) (f:Str),x= .str y/\vs=[.int i, .str f]/\PadOk i=true/\f.length=1/\Q (.str (WG y i (f.cps.getD 0 0))) H):=by
 intro f8 s σ H x vs v us Q I rx rv h;obtain⟨y,i,f,rfl,rfl,hp,hf,q⟩:=h;obtain⟨t,rfl⟩:=rx;cases rv with
 |cons r1 rv=>
  obtain⟨u,rfl,r2⟩:=Vals.one rv;obtain⟨t1,rfl⟩:=r1;obtain⟨t2,rfl⟩:=r2;exact rjust_fill hp hf λt' k=>⟨.str _,H,I.tok _,⟨_,rfl⟩,q⟩
def ER(ho:PD X Xw o δo)(ha:lz X Xw [e,e2] δs)(eF:UJ o "rjust" X.env (eval o X.env)=eval o X.env:=by rfl)
 (iV:((UM a7 (Tq [e,e2] X.env)).all (λx=>!x.1)&&(Vg a7 (Ux [] X.env)).all (λx=>x.1.isSome)&&decide ([e,e2].length+([]:List Vo).length+(if ([]:List Vo).isEmpty then 0 else 1)<30))=true:=by rfl)
 (eG:(v6.endLine==a7.line)=true:=by rfl)(pM:Tq [e,e2] X.env=(false,eval e X.env)::Tq [e2] X.env:=by rfl)(iX:(UM a7 (Tq [e2] X.env)).any (·.1)=false:=by rfl):PD X Xw (.Call (.Attribute o "rjust" v6) [e,e2] [] a7) (dM sC z_ δo δs):=
 EL VM PySem.F.slot_str_rjust PySem.F.type_str_rjust Es zu (λXw F H x vs d ds Q s hx hv w=>by
  unfold z_ at w;split at w
  ·rename_i y i f;obtain⟨v1,ws,rfl,h1,h2⟩:=hv;obtain⟨v2,rfl,h3⟩:=DenL.one h2;split at w
   ·rename_i hc;exact⟨y,i,f,hx.1,by rw[show v1=_ from h1,show v2=_ from h3.1],hc.1,hc.2.1,WP.now w s ⟨rfl,hc.2.2⟩⟩
   ·exact w.elim
  ·exact w.elim) ho ha eF iV eG pM iX
def MT(z:Str):D->M D
 | .str x=>if x.length<=1000/\(Wi x z (TC "")).length<=lim then aa (.str (Wi x z (TC ""))) else af
 |_=>af
def AB(z:Str)(δo:DE):DE:=λρ=>δo ρ>>=MT z
def Hs{x z:Str}{t:Tok}{j:Nat}(hg:Gl X x)(hm:X.mg x=some (.str z t))(t0:t≠0)(tk:t<Jg)(hz:(z==TC "")=false)(ho:PD X Xw o δo)
 (eF:UJ o "replace" X.env (eval o X.env)=eval o X.env:=by rfl)(lN:(x==("__debug__":Str))=false:=by decide)
 (iV:((UM a7 (Tq [.Name x p1, .Constant (.str "") j p2] X.env)).all (λx=>!x.1)&&(Vg a7 (Ux [] X.env)).all (λx=>x.1.isSome)&&decide (([.Name x p1, .Constant (.str "") j p2]:List Expr).length+([]:List Vo).length+(if ([]:List Vo).isEmpty then 0 else 1)<30))=true:=by rfl)
 (eG:(v6.endLine==a7.line)=true:=by rfl)(pM:Tq [.Name x p1, .Constant (.str "") j p2] X.env=[(false,eval (.Name x p1) X.env),(false,eval (.Constant (.str "") j p2) X.env)]:=by rfl):
 PD X Xw (.Call (.Attribute o "replace" v6) [.Name x p1, .Constant (.str "") j p2] [] a7) (AB z δo):=by
 intro f8 s σ H Q I ⟨F,ρ,S,w⟩ Tb;refine Zf eF iV eG rfl (bQ (ho f8 s σ H _ I ⟨F,ρ,S,WP.bind w⟩) λv s1 ⟨y,H1,I1,r1,F1,d,e1,q1,w1⟩ _=>?_);cases d with
 |str xx=>
  cases (show _=_ from q1.1);obtain⟨t1,rfl⟩:=r1;obtain⟨h1,h2⟩:=FU I1 (x:= .str xx) ⟨t1,rfl⟩ (show M9 X.K "str" (.str xx) H1 from rfl);refine⟨"str","str.replace",VM,PySem.F.slot_str_replace,PySem.F.type_str_replace,h1,h2,?_⟩;rw[pM];refine WR rfl (W8 ?_);refine Wj (pP I1 hg hm ?_ lN);refine Wj (Y3 (k:=j) (pos:=p2) ?_);refine XB ?_;have Q2:Jg<=s1.toks:=(inferInstance:Tk s1).le;have w1:WP X.K Xw F1 H1 (if xx.length<=1000/\(Wi xx z (TC "")).length<=lim then aa (.str (Wi xx z (TC ""))) else af) Q:=w1;split at w1
  ·rename_i hc;have QR:t<s1.toks:=T8 tk Q2;exact SC.replaceW t0 (V2 (VP (Ur t) QR)) (T1 QR) hz (by have:=hc.1;omega) (by decide) λt' k=>⟨.str _,H1,(I1.tok _).tok _,⟨_,rfl⟩,WP.now w1 e1.fh ⟨rfl,hc.2⟩⟩
  ·exact w1.elim
 |_=>exact w1.elim
def EO{x z:Str}{j:Nat}(hg:Gl X x)(hm:∃t,(WO 1 t&&WO (YE t) Jg)=true/\X.mg x=some (.str z t))(hz:(z==TC "")=false)(ho:PD X Xw o δo)
 (eF:UJ o "replace" X.env (eval o X.env)=eval o X.env:=by rfl)(lN:(x==("__debug__":Str))=false:=by decide)
 (iV:((UM a7 (Tq [.Name x p1, .Constant (.str "") j p2] X.env)).all (λx=>!x.1)&&(Vg a7 (Ux [] X.env)).all (λx=>x.1.isSome)&&decide (([.Name x p1, .Constant (.str "") j p2]:List Expr).length+([]:List Vo).length+(if ([]:List Vo).isEmpty then 0 else 1)<30))=true:=by rfl)
 (eG:(v6.endLine==a7.line)=true:=by rfl)(pM:Tq [.Name x p1, .Constant (.str "") j p2] X.env=[(false,eval (.Name x p1) X.env),(false,eval (.Constant (.str "") j p2) X.env)]:=by rfl):
 PD X Xw (.Call (.Attribute o "replace" v6) [.Name x p1, .Constant (.str "") j p2] [] a7) (AB z δo):=by
 obtain⟨t,h1,h2⟩:=hm;obtain⟨a1,a2⟩:=UC.mp h1;exact Hs hg h2 (V2 (W6 a1)) (W6 a2) hz ho eF lN iV eG pM
end
end L3
namespace L3
open PySem PySem.Spec L2
open PyProof.Rows hiding St
def jf(C:Addr)(i:Nat)(f:Str)(g:Int->Int):XS:=⟨λρ Q=>match bu ρ i C with
 |some (a,o)=>(match o.fs.lookup f with
  |some (.fz (.int k))=>o.fs.length<100/\Q (.nx (ρ.set i (some (.ob a (cq o f (.fz (.int (g k))))))))
  |_=>False)
 |none=>False,λρ P Q k h=>by
 match bu ρ i C,h with
 |some (a,o),h=>
  have h:(match o.fs.lookup f with | some (.fz (.int k))=>o.fs.length<100/\P (.nx (ρ.set i (some (.ob a (cq o f (.fz (.int (g k)))))))) | _=>False):=h;show (match o.fs.lookup f with | some (.fz (.int k))=>o.fs.length<100/\Q (.nx (ρ.set i (some (.ob a (cq o f (.fz (.int (g k)))))))) | _=>False)
  match o.fs.lookup f,h with
  |some (.fz (.int k')),h=>exact⟨h.1,k _ h.2⟩⟩
section
variable{X:Cx}{Xw:Nat->Hp->Prop}{C:Addr}{i:Nat}{x f:Str}{p pos v6:Pos}{j:Int}
def rB{op:Operator}{rd:V->V->Hp->VK->Prop}{g:Int->Int}(O2:Gf X op rd)(O4:∀(k:Int) (H:Hp) (Q:VK),Q (.int (g k)) H->rd (.int k) (.int j) H Q)(c:Cls X.K C)(n:NoAttr X.K C f)(h:PE X (.Name x p) (fE i)){e:Expr}(he:PE X e (tC (.int j))):
 wH X Xw (.AugAssign (.Attribute (.Name x p) f v6) op e pos) (jf C i f g):=λu8 ZQ=>PS.weak (CF h he O2) λD σ H ⟨F,ρ,s,w⟩=>by
 have w:(match bu ρ i C with
  |some (a,o)=>(match o.fs.lookup f with
   |some (.fz (.int k))=>o.fs.length<100/\gJ X.K Xw u8 ZQ D (.nx (ρ.set i (some (.ob a (cq o f (.fz (.int (g k))))))))
   |_=>False)
  |none=>False):=w
 match ho:bu ρ i C,w with
 |some (a,o),w=>
  have w:(match o.fs.lookup f with
   |some (.fz (.int k))=>o.fs.length<100/\gJ X.K Xw u8 ZQ D (.nx (ρ.set i (some (.ob a (cq o f (.fz (.int (g k))))))))
   |_=>False):=w
  match hf:o.fs.lookup f,w with
  |some (.fz (.int k)),w=>
   obtain⟨h1,h2,h3⟩:=s.ok.st.ob ho;obtain⟨dx,gs,q1,q2,q3,q4⟩:=h2.foot;obtain⟨v,v1,v2⟩:=q3.get hf;have hv:v= .int k:=v2;subst hv;have st:=ObAt.put (f:=f) (x:= .fz (.int (g k))) (v:= .int (g k)) (H1:=H) h2 q1 (λ_ _=>rfl) rfl (λb hb=>by cases hb) Ws (λ_ _ e=>e) s.ok.st.fh;refine⟨.ref a,h1,a,C,dx,gs, .int k,rfl,by rw[q1,h3],c,n,v1,O4 _ _ _ ⟨dx,gs,by rw[q1,h3],by rw[q3.len];omega,?_⟩⟩;have:=w.2 σ F _ (s.step (f_ ho).1 st);rw[h3] at this;exact this
def rC{j0:Nat}{p0:Pos}(c:Cls X.K C)(n:NoAttr X.K C f)(h:PE X (.Name x p) (fE i)):wH X Xw (.AugAssign (.Attribute (.Name x p) f v6) .Add (.Constant (.int j) j0 p0) pos) (jf C i f (· +j)):=
 rB JV (λk H Q q=>⟨k,j,rfl,rfl,q⟩) c n h z5
def z8{j0:Nat}{p0:Pos}(c:Cls X.K C)(n:NoAttr X.K C f)(h:PE X (.Name x p) (fE i)):wH X Xw (.AugAssign (.Attribute (.Name x p) f v6) .Sub (.Constant (.int j) j0 p0) pos) (jf C i f (· - j)):=
 rB JW (λk H Q q=>⟨k,j,rfl,rfl,q⟩) c n h z5
end
end L3
namespace L3
open PySem PySem.Spec L2 SeqAt HT
open PyProof.Rows hiding St
section
variable{K:Ti}{u8 ZQ F H:Hp}{σ:St}{ρ:aM}
def StX.chgL(s:StX K u8 ZQ F H σ ρ){i:Nat}{c c₀:C}{a:Addr}{ZD:HO}(hi:ρ[i]? =some (some (.ow c)))(ha:σ[i]? =some (some (.ref a)))(h:DenC K F c₀ ZD):StX K u8 ZQ F (upd H a ZD) σ (ρ.set i (some (.ow c₀))):=
 ⟨s.ok.chg hi ha h,λj b o d e hd=>by
  by_cases hj:i=j
  ·subst hj;rw[TY (To.mp hi).1] at e;cases e
  ·rw[T5 hj] at e;obtain⟨h1,h2⟩:=s.at e;obtain⟨dx,gs,q1,q2,q3,q4⟩:=h2.foot;have iM:b≠a:=λz=>hj (s.ok.sep i j _ _ _ _ a hi e ha h1 (TQ.mpr rfl) (show a∈aW H o b by rw[q4,z];exact Th ..));refine s.obn j b o d e ?_;have:aW (upd H a ZD) o b=aW H o b:=by unfold aW;rw[aj iM]
   exact this▸hd⟩
end
def By(j:Nat)(χ:XE):XS:=⟨λρ Q=>(i4 ρ j).isSome=true/\χ.f ρ λx=>match x with
 | .val (.fz d) ρ'=>(match i4 ρ' j with | some ds=>ds.length<lim/\Q (.nx (ρ'.set j (some (.ow (.lst (ds++[d])))))) | none=>False)
 | .val _ _=>False
 | .ex n ρ'=>Q (.ex n ρ'),λρ P Q k h=>⟨h.1,χ.mono ρ _ _ (λx hx=>by
 match x,hx with
 | .val (.fz d) ρ',hx=>
   show (match i4 ρ' j with | some ds=>ds.length<lim/\Q (.nx (ρ'.set j (some (.ow (.lst (ds++[d])))))) | none=>False);have hx:(match i4 ρ' j with | some ds=>ds.length<lim/\P (.nx (ρ'.set j (some (.ow (.lst (ds++[d])))))) | none=>False):=hx
   match i4 ρ' j,hx with
   |some ds,hx=>exact⟨hx.1,k _ hx.2⟩
 | .ex n ρ',hx=>exact k _ hx) h.2⟩⟩
section
variable{X:Cx}{Xw:Nat->Hp->Prop}{a e o:Expr}{χ:XE}{pos p v6 a7:Pos}{x:Str}{i:Nat}
def Fc(hv:PE X (.Name x p) (fE i))(he:PX X Xw e χ)(hs:VL (.Call (.Attribute (.Name x p) "append" v6) [e] [] a7) none pos.line X.env=pure false:=by rfl)
 (eF:UJ (.Name x p) "append" X.env (eval (.Name x p) X.env)=eval (.Name x p) X.env:=by rfl)
 (iV:((UM a7 (Tq [e] X.env)).all (λx=>!x.1)&&(Vg a7 (Ux [] X.env)).all (λx=>x.1.isSome)&&decide ([e].length+([]:List Vo).length+(if ([]:List Vo).isEmpty then 0 else 1)<30))=true:=by rfl)
 (eG:(v6.endLine==a7.line)=true:=by rfl)(pM:Tq [e] X.env=[(false,eval e X.env)]:=by rfl):wH X Xw (.Expr (.Call (.Attribute (.Name x p) "append" v6) [e] [] a7) pos) (By i χ):=λu8 ZQ=>
 PS.weak (kP (A7 Wy X2 X1 kN hv (gT (he u8 ZQ) lQ pM) eF iV eG pM rfl) hs) λD σ H ⟨F,ρ,s,w⟩=>by
 obtain⟨w1,w2⟩:=w;obtain⟨SS,ho⟩:=U4.mp w1;have hi:=ix ho;obtain⟨v,GV,a,o,rfl,hH,hF,vs,rfl,hd,hl⟩:=s.ok.st.den i _ hi;refine⟨.ref a,GV, .inl ⟨rfl,vs,SqL.of hH⟩,F,ρ,s,χ.mono ρ _ _ (λx hx=>?_) w2⟩
 match x,hx with
 | .val (.fz d) ρ',hx=>
   have hx:(match i4 ρ' i with | some ds=>ds.length<lim/\gJ X.K Xw u8 ZQ D (.nx (ρ'.set i (some (.ow (.lst (ds++[d])))))) | none=>False):=hx;intro y F1 H1 st;have t:=st.tail
   match h1:i4 ρ' i,hx with
   |some ds,hx=>
    have IL:=ix h1;obtain⟨v2,QI,a2,o2,rfl,Ro,Oo,SN,rfl,hd2,Ga⟩:=t.ok.st.den i _ IL;rw[GV] at QI;cases QI;obtain⟨u,e1,q⟩:=st.ok.st.den 0 (.fz d) rfl;cases e1;have P3:=hd2.len;exact⟨a,SN,y,rfl,rfl,Ro,by have:=dH;have:=hx.1;omega,hx.2 σ F1 _ (t.chgL IL GV ⟨_,rfl,DenL.append hd2 (.cons q .nil),by rw[Tt];exact hx.1⟩)⟩
 | .ex n ρ',hx=>exact λF1 H1 st=>hx σ F1 H1 st
end
end L3
namespace L3
open PySem PySem.Spec L2
open PyProof.Rows hiding St
def nT(ρ:aM)(H:Hp)(J:List Nat)(b:Addr):Prop:=∃i∈J,∃a o,ρ[i]? =some (some (.ob a o))/\b∈aW H o a
open Classical in
noncomputable def eX(H:Hp)(ρ:aM)(J:List Nat):Hp:=λb=>if nT ρ H J b then none else H b
section
variable{K:Ti}{u8 ZQ F H F' H':Hp}{σ σ' σ2:St}{ρ ρ' ρ2:aM}{J:List Nat}
def zA{b:Addr}(h:eX H ρ J b=none):nT ρ H J b\/H b=none:=by
 unfold eX at h;split at h
 ·rename_i q;exact .inl q
 ·exact .inr h
def kJ{b:Addr}(h:¬nT ρ H J b):eX H ρ J b=H b:=by unfold eX;rw[Zo h]
def zB{b:Addr}{u:HO}(h:eX H ρ J b=some u):H b=some u:=by
 unfold eX at h;split at h
 ·cases h
 ·exact h
def StX.behind(s:StX K u8 ZQ F H σ ρ)(t:StX K F (eX H ρ J) F' H' σ' ρ')(c:Nat->Option Nat)(P3:ρ2.length=σ2.length)
 (c0:∀i sl,c i=none->ρ2[i]? =some (some sl)->i∉J/\ρ[i]? =some (some sl)/\σ2[i]? =σ[i]?)
 (c1:∀i q sl,c i=some q->ρ2[i]? =some (some sl)->ρ'[q]? =some (some sl)/\σ2[i]? =σ'[q]? /\∀x,sl≠ .ow x)
 (inj:∀i j q,c i=some q->c j=some q->i=j):StX K u8 ZQ F' H' σ2 ρ2:=by
 have Ew:∀b u,ZQ b=some u->¬nT ρ H J b:=λb u e ⟨i,_,a,o,h1,h2⟩=>by
  rw[s.obn i a o b h1 h2] at e;cases e
 have ext:Ext u8 ZQ F' H':=by
  refine⟨λb u e=>t.ok.ext.hh b u ((kJ (Ew b u e)).trans (s.ok.ext.hh b u e)),s.ok.ext.ff.trans t.ok.ext.ff,t.ok.ext.fh,λb hb=>?_⟩;cases z:ZQ b with
  |none=>exact Zp z hb
  |some u=>
   have hu:=s.ok.ext.hh b u z;rcases s.ok.ext.new b hb with p | ⟨ts,p⟩
   ·rcases t.ok.ext.new b (by rw[kJ (Ew b u z),hu];exact λz=>nomatch z) with q | ⟨ts,q⟩
    ·exact .inl (q.trans p)
    ·rw[kJ (Ew b u z),hu] at q;exact .inr ⟨ts,q⟩
   ·rw[z] at p;exact .inr ⟨ts,p⟩
 have keep:∀(i:Nat) (sl:Sl) (v:V),i∉J->ρ[i]? =some (some sl)->σ[i]? =some (some v)->∀b∈sl.foot H v,H' b=H b/\F' b=none/\eX H ρ J b≠none:=λi sl v hi h1 h2 b hb=>by
  obtain⟨k1,u,k2,k3⟩:=(s.ok.foot h1 h2).cell b hb;have nf:¬nT ρ H J b:=λ⟨j,hj,a,o,q1,q2⟩=>hi (by
   have:=s.ok.sep i j sl (.ob a o) v (.ref a) b h1 q1 h2 (s.at q1).1 hb q2;rw[this];exact hj)
  have e:=(kJ nf).trans k2;refine⟨(t.ok.ext.hh b u e).trans k2.symm,?_,by rw[e];exact λz=>nomatch z⟩;rcases t.ok.ext.new b (by rw[e];exact λz=>nomatch z) with q | ⟨ts,q⟩
  ·rw[q];exact k1
  ·rw[e] at q;cases q;exact Zp rfl (k3 ts)
 have old:∀(i:Nat) (sl:Sl),c i=none->ρ2[i]? =some (some sl)->∃v,σ2[i]? =some (some v)/\σ[i]? =some (some v)/\DenO K F' H' sl v/\sl.foot H' v=sl.foot H v:=λi sl hc h=>by
  obtain⟨h1,h2,h3⟩:=c0 i sl hc h;obtain⟨v,e,d⟩:=s.ok.st.den i sl h2;obtain⟨m1,m2⟩:=DenO.move (K:=K) (sl:=sl) (v:=v) t.ok.ext.ff d (λb hb=>(keep i sl v h1 h2 e b hb).1) λb hb=>(keep i sl v h1 h2 e b hb).2.1;exact⟨v,h3.trans e,e,m1,m2⟩
 have new:∀(i q:Nat) (sl:Sl) (v:V),c i=some q->ρ2[i]? =some (some sl)->σ2[i]? =some (some v)->∀b∈sl.foot H' v,eX H ρ J b=none:=λi q sl v hc h hv b hb=>by
  obtain⟨h1,h2,h3⟩:=c1 i q sl hc h;cases sl with
  |fz d=>cases hb
  |ow x=>exact Zp rfl (h3 x)
  |ob a o=>exact t.obn q a o b h1 hb
 refine⟨⟨ext,⟨t.ok.st.fh,λi sl h=>?_⟩,P3,λi x a h hv=>?_,λi j sl fG v v' b h1 h2 h3 h4 h5 h6=>?_⟩,λi a o b h hb=>?_⟩
 ·cases hc:c i with
  |none=>
   obtain⟨v,e1,_,d,_⟩:=old i sl hc h;exact⟨v,e1,d⟩
  |some q=>
   obtain⟨h1,h2,_⟩:=c1 i q sl hc h;obtain⟨v,e,d⟩:=t.ok.st.den q sl h1;exact⟨v,h2.trans e,d⟩
 ·cases hc:c i with
  |none=>
   obtain⟨_,h2,h3⟩:=c0 i _ hc h;exact s.ok.own i x a h2 (h3.symm.trans hv)
  |some q=>exact Zp rfl ((c1 i q _ hc h).2.2 x)
 ·cases hi:c i with
  |none=>
   obtain⟨u,e1,e2,_,f1⟩:=old i sl hi h1;rw[h3] at e1;cases e1;rw[f1] at h5;obtain⟨q1,q2,_⟩:=c0 i sl hi h1;have nl:=(keep i sl v q1 q2 e2 b h5).2.2;cases hj:c j with
   |none=>
    obtain⟨u',wx,F7,_,f2⟩:=old j fG hj h2;rw[h4] at wx;cases wx;rw[f2] at h6;obtain⟨_,Ss,_⟩:=c0 j fG hj h2;exact s.ok.sep i j sl fG v v' b q2 Ss e2 F7 h5 h6
   |some q=>exact Zp (new j q fG v' hj h2 h4 b h6) nl
  |some q=>
   cases hj:c j with
   |none=>
    obtain⟨u',wx,F7,_,f2⟩:=old j fG hj h2;rw[h4] at wx;cases wx;rw[f2] at h6;obtain⟨q1,q2,_⟩:=c0 j fG hj h2;exact Zp (new i q sl v hi h1 h3 b h5) (keep j fG v' q1 q2 F7 b h6).2.2
   |some q'=>
    obtain⟨a1,a2,_⟩:=c1 i q sl hi h1;obtain⟨b1,b2,_⟩:=c1 j q' fG hj h2;have:=t.ok.sep q q' sl fG v v' b a1 b1 (a2.symm.trans h3) (b2.symm.trans h4) h5 h6;subst this;exact inj i j q hi hj
 ·cases hc:c i with
  |none=>
   obtain⟨v,e1,e2,d,f1⟩:=old i _ hc h;obtain⟨_,q2,_⟩:=c0 i _ hc h;have f1:aW H' o a=aW H o a:=f1;exact s.obn i a o b q2 (f1▸hb)
  |some q=>
   obtain⟨h1,_,_⟩:=c1 i q _ hc h;rcases zA (t.obn q a o b h1 hb) with⟨j,_,a',o',z1,z2⟩ | z
   ·exact s.obn j a' o' b z1 z2
   ·exact Same.free s.ok.ext.hh z
def StX.startJ(s:StX K u8 ZQ F H σ ρ)(P3:ρ'.length=σ'.length)(c:Nat->Option Nat)
 (c0:∀k sl,c k=none->ρ'[k]? =some (some sl)->∃d v,sl= .fz d/\σ'[k]? =some (some v)/\Den K F d v)
 (c1:∀k j sl,c k=some j->ρ'[k]? =some (some sl)->j∈J/\(∃a o,sl= .ob a o)/\ρ[j]? =some (some sl)/\σ'[k]? =σ[j]?)
 (inj:∀k k' j,c k=some j->c k'=some j->k=k'):StX K F (eX H ρ J) F H σ' ρ':=by
 refine⟨⟨⟨λb u e=>zB e,Same.refl _,s.ok.st.fh,λb _=> .inl rfl⟩,⟨s.ok.st.fh,λk sl h=>?_⟩,P3,λk x a h hv=>?_,λk k' sl fG v v' b h1 h2 h3 h4 h5 h6=>?_⟩,λk a o b h hb=>?_⟩
 ·cases hc:c k with
  |none=>
   obtain⟨d,v,rfl,e,q⟩:=c0 k sl hc h;exact⟨v,e,q⟩
  |some j=>
   obtain⟨_,_,h1,h2⟩:=c1 k j sl hc h;obtain⟨v,e,d⟩:=s.ok.st.den j sl h1;exact⟨v,h2.trans e,d⟩
 ·cases hc:c k with
  |none=>obtain⟨_,_,z,_⟩:=c0 k _ hc h;cases z
  |some j=>obtain⟨_,⟨_,_,z⟩,_⟩:=c1 k j _ hc h;cases z
 ·cases hc:c k with
  |none=>obtain⟨_,_,rfl,_⟩:=c0 k sl hc h1;cases h5
  |some j=>
   cases zo:c k' with
   |none=>obtain⟨_,_,rfl,_⟩:=c0 k' fG zo h2;cases h6
   |some j'=>
    obtain⟨_,_,a1,a2⟩:=c1 k j sl hc h1;obtain⟨_,_,b1,b2⟩:=c1 k' j' fG zo h2;have:=s.ok.sep j j' sl fG v v' b a1 b1 (a2.symm.trans h3) (b2.symm.trans h4) h5 h6;subst this;exact inj k k' j hc zo
 ·cases hc:c k with
  |none=>obtain⟨_,_,z,_⟩:=c0 k _ hc h;cases z
  |some j=>
   obtain⟨hj,_,a1,_⟩:=c1 k j _ hc h;unfold eX;rw[Zn ⟨j,hj,a,o,a1,hb⟩]
end
def MX(K:Ti)(cv:Nat->Value)(N:List Str)(m:Nat)(τ:XS):Sp:=λvs H Q E=>vs.length=m/\∃F U ρ,StX K F U F H (L2.start N vs) ρ/\τ.f ρ (gJ K (λn H'=>E (cv n) none H') F U {nx:=λ_ H'=>Q .non H',rt:=Q})
section
variable{P:T3}{w:World}{K:Ti}{mg:Str->Option Value}{base:Heap}{cv:Nat->Value}{k m:Nat}{f:Addr}{fd:Vz}{N ps:List Str}
def LC{x qual:Str}{st:Stmt}{τ:XS}(Fn:Fun K x qual st f fd)(S:FnScope N ps (ag st))
 (bX:∀(bT:Value) (A:Uu) (outer:List Env) (s:Tp) (H:Hp) (E:XK),Room k (A.deeper (VB qual (ag st) s.heap.objs.size f bT))->
  PXSs (eC (f7 P w cv) P w K mg base N qual (ag st) f bT A outer s H E) (λn H'=>E (cv n) none H') (aB st) τ) (hm:ps.length=m):FnOk P w K mg base (f7 P w cv) (k+1) f fd ps (MX K cv N m τ):=by
 obtain⟨oc,od,kV,doc,pm,an,bT,ct,A0,rfl,lk,sj⟩:=Fn.ex;refine qo lk sj S (λvs H Q E h=>by rw[h.1,hm]) λA outer s H vs Q E hr wB=>?_;obtain⟨_,F,U,ρ,t,ht⟩:=wB;exact⟨_,bX bT A outer s H E hr F U,F,ρ,t,ht⟩
end
inductive Ar where
 |v (δ:DE) | o (i:Nat)
def jt:List Ar->aM->M (List Sl)
 |[],_=>aa []
 | .v δ::as,ρ=>δ ρ>>=λd=>jt as ρ>>=λss=>aa (.fz d::ss)
 | .o i::as,ρ=>match ρ[i]? with
   |some (some (.ob a o))=>jt as ρ>>=λss=>aa (.ob a o::ss)
   |_=>af
def ArgOk(K:Ti)(F:Hp)(σ:St)(ρ:aM):List Ar->List Sl->List V->Prop
 |[],ss,vs=>ss=[]/\vs=[]
 | .v _::as,ss,vs=>∃d v MY pY,ss= .fz d::MY/\vs=v::pY/\Den K F d v/\ArgOk K F σ ρ as MY pY
 | .o i::as,ss,vs=>∃a o v MY pY,ss= .ob a o::MY/\vs=v::pY/\ρ[i]? =some (some (.ob a o))/\σ[i]? =some (some v)/\ArgOk K F σ ρ as MY pY
def BC(K:Ti)(Xw:Nat->Hp->Prop)(F H:Hp)(σ:St)(ρ:aM)(as:List Ar)(Q:List V->Hp->Prop):M (List Sl)->Prop
 |none=>False
 |some (.ex n)=>∀F' H',Ext F H F' H'->Xw n H'
 |some (.ok ss)=>∀vs F' H',Ext F H F' H'->ArgOk K F' σ ρ as ss vs->Q vs H'
def Sx(K:Ti)(Xw:Nat->Hp->Prop)(as:List Ar):TA:=λσ H Q=>∃F ρ,StE K F H σ ρ/\BC K Xw F H σ ρ as Q (jt as ρ)
def K6(X:Cx)(Xw:Nat->Hp->Prop)(es:List Expr)(as:List Ar):Prop:=PA X es (Sx X.K Xw as)
def PA.weakT{X:Cx}{es:List Expr}{t t':TA}(h:PA X es t)(k:∀σ H Q,t' σ H Q->t σ H Q):PA X es t':=λpos f8 s σ H Q I q=>h pos f8 s σ H Q I (k σ H Q q)
section
variable{X:Cx}{Xw:Nat->Hp->Prop}{e:Expr}{es:List Expr}{as:List Ar}{δ:DE}{i:Nat}
def pR:K6 X Xw [] []:=PA.weakT lQ λσ H Q ⟨F,ρ,s,w⟩=>(show BC X.K Xw F H σ ρ [] Q (aa []) from w) [] F H (Ext.refl s.fh) ⟨rfl,rfl⟩
def lx(he:PD X Xw e δ)(ha:K6 X Xw es as)(hs:Tq (e::es) X.env=(false,eval e X.env)::Tq es X.env:=by rfl):K6 X Xw (e::es) (.v δ::as):=PA.weakT (gT he ha hs) λσ H Q ⟨F,ρ,s,w⟩=>by
 refine⟨F,ρ,s,?_⟩;have w:BC X.K Xw F H σ ρ (.v δ::as) Q (δ ρ>>=λd=>jt as ρ>>=λss=>aa (.fz d::ss)):=w
 match δ ρ,w with
 |some (.ex n),w=>exact λF' H' e'=>w F' H' e'
 |some (.ok d),w=>
  intro v H1 F1 e1 q;refine⟨F1,ρ,s.ext e1,?_⟩;have w:BC X.K Xw F H σ ρ (.v δ::as) Q (jt as ρ>>=λss=>aa (.fz d::ss)):=w
  match jt as ρ,w with
  |some (.ex n),w=>exact λF' H' e'=>w F' H' (e1.trans e')
  |some (.ok ss),w=>exact λvs F' H' e' a=>w (v::vs) F' H' (e1.trans e') ⟨d,v,ss,vs,rfl,rfl,Den.mono e'.ff q,a⟩
def x_{y:Str}{p:Pos}(he:PE X (.Name y p) (fE i))(ha:K6 X Xw es as)(hs:Tq (.Name y p::es) X.env=(false,eval (.Name y p) X.env)::Tq es X.env:=by rfl):K6 X Xw (.Name y p::es) (.o i::as):=PA.weakT (gT he ha hs) λσ H Q ⟨F,ρ,s,w⟩=>by
 have w:BC X.K Xw F H σ ρ (.o i::as) Q (match ρ[i]? with | some (some (.ob a o))=>jt as ρ>>=λss=>aa (.ob a o::ss) | _=>af):=w
 match hi:ρ[i]?,w with
 |some (some (.ob a o)),w=>
  obtain⟨v,e1,d⟩:=s.den i _ hi;refine⟨v,e1,F,ρ,s,?_⟩;have w:BC X.K Xw F H σ ρ (.o i::as) Q (jt as ρ>>=λss=>aa (.ob a o::ss)):=w
  match jt as ρ,w with
  |some (.ex n),w=>exact λF' H' e'=>w F' H' e'
  |some (.ok ss),w=>exact λvs F' H' e' q=>w (v::vs) F' H' e' ⟨a,o,v,ss,vs,rfl,rfl,hi,e1,q⟩
end
def objs:List Ar->List Nat
 |[]=>[]
 | .v _::as=>objs as
 | .o i::as=>i::objs as
def jl(as:List Ar)(k:Nat):Option Nat:=match as[k]? with
 |some (.o i)=>some i
 |_=>none
def gF:List Ar->Nat->aM->aM->Option aM
 |[],_,ρ,_=>some ρ
 | .v _::as,k,ρ,ρ'=>gF as (k+1) ρ ρ'
 | .o i::as,k,ρ,ρ'=>match ρ[i]?,ρ'[k]? with
   |some (some (.ob a _)),some (some (.ob a' o'))=>if a=a' then gF as (k+1) (ρ.set i (some (.ob a o'))) ρ' else none
   |_,_=>none
section
variable{K:Ti}{F:Hp}{σ:St}{ρ:aM}
theorem ArgOk.len:∀{as:List Ar}{ss:List Sl}{vs:List V},ArgOk K F σ ρ as ss vs->ss.length=as.length/\vs.length=as.length
 |[],_,_,⟨rfl,rfl⟩=>⟨rfl,rfl⟩
 | .v _::as,_,_,⟨_,_,_,_,rfl,rfl,_,h⟩=>by have:=h.len;simp[this.1,this.2]
 | .o _::as,_,_,⟨_,_,_,_,_,rfl,rfl,_,_,h⟩=>by have:=h.len;simp[this.1,this.2]
theorem ArgOk.at:∀{as:List Ar}{ss:List Sl}{vs:List V}{k:Nat}{sl:Sl},ArgOk K F σ ρ as ss vs->ss[k]? =some sl->
 (jl as k=none/\∃d v,sl= .fz d/\vs[k]? =some v/\Den K F d v)\/∃i a o v,jl as k=some i/\i∈objs as/\sl= .ob a o/\ρ[i]? =some (some sl)/\vs[k]? =some v/\σ[i]? =some (some v)
 |[],_,_,k,sl,⟨rfl,rfl⟩,e=>by simp at e
 | .v _::as,_,_,0,sl,⟨d,v,_,_,rfl,rfl,q,h⟩,e=>by
   cases (show some (Sl.fz d)=some sl from e);exact .inl ⟨rfl,d,v,rfl,rfl,q⟩
 | .o i::as,_,_,0,sl,⟨a,o,v,_,_,rfl,rfl,q1,q2,h⟩,e=>by
   cases (show some (Sl.ob a o)=some sl from e);exact .inr ⟨i,a,o,v,rfl,Th,rfl,q1,rfl,q2⟩
 | .v _::as,_,_,k+1,sl,⟨_,_,_,_,rfl,rfl,_,h⟩,e=>by
   rcases h.at (k:=k) (by simpa using e) with⟨z,d,v,z1,z2,z3⟩ | ⟨i,a,o,v,z,z0,z1,z2,z3,z4⟩
   ·exact .inl ⟨by simpa[jl] using z,d,v,z1,by simpa using z2,z3⟩
   ·exact .inr ⟨i,a,o,v,by simpa[jl] using z,z0,z1,z2,by simpa using z3,z4⟩
 | .o _::as,_,_,k+1,sl,⟨_,_,_,_,_,rfl,rfl,_,_,h⟩,e=>by
   rcases h.at (k:=k) (by simpa using e) with⟨z,d,v,z1,z2,z3⟩ | ⟨i,a,o,v,z,z0,z1,z2,z3,z4⟩
   ·exact .inl ⟨by simpa[jl] using z,d,v,z1,by simpa using z2,z3⟩
   ·exact .inr ⟨i,a,o,v,by simpa[jl] using z,Tf _ z0,z1,z2,by simpa using z3,z4⟩
end
theorem l6:∀{as:List Ar}{k i:Nat},jl as k=some i->i∈objs as
 |[],k,i,h=>by simp[jl] at h
 | .v _::as,0,i,h=>by simp[jl] at h
 | .o j::as,0,i,h=>by
   have:j=i:=by simpa[jl] using h
   subst this;exact Th
 | .v _::as,k+1,i,h=>l6 (as:=as) (k:=k) (by simpa[jl] using h)
 | .o _::as,k+1,i,h=>Tf _ (l6 (as:=as) (k:=k) (by simpa[jl] using h))
theorem uA:∀{as:List Ar}{k k' i:Nat},(objs as).Nodup->jl as k=some i->jl as k'=some i->k=k'
 |[],k,_,i,_,h,_=>by simp[jl] at h
 | .v _::as,0,_,i,_,h,_=>by simp[jl] at h
 | .v _::as,_,0,i,_,_,h=>by simp[jl] at h
 | .v _::as,k+1,k'+1,i,n,h,h'=>Zv (· +1) (uA (as:=as) n (by simpa[jl] using h) (by simpa[jl] using h'))
 | .o j::as,0,0,i,_,_,_=>rfl
 | .o j::as,0,k'+1,i,n,h,h'=>by
   have:j=i:=by simpa[jl] using h
   subst this;exact Zp (l6 (as:=as) (k:=k') (by simpa[jl] using h')) (Ul.mp n).1
 | .o j::as,k+1,0,i,n,h,h'=>by
   have:j=i:=by simpa[jl] using h'
   subst this;exact Zp (l6 (as:=as) (k:=k) (by simpa[jl] using h)) (Ul.mp n).1
 | .o j::as,k+1,k'+1,i,n,h,h'=>Zv (· +1) (uA (as:=as) (Ul.mp n).2 (by simpa[jl] using h) (by simpa[jl] using h'))
theorem wk:∀{as:List Ar}{k0:Nat}{ρ ρ' ρ2:aM},(objs as).Nodup->gF as k0 ρ ρ'=some ρ2->ρ2.length=ρ.length/\
 ∀i,(i∉objs as->ρ2[i]? =ρ[i]?)/\∀k,jl as k=some i->∃a o o',ρ[i]? =some (some (.ob a o))/\ρ'[k0+k]? =some (some (.ob a o'))/\ρ2[i]? =some (some (.ob a o'))
 |[],k0,ρ,ρ',ρ2,_,e=>by cases e;exact⟨rfl,λi=>⟨λ_=>rfl,λk h=>by simp[jl] at h⟩⟩
 | .v _::as,k0,ρ,ρ',ρ2,n,e=>by
   obtain⟨h1,h2⟩:=wk (as:=as) (k0:=k0+1) n e;refine⟨h1,λi=>⟨(h2 i).1,λk h=>?_⟩⟩;cases k with
   |zero=>simp[jl] at h
   |succ k=>
    obtain⟨a,o,o',q1,q2,q3⟩:=(h2 i).2 k (by simpa[jl] using h);exact⟨a,o,o',q1,by rw[show k0+(k+1)=k0+1+k by omega];exact q2,q3⟩
 | .o j::as,k0,ρ,ρ',ρ2,n,e=>by
   have e:(match ρ[j]?,ρ'[k0]? with | some (some (.ob a _)),some (some (.ob a' o'))=>if a=a' then gF as (k0+1) (ρ.set j (some (.ob a o'))) ρ' else none | _,_=>none)=some ρ2:=e;split at e
   ·rename_i a o a' o' z1 z2;split at e
    ·rename_i Rx;subst Rx;obtain⟨n1,n2⟩:=Ul.mp n;obtain⟨h1,h2⟩:=wk (as:=as) (k0:=k0+1) n2 e;have hj:j<ρ.length:=(To.mp z1).1;refine⟨by rw[h1,List.length_set],λi=>⟨λhi=>?_,λk h=>?_⟩⟩
     ·have wA:i≠j:=λz=>hi (z▸Th);rw[(h2 i).1 λz=>hi (Tf _ z),T5 (Vh wA)]
     ·cases k with
      |zero=>
       have:j=i:=by simpa[jl] using h
       subst this;refine⟨a,o,o',z1,z2,?_⟩;rw[(h2 j).1 n1,TY hj]
      |succ k=>
       have hk:jl as k=some i:=by simpa[jl] using h
       obtain⟨b,ob,Pn,q1,q2,q3⟩:=(h2 i).2 k hk;have wA:i≠j:=λz=>n1 (z▸l6 hk);rw[T5 (Vh wA)] at q1;exact⟨b,ob,Pn,q1,by rw[show k0+(k+1)=k0+1+k by omega];exact q2,q3⟩
    ·cases e
   ·cases e
def gM:List Ar->Nat->Option Nat
 |[],_=>none
 | .v _::as,i=>(gM as i).map (· +1)
 | .o j::as,i=>if j=i then some 0 else(gM as i).map (· +1)
theorem gp:∀{as:List Ar}{i k:Nat},gM as i=some k->jl as k=some i
 |[],i,k,h=>by cases h
 | .v _::as,i,k,h=>by
   obtain⟨k',h1,rfl⟩:=T9.mp (show (gM as i).map (· +1)=some k from h);simpa[jl] using gp h1
 | .o j::as,i,k,h=>by
   have h:(if j=i then some 0 else(gM as i).map (· +1))=some k:=h;split at h
   ·rename_i q;cases h;simp[jl,q]
   ·obtain⟨k',h1,rfl⟩:=T9.mp h;simpa[jl] using gp h1
theorem lJ:∀{as:List Ar}{i:Nat},gM as i=none->i∉objs as
 |[],i,_=>by simp[objs]
 | .v _::as,i,h=>lJ (as:=as) (by simpa[gM] using h)
 | .o j::as,i,h=>by
   have h:(if j=i then some 0 else(gM as i).map (· +1))=none:=h;split at h
   ·cases h
   ·rename_i q;intro z;rcases Tz.mp z with z | z
    ·exact q z.symm
    ·exact lJ (as:=as) (by simpa using h) z
section
variable{K:Ti}{u8 ZQ F H F' H':Hp}{σ σ':St}{ρ ρ' ρ2:aM}{as:List Ar}
def StX.pad(s:StX K u8 ZQ F H σ ρ)(x:Option V):StX K u8 ZQ F H (x::σ) (none::ρ):=by
 refine⟨⟨s.ok.ext,⟨s.ok.st.fh,λi sl h=>?_⟩,by simp[s.ok.len],λi c a h hv=>?_,λi j sl fG v v' b h1 h2 h3 h4 h5 h6=>?_⟩,λi a o b h hb=>?_⟩
 ·cases i with
  |zero=>cases h
  |succ i=>obtain⟨v,e,d⟩:=s.ok.st.den i sl (by simpa using h);exact⟨v,by simpa using e,d⟩
 ·cases i with
  |zero=>cases h
  |succ i=>exact s.ok.own i c a (by simpa using h) (by simpa using hv)
 ·cases i with
  |zero=>cases h1
  |succ i=>
   cases j with
   |zero=>cases h2
   |succ j=>exact Zv (· +1) (s.ok.sep i j sl fG v v' b (by simpa using h1) (by simpa using h2) (by simpa using h3) (by simpa using h4) h5 h6)
 ·cases i with
  |zero=>cases h
  |succ i=>exact s.obn i a o b (by simpa using h) hb
def Cf(J:List Nat):eX H (none::ρ) (J.map (· +1))=eX H ρ J:=by
 funext b;have:nT (none::ρ) H (J.map (· +1)) b↔nT ρ H J b:=by
  constructor
  ·intro ⟨i,hi,a,o,h1,h2⟩;obtain⟨j,hj,rfl⟩:=TV.mp hi;exact⟨j,hj,a,o,by simpa using h1,h2⟩
  ·intro ⟨i,hi,a,o,h1,h2⟩;exact⟨i+1,TV.mpr ⟨i,hi,rfl⟩,a,o,by simpa using h1,h2⟩
 unfold eX;by_cases q:nT ρ H J b
 ·rw[Zn q,Zn (this.mpr q)]
 ·rw[Zo q,Zo λz=>q (this.mp z)]
def qb{v:V}{r:Sl}(s:StX K u8 ZQ F H σ ρ)(t:StX K F (eX H ρ (objs as)) F' H' (some v::σ') (some r::ρ'))(hr:∀c,r≠ .ow c)(hn:(objs as).Nodup)(hu:gF as 0 ρ ρ'=some ρ2):StX K u8 ZQ F' H' (some v::σ) (some r::ρ2):=by
 obtain⟨hl,hu⟩:=wk hn hu;have t0:=t;rw[<-Cf] at t;refine(s.pad (some v)).behind t (λi=>match i with | 0=>some 0 | i+1=>(gM as i).map (· +1)) (by simp[hl,s.ok.len]) (λi sl hc h=>?_) (λi q sl hc h=>?_) λi j q hi hj=>?_
 ·cases i with
  |zero=>cases hc
  |succ i=>
   have hc:gM as i=none:=by simpa using hc
   have ni:=lJ hc;have h:ρ2[i]? =some (some sl):=by simpa using h
   refine⟨λz=>?_,?_,rfl⟩
   ·obtain⟨j,hj,e⟩:=TV.mp z;exact ni (by rw[show i=j by omega];exact hj)
   ·rw[(hu i).1 ni] at h;simpa using h
 ·cases i with
  |zero=>
   cases (show some 0=some q from hc);have h:r=sl:=by simpa using h
   subst h;exact⟨rfl,rfl,hr⟩
  |succ i=>
   obtain⟨k,h1,rfl⟩:=T9.mp (show (gM as i).map (· +1)=some q from hc);have h:ρ2[i]? =some (some sl):=by simpa using h
   obtain⟨a,o,o',q1,q2,q3⟩:=(hu i).2 k (gp h1);rw[q3] at h;cases h;rw[Wr] at q2;refine⟨by simpa using q2,?_,λc z=>nomatch z⟩;have e1:=(s.at q1).1;have e2:=(t0.tail.at q2).1;show (some v::σ)[i+1]? =(some v::σ')[k+1]?;rw[T4,T4,e1,e2]
 ·cases i with
  |zero=>
   cases (show some 0=some q from hi);cases j with
   |zero=>rfl
   |succ j=>obtain⟨_,_,z⟩:=T9.mp (show (gM as j).map (· +1)=some 0 from hj);cases z
  |succ i=>
   obtain⟨k,h1,rfl⟩:=T9.mp (show (gM as i).map (· +1)=some q from hi);cases j with
   |zero=>cases (show some 0=some (k+1) from hj)
   |succ j=>
    obtain⟨k',h2,e⟩:=T9.mp (show (gM as j).map (· +1)=some (k+1) from hj);have:k'=k:=by omega
    subst this;have a1:=gp h1;rw[gp h2] at a1;cases a1;rfl
def nV(s:StX K u8 ZQ F H σ ρ)(t:StX K F (eX H ρ (objs as)) F' H' σ' ρ')(hn:(objs as).Nodup)(hu:gF as 0 ρ ρ'=some ρ2):StX K u8 ZQ F' H' σ ρ2:=
 (qb (v:= .non) (r:= .fz .non) s (t.cons (d:= .non) (v:= .non) rfl) (λc z=>nomatch z) hn hu).tail
def wY{N:List Str}{ss:List Sl}{vs:List V}(s:StX K u8 ZQ F H σ ρ)(h:ArgOk K F σ ρ as ss vs)(hn:(objs as).Nodup):StX K F (eX H ρ (objs as)) F H (L2.start N vs) (ss.map some++TH (N.length - ss.length) none):=by
 obtain⟨l1,l2⟩:=h.len;have get:∀k sl,(ss.map some++TH (N.length - ss.length) none)[k]? =some (some sl)->ss[k]? =some sl:=λk sl e=>by
  by_cases hk:k<ss.length
  ·rw[TF (by simpa using hk),Tx] at e;cases q:ss[k]? with
   |none=>rw[q] at e;cases e
   |some x=>rw[q] at e;cases e;rfl
  ·rw[TR (by simpa using hk),Um] at e;split at e<;>cases e
 have st:∀k v,vs[k]? =some v->(L2.start N vs)[k]? =some (some v):=λk v e=>by
  have hk:=(To.mp e).1;unfold L2.start;rw[TF (by simpa using hk),Tx,e];rfl
 refine s.startJ (by unfold L2.start;simp[l1,l2]) (jl as) (λk sl hc e=>?_) (λk j sl hc e=>?_) λk k' j h1 h2=>uA hn h1 h2
 ·rcases h.at (get k sl e) with⟨_,d,v,z1,z2,z3⟩ | ⟨i,a,o,v,z,_⟩
  ·exact⟨d,v,z1,st k v z2,z3⟩
  ·rw[hc] at z;cases z
 ·rcases h.at (get k sl e) with⟨z,_⟩ | ⟨i,a,o,v,z,z0,z1,z2,z3,z4⟩
  ·rw[hc] at z;cases z
  ·rw[hc] at z;cases z;exact⟨z0,⟨a,o,z1⟩,z2,(st k v z3).trans z4.symm⟩
end
def fO(as:List Ar)(n m:Nat)(τ:XS):XE:=⟨λρ Q=>match jt as ρ with
 |none=>False
 |some (.ex e)=>Q (.ex e ρ)
 |some (.ok ss)=>(objs as).Nodup/\as.length=m/\τ.f (ss.map some++TH (n - ss.length) none) λx=>match x with
  | .rt r ρ'=>(∀c,r≠ .ow c)/\∃ρ2,gF as 0 ρ ρ'=some ρ2/\Q (.val r ρ2)
  | .nx ρ'=>∃ρ2,gF as 0 ρ ρ'=some ρ2/\Q (.val (.fz .non) ρ2)
  | .ex e ρ'=>∃ρ2,gF as 0 ρ ρ'=some ρ2/\Q (.ex e ρ2),λρ P Q k h=>by
 match jt as ρ,h with
 |some (.ex e),h=>exact k _ h
 |some (.ok ss),h=>
  refine⟨h.1,h.2.1,τ.mono _ _ _ (λx hx=>?_) h.2.2⟩
  match x,hx with
  | .rt r ρ',hx=>exact⟨hx.1,hx.2.elim λρ2 q=>⟨ρ2,q.1,k _ q.2⟩⟩
  | .nx ρ',hx=>exact hx.elim λρ2 q=>⟨ρ2,q.1,k _ q.2⟩
  | .ex e ρ',hx=>exact hx.elim λρ2 q=>⟨ρ2,q.1,k _ q.2⟩⟩
def pZ(P:T3)(w:World)(K:Ti)(mg:Str->Option Value)(base:Heap)(cv:Nat->Value)(k:Nat)(x:Str)(N:List Str)(m:Nat)(τ:XS):Prop:=
 ∃f fd ps,mg x=some (.ref f)/\Uk K (.ref f)=true/\Binds K fd ps []/\FnOk P w K mg base (f7 P w cv) k f fd ps (MX K cv N m τ)
section
variable{X:Cx}{Xw:Nat->Hp->Prop}{cv:Nat->Value}{k m:Nat}{x:Str}{v6 pos:Pos}{e:Expr}{es:List Expr}{as:List Ar}{N:List Str}{τ:XS}
def FA{u8 ZQ F H:Hp}{σ:St}{ρ:aM}{Q:VK}{ss:List Sl}{vs:List V}(s:StX X.K u8 ZQ F H σ ρ)(a:ArgOk X.K F σ ρ as ss vs) (w:(objs as).Nodup/\as.length=m/\τ.f (ss.map some++TH (N.length - ss.length) none) λx=>match x with
 | .rt r ρ'=>(∀c,r≠ .ow c)/\∃ρ2,gF as 0 ρ ρ'=some ρ2/\eD X.K Xw u8 ZQ σ Q (.val r ρ2)
 | .nx ρ'=>∃ρ2,gF as 0 ρ ρ'=some ρ2/\eD X.K Xw u8 ZQ σ Q (.val (.fz .non) ρ2)
 | .ex e ρ'=>∃ρ2,gF as 0 ρ ρ'=some ρ2/\eD X.K Xw u8 ZQ σ Q (.ex e ρ2)):MX X.K cv N m τ vs H Q (L3.EX cv Xw):=by
 obtain⟨hn,hm,w⟩:=w;refine⟨a.len.2.trans hm,F,eX H ρ (objs as),_,wY s a hn,τ.mono _ _ _ (λx hx=>?_) w⟩
 match x,hx with
 | .rt r ρ',hx=>
   obtain⟨h1,ρ2,h2,h3⟩:=hx;exact λv σ' F' H' t=>h3 v F' H' (qb s t h1 hn h2)
 | .nx ρ',hx=>
   obtain⟨ρ2,h2,h3⟩:=hx;exact λσ' F' H' t=>h3 .non F' H' (StX.cons (d:= .non) (v:= .non) (nV s t hn h2) rfl)
 | .ex n ρ',hx=>
   obtain⟨ρ2,h2,h3⟩:=hx;exact λσ' F' H' t=>⟨n,rfl,h3 F' H' (nV s t hn h2)⟩
def mM(F:pZ X.prog X.w X.K X.mg X.base cv k x N m τ)(hr:Room k X.A)(hx:Passes (f7 X.prog X.w cv) X (L3.EX cv Xw))(hg:Gl X x)(ha:K6 X Xw (e::es) as)
 (lN:(x==("__debug__":Str))=false:=by decide)(he:Tq (e::es) X.env=(false,eval e X.env)::Tq es X.env:=by rfl)(iX:(UM pos (Tq es X.env)).any (·.1)=false:=by rfl):
 PX X Xw (.Call (.Name x v6) (e::es) [] pos) (fO as N.length m τ):=by
 obtain⟨f,fd,ps,hm,hk,hb,hF⟩:=F;refine λu8 ZQ=>PE.weak (vF hF hr hg hm hk hb .nil hx ha lN he iX) λσ H Q ⟨F,ρ,s,w⟩=>?_;refine⟨F,ρ,s.ok.st,?_⟩;unfold fO at w
 dsimp only at w
 match jt as ρ,w with
 |some (.ex n),w=>exact λF' H' e'=>w F' H' (s.ext' e')
 |some (.ok ss),w=>
  intro vs F' H' e' a;show MX X.K cv N m τ (vs++[]) H' Q (L3.EX cv Xw);rw[T_];exact FA (s.ext' e') a w
end
section
variable{P:T3}{w:World}{K:Ti}{mg:Str->Option Value}{base:Heap}{cv:Nat->Value}{k m:Nat}{f:Addr}{N ps:List Str}{x:Str}{st:Stmt}{τ:XS}
def wX(T:bO K mg x st f)(S:FnScope N ps (ag st))(hm:ps.length=m)
 (zm:∀(kV doc pm:Value) (an:Option Addr) (bT ct:Value) (us:List Value),us.length=ps.length->WJ (Uj x x (aS st) (aB st) (ag st) .none kV doc pm an bT ct) ⟨us,[]⟩=pure (ps.zip us))
 (bX:∀(bT:Value) (A:Uu) (outer:List Env) (s:Tp) (H:Hp) (E:XK),Room k (A.deeper (VB x (ag st) s.heap.objs.size f bT))->
  PXSs (eC (f7 P w cv) P w K mg base N x (ag st) f bT A outer s H E) (λn H'=>E (cv n) none H') (aB st) τ):pZ P w K mg base cv (k+1) x N m τ:=by
 obtain⟨h1,fd,Fn⟩:=T;exact⟨f,fd,ps,h1,Fn.kp,Fn.binds zm,LC Fn S bX hm⟩
end
def wm(C:Addr)(i:Nat)(x:Str)(n:Nat)(τ:XS):XE:=⟨λρ Q=>(match bu ρ i C with | some (_,o)=>o.fs.lookup x=none | none=>False)/\(fO [.o i] n 1 τ).f ρ Q,λρ P Q k h=>⟨h.1,(fO [.o i] n 1 τ).mono ρ P Q k h.2⟩⟩
def wD(P:T3)(w:World)(K:Ti)(mg:Str->Option Value)(base:Heap)(cv:Nat->Value)(k:Nat)(C:Addr)(x:Str)(N:List Str)(m:Nat)(τ:XS):Prop:=
 ∃f fd ps,Cls K C/\Meth K C x f/\Binds K fd ps []/\FnOk P w K mg base (f7 P w cv) k f fd ps (MX K cv N m τ)
section
variable{X:Cx}{Xw:Nat->Hp->Prop}{cv:Nat->Value}{k i:Nat}{C:Addr}{x y:Str}{p v6 pos:Pos}{N:List Str}{τ:XS}{pl:Sem Bool}
def t_(F:wD X.prog X.w X.K X.mg X.base cv k C x N 1 τ)(hr:Room k X.A)(hx:Passes (f7 X.prog X.w cv) X (L3.EX cv Xw))(h:PE X (.Name y p) (fE i))
 (ht:eval (.Call (.Attribute (.Name y p) x v6) [] [] pos) X.env=(do
  let ov<-eval (.Name y p) X.env
  W0 v6.atName
  let (f,first)<-holding [ov] (Wc ov x pl)
  W3 pos f first (UM pos (Tq [] X.env)) (Vg pos (Ux [] X.env))):=by rfl):
 PX X Xw (.Call (.Attribute (.Name y p) x v6) [] [] pos) (wm C i x N.length τ):=by
 obtain⟨f,fd,ps,hc,hm,hb,hF⟩:=F;refine λu8 ZQ=>PE.weak (rm h hc hm hF hr hb .nil hx ht) λσ H Q ⟨F,ρ,s,w⟩=>?_;obtain⟨w1,w2⟩:=w
 match ho:bu ρ i C,w1 with
 |some (a,o),nj=>
  obtain⟨h1,h2,h3⟩:=s.ok.st.ob ho;obtain⟨dx,gs,q1,q2,q3,q4⟩:=h2.foot;have hi:=(f_ ho).1;have w2:(match jt [.o i] ρ with
   |none=>False
   |some (.ex e)=>eD X.K Xw u8 ZQ σ Q (.ex e ρ)
   |some (.ok ss)=>_):=w2
  have e:jt [.o i] ρ=aa [.ob a o]:=by unfold jt;rw[hi];rfl
  rw[e] at w2;exact⟨.ref a,h1,a,dx,gs,rfl,by rw[q1,h3],q3.no nj,FA s (as:=[.o i]) (ss:=[.ob a o]) (vs:=[.ref a]) ⟨a,o, .ref a,[],[],rfl,rfl,hi,h1,rfl,rfl⟩ w2⟩
end
section
variable{P:T3}{w:World}{K:Ti}{mg:Str->Option Value}{base:Heap}{cv:Nat->Value}{k m:Nat}{f C:Addr}{N ps:List Str}{x qual:Str}{st:Stmt}{τ:XS}
def Eo(T:MethAt K C x qual st f)(S:FnScope N ps (ag st))(hm:ps.length=m)
 (zm:∀(kV doc pm:Value) (an:Option Addr) (bT ct:Value) (us:List Value),us.length=ps.length->WJ (Uj x qual (aS st) (aB st) (ag st) .none kV doc pm an bT ct) ⟨us,[]⟩=pure (ps.zip us))
 (bX:∀(bT:Value) (A:Uu) (outer:List Env) (s:Tp) (H:Hp) (E:XK),Room k (A.deeper (VB qual (ag st) s.heap.objs.size f bT))->
  PXSs (eC (f7 P w cv) P w K mg base N qual (ag st) f bT A outer s H E) (λn H'=>E (cv n) none H') (aB st) τ):wD P w K mg base cv (k+1) C x N m τ:=by
 obtain⟨hC,hM,fd,Fn⟩:=T;exact⟨f,fd,ps,hC,hM,Fn.binds zm,LC Fn S bX hm⟩
end
def FZ(g:D->D->M D)(χ:XE)(δ:DE):XE:=⟨λρ Q=>χ.f ρ λx=>match x with
 | .val (.fz d) ρ'=>(match δ ρ' with | none=>False | some (.ok d2)=>∃b,g d d2=aa (.bl b)/\Q (.val (.fz (.bl b)) ρ') | some (.ex n)=>Q (.ex n ρ'))
 | .val _ _=>False
 | .ex n ρ'=>Q (.ex n ρ'),λρ P Q k h=>χ.mono ρ _ _ (λx hx=>by
 match x,hx with
 | .ex n ρ',hx=>exact k _ hx
 | .val (.fz d) ρ',hx=>
   have hx:(match δ ρ' with | none=>False | some (.ok d2)=>∃b,g d d2=aa (.bl b)/\P (.val (.fz (.bl b)) ρ') | some (.ex n)=>P (.ex n ρ')):=hx;show (match δ ρ' with | none=>False | some (.ok d2)=>∃b,g d d2=aa (.bl b)/\Q (.val (.fz (.bl b)) ρ') | some (.ex n)=>Q (.ex n ρ'))
   match δ ρ',hx with
   |some (.ok d2),⟨b,h1,h2⟩=>exact⟨b,h1,k _ h2⟩
   |some (.ex n),hx=>exact k _ hx) h⟩
def r0(χ:XE):XT:=⟨λρ Q=>χ.f ρ λx=>match x with
 | .val (.fz (.bl b)) ρ'=>Q (.val b ρ')
 | .val _ _=>False
 | .ex n ρ'=>Q (.ex n ρ'),λρ P Q k h=>χ.mono ρ _ _ (λx hx=>by
 match x,hx with
 | .ex n ρ',hx=>exact k _ hx
 | .val (.fz (.bl b)) ρ',hx=>exact k _ hx) h⟩
def rZ(t:XT):XT:=⟨λρ Q=>t.f ρ λx=>match x with
 | .val b ρ'=>Q (.val (!b) ρ')
 | .ex n ρ'=>Q (.ex n ρ'),λρ P Q k h=>t.mono ρ _ _ (λx hx=>by cases x<;>exact k _ hx) h⟩
section
variable{X:Cx}{Xw:Nat->Hp->Prop}{a b:Expr}{χ:XE}{δ:DE}{ta:XT}{pos:Pos}
def KA{g:D->D->M D}{op:CmpOp}{r:R2}(ho:OpR X (Uy op) r)(hg:wF X.K r g)(ha:PX X Xw a χ)(hb:PD X Xw b δ)(hm:Uz op b=false:=by first | exact vb _ | rfl):PX X Xw (.Compare a [op] [b] pos) (FZ g χ δ):=λu8 ZQ=>
 PE.weak (A8 ho (ha u8 ZQ) hb hm) λσ H Q ⟨F,ρ,s,w⟩=>⟨F,ρ,s,χ.mono ρ _ _ (λx hx=>by
  match x,hx with
  | .ex n ρ',hx=>exact hx
  | .val (.fz d) ρ',hx=>
    intro v F' H' st;have qd:Den X.K F' d v:=by obtain⟨u,q1,q2⟩:=st.ok.st.den 0 _ rfl;cases q1;exact q2
    have st:=st.tail;refine⟨F',ρ',st.ok.st,?_⟩;have hx:(match δ ρ' with | none=>False | some (.ok d2)=>∃b,g d d2=aa (.bl b)/\eD X.K Xw u8 ZQ σ Q (.val (.fz (.bl b)) ρ') | some (.ex n)=>eD X.K Xw u8 ZQ σ Q (.ex n ρ')):=hx
    match δ ρ',hx with
    |some (.ex n),hx=>exact λF2 H2 e2=>hx F2 H2 (st.ext' e2)
    |some (.ok d2),⟨c,h1,h2⟩=>
     intro u H2 F2 e2 q2;refine hg Xw F2 H2 v u d d2 _ e2.fh (Den.mono e2.ff qd) q2 ?_;rw[h1];exact λz H3 F3 e3 q3=>h2 z F3 H3 (((st.ext' e2).ext' e3).cons q3)) w⟩
def vQ(ha:PX X Xw a χ)(he:∀whole,isTrue a X.env whole=(do let v<-whole;W0 a.pos;holding [v] (truthy v)):=by intro _;rfl):Gg X Xw a (r0 χ):=λu8 ZQ=>
 PT.weak (yf (ha u8 ZQ) he) λσ H Q ⟨F,ρ,s,w⟩=>⟨F,ρ,s,χ.mono ρ _ _ (λx hx=>by
  match x,hx with
  | .ex n ρ',hx=>exact hx
  | .val (.fz (.bl b)) ρ',hx=>
    intro v F' H' st;have qd:Den X.K F' (.bl b) v:=by obtain⟨u,q1,q2⟩:=st.ok.st.den 0 _ rfl;cases q1;exact q2
    cases (show _=_ from qd);exact⟨b,rfl,hx F' H' st.tail⟩) w⟩
def vP(h:Gg X Xw a ta):Gg X Xw (.UnaryOp .Not a pos) (rZ ta):=λu8 ZQ=>PT.weak (E6 (h u8 ZQ)) λσ H Q ⟨F,ρ,s,w⟩=>⟨F,ρ,s,ta.mono ρ _ _ (λx hx=>by
 match x,hx with
 | .ex n ρ',hx=>exact hx
 | .val b ρ',hx=>exact λF' H' st=>hx F' H' st) w⟩
end
def CallR(P:T3)(w:World)(K:Ti)(mg:Str->Option Value)(base:Heap)(cv:Nat->Value)(k:Nat)(C:Addr)(x:Str)(m:Nat)(g:Addr->Ob->List D->M D):Prop:=
 ∃f fd ps,mg x=some (.ref f)/\Uk K (.ref f)=true/\Binds K fd ps []/\FnOk P w K mg base (f7 P w cv) k f fd ps (NV K cv C m g)
section
variable{X:Cx}{Xw:Nat->Hp->Prop}{cv:Nat->Value}{k m i:Nat}{C:Addr}{x y:Str}{p v6 pos:Pos}{es:List Expr}{δs:DA}
def dN{g:Addr->Ob->List D->M D}(F:CallR X.prog X.w X.K X.mg X.base cv k C x m g)(hr:Room k X.A)(hx:Passes (f7 X.prog X.w cv) X (L3.EX cv Xw))(hg:Gl X x)(h:PE X (.Name y p) (fE i))(ha:lz X Xw es δs)
 (lN:(x==("__debug__":Str))=false:=by decide)(he:Tq (.Name y p::es) X.env=(false,eval (.Name y p) X.env)::Tq es X.env:=by rfl)(iX:(UM pos (Tq es X.env)).any (·.1)=false:=by rfl):
 PD X Xw (.Call (.Name x v6) (.Name y p::es) [] pos) (aP C i x m g δs):=by
 obtain⟨f,fd,ps,hm,hk,hb,hF⟩:=F;refine PE.weak (vF hF hr hg hm hk hb .nil hx (gT h ha he) lN he iX) λσ H Q ⟨F,ρ,s,w⟩=>?_;unfold aP at w;split at w
 ·rename_i a o ho;obtain⟨h1,h2,h3⟩:=s.ob ho;split at w
  ·refine⟨.ref a,h1,F,ρ,s,WPL.mono (WP.bindL w) λvs H2 ⟨F2,ds,e2,r2,w2⟩=>?_⟩;split at w2
   ·rename_i hl;exact⟨F2,o,ds,a,vs++[],rfl,e2.fh,h3,(DenO.ext (K:=X.K) (sl:= .ob a o) (v:= .ref a) e2 ⟨rfl,h2⟩).2,by rw[T_];exact r2,by rw[T_,<-r2.len];exact hl,WP.xw w2 λn H h=>⟨n,rfl,h⟩⟩
   ·exact w2.elim
  ·exact w.elim
 ·exact w.elim
end
section
variable{P:T3}{w:World}{K:Ti}{mg:Str->Option Value}{base:Heap}{cv:Nat->Value}{k m:Nat}{f C:Addr}{N ps:List Str}{x:Str}{st:Stmt}{e:Expr}{pos:Pos}{δ:DE}
def Di(T:bO K mg x st f)(S:FnScope N ps (ag st))(hm:ps.length=m+1)
 (zm:∀(kV doc pm:Value) (an:Option Addr) (bT ct:Value) (us:List Value),us.length=ps.length->WJ (Uj x x (aS st) (aB st) (ag st) .none kV doc pm an bT ct) ⟨us,[]⟩=pure (ps.zip us))
 (hb:aB st=[.Return (some e) pos])
 (bX:∀(bT:Value) (A:Uu) (outer:List Env) (s:Tp) (H:Hp) (E:XK),Room k (A.deeper (VB x (ag st) s.heap.objs.size f bT))->
  PD (eC (f7 P w cv) P w K mg base N x (ag st) f bT A outer s H E) (λn H'=>E (cv n) none H') e δ):CallR P w K mg base cv (k+1) C x m λa o ds=>δ (bB N.length a o ds):=by
 obtain⟨h1,fd,Fn⟩:=T;exact⟨f,fd,ps,h1,Fn.kp,Fn.binds zm,LF Fn S hb bX m hm⟩
end
section
variable{K:Ti}{u8 U F H:Hp}{σ:St}{ρ:aM}{D:Addr}{o o':HO}
def StX.notD(s:StX K u8 (upd U D o) F H σ ρ){i:Nat}{sl:Sl}{v:V}(h1:ρ[i]? =some (some sl))(h2:σ[i]? =some (some v)):D∉sl.foot H v:=λhb=>by
 cases sl with
 |fz d=>cases hb
 |ow c=>
  obtain⟨a,o1,rfl,_⟩:=s.ok.foot h1 h2;have:D=a:=TQ.mp hb;have z:=s.ok.own i c a h1 h2;rw[<-this,ar] at z;cases z
 |ob a o1=>
  have z:=s.obn i a o1 D h1 hb;rw[ar] at z;cases z
def StX.addD(s:StX K u8 U F H σ ρ)(hD:H D=none)(hF:u8 D=none):StX K u8 (upd U D o) F (upd H D o) σ ρ:=by
 have fD:F D=none:=Same.free s.ok.st.fh hD;have ne:∀{i:Nat}{sl:Sl}{v:V},ρ[i]? =some (some sl)->σ[i]? =some (some v)->∀b∈sl.foot H v,b≠D:=λh1 h2 b hb z=>by
  obtain⟨_,u,e,_⟩:=(s.ok.foot h1 h2).cell b hb;rw[z,hD] at e;cases e
 have mv:∀{i:Nat}{sl:Sl}{v:V},ρ[i]? =some (some sl)->σ[i]? =some (some v)->DenO K F (upd H D o) sl v/\sl.foot (upd H D o) v=sl.foot H v:=λh1 h2=>
  DenO.move (Same.refl _) (s.ok.foot h1 h2) (λb hb=>aj (ne h1 h2 b hb)) λb hb=>((s.ok.foot h1 h2).cell b hb).1
 refine⟨⟨⟨λb u e=>?_,s.ok.ext.ff,λb u e=>?_,λb hb=>?_⟩,⟨λb u e=>?_,λi sl h=>?_⟩,s.ok.len,λi c a h hv=>?_,λi j sl fG v v' b h1 h2 h3 h4 h5 h6=>?_⟩,λi a ob b h hb=>?_⟩
 ·by_cases z:b=D
  ·rw[z,ar] at e⊢;exact e
  ·rw[aj z] at e⊢;exact s.ok.ext.hh b u e
 ·rw[aj (λz=>by rw[z,fD] at e;cases e)];exact s.ok.st.fh b u e
 ·by_cases z:b=D
  ·rw[z,fD,hF];exact .inl rfl
  ·rw[aj z] at hb;rcases s.ok.ext.new b hb with q | ⟨ts,q⟩
   ·exact .inl q
   ·exact .inr ⟨ts,by rw[aj z];exact q⟩
 ·rw[aj (λz=>by rw[z,fD] at e;cases e)];exact s.ok.st.fh b u e
 ·obtain⟨v,e,_⟩:=s.ok.st.den i sl h;exact⟨v,e,(mv h e).1⟩
 ·obtain⟨a',o1,q,e,_⟩:=s.ok.foot h hv;cases q;rw[aj (λz=>by rw[z,hD] at e;cases e)];exact s.ok.own i c a h hv
 ·rw[(mv h1 h3).2] at h5;rw[(mv h2 h4).2] at h6;exact s.ok.sep i j sl fG v v' b h1 h2 h3 h4 h5 h6
 ·obtain⟨e1,_⟩:=s.at h;have hb:b∈(Sl.ob a ob).foot (upd H D o) (.ref a):=hb;rw[(mv h e1).2] at hb;rw[aj (ne h e1 b hb)];exact s.obn i a ob b h hb
def StX.chgD(s:StX K u8 (upd U D o) F H σ ρ)(hF:u8 D=none)(fD:F D=none)(hn:∀ts,o'≠ .tup ts):StX K u8 (upd U D o') F (upd H D o') σ ρ:=by
 have mv:∀{i:Nat}{sl:Sl}{v:V},ρ[i]? =some (some sl)->σ[i]? =some (some v)->DenO K F (upd H D o') sl v/\sl.foot (upd H D o') v=sl.foot H v:=λh1 h2=>
  DenO.move (Same.refl _) (s.ok.foot h1 h2) (λb hb=>aj (λz=>s.notD h1 h2 (z▸hb))) λb hb=>((s.ok.foot h1 h2).cell b hb).1
 have up:∀{b:Addr},b≠D->upd U D o' b=upd U D o b:=λz=>by rw[aj z,aj z]
 refine⟨⟨⟨λb u e=>?_,s.ok.ext.ff,λb u e=>?_,λb hb=>?_⟩,⟨λb u e=>?_,λi sl h=>?_⟩,s.ok.len,λi c a h hv=>?_,λi j sl fG v v' b h1 h2 h3 h4 h5 h6=>?_⟩,λi a ob b h hb=>?_⟩
 ·by_cases z:b=D
  ·rw[z,ar] at e⊢;exact e
  ·rw[up z] at e;rw[aj z];exact s.ok.ext.hh b u e
 ·rw[aj (λz=>by rw[z,fD] at e;cases e)];exact s.ok.st.fh b u e
 ·by_cases z:b=D
  ·rw[z,fD,hF];exact .inl rfl
  ·rw[up z] at hb;rcases s.ok.ext.new b hb with q | ⟨ts,q⟩
   ·exact .inl q
   ·exact .inr ⟨ts,by rw[up z];exact q⟩
 ·rw[aj (λz=>by rw[z,fD] at e;cases e)];exact s.ok.st.fh b u e
 ·obtain⟨v,e,_⟩:=s.ok.st.den i sl h;exact⟨v,e,(mv h e).1⟩
 ·have q:=s.ok.own i c a h hv;by_cases z:a=D
  ·rw[z,ar] at q;cases q
  ·rw[up z];exact q
 ·rw[(mv h1 h3).2] at h5;rw[(mv h2 h4).2] at h6;exact s.ok.sep i j sl fG v v' b h1 h2 h3 h4 h5 h6
 ·obtain⟨e1,_⟩:=s.at h;have hb:b∈(Sl.ob a ob).foot (upd H D o') (.ref a):=hb;rw[(mv h e1).2] at hb;have q:=s.obn i a ob b h hb;by_cases z:b=D
  ·rw[z,ar] at q;cases q
  ·rw[up z];exact q
def StX.frzD(s:StX K u8 (upd U D o) F H σ ρ)(hU:U D=none)(hD:H D=some o)(fD:F D=none):StX K u8 U (upd F D o) H σ ρ:=by
 have ff:Same F (upd F D o):=λb u e=>by rw[aj (λz=>by rw[z,fD] at e;cases e)];exact e
 have mv:∀{i:Nat}{sl:Sl}{v:V},ρ[i]? =some (some sl)->σ[i]? =some (some v)->DenO K (upd F D o) H sl v/\sl.foot H v=sl.foot H v:=λh1 h2=>
  DenO.move ff (s.ok.foot h1 h2) (λb hb=>rfl) λb hb=>by
   have nb:b≠D:=λz=>s.notD h1 h2 (by rw[<-z];exact hb);rw[aj nb];exact((s.ok.foot h1 h2).cell b hb).1
 have fh:Same (upd F D o) H:=λb u e=>by
  by_cases z:b=D
  ·rw[z,ar] at e;rw[z,hD];exact e
  ·rw[aj z] at e;exact s.ok.st.fh b u e
 have sU:Same U (upd U D o):=λb u e=>by rw[aj (λz=>by rw[z,hU] at e;cases e)];exact e
 refine⟨⟨⟨sU.trans s.ok.ext.hh,s.ok.ext.ff.trans ff,fh,λb hb=>?_⟩,⟨fh,λi sl h=>?_⟩,s.ok.len,λi c a h hv=>Same.free sU (s.ok.own i c a h hv),s.ok.sep⟩,λi a ob b h hb=>Same.free sU (s.obn i a ob b h hb)⟩
 ·have z:b≠D:=λz=>hb (by rw[z];exact hU);rcases s.ok.ext.new b (by rw[aj z];exact hb) with q | ⟨ts,q⟩
  ·exact .inl (by rw[aj z];exact q)
  ·exact .inr ⟨ts,by rw[aj z] at q;exact q⟩
 ·obtain⟨v,e,_⟩:=s.ok.st.den i sl h;exact⟨v,e,(mv h e).1⟩
end
end L3
namespace L3
open PySem PySem.Spec L2 SeqAt HT
open PyProof.Rows hiding St
def fP(χ:XE):List D->List D->aM->(List D->aM->Prop)->Prop
 |[],M2,ρ,Q=>Q M2 ρ
 |d::ds,M2,ρ,Q=>M2.length<lim/\χ.f (some (.fz d)::ρ) λx=>match x with
  | .val (.fz y) (_::ρ')=>fP χ ds (M2++[y]) ρ' Q
  |_=>False
theorem oZ{χ:XE}{P Q:List D->aM->Prop}(k:∀ys ρ,P ys ρ->Q ys ρ):∀(ds M2:List D) (ρ:aM),fP χ ds M2 ρ P->fP χ ds M2 ρ Q
 |[],M2,ρ,h=>k _ _ h
 |d::ds,M2,ρ,h=>⟨h.1,χ.mono _ _ _ (λx hx=>by
  match x,hx with
  | .val (.fz y) (_::ρ'),hx=>exact oZ k ds _ ρ' hx) h.2⟩
def uu(δi:DA)(χ:XE):XE:=⟨λρ Q=>match δi ρ with
 |none=>False
 |some (.ex n)=>Q (.ex n ρ)
 |some (.ok ds)=>fP χ ds [] ρ λys ρ'=>ys.length<=lim/\Q (.val (.fz (.lst ys)) ρ'),λρ P Q k h=>by
 match δi ρ,h with
 |some (.ex n),h=>exact k _ h
 |some (.ok ds),h=>exact oZ (λys ρ' q=>⟨q.1,k _ q.2⟩) ds [] ρ h⟩
section
variable{X:Cx}{Xw:Nat->Hp->Prop}{ZA iter tg:Expr}{scope:Scope}{tn:List Str}{δi:DA}{f8:List (Addr×Obj)}{σ:St}{H F:Hp}{s:Tp}{ρ:aM}{Q:VK}{cl:List (Str×Addr)}{pos:Pos}
def BQ{RR:Value->Addr->Result->Tp->Prop}{χ:XE}{u8 ZQ:Hp}
 (sc:CompSc X scope tn)(hn:tn.length=max 0 1)(hc:X.calm=true)(hi:wG X Xw tg iter δi)
 (hg:∀f8 cl C fp v4 H σ,wI (gj X scope tn f8 cl C fp v4 H) tg 0 σ)
 (he:∀f8 cl C fp v4 H,PX (gj X scope tn f8 cl C fp v4 H) (λ_ _=>False) ZA χ)
 (I:Inv X f8 σ H s)[Tk s](S:StX X.K u8 ZQ F H σ ρ)(w:(uu δi χ).f ρ (eD X.K Xw u8 ZQ σ Q))
 (sx:∀x c,cl.lookup x=some c->X.env.cells.lookup x=some c)(Dq:∀x,scope.names.lookup x=some .free->∃c,cl.lookup x=some c)
 (Ow:∀(s1:Tp) (C D:Addr) (H':Hp),Inv X f8 σ H' s1->Q (.ref D) H'->BlockEnd X f8 C H' s1->RR (.ref D) C (.ok .next) s1):
 wpAny (model X.prog X.w) X.A (eval iter X.env) (λx T0=>wpAny (model X.prog X.w) X.A (pyIter x) (λit v4=>wpAny (model X.prog X.w) X.A (newList []) (λM2 Zz=>
  wpAny (model X.prog X.w) X.A (newFunctionEnv scope X.env.globals cl [] X.env.qual none .none (some X.env)) (λDm ZF=>
   W2 (model X.prog X.w) X.A (.compStart (.ListComp ZA [⟨tg,iter,[],0⟩] scope pos) 0 it M2 {Dm with scope:=relabel scope X.env}) (RR M2 Dm.locals) ZF) X.xe Zz) X.xe v4) X.xe T0) X.xe s:=by
 refine bQ (hi f8 s σ H (λJ H2=>∃F2 ds,Ext F H F2 H2/\ItD X.K F2 J ds/\fP χ ds [] ρ λys ρ'=>ys.length<=lim/\eD X.K Xw u8 ZQ σ Q (.val (.fz (.lst ys)) ρ')) I ⟨F,ρ,S.ok.st,?_⟩) λxv T0 Zy _=>bQ Zy λit v4 ZG _=>?_
 ·have w:(match δi ρ with | none=>False | some (.ex n)=>eD X.K Xw u8 ZQ σ Q (.ex n ρ) | some (.ok ds)=>fP χ ds [] ρ λys ρ'=>ys.length<=lim/\eD X.K Xw u8 ZQ σ Q (.val (.fz (.lst ys)) ρ')):=w
  match δi ρ,w with
  |some (.ex n),w=>exact λF' H' e'=>w F' H' (S.ext' e')
  |some (.ok ds),w=>exact λJ H' F' e q=>⟨F',ds,e,q,w⟩
 obtain⟨ia,fp,M8,J,H2,rfl,I2,T,HY,f2,F2,ds,e2,Mg,w2⟩:=ZG;have S2:=S.ext' e2;have S1:=S2.rebase;have back:=S2.ok.rebase.2;have hU:=ir S2.ok;generalize join F2 ZQ=U at S1 back hU;refine U3 (wpAny_newFunctionEnv sc.nocell (by intro y hy;simp at hy) (λZy zp uV=>?_) sc.kind)
 dsimp only at zp uV⊢
 generalize JB:v4.heap.push {cls:= .type "list",dict:=none,data:= .seq ([]:List Value).toArray}=HL at zp uV⊢;have hC:HL.objs.size=v4.heap.objs.size+1:=by rw[<-JB,Xd]
 have nh:v4.heap.objs.size<HL.objs.size:=by rw[hC];exact VI _
 have old:∀b o,v4.heap.get? b=some o->Zy.get? b=some o:=λb o e=>uV.extBut b o (T1 (UK (TJ e) nh)) (Tj _ (JB▸Tj _ e));have zl:Zy.get? v4.heap.objs.size=some {cls:= .type "list",data:= .seq ([]:List Value).toArray}:=uV.extBut _ _ (T1 nh) (Tj _ (JB▸TM _ rfl));have nD:H2 v4.heap.objs.size=none:=I2.hok.fresh (Tr _);have nC:H2 HL.objs.size=none:=I2.hok.fresh (U6 nh);have gC:v4.heap.get? HL.objs.size=none:=Xa (U6 nh);have fl:∀b∈fp,b<v4.heap.objs.size:=λb hb=>by
  obtain⟨o,e,_⟩:=T.obj 0 _ HY b hb;exact TJ e
 generalize kH:gj X scope tn f8 cl HL.objs.size fp v4 H2=X';have Mw:X'.Ok:=by
  subst kH;refine⟨I2.ok.mod,sc.kind,I2.ok.glob,I2.ok.blt,U6 nh,λx y c h1 h2=>I2.ok.inj x y c (sx _ _ h1) (sx _ _ h2),λx hx=>?_,λ_ _ h=>(by cases h),I2.ok.hd,I2.ok.frames, .inl rfl,
   λb hb=>⟨T1 (UK (fl b hb) nh),λx c h=>(f2 b hb).2.2.2.2.1 x c (sx _ _ h)⟩,I2.bs,T2 I2.ok.bsz I2.sz,λb o e hb=>?_,λb hb z=>?_,I2.stack,I2.stkFree⟩
  ·have hx:(relabel scope X.env).names.lookup x=some .cell\/(relabel scope X.env).names.lookup x=some .free:=hx;exact Dq x (mN sc.nocell hx)
  ·rcases(f2 b hb).2.2.2.1 with z | z
   ·exact I2.ok.noex b o e z
   ·exact Zp (T8 (TJ (I2.ok.bs b o e).1) z) (Uv _)
  ·rcases Tz.mp (I2.stkSub b z) with q | q
   ·exact(f2 b hb).2.1 q
   ·exact(f2 b hb).2.2.1 q
 have NO:∀b o,H2 b=some o->b≠v4.heap.objs.size:=λb o e=>b5 e nD;have zf:∀{H':Hp},(∀b∈fp,H' b=none)->∀b∈fp,uy X' [] H' b:=λOW b hb=>by
  subst kH;refine⟨OW b hb,T1 (UK (fl b hb) nh),λz=>Mw.exfs b hb z, .inl hb,λx c h=>(f2 b hb).2.2.2.2.1 x c (sx _ _ h),λp hp=>?_⟩;rw[T_] at hp;exact(f2 b hb).2.2.2.2.2 p hp
 have I0:Inv X' [] (TH (max 0 1) none++σ) (upd H2 v4.heap.objs.size (.lst [])) {v4 with heap:=Zy,toks:=v4.toks+([]:List (Str×Value)).length}:=by
  subst kH;have JL:HOk X.prog X.w (upd H2 v4.heap.objs.size (.lst [])) Zy:=I2.hok.laid old (Tr _) ⟨Ur _,[],_, .nil,zl⟩;refine⟨Mw,rfl,I2.bare,Un.laid old (Tr _) nD,⟨_,zp,λi x v h1 h2 h3=>?_⟩,λx c h=>?_,?_,λx c h=>?_,λp hp=>?_,JL,?_⟩
  ·by_cases hi:i<max 0 1
   ·rw[TF (by simpa using hi),Um,Zn hi] at h2;cases h2
   ·have IL:tn.length<=i:=by omega
    have h1:(tn++bY tn X.N)[i]? =some x:=h1;rw[TR IL] at h1;rw[TR (by simp;omega),U1,<-hn] at h2;have hN:∃y,X.N[i - tn.length]? =some y/\(x,y)∈(bY tn X.N).zip X.N:=by
     have iL:=(To.mp h1).1;have D6:i - tn.length<X.N.length:=by simpa[bY] using iL
     refine⟨X.N[i - tn.length],Tg D6,?_⟩;refine YJ.mpr ⟨i - tn.length,?_⟩;rw[Yo];exact⟨h1,Tg D6⟩
    obtain⟨y,hy,hm⟩:=hN;have hV:(relabel scope X.env).names.lookup x=some .local\/(relabel scope X.env).names.lookup x=some .cell\/(relabel scope X.env).names.lookup x=some .free:=h3;rcases sc.vis _ hm with nj | ⟨JQ,AJ⟩
    ·have nj:scope.names.lookup x=none:=nj;have:(relabel scope X.env).names.lookup x=none:=mP nj;rw[this] at hV;rcases hV with z | z | z<;>cases z
    ·have JQ:x=y:=JQ;subst JQ;have AJ:scope.names.lookup x=some .free:=AJ;have hk:=sc.frees (x, .free) (UY AJ) rfl;obtain⟨m,La,Ga⟩:=I2.loc;obtain⟨u,ru,lk⟩:=Ga _ x v hy h2 (by rcases hk with z | z;exact .inr (.inl z);exact .inr (.inr z));refine⟨u,ru, .inr ⟨?_,?_⟩⟩
     ·rcases hV with z | z | z
      ·exact Zp z (iB AJ)
      ·exact .inl z
      ·exact .inr z
     ·rcases lk with⟨z,_⟩ | ⟨_,c,OA,GO⟩
      ·rcases hk with q | q
       ·rw[show X.env.kindOf x=some .local from z] at q;cases q
       ·rw[show X.env.kindOf x=some .local from z] at q;cases q
      ·obtain⟨c',zo⟩:=Dq x AJ;have:=sx _ _ zo;rw[OA] at this;cases this;obtain⟨o,ho,hd⟩:=GO;exact⟨c,zo,o,old _ _ ho,hd⟩
  ·obtain⟨v,o,ho,hd⟩:=I2.cell x c (sx _ _ h);exact⟨v,o,old _ _ ho,hd⟩
  ·show upd H2 v4.heap.objs.size (.lst []) HL.objs.size=none;rw[aj (V2 nh)];exact nC
  ·have LP:=sx _ _ h;obtain⟨v,q⟩:=I2.cell x c LP;rw[aj (T1 q.lt)];exact I2.freeC x c LP
  ·rw[T_] at hp;obtain⟨e,nn,ne,nf,d⟩:=I2.pin p hp;have iL:=TJ e;refine⟨old _ _ e,by rw[aj (T1 iL)];exact nn,T1 (UK iL nh),λz=>?_,d⟩;rcases Tz.mp (I2.stkSub p.1 z) with q | q
   ·exact ne q
   ·exact nf q
  ·show (TH (max 0 1) none++σ).length=(tn++bY tn X.N).length;rw[Tt,Tt,U1,hn,show (bY tn X.N).length=X.N.length from by simp[bY],I2.len]
 have loop:∀Zz:Tp,Zz={v4 with heap:=Zy,toks:=v4.toks+([]:List (Str×Value)).length}->
  W2 (model X.prog X.w) X.A (.compLoop (.ListComp ZA [⟨tg,iter,[],0⟩] scope pos) 0 (.ref ia) (.ref v4.heap.objs.size) (Y7 scope cl HL.objs.size X.env))
   (RR (.ref v4.heap.objs.size) HL.objs.size) Zz:=by
  intro Zz O7;have qk:X'.env=Y7 scope cl HL.objs.size X.env:=by subst kH;rfl
  have hA:X'.A=X.A:=by subst kH;rfl
  have hP:X'.prog=X.prog:=by subst kH;rfl
  have hw:X'.w=X.w:=by subst kH;rfl
  have hK:X'.K=X.K:=by subst kH;rfl
  have Pa:X'.xe=λ_ _=>False:=by subst kH;rfl
  have xq:X'.calm=true:=by subst kH;exact hc
  have OI:X'.fs=o9 X.stack:=by subst kH;rfl
  have hex:X'.ex=fp:=by subst kH;rfl
  have Oq:X'.ZQ=H2:=by subst kH;rfl
  have L8:X'.ZR=v4:=by subst kH;rfl
  have pass:∀{α:Type}{t:Sem α}{P:α->Tp->Prop}{E':Value->Tp->Prop}{s:Tp},wpAny (model X'.prog X'.w) X'.A t P X'.xe s->wpAny (model X.prog X.w) X.A t P E' s:=λ{α t P E' s} h=>by
   rw[hP,hw,hA,Pa] at h;exact UO h (λ_ _ q=>q) λ_ _ q=>q.elim
  have UD:U v4.heap.objs.size=none:=Same.free S1.ok.ext.hh nD;have F2D:F2 v4.heap.objs.size=none:=Same.free S1.ok.st.fh nD;refine tm (λm s'=>Tk s'/\∃(i:Nat) (F' H':Hp) (vs:List V) (ys:List D) (σt:St) (ρ':aM),m=ds.length - i/\i<=ds.length/\σt.length=max 0 1/\Inv X' [] (σt++σ) H' s'/\M8 i s'.heap/\(∀b∈fp,H' b=none)/\StX X.K F2 (upd U v4.heap.objs.size (.lst vs)) F' H' σ ρ'/\
   H' v4.heap.objs.size=some (.lst vs)/\F' v4.heap.objs.size=none/\DenL X.K F' ys vs/\fP χ (ds.drop i) ys ρ' λys ρ'=>ys.length<=lim/\eD X.K Xw u8 ZQ σ Q (.val (.fz (.lst ys)) ρ')) ?_ ds.length ?_
  ·rintro m s' ⟨SJ,i,F',H',vs,ys,σt,ρ',rfl,JH,Pc,I',mV,LH,S',hD,fD,IU,w'⟩;by_cases iL:i<ds.length
   ·
    obtain⟨d,hd⟩:∃d,ds[i]? =some d:=⟨_,Tg iL⟩
    obtain⟨JG,zr⟩:=(Mg F' H' i S'.ok.ext.ff S'.ok.st.fh).1 d hd;have ed:ds.drop i=d::ds.drop (i+1):=by
     obtain⟨hi,e⟩:=To.mp hd;rw[VD hi,e]
    rw[ed] at w';obtain⟨JR,w'⟩:=w';refine pass ?_;rw[hP,hw];refine bQ (T.item X' hP hw hK xq i [] s' (σt++σ) H' X'.xe I' (zf LH) mV JG) ?_;rintro r s1 ⟨u,rfl,h1⟩ _;refine pass ?_;rw[hP,hw];refine bQ h1 ?_;rintro _ s2 ⟨x,H3,I3,rx,y3,Gd,K8⟩ _;obtain⟨F3,wy,q3⟩:=zr x H3 y3;have LJ:H3 v4.heap.objs.size=some (.lst vs):=wy.hh _ _ hD;have Of:F3 v4.heap.objs.size=none:=by rw[wy.old hD (λ_ z=>nomatch z)];exact fD
    have S3:=S'.ext' wy;have I3':=I3.pinned (zf K8) (T.obj _ _ Gd);have qA:∀{σ7:St}{H7:Hp}{s7:Tp},Inv X' ([]++nI fp s2.heap) σ7 H7 s7->M8 (i+1) s7.heap/\∀b∈fp,H7 b=none:=λ{σ7 H7 s7} I7=>
     ⟨T.keep _ _ _ Gd λb hb o e=>(I7.pin (b,o) (TL _ (TL _ (e_ hb e)))).1,λb hb=>by
      obtain⟨o,e,_⟩:=T.obj _ _ Gd b hb;exact(I7.pin (b,o) (TL _ (TL _ (e_ hb e)))).2.1⟩
    have OJ:wI X' tg 0 σ:=by subst kH;exact hg _ _ _ _ _ _ _
    have O8:lA X' [] bI:=cI;have OF:PX X' (λ_ _=>False) ZA χ:=by subst kH;exact he _ _ _ _ _ _
    refine pass ?_;rw[<-qk];refine bQ (OJ _ s2 (σt++σ) F3 H3 d [d] x u I3' wy.fh (by rw[<-Pc];simp) rx (by rw[hK];exact q3) rfl) ?_;rintro _ s4 ⟨vt,I4,dt⟩ _;rw[hK] at dt;obtain⟨v0,rfl,Q7⟩:=DenL.one dt;have S4:StX X.K F2 (upd U v4.heap.objs.size (.lst vs)) F3 H3 (some v0::σ) (some (.fz d)::ρ'):=S3.cons Q7;refine pass ?_
    try rw[<-qk]
    refine bQ (O8 _ s4 _ H3 (λb' H5=>b'=true/\∃F5,Ext F3 H3 F5 H5) I4 ⟨F3,_,by rw[hK];exact S4.ok.st,WPB.take⟩) ?_;rintro b' s5 ⟨H5,I5,rfl,F5,C5⟩ _;have Nq:H5 v4.heap.objs.size=some (.lst vs):=C5.hh _ _ LJ;have LA:F5 v4.heap.objs.size=none:=by rw[C5.old LJ (λ_ z=>nomatch z)];exact Of
    have S5:=S4.ext' C5;have R5:=S5.rebase;have Iv:=S5.ok.rebase.2;have Qv:=ir S5.ok;have jD:join F5 (upd U v4.heap.objs.size (.lst vs)) v4.heap.objs.size=some (.lst vs):=by unfold join;rw[LA];exact ar
    generalize join F5 (upd U v4.heap.objs.size (.lst vs))=U5 at R5 Iv Qv jD
    ·rw[Zn rfl];refine pass ?_
     try rw[<-qk]
     refine bQ (OF F5 U5 _ s5 _ H5 (λv H6=>∃F6 y ρ6,StX X.K F2 (upd U v4.heap.objs.size (.lst vs)) F6 H6 σ ρ6/\Same F5 F6/\Den X.K F6 y v/\H6 v4.heap.objs.size=some (.lst vs)/\F6 v4.heap.objs.size=none/\fP χ (ds.drop (i+1)) (ys++[y]) ρ6 λys ρ'=>ys.length<=lim/\eD X.K Xw u8 ZQ σ Q (.val (.fz (.lst ys)) ρ')) I5 ⟨F5,_,by rw[hK];exact R5,χ.mono _ _ _ (λx hx=>?_) w'⟩) ?_
     ·match x,hx with
      | .val (.fz y) (t0::ρ6),hx=>
        intro v F6 H6 st;rw[hK] at st;refine⟨F6,y,ρ6,st.tail.tail.unbase Iv Qv,st.ok.ext.ff,?_,st.ok.ext.hh _ _ jD,?_,hx⟩
        ·obtain⟨u,q1,q2⟩:=st.ok.st.den 0 _ rfl;cases q1;exact q2
        ·rw[st.ok.ext.old jD (λ_ z=>nomatch z)];exact LA
     rintro xv s6 ⟨v,H6,I6,rv,F6,y,ρ6,S6,Rh,qv,Om,LB,w6⟩ _;have O_:vs.length<TK:=by
      have:=IU.len;have:=dH;omega
     refine pass ?_;refine bQ (kN _ s6 _ H6 (.ref v4.heap.objs.size) [v] (.ref v4.heap.objs.size) [xv] (λ_ H7=>H7=upd H6 v4.heap.objs.size (.lst (vs++[v]))) I6 rfl (.cons rv .nil) ⟨_,vs,v,rfl,rfl,Om,O_,rfl⟩) ?_;rintro _ s7 ⟨_,H7,I7,_,rfl⟩ _;refine⟨ds.length - (i+1),by omega,inferInstance,i+1,F6,_,vs++[v],ys++[y],[v0].map some,ρ6,rfl,iL,rfl,I7.unpinned,(qA I7).1,(qA I7).2,S6.chgD F2D LB (λts z=>nomatch z),ar,LB,
      DenL.append (DenL.mono (wy.ff.trans (C5.ff.trans Rh)) IU) (.cons qv .nil),w6⟩
   ·
    have hi:i=ds.length:=by omega
    subst hi;rw[WQ] at w';obtain⟨Nu,w'⟩:=w';refine pass ?_;rw[hP,hw];refine bQ (T.done X' hP hw hK xq ds.length [] s' (σt++σ) H' X'.xe I' (zf LH) mV ((Mg F' H' ds.length S'.ok.ext.ff S'.ok.st.fh).2 (Tr _))) ?_;rintro r s1 ⟨rfl,I1⟩ _;obtain⟨m,hm,_⟩:=I1.loc;rw[qk] at hm;have Ol:H' HL.objs.size=none:=by
     have:=I1.free;rw[qk] at this;exact this
    have u:=I1.base;rw[OI,hex,Oq,L8] at u;have B6:s1.os=v4.os:=by have:=I1.os;rw[L8] at this;exact this
    have D4:=I1.hok;rw[hP,hw] at D4;refine Ow s1 HL.objs.size v4.heap.objs.size H' (I2.call' B6 u D4 I1.bare (λb hb=>⟨(f2 b hb).2.2.2.1,(f2 b hb).2.1,(f2 b hb).2.2.2.2.1,(f2 b hb).2.2.2.2.2⟩)) ?_
     ⟨⟨m,hm⟩,Ol,V2 (UK I2.lt nh),T2 I2.sz (U6 nh),λx c q z=>?_,λp hp z=>?_⟩
    rotate_left
    ·obtain⟨v,q'⟩:=I2.cell x c q;exact Zp (UK q'.lt nh) (by rw[z];exact Uv _)
    ·exact Zp (UK (TJ (I2.pin p hp).1) nh) (by rw[z];exact Uv _)
    have fz:=S'.frzD UD hD fD;have Rg:Same F' (upd F' v4.heap.objs.size (.lst vs)):=λb u q=>by rw[aj (λz=>by rw[z,fD] at q;cases q)];exact q
    exact w' _ _ _ ((fz.cons (d:= .lst ys) (v:= .ref v4.heap.objs.size) ⟨_,vs,rfl,ar,DenL.mono Rg IU,Nu⟩).unbase back hU)
  ·rw[O7];refine⟨⟨(inferInstance:Tk v4).le⟩,0,F2,_,[],[],TH (max 0 1) none,ρ,by simp,Ur _,by simp,I0,T.keep _ _ _ HY (λb hb o e=>old b o e),λb hb=>?_,S1.addD nD F2D,ar,F2D,rfl,by rw[Xc];exact w2⟩;rw[aj (T1 (fl b hb))];exact(f2 b hb).1
 exact Zh (loop _ rfl) (T.self X.A 0 _ _ _ (T.keep _ _ _ HY (λb hb o e=>old b o e)) (loop _ rfl))
end
section
variable{X:Cx}{Xw:Nat->Hp->Prop}{ZA iter tg:Expr}{scope:Scope}{pos:Pos}{tn:List Str}{δi:DA}{χ:XE}
def Bc(sc:CompSc X scope tn)(hn:tn.length=max 0 1)(hc:X.calm=true)(hi:wG X Xw tg iter δi)
 (hg:∀f8 cl C fp v4 H σ,wI (gj X scope tn f8 cl C fp v4 H) tg 0 σ)
 (he:∀f8 cl C fp v4 H,PX (gj X scope tn f8 cl C fp v4 H) (λ_ _=>False) ZA χ)
 (hs:∀x,VF iter X.env x=pure x:=by intro _;rfl):
 PX X Xw (.ListComp ZA [⟨tg,iter,[],0⟩] scope pos) (uu δi χ):=by
 intro u8 ZQ f8 s σ H Q I ⟨F,ρ,S,w⟩ _;obtain⟨cl,xt,sx,Dq⟩:=lG λy hy hf=>I.ok.has y.1 (sc.frees y hy hf);rw[eval_ListComp];refine WT rfl hs xt sc.kind sc.names (BQ (RR:=λM2 C=>compPost (model X.prog X.w) X.A X.xe none (EP X f8 σ Q) M2 C) sc hn hc hi hg he I S w sx Dq λs1 C D H' I1 q b=>?_);obtain⟨m,hm⟩:=b.ns;exact⟨m,hm,λh' JP=>⟨.ref D,H',Inv.block I1 b JP,rfl,q⟩⟩
end
end L3
namespace L3
open PySem PySem.Spec L2
open PyProof.Rows hiding St
def StX.take{K:Ti}{u8 ZQ F H:Hp}{σ:St}{ρ:aM}(s:StX K u8 ZQ F H σ ρ){i:Nat}{a:Addr}{o:Ob}(h:ρ[i]? =some (some (.ob a o))):StX K u8 ZQ F H (some (.ref a)::σ) (some (.ob a o)::ρ.set i none):=by
 obtain⟨e1,hO⟩:=s.at h;have get:∀{j:Nat}{sl:Sl},(ρ.set i none)[j]? =some (some sl)->j≠i/\ρ[j]? =some (some sl):=λ{j sl} q=>by
  by_cases z:j=i
  ·rw[z,TY (To.mp h).1] at q;cases q
  ·rw[T5 (Vh z)] at q;exact⟨z,q⟩
 refine⟨⟨s.ok.ext,⟨s.ok.st.fh,λj sl q=>?_⟩,by simp[s.ok.len],λj c b q hv=>?_,λj k sl fG v v' b h1 h2 h3 h4 h5 h6=>?_⟩,λj a' o' b q hb=>?_⟩
 ·cases j with
  |zero=>cases q;exact⟨.ref a,rfl,rfl,hO⟩
  |succ j=>obtain⟨v,q1,q2⟩:=s.ok.st.den j sl (get (by simpa using q)).2;exact⟨v,by simpa using q1,q2⟩
 ·cases j with
  |zero=>cases q
  |succ j=>exact s.ok.own j c b (get (by simpa using q)).2 (by simpa using hv)
 ·cases j with
  |zero=>
   cases h1;cases h3;cases k with
   |zero=>rfl
   |succ k=>
    obtain⟨n,q⟩:=get (by simpa using h2);exact Zp (s.ok.sep i k _ _ _ _ b h q e1 (by simpa using h4) h5 h6).symm n
  |succ j=>
   obtain⟨n,q⟩:=get (by simpa using h1);cases k with
   |zero=>
    cases h2;cases h4;exact Zp (s.ok.sep j i _ _ _ _ b q h (by simpa using h3) e1 h5 h6) n
   |succ k=>
    obtain⟨_,q'⟩:=get (by simpa using h2);exact Zv (· +1) (s.ok.sep j k _ _ _ _ b q q' (by simpa using h3) (by simpa using h4) h5 h6)
 ·cases j with
  |zero=>cases q;exact s.obn i a o b h hb
  |succ j=>exact s.obn j a' o' b (get (by simpa using q)).2 hb
def Na(i:Nat):XE:=⟨λρ Q=>match ρ[i]? with
 |some (some (.ob a o))=>Q (.val (.ob a o) (ρ.set i none))
 |_=>False,λρ P Q k h=>by
 match ρ[i]?,h with
 |some (some (.ob a o)),h=>exact k _ h⟩
def KC{X:Cx}{Xw:Nat->Hp->Prop}{i:Nat}{y:Str}{p:Pos}(h:PE X (.Name y p) (fE i)):PX X Xw (.Name y p) (Na i):=λu8 ZQ=>PE.weak h λσ H Q ⟨F,ρ,s,w⟩=>by
 have w:(match ρ[i]? with | some (some (.ob a o))=>eD X.K Xw u8 ZQ σ Q (.val (.ob a o) (ρ.set i none)) | _=>False):=w
 match hi:ρ[i]?,w with
 |some (some (.ob a o)),w=>exact⟨.ref a,(s.at hi).1,w _ F H (s.take hi)⟩
def Dw(i:Nat):DE:=λρ=>match i4 ρ i with
 |some ds=>aa (.int ds.length)
 |none=>af
def Hq{X:Cx}{Xw:Nat->Hp->Prop}{i:Nat}{x:Str}{p p' pos:Pos}(hg:Gl X "len")(hm:X.mg "len"=none)(hv:PE X (.Name x p') (fE i)):PD X Xw (.Call (.Name "len" p) [.Name x p'] [] pos) (Dw i):=
 PE.weak (yb l8 hg hm PySem.boot_len (gT hv lQ rfl) (by decide) (by decide) rfl rfl) λσ H Q ⟨F,ρ,s,w⟩=>by
  unfold Dw at w;cases hi:i4 ρ i with
  |none=>rw[hi] at w;exact w.elim
  |some ds=>
   rw[hi] at w;obtain⟨v,h3,a,o,rfl,h4,h5,vs,rfl,h6,h7⟩:=s.den i _ (ix hi);refine⟨.ref a,h3,?_⟩;show∃p ys,[V.ref a]=[.ref p]/\(SqL X.K H p ys\/SqT X.K H p ys)/\Q (.int ys.length) H;exact⟨a,vs,rfl, .inl (SqL.of h4),by rw[<-h6.len];exact WP.now w s.fh rfl⟩
end L3
namespace L3
def Lc(n:Nat)(δs:DA):DS:=λ_=>af
end L3
namespace K1
open PySem PySem.Spec L2 L3
open PyProof.Rows hiding St
def Ap:DS:=(bc (eW (dA jm (aC (dV 0) (aC (dC (.raw (.ty "int"))) aN))) (IB (dA jm (aC (dV 0) (aC (dC (.raw (.ty "bool"))) aN))))))
def bC:List D->M D:=dF 1 (Ap)
def yJ:DS:=(bc (eW (dA jm (aC (dV 0) (aC (dC (.raw (.ty "str"))) aN))) (eW (d2 kG (dA bA (aC (dV 0) aN)) (dC (.int 1))) (d2 (DX false) (dV 0) (dC (.str "abcdef"))))))
def dg:List D->M D:=dF 1 (yJ)
def r9:DS:=(bc (bj 0 (λρ=>(aC (dA bA (aC (d2 bt (dV 0) (dC (.int 0))) aN)) aN) ρ>>=ei) bI (dA di (aC (dV 2) (aC (dV 0) aN)))))
def bo:List D->M D:=dF 2 (r9)
def yM:DS:=(bc (d2 jB (d2 bt (dV 0) (d2 bt (dV 1) (dC (.int 0)))) (d2 bt (dV 1) (dC (.int 1)))))
def aY:List D->M D:=dF 2 (yM)
def Ao:DS:=(bp (da 3 (dA C_ (aC (d2 c9 (d2 bt (dV 0) (dC (.int 0))) (d2 bt (dV 1) (dC (.int 0)))) aN))) (bp (da 4 (dA C_ (aC (d2 c9 (d2 bt (dV 0) (dC (.int 1))) (d2 bt (dV 1) (dC (.int 1)))) aN))) (bp (iN (ej (d2 kG (dV 2) (dC (.int 4)))) (bc (d2 kG (d2 dD (dV 3) (dV 4)) (dC (.int 1)))) dq) (bc (d2 kG (dA zG (aC (dV 3) (aC (dV 4) aN))) (dC (.int 1)))))))
def d5:List D->M D:=dF 5 (Ao)
def Il:DS:=(bp (Fs 1) (bp (λρ=>noex ((i6 (putN 2) (JS (g7 (dV 0)) (λρ=>(dV 0) ρ>>=nZ)) (fZ [2] (yr 1 (dV 2) (dC (.bl true))))) ρ)) (Fq 1 (bc (dV 1)))))
def iT:List D->M D:=dF 3 (Il)
def sd:DS:=(bp (iN (ej (d2 kG (dV 0) (dA gw aN))) (bc (d2 iU (dC (.int 7)) (dV 1))) dq) (bc (d2 dD (d2 DY (dV 0) (d2 me (dV 1) (dA bA (aC (dV 0) aN)))) (d2 iU (dC (.int 6553)) (d2 sA (dV 1) (dA bA (aC (dV 0) aN)))))))
def gm:List D->M D:=dF 2 (sd)
def yK:DS:=(bp (iN (o7 (df (cJ (dA jm (aC (dV 0) (aC (dC (.raw (.ty "str"))) aN))))) (df (ej (y6 (λi j=>decide (i<=j)) (λi j=>decide (i<=j)) (dC (.int 1)) (dA bA (aC (dV 0) aN)) (dC (.int 8)))))) (bc (dC (.bl false))) dq) (bc (dA allM (aC (bj 0 (λρ=>(dV 0) ρ>>=KN) bI (aw 1 dg (aC (dV 0) aN))) aN))))
def gk:List D->M D:=dF 1 (yK)
def ux:DS:=(bp (iN (o7 (df (cJ (dA jm (aC (dV 1) (aC (dC (.raw (.ty "tuple"))) aN))))) (ej (d2 gr (dA bA (aC (dV 1) aN)) (dC (.int 2))))) (bc (dC (.bl false))) dq) (bp (iN (o7 (df (cJ (aw 1 bC (aC (d2 bt (dV 1) (dC (.int 0))) aN)))) (df (cJ (aw 1 bC (aC (d2 bt (dV 1) (dC (.int 1))) aN))))) (bc (dC (.bl false))) dq) (bc (eW (y6 (λi j=>decide (i<=j)) (λi j=>decide (i<j)) (dC (.int 0)) (d2 bt (dV 1) (dC (.int 0))) (dA bA (aC (dV 0) aN))) (y6 (λi j=>decide (i<=j)) (λi j=>decide (i<j)) (dC (.int 0)) (d2 bt (dV 1) (dC (.int 1))) (dA bA (aC (d2 bt (dV 0) (dC (.int 0))) aN)))))))
def kE:List D->M D:=dF 2 (ux)
def yO:DS:=(iN (o7 (df (cJ (aw 1 bC (aC (dV 0) aN)))) (ej (d2 (GJ true) (dV 0) (dA di (aC (dC (.int 4)) (aC (dC (.int 8)) aN)))))) (Lc 1 (aC (dC (.str "ways are 4 or 8")) aN)) dq)
def d_:List D->M D:=dF 1 (yO)
def yI:DS:=(bp (vV 1) (bp (λρ=>noex ((i6 (putN 2) (λρ=>(aC (dA bA (aC (dV 0) aN)) aN) ρ>>=ei) (fZ [2] (Fo 1 (aw 2 bo (aC (dV 0) (aC (dV 2) aN)))))) ρ)) (Fq 1 (bc (dV 1)))))
def gK:List D->M D:=dF 3 (yI)
def wt:DS:=(bp (vV 3) (bp (λρ=>noex ((i6 (putN 4) (λρ=>(aC (dA zG (aC (d2 c9 (d2 bt (dV 1) (dC (.int 0))) (dC (.int 1))) (aC (dC (.int 0)) aN))) (aC (dA Ci (aC (d2 dD (d2 bt (dV 1) (dC (.int 0))) (dC (.int 2))) (aC (dA bA (aC (dV 0) aN)) aN))) aN)) ρ>>=rJ) (fZ [4,5] (i6 (putN 5) (λρ=>(aC (dA zG (aC (d2 c9 (d2 bt (dV 1) (dC (.int 1))) (dC (.int 1))) (aC (dC (.int 0)) aN))) (aC (dA Ci (aC (d2 dD (d2 bt (dV 1) (dC (.int 1))) (dC (.int 2))) (aC (dA bA (aC (d2 bt (dV 0) (dC (.int 0))) aN)) aN))) aN)) ρ>>=rJ) (fZ [5] (iN (cJ (aw 3 d5 (aC (dV 1) (aC (dA di (aC (dV 4) (aC (dV 5) aN))) (aC (dV 2) aN))))) (k_ 3 (dA di (aC (dV 4) (aC (dV 5) aN)))) dq))))) ρ)) (Fq 3 (bc (dV 3)))))
def dB:List D->M D:=dF 6 (wt)
def sf:DS:=(bp (da 3 (aw 1 iT (aC (dV 1) aN))) (bp (vV 4) (bp (λρ=>noex ((i6 (putN 5) (λρ=>(aC (dA bA (aC (dV 0) aN)) aN) ρ>>=ei) (fZ [5,6] (bp (da 6 (aw 2 bo (aC (dV 0) (aC (dV 5) aN)))) (k_ 4 (dM sC joinM (dC (.str "")) (aC (bj 0 (g7 (dV 6)) bI (IA (ej (d2 (lL false) (dV 0) (dV 4))) (dV 3) (aw 2 aY (aC (dV 1) (aC (dV 0) aN))))) aN)))))) ρ)) (Fq 4 (bc (dA Bu (aC (dV 4) aN)))))))
def bW:List D->M D:=dF 7 (sf)
def o3:DS:=(bp (da 3 (d2 me (d2 dD (d2 iU (d2 me (aw 2 gm (aC (dV 0) (aC (dV 1) aN))) (dC (.int 2147483563))) (dC (.int 69069))) (d2 iU (dC (.int 104723)) (d2 dD (dV 1) (dC (.int 1))))) (dC (.int 2147483563)))) (bp (da 3 (d2 me (d2 dD (d2 iU (dV 3) (dV 3)) (d2 sA (dV 3) (dC (.int 3)))) (dC (.int 2147483399)))) (bc (d2 me (d2 sA (d2 me (d2 dD (d2 iU (dV 3) (dV 3)) (d2 sA (dV 3) (dC (.int 7)))) (dC (.int 2147483647))) (dC (.int 11))) (dV 2)))))
def aQ:List D->M D:=dF 4 (o3)
def r_:DS:=(bp (iN (o7 (df (cJ (dA jm (aC (dV 0) (aC (dC (.raw (.ty "tuple"))) aN))))) (df (ej (y6 (λi j=>decide (i<=j)) (λi j=>decide (i<=j)) (dC (.int 1)) (dA bA (aC (dV 0) aN)) (dC (.int 8)))))) (bc (dC (.bl false))) dq) (bp (iN (df (cJ (dA allM (aC (bj 0 (qf (dV 0)) bI (aw 1 gk (aC (dV 0) aN))) aN)))) (bc (dC (.bl false))) dq) (bc (dA allM (aC (bj 0 (qf (dV 0)) bI (d2 kG (dA bA (aC (dV 0) aN)) (dA bA (aC (d2 bt (dV 1) (dC (.int 0))) aN)))) aN)))))
def iS:List D->M D:=dF 1 (r_)
def yN:DS:=(iN (df (cJ (aw 2 kE (aC (dV 0) (aC (dV 1) aN))))) (Lc 2 (aC (dC (.str "a tuple (row, column) on the board is asked for")) aN)) dq)
def gL:List D->M D:=dF 2 (yN)
def wo:DS:=(bp (da 3 (aw 2 aY (aC (dV 0) (aC (dV 1) aN)))) (bc (bj 0 (g7 (aw 3 dB (aC (dV 0) (aC (dV 1) (aC (dV 2) aN))))) (ej (d2 kG (aw 2 aY (aC (dV 1) (aC (dV 0) aN))) (dV 4))) (dV 0))))
def cO:List D->M D:=dF 4 (wo)
def Qd:DE:=bj 0 (λρ=>(aC (dV 4) aN) ρ>>=ei) bI (d2 jB (dV 6) (aw 3 aQ (aC (dV 1) (aC (d2 dD (d2 dD (d2 dD (dV 2) (dC (.int 3))) (d2 iU (dC (.int 7)) (dV 8))) (dV 0)) (aC (dA bA (aC (dV 6) aN)) aN)))))
def Qe:DS:=da 6 (d2 AI (dV 6) (dA di (aC (dM sC joinM (dC (.str "")) (aC (dV 8) aN)) aN)))
def yL:DS:=(bp (da 3 (d2 dD (dC (.int 1)) (aw 3 aQ (aC (dV 0) (aC (dV 1) (aC (dV 2) aN)))))) (bp (da 4 (d2 dD (dC (.int 1)) (aw 3 aQ (aC (dV 0) (aC (d2 dD (dV 1) (dC (.int 1))) (aC (dV 2) aN)))))) (bp (da 5 (d2 cT (dA gw (aC (dC (.str "ab")) (aC (dC (.str "abc")) (aC (dC (.str "aab")) (aC (dC (.str "fa")) aN))))) (aw 3 aQ (aC (dV 0) (aC (d2 dD (dV 1) (dC (.int 2))) (aC (dC (.int 4)) aN)))))) (bp (da 6 (dA di aN)) (bp (λρ=>noex ((i6 (putN 7) (λρ=>(aC (dV 3) aN) ρ>>=ei) (fZ [7,8] (bp (da 8 (Qd)) (Qe)))) ρ)) (bc (dV 6)))))))
def d9:List D->M D:=dF 9 (yL)
def wq:DS:=(iN (df (cJ (aw 1 iS (aC (dV 0) aN)))) (Lc 0 (aC (dC (.str "a tuple of 1 to 8 texts of 1 to 8 letters, all as long, is asked for")) aN)) dq)
def dz:List D->M D:=dF 1 (wq)
def KJ:DS:=fZ [7] (iN (Jf (ej (d2 (lL true) (dV 7) (dV 3)))) (bp (yr 3 (dV 7) (dV 6)) (k_ 5 (dV 7))) dq)
def wu:DS:=(bp (yq 3 (λρ=>(dV 1) ρ>>=λx=>(dC .non) ρ>>=λy=>tp x y)) (bp (da 4 (dA gw (aC (dV 1) aN))) (bp (λρ=>noex ((Fu (cJ (dV 4)) (fZ [5,6,7] (bp (vV 5) (bp (i6 (putN 6) (g7 (dV 4)) (fZ [6,7] (i6 (putN 7) (g7 (aw 3 cO (aC (dV 0) (aC (dV 6) (aC (dV 2) aN))))) (KJ)))) (Fq 5 (da 4 (dV 5))))))) ρ)) (Fq 3 (bc (dV 3))))))
def bD:List D->M D:=dF 8 (wu)
def Oc:DS:=(fZ [4,5] (iN (Jf (ej (d2 (lL true) (dV 4) (dV 3)))) (bp (da 5 (dA rR (aC (aw 3 bD (aC (dV 0) (aC (dV 4) (aC (dV 1) aN)))) aN))) (bp (k_ 2 (dV 5)) (Ft 3 (aw 1 iT (aC (dV 5) aN))))) dq))
def sT:DS:=(bp (vV 2) (bp (Fs 3) (bp (λρ=>noex ((i6 (putN 4) (g7 (aw 1 gK (aC (dV 0) aN))) Oc) ρ)) (Fq 2 (bc (dV 2))))))
def cW:List D->M D:=dF 6 (sT)
def jr(C:Addr)(w:D)(l:List D)(p:Nat):Ob:=⟨C,[("ways", .fz w),("stages", .fz (.lst l)),("place", .fz (.int (p:Int)))]⟩
def B0(o:Ob):Option (D×List D×Nat):=match o.fs with
 |[(x, .fz w),(y, .fz (.lst l)),(z, .fz (.int (.ofNat p)))]=>if x="ways"/\y="stages"/\z="place"/\p<l.length/\l.length<=100 then some (w,l,p) else none
 |_=>none
def mO{α:Type}(o:Ob)(x:Str)(m:M α):M α:=match o.fs.lookup x with
 |none=>m
 |some _=>af
def Ex(g:Addr->Ob->List D->M (D×Ob)):Addr->Ob->List D->M (D×Ob):=λa o ds=>noex (g a o ds)
def aX(CK CG:Addr):Addr->Ob->List D->M D:=λa o ds=>(d2 cT (eV CG 0 "stages") (eV CG 0 "place")) (bB 1 a o ds)
def aR(CK CG:Addr):Addr->Ob->List D->M D:=λa o ds=>(dA di (aC (eV CG 0 "place") (aC (d2 c9 (d2 c9 (dA bA (aC (eV CG 0 "stages") aN)) (dC (.int 1))) (eV CG 0 "place")) aN))) (bB 1 a o ds)
def pH:DS:=(bp (da 2 (dM sC joinM (dC (.str "")) (aC (bj 0 (qf (dV 0)) bI (d2 jB (dV 0) (dV 2))) aN))) (bc (dM sC z_ (AB "." (dV 2)) (aC (dA bA (aC (dV 0) aN)) (aC (dC (.str ".")) aN)))))
def dR:List D->M D:=dF 3 (pH)
def se:DS:=(bc (dA uh (aC (bj 0 (qf (dV 0)) bI (d2 c9 (dA bA (aC (dV 0) aN)) (dM sC AA (dV 0) (aC (dC (.str ".")) aN)))) aN)))
def bV:List D->M D:=dF 1 (se)
def cM(CK CG:Addr):Addr->Ob->List D->M D:=λa o ds=>(aw 1 bV (aC (aP CG 0 "rows" 0 (aX CK CG) aN) aN)) (bB 1 a o ds)
def aI(CK CG:Addr):Addr->Ob->List D->M D:=λa o ds=>(d2 c9 (aw 1 bV (aC (d2 cT (eV CG 0 "stages") (dV 1)) aN)) (aw 1 bV (aC (d2 cT (eV CG 0 "stages") (d2 dD (dV 1) (dC (.int 1)))) aN))) (bB 2 a o ds)
def r6:DS:=(bc (eW (d2 Oi (dA bA (aC (dV 1) aN)) (dC (.int 1))) (d2 gr (aw 2 aY (aC (dV 0) (aC (d2 cT (dV 1) (dC (.int 0))) aN))) (dC (.str ".")))))
def bU:List D->M D:=dF 2 (r6)
def F4:DS:=(bp (da 1 (bj 0 (λρ=>(aC (dA bA (aC (d2 bt (dV 0) (dC (.int 0))) aN)) aN) ρ>>=ei) bI (aw 2 dR (aC (dV 1) (aC (dV 0) aN))))) (bp (vV 2) (bp (λρ=>noex ((i6 (putN 3) (λρ=>(aC (dA bA (aC (dV 0) aN)) aN) ρ>>=ei) (fZ [3] (k_ 2 (dM sC joinM (dC (.str "")) (aC (bj 0 (g7 (dV 1)) bI (d2 jB (dV 0) (dV 4))) aN))))) ρ)) (Fq 2 (bc (dA Bu (aC (dV 2) aN)))))))
def jy:List D->M D:=dF 4 (F4)
def fe(CK CG:Addr):Addr->Ob->List D->M D:=λa o ds=>(bj 0 (λρ=>(aC (eV CG 0 "place") aN) ρ>>=ei) bI (aP CG 1 "taken_behind" 1 (aI CK CG) (aC (dV 0) aN))) (bB 2 a o ds)>>=λd=>(dA uh (aC (bj 0 (g7 (dV 1)) bI (d2 iU (dV 0) (dV 0))) aN)) ((bB 2 a o ds).set 1 (some (.fz d)))
def aZ(CK CG:Addr):Addr->Ob->List D->M (D×Ob):=Ex λa o ds=>match ds,B0 o with
 |[],some (w,l,0)=>kL 6
 |[],some (w,l,p+1)=>noex (aI CK CG a (jr o.c w l p) [.int (p:Int)])>>=λd=>aa (d,jr o.c w l p)
 |_,_=>af
def kz(CK CG:Addr):XS:=(bN (cC (iN (ej (d2 kG (eV CG 0 "place") (dC (.int 0)))) (Lc 6 (aC (dC (.str "nothing is left to be taken back")) aN)) dq)) (bN (jf CG 0 "place" (· - 1)) (cC (bc (aP CG 0 "taken_behind" 1 (aI CK CG) (aC (eV CG 0 "place") aN))))))
def cp(CK CG:Addr):Addr->Ob->List D->M (D×Ob):=Ex λa o ds=>match ds,B0 o with
 |[],some (w,l,p)=>if p+1=l.length then kL 6 else noex (aI CK CG a (jr o.c w l (p+1)) [.int (p:Int)])>>=λd=>aa (d,jr o.c w l (p+1))
 |_,_=>af
def jg(CK CG:Addr):XS:=(bN (cC (iN (ej (d2 kG (eV CG 0 "place") (d2 c9 (dA bA (aC (eV CG 0 "stages") aN)) (dC (.int 1))))) (Lc 6 (aC (dC (.str "nothing is left to be taken again")) aN)) dq)) (bN (jf CG 0 "place" (· +1)) (cC (bc (aP CG 0 "taken_behind" 1 (aI CK CG) (aC (d2 c9 (eV CG 0 "place") (dC (.int 1))) aN))))))
def cK(CK CG:Addr):Addr->Ob->List D->M (D×Ob):=Ex λa o ds=>match ds,o.fs with
 |[b,w],[]=>dz [b]>>=λ_=>d_ [w]>>=λ_=>aa (.non,jr o.c w [b] 0)
 |_,_=>af
def kA(CK CG:Addr):XS:=(bN (cC (Ac (aw 1 dz (aC (dV 1) aN)))) (bN (cC (Ac (aw 1 d_ (aC (dV 2) aN)))) (bN (gZ CG 0 "ways" (dV 2)) (bN (gZ CG 0 "stages" (dA gw (aC (dV 1) aN))) (gZ CG 0 "place" (dC (.int 0)))))))
def pI:DS:=(bp (Ac (aw 2 gL (aC (dV 0) (aC (dV 1) aN)))) (bp (da 3 (dA rR (aC (aw 3 bD (aC (dV 0) (aC (dV 1) (aC (dV 2) aN)))) aN))) (bp (iN (df (cJ (aw 2 bU (aC (dV 0) (aC (dV 3) aN))))) (Lc 2 (aC (dC (.str "a cell with a letter, of a patch of two cells or more, is asked for")) aN)) dq) (bc (dV 3)))))
def cg:List D->M D:=dF 4 (pI)
def dh(CK CG:Addr):Addr->Ob->List D->M (D×Ob):=Ex λa o ds=>match ds,B0 o with
 |[c],some (w,l,p)=>(match l[p]? with
  |some b=>cg [b,c,w]>>=λpt=>(match pt with
   | .lst q=>noex (bW [b, .lst q, .str "."])>>=λb1=>noex (jy [b1])>>=λb2=>aa (.int q.length,jr o.c w (l.take (p+1)++[b2]) (p+1))
   |_=>af)
  |none=>af)
 |_,_=>af
def kB(CK CG:Addr):XS:=(bN (cC (da 2 (aw 3 cg (aC (aP CG 0 "rows" 0 (aX CK CG) aN) (aC (dV 1) (aC (eV CG 0 "ways") aN)))))) (bN (cC (da 3 (aw 1 jy (aC (aw 3 bW (aC (aP CG 0 "rows" 0 (aX CK CG) aN) (aC (dV 2) (aC (dC (.str ".")) aN)))) aN)))) (bN (gZ CG 0 "stages" (d2 DW (Js (eV CG 0 "stages") oN (oS (d2 dD (eV CG 0 "place") (dC (.int 1))))) (dA gw (aC (dV 3) aN)))) (bN (jf CG 0 "place" (· +1)) (cC (bc (dA bA (aC (dV 2) aN))))))))
def bw(CK CG:Addr):Addr->Ob->List D->M D:=λa o ds=>(aw 2 cW (aC (aP CG 0 "rows" 0 (aX CK CG) aN) (aC (eV CG 0 "ways") aN))) (bB 2 a o ds)>>=λd=>(bj 0 (g7 (dV 1)) (cJ (aw 2 bU (aC (aP CG 1 "rows" 0 (aX CK CG) aN) (aC (dV 0) aN)))) (d2 cT (dV 0) (dC (.int 0)))) ((bB 2 a o ds).set 1 (some (.fz d)))
def cN(CK CG:Addr):XS:=(bN (C3 1 (Bz CG 2 (cK CK CG) (aC (d2 cT (eV CG 0 "stages") (dC (.int 0))) (aC (eV CG 0 "ways") aN)))) (bN (gZ CG 1 "stages" (dA Ek (aC (eV CG 0 "stages") aN))) (bN (gZ CG 1 "place" (eV CG 0 "place")) (C2 (Na 1)))))
def aV(CK CG:Addr):XS:=(bN (cC (da 3 (aP CG 2 "can_take" 0 (bw CK CG) aN))) (bN (cC (iN (ej (d2 kG (dV 3) (dA gw aN))) (bc (dC (.bl true))) dq)) (bN (cC (da 4 (aP CG 2 "left" 0 (cM CK CG) aN))) (C2 (FZ kG (fV CG 2 "take" 1 (dh CK CG) (aC (d2 cT (dV 3) (aw 3 aQ (aC (dV 0) (aC (dV 1) (aC (dA bA (aC (dV 3) aN)) aN))))) aN)) (d2 c9 (dV 4) (aP CG 2 "left" 0 (cM CK CG) aN)))))))
def aE(CK CG:Addr):Addr->Ob->List D->M D:=λa o ds=>(dA di (aC (aP CG 0 "rows" 0 (aX CK CG) aN) (aC (aP CG 0 "can_take" 0 (bw CK CG) aN) (aC (aP CG 0 "left" 0 (cM CK CG) aN) (aC (aP CG 0 "points" 0 (fe CK CG) aN) aN))))) (bB 1 a o ds)
def b9(CK CG:Addr):XS:=(bN (C3 6 (wm CG 2 "twin" 2 (cN CK CG))) (bN (C0 (Ak (rZ (r0 (fO [.v (dV 0), .v (dC (.int 90)), .o 1] 5 3 (aV CK CG)))) (Al (ej (d2 gr (aP CG 1 "steps" 0 (aR CK CG) aN) (dA di (aC (d2 dD (d2 c9 (dV 4) (dV 5)) (dC (.int 1))) (aC (dC (.int 0)) aN))))))) (cC (bc (dC (.bl false)))) sS) (bN (cC (iN (ej (d2 gr (aP CG 2 "_law_now" 0 (aE CK CG) aN) (d2 cT (dV 3) (d2 c9 (dV 4) (dV 5))))) (bc (dC (.bl false))) dq)) (bN (C0 (Ak (rZ (r0 (fO [.v (dV 0), .v (dC (.int 90)), .o 2] 5 3 (aV CK CG)))) (Al (ej (d2 gr (aP CG 2 "_law_now" 0 (aE CK CG) aN) (aP CG 1 "_law_now" 0 (aE CK CG) aN))))) (cC (bc (dC (.bl false)))) sS) (bN (cC (iN (ej (d2 gr (aP CG 6 "_law_now" 0 (aE CK CG) aN) (d2 cT (dV 3) (d2 c9 (dV 4) (dV 5))))) (bc (dC (.bl false))) dq)) (bN (K3 (fV CG 1 "back" 0 (aZ CK CG) aN)) (bN (cC (iN (o7 (ej (d2 gr (aP CG 1 "_law_now" 0 (aE CK CG) aN) (d2 cT (dV 3) (d2 c9 (dV 4) (dV 5))))) (ej (d2 gr (aP CG 1 "steps" 0 (aR CK CG) aN) (dA di (aC (d2 c9 (dV 4) (dV 5)) (aC (dC (.int 1)) aN)))))) (bc (dC (.bl false))) dq)) (cC (bc (d2 kG (aP CG 6 "steps" 0 (aR CK CG) aN) (dA di (aC (d2 c9 (dV 4) (dV 5)) (aC (dV 5) aN)))))))))))))
def k7(CK CG:Addr):XS:=(bN (C3 1 (Bz CG 2 (cK CK CG) (aC (aw 3 d9 (aC (dV 0) (aC (dC (.int 0)) (aC (dC (.int 5)) aN)))) (aC (d2 cT (dA gw (aC (dC (.int 4)) (aC (dC (.int 8)) aN))) (aw 3 aQ (aC (dV 0) (aC (dC (.int 60)) (aC (dC (.int 2)) aN))))) aN)))) (bN (cC (yq 2 (λρ=>(aC (aP CG 1 "_law_now" 0 (aE CK CG) aN) aN) ρ>>=NN))) (bN (C1 (CZ (putN 3) (λρ=>(aC (dC (.int 7)) aN) ρ>>=ei) (bN (C0 (rZ (r0 (fO [.v (dV 0), .v (d2 dD (dC (.int 70)) (dV 3)), .o 1] 5 3 (aV CK CG)))) (cC (bc (dC (.bl false)))) sS) (cC (iN (ej (d2 kG (d2 bt (aP CG 1 "steps" 0 (aR CK CG) aN) (dC (.int 0))) (Dw 2))) (k_ 2 (aP CG 1 "_law_now" 0 (aE CK CG) aN)) dq))))) (bN (NY 2 (cC (da 4 (d2 c9 (dA bA (aC (dV 2) aN)) (dC (.int 1)))))) (bN (C3 5 (wm CG 1 "twin" 2 (cN CK CG))) (bN (cC (vV 6)) (bN (C1 (CZ (putN 3) (λρ=>(aC (d2 c9 (dV 4) (dC (.int 1))) (aC (d1 va (dC (.int 1))) (aC (d1 va (dC (.int 1))) aN))) ρ>>=Bj) (bN (By 6 (fV CG 1 "back" 0 (aZ CK CG) aN)) (bN (cC (iN (o7 (ej (d2 gr (aP CG 1 "_law_now" 0 (aE CK CG) aN) (d2 cT (dV 2) (dV 3)))) (ej (d2 gr (aP CG 1 "steps" 0 (aR CK CG) aN) (dA di (aC (dV 3) (aC (d2 c9 (dV 4) (dV 3)) aN)))))) (bc (dC (.bl false))) dq)) (cC (iN (Jf (ej (d2 gr (d2 cT (dV 6) (d1 va (dC (.int 1)))) (d2 c9 (d2 bt (d2 cT (dV 2) (dV 3)) (dC (.int 2))) (d2 bt (d2 cT (dV 2) (d2 dD (dV 3) (dC (.int 1)))) (dC (.int 2))))))) (bc (dC (.bl false))) dq)))))) (bN (cC (iN (o7 (ej (d2 gr (aP CG 5 "_law_now" 0 (aE CK CG) aN) (d2 cT (dV 2) (d1 va (dC (.int 1)))))) (ej (d2 gr (aP CG 5 "steps" 0 (aR CK CG) aN) (dA di (aC (dV 4) (aC (dC (.int 0)) aN)))))) (bc (dC (.bl false))) dq)) (bN (NY 6 (C1 (CZ (putN 3) (λρ=>(aC (dC (.int 1)) (aC (d2 dD (dV 4) (dC (.int 1))) aN)) ρ>>=rJ) (bN (C0 (Ak (rY gr (fV CG 1 "forth" 0 (cp CK CG) aN) (d2 cT (dV 6) (d2 c9 (dV 4) (dV 3)))) (Al (ej (d2 gr (aP CG 1 "_law_now" 0 (aE CK CG) aN) (d2 cT (dV 2) (dV 3)))))) (cC (bc (dC (.bl false)))) sS) (cC (iN (ej (d2 gr (aP CG 1 "steps" 0 (aR CK CG) aN) (dA di (aC (dV 3) (aC (d2 c9 (dV 4) (dV 3)) aN))))) (bc (dC (.bl false))) dq)))))) (bN (cC (iN (ej (d2 kG (dV 4) (dC (.int 0)))) (bc (d2 kG (aP CG 1 "can_take" 0 (bw CK CG) aN) (dA gw aN))) dq)) (bN (cC (da 7 (d2 dD (dC (.int 1)) (aw 3 aQ (aC (dV 0) (aC (dC (.int 61)) (aC (dV 4) aN))))))) (bN (C0 (rY gr (uu (λρ=>(aC (dV 7) aN) ρ>>=ei) (fV CG 2 "back" 0 (aZ CK CG) aN)) (Js (dV 6) oN (oS (dV 7)))) (cC (bc (dC (.bl false)))) sS) (bN (C0 (rY gr (uu (λρ=>(aC (dV 7) aN) ρ>>=ei) (fV CG 6 "back" 0 (aZ CK CG) aN)) (Js (dV 6) oN (oS (dV 7)))) (cC (bc (dC (.bl false)))) sS) (C2 (fO [.v (dV 0), .o 1, .o 5, .v (dV 2), .v (dV 4), .v (dV 7)] 7 6 (b9 CK CG))))))))))))))))
structure Bl (K:Ti) (mg:Str->Option Value) (base:Heap) (cv:Nat->Value) (cA:Nat->Addr) (Cp:Addr):Prop where
 len:mg "len"=none
 isinstance:mg "isinstance"=none
 all:mg "all"=none
 abs:mg "abs"=none
 max:mg "max"=none
 min:mg "min"=none
 sum:mg "sum"=none
 range:mg "range"=none
 str:mg "str"=none
 int:mg "int"=none
 bool:mg "bool"=none
 tuple:mg "tuple"=none
 list:mg "list"=none
 sorted:mg "sorted"=none
 LETTERS:∃t,mg "LETTERS"=some (.str "abcdef" t)
 MOST_ROWS:∃t,mg "MOST_ROWS"=some (.int 8 t)
 MOST_COLUMNS:∃t,mg "MOST_COLUMNS"=some (.int 8 t)
 EMPTY:∃t,mg "EMPTY"=some (.str "." t)
 EMPTYt:∃t,(WO 1 t&&WO (YE t) Jg)=true/\mg "EMPTY"=some (.str "." t)
structure Bo (K:Ti) (CK CG:Addr):Prop where
 cGame:Cls K CG
 nGame_stages:NoAttr K CG "stages"
 nGame_place:NoAttr K CG "place"
 nGame_ways:NoAttr K CG "ways"
section
variable{P:T3}{w:World}{K:Ti}{mg:Str->Option Value}{base:Heap}{cv:Nat->Value}{cA:Nat->Addr}{Cp:Addr}{f:Addr}
variable{CK CG:Addr}
abbrev j8:Stmt:=(aD (top 36)).getD 1 (.Pass ⟨0,0,0,0⟩)
def oe:List Str:=["self"]
def oH:List Str:=["self"]
def mR{j k:Nat}{A:Uu}(r:Room k A)(h:j<=k:=by decide):Room j A:=r.mono h
def cF{N Q:List Str}{sc:Scope}(k:sc.kind= .function:=by rfl)(c:sc.isCoroutine=false:=by rfl)(g:sc.isGenerator=false:=by rfl)(p:N.take Q.length=Q:=by rfl)(h:N.Nodup/\(∀x∈Q,sc.names.lookup x=some .local\/sc.names.lookup x=some .cell)/\∀y∈sc.names,y.2≠ .free:=by decide+kernel):FnScope N Q sc:=⟨k,c,g,h.1,p,h.2.1,h.2.2⟩
def v3:FnScope oe oH (ag j8):=cF
def vk(B:Bl K mg base cv cA Cp)(O:Bo K CK CG)(T:MethAt K CG "rows" "Game.rows" j8 f):cR P w K mg base cv 1 CG "rows" 0 (aX CK CG):=
 mi (N:=oe) (ps:=oH) T v3 rfl (λ_ _ _ _ _ _ us hl=>match us,hl with | [_],_=>rfl) rfl (λ_ _ _ _ _ _ hr=>
  (cQ (cy O.cGame O.nGame_stages (pv 0)) (cy O.cGame O.nGame_place (pv 0))))
abbrev i8:Stmt:=(aD (top 36)).getD 9 (.Pass ⟨0,0,0,0⟩)
def ml:List Str:=["self"]
def mE:List Str:=["self"]
def sP:FnScope ml mE (ag i8):=cF
def sH(B:Bl K mg base cv cA Cp)(O:Bo K CK CG)(T:MethAt K CG "steps" "Game.steps" i8 f):cR P w K mg base cv 1 CG "steps" 0 (aR CK CG):=
 mi (N:=ml) (ps:=mE) T sP rfl (λ_ _ _ _ _ _ us hl=>match us,hl with | [_],_=>rfl) rfl (λ_ _ _ _ _ _ hr=>
  (eO (ab (cy O.cGame O.nGame_place (pv 0)) (ab (b7 (b7 (bG rfl B.len (ab (cy O.cGame O.nGame_stages (pv 0)) ah)) ak) (cy O.cGame O.nGame_place (pv 0))) ah))))
abbrev lU:Stmt:=top 10
def qQ:List Str:=["thing"]
def ra:List Str:=["thing"]
def yw:FnScope qQ ra (ag lU):=cF
def xW(B:Bl K mg base cv cA Cp)(T:bO K mg "is_whole" lU f):ax P w K mg base cv 1 "is_whole" 1 (bC):=
 aK (N:=qQ) (ps:=ra) T yw (λ_ _ _ _ _ _ us hl=>match us,hl with | [_],_=>rfl) λ_ _ _ _ _ _ hr=>
  (aq (aA (ri (nG rfl B.isinstance rfl (ab (ae (pv 0)) (ab (t7 rfl B.int rfl) ah))) (vE (Kk (nG rfl B.isinstance rfl (ab (ae (pv 0)) (ab (t7 rfl B.bool rfl) ah))))))))
abbrev kg:Stmt:=top 11
def oj:List Str:=["thing"]
def oM:List Str:=["thing"]
def v5:FnScope oj oM (ag kg):=cF
def vp(B:Bl K mg base cv cA Cp)(T:bO K mg "is_letter" kg f):ax P w K mg base cv 1 "is_letter" 1 (dg):=
 aK (N:=oj) (ps:=oM) T v5 (λ_ _ _ _ _ _ us hl=>match us,hl with | [_],_=>rfl) λ_ _ _ _ _ _ hr=>
  (aq (aA (ri (nG rfl B.isinstance rfl (ab (ae (pv 0)) (ab (t7 rfl B.str rfl) ah))) (ri (t6 hr.units (bG rfl B.len (ab (ae (pv 0)) ah)) ak) (vE (Kh (ae (pv 0)) (mJ rfl B.LETTERS (by decide))))))))
abbrev eS:Stmt:=top 18
def eJ:List Str:=["board","row"]
def jR:List Str:=["board","row"]
def pD:FnScope eJ jR (ag eS):=cF
def pj(B:Bl K mg base cv cA Cp)(T:bO K mg "cells_of_row" eS f):ax P w K mg base cv 1 "cells_of_row" 2 (bo):=
 aK (N:=eJ) (ps:=jR) T pD (λ_ _ _ _ _ _ us hl=>match us,hl with | [_,_],_=>rfl) λ_ _ _ _ _ _ hr=>
  (aq (aA (eN (tn:=["column"]) (n:=0) (bq (N:=eJ) (osc:=(ag eS)) rfl rfl (by decide+kernel)) rfl rfl (b8 rfl B.range (ab (bG rfl B.len (ab (b6 (ae (pv 0)) ak) ah)) ah)) (λ_ _ _ _ _ _ _=>cE (show US (((["column"]:List Str))++bY ["column"] eJ) by decide+kernel) rfl rfl) (λ_ _ _ _ _ _=>cI) (λ_ _ _ _ _ _=>(eO (ab (ae (pv 2)) (ab (ae (pv 0)) ah)))))))
abbrev ki:Stmt:=top 20
def oq:List Str:=["board","cell"]
def oQ:List Str:=["board","cell"]
def v7:FnScope oq oQ (ag ki):=cF
def vv(B:Bl K mg base cv cA Cp)(T:bO K mg "letter_of" ki f):ax P w K mg base cv 1 "letter_of" 2 (aY):=
 aK (N:=oq) (ps:=oQ) T v7 (λ_ _ _ _ _ _ us hl=>match us,hl with | [_,_],_=>rfl) λ_ _ _ _ _ _ hr=>
  (aq (aA (vB (b6 (ae (pv 0)) (b6 (ae (pv 1)) ak)) (b6 (ae (pv 1)) ak))))
abbrev lT:Stmt:=top 21
def qP:List Str:=["one","other","ways","down","along"]
def q9:List Str:=["one","other","ways"]
def kr:FnScope qP q9 (ag lT):=cF
def xU(B:Bl K mg base cv cA Cp)(T:bO K mg "are_next" lT f):ax P w K mg base cv 1 "are_next" 3 (d5):=
 aK (N:=qP) (ps:=q9) T kr (λ_ _ _ _ _ _ us hl=>match us,hl with | [_,_,_],_=>rfl) λ_ _ _ _ _ _ hr=>
  (au (bf kr.nd rfl (.inl rfl) (EK rfl B.abs (ab (b7 (b6 (ae (pv 0)) ak) (b6 (ae (pv 1)) ak)) ah) rfl)) (au (bf kr.nd rfl (.inl rfl) (EK rfl B.abs (ab (b7 (b6 (ae (pv 0)) ak) (b6 (ae (pv 1)) ak)) ah) rfl)) (au (bH (oV hr.units (ae (pv 2)) ak) (aq (aA (t6 hr.units (cf (ae (pv 3)) (ae (pv 4))) ak))) a8) (aq (aA (t6 hr.units (zX rfl rfl B.max rfl (ab (ae (pv 3)) (ab (ae (pv 4)) ah))) ak))))))
abbrev vW:Stmt:=top 23
def AU:List Str:=["things","found","thing"]
def A1:List Str:=["things"]
def rL:FnScope AU A1 (ag vW):=cF
def EG(B:Bl K mg base cv cA Cp)(T:bO K mg "keyed" vW f):ax P w K mg base cv 1 "keyed" 1 (iT):=
 aK (N:=AU) (ps:=A1) T rL (λ_ _ _ _ _ _ us hl=>match us,hl with | [_],_=>rfl) λ_ _ _ _ _ _ hr=>
  (au (yd rL.nd rfl (.inl rfl)) (au (gW (fk Ut rfl (Hu (eP (ae (pv 0))) (ET (ae (pv 0)))) (b_ rL.nd rfl (.inl rfl)) dO (dm (aq (ye hr.units (pv 1) (ae (pv 2)) eh))))) (aq (gV (i:=1) (aA (ae (pv 1)))))))
abbrev d3:Stmt:=top 33
def dU:List Str:=["rows","column","signs"]
def jj:List Str:=["rows","column"]
def iE:FnScope dU jj (ag d3):=cF
def nA(B:Bl K mg base cv cA Cp)(T:bO K mg "fallen_column" d3 f):ax P w K mg base cv 1 "fallen_column" 2 (dR):=
 aK (N:=dU) (ps:=jj) T iE (λ_ _ _ _ _ _ us hl=>match us,hl with | [_,_],_=>rfl) λ_ _ _ _ _ _ hr=>
  (au (bf iE.nd rfl (.inl rfl) (pS jX (ab (eN (tn:=["row"]) (n:=0) (bq (N:=dU) (osc:=(ag d3)) rfl rfl (by decide+kernel)) rfl rfl (pT (ae (pv 0))) (λ_ _ _ _ _ _ _=>cE (show US (((["row"]:List Str))++bY ["row"] dU) by decide+kernel) rfl rfl) (λ_ _ _ _ _ _=>cI) (λ_ _ _ _ _ _=>(vB (ae (pv 0)) (ae (pv 2))))) ah))) (aq (aA (ER (EO rfl B.EMPTYt rfl (ae (pv 2))) (ab (bG rfl B.len (ab (ae (pv 0)) ah)) (ab (mJ rfl B.EMPTY (by decide)) ah))))))
abbrev eT:Stmt:=top 35
def eK:List Str:=["rows"]
def jT:List Str:=["rows"]
def pE:FnScope eK jT (ag eT):=cF
def pq(B:Bl K mg base cv cA Cp)(T:bO K mg "many_letters" eT f):ax P w K mg base cv 1 "many_letters" 1 (bV):=
 aK (N:=eK) (ps:=jT) T pE (λ_ _ _ _ _ _ us hl=>match us,hl with | [_],_=>rfl) λ_ _ _ _ _ _ hr=>
  (aq (aA (A6 rfl rfl B.sum rfl (ab (eN (tn:=["row"]) (n:=0) (bq (N:=eK) (osc:=(ag eT)) rfl rfl (by decide+kernel)) rfl rfl (pT (ae (pv 0))) (λ_ _ _ _ _ _ _=>cE (show US (((["row"]:List Str))++bY ["row"] eK) by decide+kernel) rfl rfl) (λ_ _ _ _ _ _=>cI) (λ_ _ _ _ _ _=>(b7 (bG rfl B.len (ab (ae (pv 0)) ah)) (Ho (ae (pv 0)) (ab (mJ rfl B.EMPTY (by decide)) ah))))) ah))))
abbrev lV:Stmt:=top 38
def qR:List Str:=["_law_script","_law_k"]
def rb:List Str:=["_law_script","_law_k"]
def yx:FnScope qR rb (ag lV):=cF
def xX(B:Bl K mg base cv cA Cp)(T:bO K mg "_law_cell" lV f):ax P w K mg base cv 1 "_law_cell" 2 (gm):=
 aK (N:=qR) (ps:=rb) T yx (λ_ _ _ _ _ _ us hl=>match us,hl with | [_,_],_=>rfl) λ_ _ _ _ _ _ hr=>
  (au (bH (oV hr.units (ae (pv 0)) (jV ah)) (aq (aA (jW ak (ae (pv 1))))) a8) (aq (aA (cf (Ki (ae (pv 0)) (nH (ae (pv 1)) (bG rfl B.len (ab (ae (pv 0)) ah)))) (jW ak (vA (ae (pv 1)) (bG rfl B.len (ab (ae (pv 0)) ah))))))))
abbrev j7:Stmt:=(aD (top 36)).getD 4 (.Pass ⟨0,0,0,0⟩)
def oa:List Str:=["self"]
def oG:List Str:=["self"]
def vZ:FnScope oa oG (ag j7):=cF
def vj(B:Bl K mg base cv cA Cp)(O:Bo K CK CG)(eA:ax P w K mg base cv 1 "many_letters" 1 bV)(cj:cR P w K mg base cv 1 CG "rows" 0 (aX CK CG))(T:MethAt K CG "left" "Game.left" j7 f):cR P w K mg base cv 2 CG "left" 0 (cM CK CG):=
 mi (N:=oa) (ps:=oG) T vZ rfl (λ_ _ _ _ _ _ us hl=>match us,hl with | [_],_=>rfl) rfl (λ_ _ _ _ _ _ hr=>
  (cx eA (mR hr) rfl aJ (ab (bb cj (mR hr) aJ (pv 0)) ah) rfl))
abbrev dJ:Stmt:=(aD (top 36)).getD 5 (.Pass ⟨0,0,0,0⟩)
def fR:List Str:=["self","place"]
def fS:List Str:=["self","place"]
def kq:FnScope fR fS (ag dJ):=cF
def jP(B:Bl K mg base cv cA Cp)(O:Bo K CK CG)(eA:ax P w K mg base cv 1 "many_letters" 1 bV)(T:MethAt K CG "taken_behind" "Game.taken_behind" dJ f):cR P w K mg base cv 2 CG "taken_behind" 1 (aI CK CG):=
 mi (N:=fR) (ps:=fS) T kq rfl (λ_ _ _ _ _ _ us hl=>match us,hl with | [_,_],_=>rfl) rfl (λ_ _ _ _ _ _ hr=>
  (b7 (cx eA (mR hr) rfl aJ (ab (cQ (cy O.cGame O.nGame_stages (pv 0)) (ae (pv 1))) ah) rfl) (cx eA (mR hr) rfl aJ (ab (cQ (cy O.cGame O.nGame_stages (pv 0)) (cf (ae (pv 1)) ak)) ah) rfl)))
abbrev mS:Stmt:=top 12
def mm:List Str:=["thing"]
def x9:List Str:=["thing"]
def CM:FnScope mm x9 (ag mS):=cF
def Cq(B:Bl K mg base cv cA Cp)(wR:ax P w K mg base cv 1 "is_letter" 1 dg)(T:bO K mg "is_row" mS f):ax P w K mg base cv 2 "is_row" 1 (gk):=
 aK (N:=mm) (ps:=x9) T CM (λ_ _ _ _ _ _ us hl=>match us,hl with | [_],_=>rfl) λ_ _ _ _ _ _ hr=>
  (au (bH (PDW.t (jY (dW (dE (nG rfl B.isinstance rfl (ab (ae (pv 0)) (ab (t7 rfl B.str rfl) ah))))) (gU (dW (E4 tW tW ak (bG rfl B.len (ab (ae (pv 0)) ah)) (A3 rfl B.MOST_COLUMNS)))))) (aq (aA eh)) a8) (aq (aA (zW rfl rfl B.all rfl (ab (eN (tn:=["sign"]) (n:=0) (bq (N:=mm) (osc:=(ag mS)) rfl rfl (by decide+kernel)) rfl rfl (Hv (ae (pv 0))) (λ_ _ _ _ _ _ _=>cE (show US (((["sign"]:List Str))++bY ["sign"] mm) by decide+kernel) rfl rfl) (λ_ _ _ _ _ _=>cI) (λ_ _ _ _ _ _=>(cx wR (mR hr) rfl cG (ab (ae (pv 0)) ah) rfl))) ah)))))
abbrev nP:Stmt:=top 14
def tU:List Str:=["board","thing"]
def tZ:List Str:=["board","thing"]
def Ad:FnScope tU tZ (ag nP):=cF
def zP(B:Bl K mg base cv cA Cp)(iO:ax P w K mg base cv 1 "is_whole" 1 bC)(T:bO K mg "is_cell" nP f):ax P w K mg base cv 2 "is_cell" 2 (kE):=
 aK (N:=tU) (ps:=tZ) T Ad (λ_ _ _ _ _ _ us hl=>match us,hl with | [_,_],_=>rfl) λ_ _ _ _ _ _ hr=>
  (au (bH (PDW.t (jY (dW (dE (nG rfl B.isinstance rfl (ab (ae (pv 1)) (ab (t7 rfl B.tuple rfl) ah))))) (gU (gX hr.units (bG rfl B.len (ab (ae (pv 1)) ah)) ak)))) (aq (aA eh)) a8) (au (bH (PDW.t (jY (dW (dE (cx iO (mR hr) rfl aJ (ab (b6 (ae (pv 1)) ak) ah) rfl))) (gU (dW (dE (cx iO (mR hr) rfl aJ (ab (b6 (ae (pv 1)) ak) ah) rfl)))))) (aq (aA eh)) a8) (aq (aA (ri (EM tW I9 ak (b6 (ae (pv 1)) ak) (bG rfl B.len (ab (ae (pv 0)) ah))) (vE (EM tW I9 ak (b6 (ae (pv 1)) ak) (bG rfl B.len (ab (b6 (ae (pv 0)) ak) ah)))))))))
abbrev kl:Stmt:=top 17
def ou:List Str:=["thing"]
def oT:List Str:=["thing"]
def v9:FnScope ou oT (ag kl):=cF
def vx(B:Bl K mg base cv cA Cp)(iO:ax P w K mg base cv 1 "is_whole" 1 bC)(T:bO K mg "need_ways" kl f):ax P w K mg base cv 2 "need_ways" 1 (d_):=
 aK (N:=ou) (ps:=oT) T v9 (λ_ _ _ _ _ _ us hl=>match us,hl with | [_],_=>rfl) λ_ _ _ _ _ _ hr=>
  (aq (bH (PDW.t (jY (dW (dE (cx iO (mR hr) rfl aJ (ab (ae (pv 0)) ah) rfl))) (gU (CI (ae (pv 0)) (eO (ab ak (ab ak ah))))))) (aq gb) a8))
abbrev ke:Stmt:=top 19
def oi:List Str:=["board","found","row"]
def oK:List Str:=["board"]
def jc:FnScope oi oK (ag ke):=cF
def vo(B:Bl K mg base cv cA Cp)(gh:ax P w K mg base cv 1 "cells_of_row" 2 bo)(T:bO K mg "all_cells" ke f):ax P w K mg base cv 2 "all_cells" 1 (gK):=
 aK (N:=oi) (ps:=oK) T jc (λ_ _ _ _ _ _ us hl=>match us,hl with | [_],_=>rfl) λ_ _ _ _ _ _ hr=>
  (au (i5 jc.nd rfl (.inl rfl)) (au (gW (fk Ut rfl (b8 rfl B.range (ab (bG rfl B.len (ab (ae (pv 0)) ah)) ah)) (b_ jc.nd rfl (.inl rfl)) dO (dm (aq (HE (pv 1) (cx gh (mR hr) rfl cG (ab (ae (pv 0)) (ab (ae (pv 2)) ah)) rfl)))))) (aq (gV (i:=1) (aA (ae (pv 1)))))))
abbrev i_:Stmt:=top 22
def mq:List Str:=["board","cell","ways","found","row","column"]
def mH:List Str:=["board","cell","ways"]
def fm:FnScope mq mH (ag i_):=cF
def sL(B:Bl K mg base cv cA Cp)(yZ:ax P w K mg base cv 1 "are_next" 3 d5)(T:bO K mg "next_cells" i_ f):ax P w K mg base cv 2 "next_cells" 3 (dB):=
 aK (N:=mq) (ps:=mH) T fm (λ_ _ _ _ _ _ us hl=>match us,hl with | [_,_,_],_=>rfl) λ_ _ _ _ _ _ hr=>
  (au (i5 fm.nd rfl (.inl rfl)) (au (gW (fk Ut rfl (lS rfl B.range (ab (zX rfl rfl B.max rfl (ab (b7 (b6 (ae (pv 1)) ak) ak) (ab ak ah))) (ab (EN rfl rfl B.min rfl (ab (cf (b6 (ae (pv 1)) ak) ak) (ab (bG rfl B.len (ab (ae (pv 0)) ah)) ah))) ah))) (b_ fm.nd rfl (.inl rfl)) dO (dm (aq (fk Ut rfl (lS rfl B.range (ab (zX rfl rfl B.max rfl (ab (b7 (b6 (ae (pv 1)) ak) ak) (ab ak ah))) (ab (EN rfl rfl B.min rfl (ab (cf (b6 (ae (pv 1)) ak) ak) (ab (bG rfl B.len (ab (b6 (ae (pv 0)) ak) ah)) ah))) ah))) (b_ fm.nd rfl (.inl rfl)) dO (dm (aq (bH (dE (cx yZ (mR hr) rfl cG (ab (ae (pv 1)) (ab (eO (ab (ae (pv 4)) (ab (ae (pv 5)) ah))) (ab (ae (pv 2)) ah))) rfl)) (aq (kQ (pv 3) (eO (ab (ae (pv 4)) (ab (ae (pv 5)) ah))))) a8)))))))) (aq (gV (i:=3) (aA (ae (pv 3)))))))
abbrev eU:Stmt:=top 24
def eL:List Str:=["board","some","letter","marked","told","row","places"]
def jU:List Str:=["board","some","letter"]
def cV:FnScope eL jU (ag eU):=cF
def pw(B:Bl K mg base cv cA Cp)(uG:ax P w K mg base cv 1 "keyed" 1 iT)(gh:ax P w K mg base cv 1 "cells_of_row" 2 bo)(d8:ax P w K mg base cv 1 "letter_of" 2 aY)(T:bO K mg "with_letters" eU f):ax P w K mg base cv 2 "with_letters" 3 (bW):=
 aK (N:=eL) (ps:=jU) T cV (λ_ _ _ _ _ _ us hl=>match us,hl with | [_,_,_],_=>rfl) λ_ _ _ _ _ _ hr=>
  (au (bf cV.nd rfl (.inr rfl) (cx uG (mR hr) rfl aJ (ab (ae (pv 1)) ah) rfl)) (au (i5 cV.nd rfl (.inl rfl)) (au (gW (fk Ut rfl (b8 rfl B.range (ab (bG rfl B.len (ab (ae (pv 0)) ah)) ah)) (b_ cV.nd rfl (.inl rfl)) dO (dm (au (bf cV.nd rfl (.inl rfl) (cx gh (mR hr) rfl cG (ab (ae (pv 0)) (ab (ae (pv 5)) ah)) rfl)) (aq (kQ (pv 4) (pS jX (ab (eN (tn:=["cell"]) (n:=0) (bq (N:=eL) (osc:=(ag eU)) rfl rfl (by decide+kernel)) rfl rfl (eP (ae (pv 6))) (λ_ _ _ _ _ _ _=>cE (show US (((["cell"]:List Str))++bY ["cell"] eL) by decide+kernel) rfl rfl) (λ_ _ _ _ _ _=>cI) (λ_ _ _ _ _ _=>(MD (Ky hr.units (ae (pv 0)) (ae (pv 4))) (ae (pv 3)) (cx d8 (mR hr) rfl cG (ab (ae (pv 1)) (ab (ae (pv 0)) ah)) rfl)))) ah)))))))) (aq (gV (i:=4) (aA (ya rfl B.tuple rfl (ab (ae (pv 4)) ah))))))))
abbrev gA:Stmt:=top 31
def jG:List Str:=["rows","patch"]
def jQ:List Str:=["rows","patch"]
def pC:FnScope jG jQ (ag gA):=cF
def ph(B:Bl K mg base cv cA Cp)(d8:ax P w K mg base cv 1 "letter_of" 2 aY)(T:bO K mg "can_be_taken" gA f):ax P w K mg base cv 2 "can_be_taken" 2 (bU):=
 aK (N:=jG) (ps:=jQ) T pC (λ_ _ _ _ _ _ us hl=>match us,hl with | [_,_],_=>rfl) λ_ _ _ _ _ _ hr=>
  (aq (aA (ri (MC (bG rfl B.len (ab (ae (pv 1)) ah)) ak) (vE (ME hr.units (cx d8 (mR hr) rfl aJ (ab (ae (pv 0)) (ab (cQ (ae (pv 1)) ak) ah)) rfl) (mJ rfl B.EMPTY (by decide)))))))
abbrev kf:Stmt:=top 34
def iw:List Str:=["rows","columns","told","row"]
def xZ:List Str:=["rows"]
def kU:FnScope iw xZ (ag kf):=cF
def Co(B:Bl K mg base cv cA Cp)(o5:ax P w K mg base cv 1 "fallen_column" 2 dR)(T:bO K mg "fallen" kf f):ax P w K mg base cv 2 "fallen" 1 (jy):=
 aK (N:=iw) (ps:=xZ) T kU (λ_ _ _ _ _ _ us hl=>match us,hl with | [_],_=>rfl) λ_ _ _ _ _ _ hr=>
  (au (jZ (tn:=["column"]) (n:=0) kU.nd rfl (.inl rfl) (bq (N:=iw) (osc:=(ag kf)) rfl rfl (by decide+kernel)) rfl rfl (b8 rfl B.range (ab (bG rfl B.len (ab (b6 (ae (pv 0)) ak) ah)) ah)) (λ_ _ _ _ _ _ _=>cE (show US (((["column"]:List Str))++bY ["column"] iw) by decide+kernel) rfl rfl) (λ_ _ _ _ _ _=>cI) (λ_ _ _ _ _ _=>(cx o5 (mR hr) rfl cG (ab (ae (pv 1)) (ab (ae (pv 0)) ah)) rfl))) (au (i5 kU.nd rfl (.inl rfl)) (au (gW (fk Ut rfl (b8 rfl B.range (ab (bG rfl B.len (ab (ae (pv 0)) ah)) ah)) (b_ kU.nd rfl (.inr rfl)) dO (dm (aq (kQ (pv 2) (pS jX (ab (eN (tn:=["signs"]) (n:=0) (bq (N:=iw) (osc:=(ag kf)) rfl rfl (by decide+kernel)) rfl rfl (eP (ae (pv 1))) (λ_ _ _ _ _ _ _=>cE (show US (((["signs"]:List Str))++bY ["signs"] iw) by decide+kernel) rfl rfl) (λ_ _ _ _ _ _=>cI) (λ_ _ _ _ _ _=>(vB (ae (pv 0)) (ae (pv 4))))) ah))))))) (aq (gV (i:=2) (aA (ya rfl B.tuple rfl (ab (ae (pv 2)) ah))))))))
abbrev kh:Stmt:=top 39
def om:List Str:=["_law_script","_law_k","_law_many","_law_cell_here"]
def oP:List Str:=["_law_script","_law_k","_law_many"]
def jd:FnScope om oP (ag kh):=cF
def vr(B:Bl K mg base cv cA Cp)(y4:ax P w K mg base cv 1 "_law_cell" 2 gm)(T:bO K mg "_law_drawn" kh f):ax P w K mg base cv 2 "_law_drawn" 3 (aQ):=
 aK (N:=om) (ps:=oP) T jd (λ_ _ _ _ _ _ us hl=>match us,hl with | [_,_,_],_=>rfl) λ_ _ _ _ _ _ hr=>
  (au (bf jd.nd rfl (.inl rfl) (nH (cf (jW (nH (cx y4 (mR hr) rfl aJ (ab (ae (pv 0)) (ab (ae (pv 1)) ah)) rfl) ak) ak) (jW ak (cf (ae (pv 1)) ak))) ak)) (au (bf jd.nd rfl (.inl rfl) (nH (cf (jW (ae (pv 3)) (ae (pv 3))) (vA (ae (pv 3)) ak)) ak)) (aq (aA (nH (vA (nH (cf (jW (ae (pv 3)) (ae (pv 3))) (vA (ae (pv 3)) ak)) ak) ak) (ae (pv 2)))))))
abbrev dQ:Stmt:=(aD (top 36)).getD 6 (.Pass ⟨0,0,0,0⟩)
def cX:List Str:=["self","taken"]
def lq:List Str:=["self"]
def km:FnScope cX lq (ag dQ):=cF
def qW(B:Bl K mg base cv cA Cp)(O:Bo K CK CG)(bP:cR P w K mg base cv 2 CG "taken_behind" 1 (aI CK CG))(T:MethAt K CG "points" "Game.points" dQ f):cR P w K mg base cv 3 CG "points" 0 (fe CK CG):=
 tT (N:=cX) (ps:=lq) T km rfl (λ_ _ _ _ _ _ us hl=>match us,hl with | [_],_=>rfl) rfl (λ_ _ _ _ _ _ hr=>
  ⟨(jZ (tn:=["place"]) (n:=0) km.nd rfl (.inl rfl) (bq (N:=cX) (osc:=(ag dQ)) rfl rfl (by decide+kernel)) rfl rfl (b8 rfl B.range (ab (cy O.cGame O.nGame_place (pv 0)) ah)) (λ_ _ _ _ _ _ _=>cE (show US (((["place"]:List Str))++bY ["place"] cX) by decide+kernel) rfl rfl) (λ_ _ _ _ _ _=>cI) (λ_ _ _ _ _ _=>(vC bP (mR hr) cG (pv 1) (ab (ae (pv 0)) ah)))),(A6 rfl rfl B.sum rfl (ab (eN (tn:=["many"]) (n:=0) (bq (N:=cX) (osc:=(ag dQ)) rfl rfl (by decide+kernel)) rfl rfl (eP (ae (pv 1))) (λ_ _ _ _ _ _ _=>cE (show US (((["many"]:List Str))++bY ["many"] cX) by decide+kernel) rfl rfl) (λ_ _ _ _ _ _=>cI) (λ_ _ _ _ _ _=>(jW (ae (pv 0)) (ae (pv 0))))) ah))⟩)
abbrev j5:Stmt:=(aD (top 36)).getD 7 (.Pass ⟨0,0,0,0⟩)
def n9:List Str:=["self"]
def oE:List Str:=["self"]
def vX:FnScope n9 oE (ag j5):=cF
def vh(B:Bl K mg base cv cA Cp)(O:Bo K CK CG)(bP:cR P w K mg base cv 2 CG "taken_behind" 1 (aI CK CG))(hg:js CG 0 1 (kz CK CG) (aZ CK CG))(T:MethAt K CG "back" "Game.back" j5 f):lb P w K mg base cv 3 CG "back" 0 (aZ CK CG):=
 qO (N:=n9) (ps:=oE) T vX rfl (λ_ _ _ _ _ _ us hl=>match us,hl with | [_],_=>rfl) hg (λ_ _ _ _ _ _ hr=>
  (az (aT (bH (oV hr.units (cy O.cGame O.nGame_place (pv 0)) ak) (aq gb) a8)) (az (z8 O.cGame O.nGame_place (pv 0)) (cu (aT (aA (vC bP (mR hr) aJ (pv 0) (ab (cy O.cGame O.nGame_place (pv 0)) ah))))))))
abbrev i7:Stmt:=(aD (top 36)).getD 8 (.Pass ⟨0,0,0,0⟩)
def mj:List Str:=["self"]
def mD:List Str:=["self"]
def sO:FnScope mj mD (ag i7):=cF
def sG(B:Bl K mg base cv cA Cp)(O:Bo K CK CG)(bP:cR P w K mg base cv 2 CG "taken_behind" 1 (aI CK CG))(hg:js CG 0 1 (jg CK CG) (cp CK CG))(T:MethAt K CG "forth" "Game.forth" i7 f):lb P w K mg base cv 3 CG "forth" 0 (cp CK CG):=
 qO (N:=mj) (ps:=mD) T sO rfl (λ_ _ _ _ _ _ us hl=>match us,hl with | [_],_=>rfl) hg (λ_ _ _ _ _ _ hr=>
  (az (aT (bH (oV hr.units (cy O.cGame O.nGame_place (pv 0)) (b7 (bG rfl B.len (ab (cy O.cGame O.nGame_stages (pv 0)) ah)) ak)) (aq gb) a8)) (az (rC O.cGame O.nGame_place (pv 0)) (cu (aT (aA (vC bP (mR hr) aJ (pv 0) (ab (b7 (cy O.cGame O.nGame_place (pv 0)) ak) ah))))))))
abbrev gB:Stmt:=top 13
def fb:List Str:=["thing"]
def q_:List Str:=["thing"]
def yu:FnScope fb q_ (ag gB):=cF
def xV(B:Bl K mg base cv cA Cp)(Dh:ax P w K mg base cv 2 "is_row" 1 gk)(T:bO K mg "is_board" gB f):ax P w K mg base cv 3 "is_board" 1 (iS):=
 aK (N:=fb) (ps:=q_) T yu (λ_ _ _ _ _ _ us hl=>match us,hl with | [_],_=>rfl) λ_ _ _ _ _ _ hr=>
  (au (bH (PDW.t (jY (dW (dE (nG rfl B.isinstance rfl (ab (ae (pv 0)) (ab (t7 rfl B.tuple rfl) ah))))) (gU (dW (E4 tW tW ak (bG rfl B.len (ab (ae (pv 0)) ah)) (A3 rfl B.MOST_ROWS)))))) (aq (aA eh)) a8) (au (bH (dW (dE (zW rfl rfl B.all rfl (ab (eN (tn:=["row"]) (n:=0) (bq (N:=fb) (osc:=(ag gB)) rfl rfl (by decide+kernel)) rfl rfl (pT (ae (pv 0))) (λ_ _ _ _ _ _ _=>cE (show US (((["row"]:List Str))++bY ["row"] fb) by decide+kernel) rfl rfl) (λ_ _ _ _ _ _=>cI) (λ_ _ _ _ _ _=>(cx Dh (mR hr) rfl cG (ab (ae (pv 0)) ah) rfl))) ah)))) (aq (aA eh)) a8) (aq (aA (zW rfl rfl B.all rfl (ab (eN (tn:=["row"]) (n:=0) (bq (N:=fb) (osc:=(ag gB)) rfl rfl (by decide+kernel)) rfl rfl (pT (ae (pv 0))) (λ_ _ _ _ _ _ _=>cE (show US (((["row"]:List Str))++bY ["row"] fb) by decide+kernel) rfl rfl) (λ_ _ _ _ _ _=>cI) (λ_ _ _ _ _ _=>(t6 hr.units (bG rfl B.len (ab (ae (pv 0)) ah)) (bG rfl B.len (ab (b6 (ae (pv 1)) ak) ah))))) ah))))))
abbrev kj:Stmt:=top 16
def ot:List Str:=["board","thing"]
def oR:List Str:=["board","thing"]
def v8:FnScope ot oR (ag kj):=cF
def vw(B:Bl K mg base cv cA Cp)(BJ:ax P w K mg base cv 2 "is_cell" 2 kE)(T:bO K mg "need_cell" kj f):ax P w K mg base cv 3 "need_cell" 2 (gL):=
 aK (N:=ot) (ps:=oR) T v8 (λ_ _ _ _ _ _ us hl=>match us,hl with | [_,_],_=>rfl) λ_ _ _ _ _ _ hr=>
  (aq (bH (dW (dE (cx BJ (mR hr) rfl aJ (ab (ae (pv 0)) (ab (ae (pv 1)) ah)) rfl))) (aq gb) a8))
abbrev f6:Stmt:=top 26
def fX:List Str:=["board","cell","ways","letter"]
def mF:List Str:=["board","cell","ways"]
def ly:FnScope fX mF (ag f6):=cF
def sI(B:Bl K mg base cv cA Cp)(d8:ax P w K mg base cv 1 "letter_of" 2 aY)(uJ:ax P w K mg base cv 2 "next_cells" 3 dB)(T:bO K mg "like_cells" f6 f):ax P w K mg base cv 3 "like_cells" 3 (cO):=
 aK (N:=fX) (ps:=mF) T ly (λ_ _ _ _ _ _ us hl=>match us,hl with | [_,_,_],_=>rfl) λ_ _ _ _ _ _ hr=>
  (au (bf ly.nd rfl (.inr rfl) (cx d8 (mR hr) rfl aJ (ab (ae (pv 0)) (ab (ae (pv 1)) ah)) rfl)) (aq (aA (eN (tn:=["near"]) (n:=0) (bq (N:=fX) (osc:=(ag f6)) rfl rfl (by decide+kernel)) rfl rfl (eP (cx uJ (mR hr) rfl aJ (ab (ae (pv 0)) (ab (ae (pv 1)) (ab (ae (pv 2)) ah))) rfl)) (λ_ _ _ _ _ _ _=>cE (show US (((["near"]:List Str))++bY ["near"] fX) by decide+kernel) rfl rfl) (λ_ _ _ _ _ _=>(yD (oV hr.units (cx d8 (mR hr) rfl cG (ab (ae (pv 1)) (ab (ae (pv 0)) ah)) rfl) (ae (pv 4))))) (λ_ _ _ _ _ _=>(ae (pv 0)))))))
abbrev gY:Stmt:=top 40
def gQ:List Str:=["_law_script","_law_at","_law_most","_law_rows","_law_wide","_law_alphabet","_law_found","_law_row","_law_signs"]
def oO:List Str:=["_law_script","_law_at","_law_most"]
def cw:FnScope gQ oO (ag gY):=cF
def vq(B:Bl K mg base cv cA Cp)(cn:ax P w K mg base cv 2 "_law_drawn" 3 aQ)(T:bO K mg "_law_board" gY f):ax P w K mg base cv 3 "_law_board" 3 (d9):=
 aK (N:=gQ) (ps:=oO) T cw (λ_ _ _ _ _ _ us hl=>match us,hl with | [_,_,_],_=>rfl) λ_ _ _ _ _ _ hr=>
  (au (bf cw.nd rfl (.inl rfl) (cf ak (cx cn (mR hr) rfl aJ (ab (ae (pv 0)) (ab (ae (pv 1)) (ab (ae (pv 2)) ah))) rfl))) (au (bf cw.nd rfl (.inl rfl) (cf ak (cx cn (mR hr) rfl aJ (ab (ae (pv 0)) (ab (cf (ae (pv 1)) ak) (ab (ae (pv 2)) ah))) rfl))) (au (bf cw.nd rfl (.inr rfl) (cQ (jV (ab jX (ab jX (ab jX (ab jX ah))))) (cx cn (mR hr) rfl aJ (ab (ae (pv 0)) (ab (cf (ae (pv 1)) ak) (ab ak ah))) rfl))) (au (bf cw.nd rfl (.inl rfl) (eO ah)) (au (gW (fk Ut rfl (b8 rfl B.range (ab (ae (pv 3)) ah)) (b_ cw.nd rfl (.inr rfl)) dO (dm (au (jZ (tn:=["_law_k"]) (n:=0) cw.nd rfl (.inl rfl) (bq (N:=gQ) (osc:=(ag gY)) rfl rfl (by decide+kernel)) rfl rfl (b8 rfl B.range (ab (ae (pv 4)) ah)) (λ_ _ _ _ _ _ _=>cE (show US (((["_law_k"]:List Str))++bY ["_law_k"] gQ) by decide+kernel) rfl rfl) (λ_ _ _ _ _ _=>cI) (λ_ _ _ _ _ _=>(vB (ae (pv 6)) (cx cn (mR hr) rfl cG (ab (ae (pv 1)) (ab (cf (cf (cf (ae (pv 2)) ak) (jW ak (ae (pv 8)))) (ae (pv 0))) (ab (bG rfl B.len (ab (ae (pv 6)) ah)) ah))) rfl)))) (aq (bf cw.nd rfl (.inl rfl) (Hn (ae (pv 6)) (eO (ab (pS jX (ab (ae (pv 8)) ah)) ah))))))))) (aq (aA (ae (pv 6)))))))))
abbrev i9:Stmt:=top 15
def mn:List Str:=["thing"]
def mG:List Str:=["thing"]
def sQ:FnScope mn mG (ag i9):=cF
def sJ(B:Bl K mg base cv cA Cp)(y0:ax P w K mg base cv 3 "is_board" 1 iS)(T:bO K mg "need_board" i9 f):ax P w K mg base cv 4 "need_board" 1 (dz):=
 aK (N:=mn) (ps:=mG) T sQ (λ_ _ _ _ _ _ us hl=>match us,hl with | [_],_=>rfl) λ_ _ _ _ _ _ hr=>
  (aq (bH (dW (dE (cx y0 (mR hr) rfl aJ (ab (ae (pv 0)) ah) rfl))) (aq gb) a8))
abbrev ja:Stmt:=top 27
def mr:List Str:=["board","start","ways","back","ring","further","cell","near"]
def mI:List Str:=["board","start","ways"]
def cB:FnScope mr mI (ag ja):=cF
def sM(B:Bl K mg base cv cA Cp)(uH:ax P w K mg base cv 3 "like_cells" 3 cO)(T:bO K mg "steps_back" ja f):ax P w K mg base cv 4 "steps_back" 3 (bD):=
 aK (N:=mr) (ps:=mI) T cB (λ_ _ _ _ _ _ us hl=>match us,hl with | [_,_,_],_=>rfl) λ_ _ _ _ _ _ hr=>
  (au (yc cB.nd rfl (.inl rfl) (Cz hr.units (ae (pv 1)) Kj)) (au (bf cB.nd rfl (.inl rfl) (jV (ab (ae (pv 1)) ah))) (au (gW (CH Ut (dE (ae (pv 4))) (dm (au (i5 cB.nd rfl (.inl rfl)) (au (fk Ut rfl (eP (ae (pv 4))) (b_ cB.nd rfl (.inl rfl)) dO (dm (aq (fk Ut rfl (eP (cx uH (mR hr) rfl cG (ab (ae (pv 0)) (ab (ae (pv 6)) (ab (ae (pv 2)) ah))) rfl)) (b_ cB.nd rfl (.inl rfl)) dO (dm (aq (bH (zZ (t8 hr.units (ae (pv 7)) (ae (pv 3)))) (au (ye hr.units (pv 3) (ae (pv 7)) (ae (pv 6))) (aq (kQ (pv 5) (ae (pv 7))))) a8))))))) (aq (gV (i:=5) (bf cB.nd rfl (.inl rfl) (ae (pv 5)))))))))) (aq (gV (i:=3) (aA (ae (pv 3))))))))
abbrev j6:Stmt:=(aD (top 36)).getD 0 (.Pass ⟨0,0,0,0⟩)
def n_:List Str:=["self","board","ways"]
def oF:List Str:=["self","board","ways"]
def vY:FnScope n_ oF (ag j6):=cF
def vi(B:Bl K mg base cv cA Cp)(O:Bo K CK CG)(uI:ax P w K mg base cv 4 "need_board" 1 dz)(wW:ax P w K mg base cv 2 "need_ways" 1 d_)(hg:js CG 2 3 (kA CK CG) (cK CK CG))(T:yQ K mg CG "Game" "Game.__init__" j6 f):MakeM P w K mg base cv 5 CG "Game" 2 (cK CK CG):=
 El (N:=n_) (ps:=oF) T vY rfl (λ_ _ _ _ _ _ us hl=>match us,hl with | [_,_,_],_=>rfl) hg (λ_ _ _ _ _ _ hr=>
  (az (aT (vJ (cx uI (mR hr) rfl aJ (ab (ae (pv 1)) ah) rfl))) (az (aT (vJ (cx wW (mR hr) rfl aJ (ab (ae (pv 2)) ah) rfl))) (az (fc O.cGame O.nGame_ways (pv 0) (ae (pv 2))) (az (fc O.cGame O.nGame_stages (pv 0) (jV (ab (ae (pv 1)) ah))) (cu (fc O.cGame O.nGame_place (pv 0) ak)))))))
abbrev g_:Stmt:=top 28
def lg:List Str:=["board","ways","found","seen","cell","patch"]
def lr:List Str:=["board","ways"]
def dr:FnScope lg lr (ag g_):=cF
def qX(B:Bl K mg base cv cA Cp)(wQ:ax P w K mg base cv 2 "all_cells" 1 gK)(iP:ax P w K mg base cv 4 "steps_back" 3 bD)(uG:ax P w K mg base cv 1 "keyed" 1 iT)(T:bO K mg "all_patches" g_ f):ax P w K mg base cv 5 "all_patches" 2 (cW):=
 aK (N:=lg) (ps:=lr) T dr (λ_ _ _ _ _ _ us hl=>match us,hl with | [_,_],_=>rfl) λ_ _ _ _ _ _ hr=>
  (au (i5 dr.nd rfl (.inl rfl)) (au (yd dr.nd rfl (.inl rfl)) (au (gW (fk Ut rfl (eP (cx wQ (mR hr) rfl cG (ab (ae (pv 0)) ah) rfl)) (b_ dr.nd rfl (.inl rfl)) dO (dm (aq (bH (zZ (t8 hr.units (ae (pv 4)) (ae (pv 3)))) (au (bf dr.nd rfl (.inl rfl) (A5 rfl rfl B.sorted rfl (ab (cx iP (mR hr) rfl cG (ab (ae (pv 0)) (ab (ae (pv 4)) (ab (ae (pv 1)) ah))) rfl) ah))) (au (kQ (pv 2) (ae (pv 5))) (aq (HF hr.units (pv 3) (cx uG (mR hr) rfl cG (ab (ae (pv 5)) ah) rfl) ⟨rfl,rfl,rfl,rfl⟩)))) a8))))) (aq (gV (i:=2) (aA (ae (pv 2))))))))
abbrev fL:Stmt:=top 32
def jh:List Str:=["rows","cell","ways","patch"]
def jk:List Str:=["rows","cell","ways"]
def iF:FnScope jh jk (ag fL):=cF
def nB(B:Bl K mg base cv cA Cp)(wV:ax P w K mg base cv 3 "need_cell" 2 gL)(iP:ax P w K mg base cv 4 "steps_back" 3 bD)(gg:ax P w K mg base cv 2 "can_be_taken" 2 bU)(T:bO K mg "patch_to_take" fL f):ax P w K mg base cv 5 "patch_to_take" 3 (cg):=
 aK (N:=jh) (ps:=jk) T iF (λ_ _ _ _ _ _ us hl=>match us,hl with | [_,_,_],_=>rfl) λ_ _ _ _ _ _ hr=>
  (au (vJ (cx wV (mR hr) rfl aJ (ab (ae (pv 0)) (ab (ae (pv 1)) ah)) rfl)) (au (bf iF.nd rfl (.inl rfl) (A5 rfl rfl B.sorted rfl (ab (cx iP (mR hr) rfl aJ (ab (ae (pv 0)) (ab (ae (pv 1)) (ab (ae (pv 2)) ah))) rfl) ah))) (au (bH (dW (dE (cx gg (mR hr) rfl aJ (ab (ae (pv 0)) (ab (ae (pv 3)) ah)) rfl))) (aq gb) a8) (aq (aA (ae (pv 3)))))))
abbrev j9:Stmt:=(aD (top 36)).getD 2 (.Pass ⟨0,0,0,0⟩)
def og:List Str:=["self","cell","patch","then"]
def oI:List Str:=["self","cell"]
def jb:FnScope og oI (ag j9):=cF
def vm(B:Bl K mg base cv cA Cp)(O:Bo K CK CG)(o6:ax P w K mg base cv 5 "patch_to_take" 3 cg)(Dg:ax P w K mg base cv 2 "fallen" 1 jy)(cj:cR P w K mg base cv 1 CG "rows" 0 (aX CK CG))(qa:ax P w K mg base cv 2 "with_letters" 3 bW)(hg:js CG 1 4 (kB CK CG) (dh CK CG))(T:MethAt K CG "take" "Game.take" j9 f):lb P w K mg base cv 6 CG "take" 1 (dh CK CG):=
 qO (N:=og) (ps:=oI) T jb rfl (λ_ _ _ _ _ _ us hl=>match us,hl with | [_,_],_=>rfl) hg (λ_ _ _ _ _ _ hr=>
  (az (aT (bf jb.nd rfl (.inl rfl) (cx o6 (mR hr) rfl aJ (ab (bb cj (mR hr) aJ (pv 0)) (ab (ae (pv 1)) (ab (cy O.cGame O.nGame_ways (pv 0)) ah))) rfl))) (az (aT (bf jb.nd rfl (.inl rfl) (cx Dg (mR hr) rfl aJ (ab (cx qa (mR hr) rfl aJ (ab (bb cj (mR hr) aJ (pv 0)) (ab (ae (pv 2)) (ab (mJ rfl B.EMPTY (by decide)) ah))) rfl) ah) rfl))) (az (fc O.cGame O.nGame_stages (pv 0) (Hm (ES (cy O.cGame O.nGame_stages (pv 0)) rk (rl (cf (cy O.cGame O.nGame_place (pv 0)) ak))) (jV (ab (ae (pv 3)) ah)))) (az (rC O.cGame O.nGame_place (pv 0)) (cu (aT (aA (bG rfl B.len (ab (ae (pv 2)) ah))))))))))
abbrev dZ:Stmt:=(aD (top 36)).getD 3 (.Pass ⟨0,0,0,0⟩)
def dS:List Str:=["self","found"]
def ji:List Str:=["self"]
def iD:FnScope dS ji (ag dZ):=cF
def nz(B:Bl K mg base cv cA Cp)(O:Bo K CK CG)(su:ax P w K mg base cv 5 "all_patches" 2 cW)(cj:cR P w K mg base cv 1 CG "rows" 0 (aX CK CG))(gg:ax P w K mg base cv 2 "can_be_taken" 2 bU)(T:MethAt K CG "can_take" "Game.can_take" dZ f):cR P w K mg base cv 6 CG "can_take" 0 (bw CK CG):=
 tT (N:=dS) (ps:=ji) T iD rfl (λ_ _ _ _ _ _ us hl=>match us,hl with | [_],_=>rfl) rfl (λ_ _ _ _ _ _ hr=>
  ⟨(bf iD.nd rfl (.inl rfl) (cx su (mR hr) rfl aJ (ab (bb cj (mR hr) aJ (pv 0)) (ab (cy O.cGame O.nGame_ways (pv 0)) ah)) rfl)),(eN (tn:=["patch"]) (n:=0) (bq (N:=dS) (osc:=(ag dZ)) rfl rfl (by decide+kernel)) rfl rfl (eP (ae (pv 1))) (λ_ _ _ _ _ _ _=>cE (show US (((["patch"]:List Str))++bY ["patch"] dS) by decide+kernel) rfl rfl) (λ_ _ _ _ _ _=>(yD (dE (cx gg (mR hr) rfl cG (ab (bb cj (mR hr) cG (pv 1)) (ab (ae (pv 0)) ah)) rfl)))) (λ_ _ _ _ _ _=>(cQ (ae (pv 0)) ak)))⟩)
abbrev j_:Stmt:=(aD (top 36)).getD 10 (.Pass ⟨0,0,0,0⟩)
def dj:List Str:=["self","other"]
def oJ:List Str:=["self"]
def mT:FnScope dj oJ (ag j_):=cF
def vn(B:Bl K mg base cv cA Cp)(O:Bo K CK CG)(ju:MakeM P w K mg base cv 5 CG "Game" 2 (cK CK CG))(T:MethAt K CG "twin" "Game.twin" j_ f):wD P w K mg base cv 7 CG "twin" dj 1 (cN CK CG):=
 Eo (N:=dj) (ps:=oJ) T mT rfl (λ_ _ _ _ _ _ us hl=>match us,hl with | [_],_=>rfl) (λ_ _ _ _ _ _ hr=>
  (az (pV mT.nd rfl (.inl rfl) (Bd ju (mR hr) aJ rfl (ab (cQ (cy O.cGame O.nGame_stages (pv 0)) ak) (ab (cy O.cGame O.nGame_ways (pv 0)) ah)))) (az (fc O.cGame O.nGame_stages (pv 1) (Hr rfl B.list rfl (ab (cy O.cGame O.nGame_stages (pv 0)) ah))) (az (fc O.cGame O.nGame_place (pv 1) (cy O.cGame O.nGame_place (pv 0))) (cu (vN (KC (pv 1))))))))
abbrev gD:Stmt:=top 41
def bE:List Str:=["_law_script","_law_at","_law_game","_law_some","_law_before"]
def jS:List Str:=["_law_script","_law_at","_law_game"]
def fM:FnScope bE jS (ag gD):=cF
def pk(B:Bl K mg base cv cA Cp)(O:Bo K CK CG)(cS:cR P w K mg base cv 6 CG "can_take" 0 (bw CK CG))(gH:cR P w K mg base cv 2 CG "left" 0 (cM CK CG))(wO:lb P w K mg base cv 6 CG "take" 1 (dh CK CG))(cn:ax P w K mg base cv 2 "_law_drawn" 3 aQ)(T:bO K mg "_law_play" gD f):pZ P w K mg base cv 7 "_law_play" bE 3 (aV CK CG):=
 wX (N:=bE) (ps:=jS) T fM rfl (λ_ _ _ _ _ _ us hl=>match us,hl with | [_,_,_],_=>rfl) (λ_ _ _ _ _ _ hr=>
  (az (aT (bf fM.nd rfl (.inl rfl) (bb cS (mR hr) aJ (pv 2)))) (az (aT (bH (oV hr.units (ae (pv 3)) (jV ah)) (aq (aA eh)) a8)) (az (aT (bf fM.nd rfl (.inl rfl) (bb gH (mR hr) aJ (pv 2)))) (cu (vN (KA (zQ hr.units) zS (HH wO (mR hr) aJ (pv 2) (ab (cQ (ae (pv 3)) (cx cn (mR hr) rfl aJ (ab (ae (pv 0)) (ab (ae (pv 1)) (ab (bG rfl B.len (ab (ae (pv 3)) ah)) ah))) rfl)) ah)) (b7 (ae (pv 4)) (bb gH (mR hr) aJ (pv 2))))))))))
abbrev hJ:Stmt:=top 42
def lh:List Str:=["_law_game"]
def lu:List Str:=["_law_game"]
def rM:FnScope lh lu (ag hJ):=cF
def qY(B:Bl K mg base cv cA Cp)(O:Bo K CK CG)(cj:cR P w K mg base cv 1 CG "rows" 0 (aX CK CG))(cS:cR P w K mg base cv 6 CG "can_take" 0 (bw CK CG))(gH:cR P w K mg base cv 2 CG "left" 0 (cM CK CG))(sr:cR P w K mg base cv 3 CG "points" 0 (fe CK CG))(T:bO K mg "_law_now" hJ f):CallR P w K mg base cv 7 CG "_law_now" 0 (aE CK CG):=
 Di (N:=lh) (ps:=lu) T rM rfl (λ_ _ _ _ _ _ us hl=>match us,hl with | [_],_=>rfl) rfl (λ_ _ _ _ _ _ hr=>
  (eO (ab (bb cj (mR hr) aJ (pv 0)) (ab (bb cS (mR hr) aJ (pv 0)) (ab (bb gH (mR hr) aJ (pv 0)) (ab (bb sr (mR hr) aJ (pv 0)) ah))))))
abbrev d7:Stmt:=top 43
def b0:List Str:=["_law_script","_law_game","_law_twin","_law_rows","_law_many","_law_back","_law_third"]
def gy:List Str:=["_law_script","_law_game","_law_twin","_law_rows","_law_many","_law_back"]
def fT:FnScope b0 gy (ag d7):=cF
def k9(B:Bl K mg base cv cA Cp)(O:Bo K CK CG)(jv:wD P w K mg base cv 7 CG "twin" dj 1 (cN CK CG))(fq:lb P w K mg base cv 3 CG "back" 0 (aZ CK CG))(a_:CallR P w K mg base cv 7 CG "_law_now" 0 (aE CK CG))(ck:cR P w K mg base cv 1 CG "steps" 0 (aR CK CG))(ez:pZ P w K mg base cv 7 "_law_play" bE 3 (aV CK CG))(T:bO K mg "_law_go_apart" d7 f):pZ P w K mg base cv 8 "_law_go_apart" b0 6 (b9 CK CG):=
 wX (N:=b0) (ps:=gy) T fT rfl (λ_ _ _ _ _ _ us hl=>match us,hl with | [_,_,_,_,_,_],_=>rfl) (λ_ _ _ _ _ _ hr=>
  (az (pV fT.nd rfl (.inl rfl) (t_ (N:=dj) jv (mR hr) aJ (pv 2))) (az (nL (z9 (vP (vQ (mM (N:=bE) ez (mR hr) aJ rfl (lx (ae (pv 0)) (lx ak (x_ (pv 1) pR)))))) (rD (gX hr.units (bb ck (mR hr) aJ (pv 1)) (eO (ab (cf (b7 (ae (pv 4)) (ae (pv 5))) ak) (ab ak ah)))))) (cu (aT (aA eh))) kR) (az (aT (bH (gX hr.units (dN a_ (mR hr) aJ rfl (pv 2) ah) (cQ (ae (pv 3)) (b7 (ae (pv 4)) (ae (pv 5))))) (aq (aA eh)) a8)) (az (nL (z9 (vP (vQ (mM (N:=bE) ez (mR hr) aJ rfl (lx (ae (pv 0)) (lx ak (x_ (pv 2) pR)))))) (rD (gX hr.units (dN a_ (mR hr) aJ rfl (pv 2) ah) (dN a_ (mR hr) aJ rfl (pv 1) ah)))) (cu (aT (aA eh))) kR) (az (aT (bH (gX hr.units (dN a_ (mR hr) aJ rfl (pv 6) ah) (cQ (ae (pv 3)) (b7 (ae (pv 4)) (ae (pv 5))))) (aq (aA eh)) a8)) (az (HI (j2 fq (mR hr) aJ (pv 1))) (az (aT (bH (PDW.t (jY (gX hr.units (dN a_ (mR hr) aJ rfl (pv 1) ah) (cQ (ae (pv 3)) (b7 (ae (pv 4)) (ae (pv 5))))) (gU (gX hr.units (bb ck (mR hr) aJ (pv 1)) (eO (ab (b7 (ae (pv 4)) (ae (pv 5))) (ab ak ah))))))) (aq (aA eh)) a8)) (cu (aT (aA (t6 hr.units (bb ck (mR hr) aJ (pv 6)) (eO (ab (b7 (ae (pv 4)) (ae (pv 5))) (ab (ae (pv 5)) ah)))))))))))))))
abbrev cH:Stmt:=top 44
def f9:List Str:=["_law_script","_law_game","_law_rows","_law_k","_law_many","_law_twin","_law_told","_law_back"]
def nE:List Str:=["_law_script"]
def cz:FnScope f9 nE (ag cH):=cF
def xT{fd:Vz}(B:Bl K mg base cv cA Cp)(O:Bo K CK CG)(ju:MakeM P w K mg base cv 5 CG "Game" 2 (cK CK CG))(jv:wD P w K mg base cv 7 CG "twin" dj 1 (cN CK CG))(lC:pZ P w K mg base cv 8 "_law_go_apart" b0 6 (b9 CK CG))(wU:ax P w K mg base cv 3 "_law_board" 3 d9)(a_:CallR P w K mg base cv 7 CG "_law_now" 0 (aE CK CG))(cn:ax P w K mg base cv 2 "_law_drawn" 3 aQ)(ez:pZ P w K mg base cv 7 "_law_play" bE 3 (aV CK CG))(fq:lb P w K mg base cv 3 CG "back" 0 (aZ CK CG))(ck:cR P w K mg base cv 1 CG "steps" 0 (aR CK CG))(cS:cR P w K mg base cv 6 CG "can_take" 0 (bw CK CG))(uF:lb P w K mg base cv 3 CG "forth" 0 (cp CK CG))(Fn:Fun K "law" "law" cH f fd)(hg:∀ns:List Int,ns.length<=63->(k7 CK CG).f (some (.fz (.scr ns))::TH (8 - 1) none) λx=>∃ρ,x= .rt (.fz (.bl true)) ρ):FnOk P w K mg base (f7 P w cv) 9 f fd nE (KR K cv 1 BY):=
 Oh (N:=f9) (ps:=nE) (τ:=k7 CK CG) Fn cz rfl (λ_ _ _ _ _ _ hr=>
  (az (pV cz.nd rfl (.inr rfl) (Bd ju (mR hr) aJ rfl (ab (cx wU (mR hr) rfl aJ (ab (ae (pv 0)) (ab ak (ab ak ah))) rfl) (ab (cQ (jV (ab ak (ab ak ah))) (cx cn (mR hr) rfl aJ (ab (ae (pv 0)) (ab ak (ab ak ah))) rfl)) ah)))) (az (aT (yc cz.nd rfl (.inl rfl) (Ht (ab (dN a_ (mR hr) aJ rfl (pv 1) ah) ah)))) (az (vM (vL Ut rfl (b8 rfl B.range (ab ak ah)) (b_ cz.nd rfl (.inl rfl)) nK (az (nL (vP (vQ (mM (N:=bE) ez (mR hr) cG rfl (lx (ae (pv 0)) (lx (cf ak (ae (pv 3))) (x_ (pv 1) pR)))))) (cu (aT (aA eh))) kR) (cu (aT (bH (oV hr.units (b6 (bb ck (mR hr) cG (pv 1)) ak) (Hq rfl B.len (pv 2))) (aq (kQ (pv 2) (dN a_ (mR hr) cG rfl (pv 1) ah))) a8)))))) (az (Be (i:=2) (aT (bf cz.nd rfl (.inl rfl) (b7 (bG rfl B.len (ab (ae (pv 2)) ah)) ak)))) (az (pV cz.nd rfl (.inr rfl) (t_ (N:=dj) jv (mR hr) aJ (pv 1))) (az (aT (i5 cz.nd rfl (.inl rfl))) (az (vM (vL Ut rfl (zY rfl B.range (ab (b7 (ae (pv 4)) ak) (ab (vD ak) (ab (vD ak) ah)))) (b_ cz.nd rfl (.inl rfl)) nK (az (Fc (pv 6) (j2 fq (mR hr) cG (pv 1))) (az (aT (bH (PDW.t (jY (gX hr.units (dN a_ (mR hr) cG rfl (pv 1) ah) (cQ (ae (pv 2)) (ae (pv 3)))) (gU (gX hr.units (bb ck (mR hr) cG (pv 1)) (eO (ab (ae (pv 3)) (ab (b7 (ae (pv 4)) (ae (pv 3))) ah))))))) (aq (aA eh)) a8)) (cu (aT (bH (zZ (gX hr.units (cQ (ae (pv 6)) (vD ak)) (b7 (b6 (cQ (ae (pv 2)) (ae (pv 3))) ak) (b6 (cQ (ae (pv 2)) (cf (ae (pv 3)) ak)) ak)))) (aq (aA eh)) a8))))))) (az (aT (bH (PDW.t (jY (gX hr.units (dN a_ (mR hr) aJ rfl (pv 5) ah) (cQ (ae (pv 2)) (vD ak))) (gU (gX hr.units (bb ck (mR hr) aJ (pv 5)) (eO (ab (ae (pv 4)) (ab ak ah))))))) (aq (aA eh)) a8)) (az (Be (i:=6) (vM (vL Ut rfl (lS rfl B.range (ab ak (ab (cf (ae (pv 4)) ak) ah))) (b_ cz.nd rfl (.inl rfl)) nK (az (nL (z9 (vO (qZ hr.units) q0 (j2 uF (mR hr) cG (pv 1)) (cQ (ae (pv 6)) (b7 (ae (pv 4)) (ae (pv 3))))) (rD (gX hr.units (dN a_ (mR hr) cG rfl (pv 1) ah) (cQ (ae (pv 2)) (ae (pv 3)))))) (cu (aT (aA eh))) kR) (cu (aT (bH (gX hr.units (bb ck (mR hr) cG (pv 1)) (eO (ab (ae (pv 3)) (ab (b7 (ae (pv 4)) (ae (pv 3))) ah)))) (aq (aA eh)) a8))))))) (az (aT (bH (oV hr.units (ae (pv 4)) ak) (aq (aA (t6 hr.units (bb cS (mR hr) aJ (pv 1)) (jV ah)))) a8)) (az (aT (bf cz.nd rfl (.inl rfl) (cf ak (cx cn (mR hr) rfl aJ (ab (ae (pv 0)) (ab ak (ab (ae (pv 4)) ah))) rfl)))) (az (nL (vO (qZ hr.units) q0 (Bc (tn:=["_law_turn"]) (bq (N:=f9) (osc:=(ag cH)) rfl rfl (by decide+kernel)) rfl rfl (b8 rfl B.range (ab (ae (pv 7)) ah)) (λ_ _ _ _ _ _ _=>cE (show US (((["_law_turn"]:List Str))++bY ["_law_turn"] f9) by decide+kernel) rfl rfl) (λ_ _ _ _ _ _=>(j2 fq (mR hr) cG (pv 2)))) (ES (ae (pv 6)) rk (rl (ae (pv 7))))) (cu (aT (aA eh))) kR) (az (nL (vO (qZ hr.units) q0 (Bc (tn:=["_law_turn"]) (bq (N:=f9) (osc:=(ag cH)) rfl rfl (by decide+kernel)) rfl rfl (b8 rfl B.range (ab (ae (pv 7)) ah)) (λ_ _ _ _ _ _ _=>cE (show US (((["_law_turn"]:List Str))++bY ["_law_turn"] f9) by decide+kernel) rfl rfl) (λ_ _ _ _ _ _=>(j2 fq (mR hr) cG (pv 6)))) (ES (ae (pv 6)) rk (rl (ae (pv 7))))) (cu (aT (aA eh))) kR) (cu (vN (mM (N:=b0) lC (mR hr) aJ rfl (lx (ae (pv 0)) (x_ (pv 1) (x_ (pv 5) (lx (ae (pv 2)) (lx (ae (pv 4)) (lx (ae (pv 7)) pR))))))))))))))))))))))) hg
end
end K1
namespace K1
open PySem L2 L3
def Er{ds:List D}(h:ds.length<=lim):gw ds=aa (.lst ds):=Zn h
def c_:lim=4096:=rfl
def hZ{i:Nat}{x:α}(h:xs[i]? =some x):L2.atI xs (i:Int)=some x:=by
 obtain⟨hi,e⟩:=To.mp h;unfold L2.atI Gb;rw[Zn (Int.natCast_nonneg i),Zn (by exact Int.ofNat_lt.mpr hi)];exact h
def aG{δs:DA}(h:δs ρ=aa ds)(hl:ds.length=m):aw m g δs ρ=g ds:=by
 unfold aw;rw[h];exact Zn hl
def ao{ρ:aM}(h1:a ρ=aa x)(h2:r ρ=aa xs):aC a r ρ=aa (x::xs):=by
 unfold aC;rw[h1,ai,h2];rfl
def av{ρ:aM}{x y:D}(h1:a ρ=aa x)(h2:b ρ=aa y):d2 g a b ρ=g x y:=by
 unfold d2;rw[h1,ai,h2];rfl
def bg{ρ:aM}{xs:List D}(h:a ρ=aa xs):dA g a ρ=g xs:=by
 unfold dA;rw[h];rfl
def il{i j:Int}(h:0<j):me (.int i) (.int j)=aa (.int (i % j)):=by
 show (if decide (0<j)=true then _ else _)=_;rw[Zn (Zq h)]
def md{i j:Int}(h:0<j)(h2:j<1073741824):sA (.int i) (.int j)=aa (.int (i / j)):=by
 show (if decide (0<j/\j<1073741824)=true then _ else _)=_;rw[Zn (Zq ⟨h,h2⟩)]
def ip{i j:Int}(h:(-(2 ^ 64)<i/\i<2 ^ 64)\/(-(2 ^ 64)<j/\j<2 ^ 64)):iU (.int i) (.int j)=aa (.int (i*j)):=by
 show (if decide _=true then _ else _)=_;rw[Zn (Zq h)]
def gq{i j:Int}:dD (.int i) (.int j)=aa (.int (i+j)):=rfl
def Dl(ns:List Int)(hl:ns.length<=63)(k:Nat):∃v,gm [.scr ns, .int (k:Int)]=aa (.int v):=by
 cases ns with
 |nil=>
  refine⟨7*(k:Int),?_⟩;rfl
 |cons n r=>
  have hp:0<(n::r).length:=Nat.succ_pos _;generalize e:(n::r)=ns at*;have he:o8 6 (.scr ns) (.lst [])=some false:=by subst e;rfl
  obtain⟨y,hy⟩:∃y,ns[k % ns.length]? =some y:=⟨_,Tg (Nat.mod_lt _ hp)⟩
  have QF:(0:Int)<(ns.length:Int):=by omega
  have h1:me (.int (k:Int)) (.int (ns.length:Int))=aa (.int ((k % ns.length:Nat):Int)):=il QF;have h2:sA (.int (k:Int)) (.int (ns.length:Int))=aa (.int ((k:Int) / (ns.length:Int))):=md QF (by omega);have h3:DY (.scr ns) (.int ((k % ns.length:Nat):Int))=aa (.int y):=by
   show (match L2.atI ns ((k % ns.length:Nat):Int) with | some n=>aa (D.int n) | none=>af)=_;rw[hZ hy]
  have h4:iU (.int 6553) (.int ((k:Int) / (ns.length:Int)))=aa (.int (6553*((k:Int) / (ns.length:Int)))):=ip (.inl ⟨by decide,by decide⟩);refine⟨y+6553*((k:Int) / (ns.length:Int)),?_⟩;simp only[gm,sd,dF,bp,iN,bc,dq,ej,d2,dV,dC,dA,aC,aN,gw,bA,C4,kG,he,ai,h1,h2,h3,h4,Ts,VJ,VH,UA,Tn,Vk,Ue,T4,c_,Nat.reduceAdd,Ur,if_true,Uc,if_false,dD,gI]
def e7(ns:List Int)(hl:ns.length<=63)(k m:Nat)(hm:0<m):∃v:Nat,v<m/\aQ [.scr ns, .int (k:Int), .int (m:Int)]=aa (.int (v:Int)):=by
 obtain⟨c,hc⟩:=Dl ns hl k;have b1:=Yg (c % 2147483563*69069+104723*((k:Int)+1)) (b:=2147483563) (by decide);have b2:=XA (c % 2147483563*69069+104723*((k:Int)+1)) (b:=2147483563) (by decide);generalize hx:(c % 2147483563*69069+104723*((k:Int)+1)) % 2147483563=x at b1 b2;have b3:=Yg (x*x+x / 3) (b:=2147483399) (by decide);have b4:=XA (x*x+x / 3) (b:=2147483399) (by decide);generalize hy:(x*x+x / 3) % 2147483399=y at b3 b4;have m1:iU (.int (c % 2147483563)) (.int 69069)=_:=ip (.inr ⟨by decide,by decide⟩);have m2:iU (.int 104723) (.int ((k:Int)+1))=_:=ip (.inl ⟨by decide,by decide⟩);have m3:iU (.int x) (.int x)=_:=ip (.inl ⟨by omega,by omega⟩);have m4:iU (.int y) (.int y)=_:=ip (.inl ⟨by omega,by omega⟩);have hM:(0:Int)<(m:Int):=Int.ofNat_lt.mpr hm;have n1:=Yg ((y*y+y / 7) % 2147483647 / 11) (b:=(m:Int)) (by omega);have n2:=XA ((y*y+y / 7) % 2147483647 / 11) hM;have q1:me (.int c) (.int 2147483563)=_:=il (by decide);have q2:me (.int (c % 2147483563*69069+104723*((k:Int)+1))) (.int 2147483563)=_:=il (by decide);have q3:sA (.int x) (.int 3)=_:=md (by decide) (by decide);have q4:me (.int (x*x+x / 3)) (.int 2147483399)=_:=il (by decide);have q5:sA (.int y) (.int 7)=_:=md (by decide) (by decide);have q6:me (.int (y*y+y / 7)) (.int 2147483647)=_:=il (by decide);have q7:sA (.int ((y*y+y / 7) % 2147483647)) (.int 11)=_:=md (by decide) (by decide);have q8:me (.int ((y*y+y / 7) % 2147483647 / 11)) (.int (m:Int))=_:=il hM;refine⟨((y*y+y / 7) % 2147483647 / 11 % (m:Int)).toNat,by omega,?_⟩;rw[Int.toNat_of_nonneg n1];rw[hx] at q2;rw[hy] at q4;simp only[aQ,o3,dF,bp,da,bc,aw,d2,dV,dC,dA,aC,aN,ai,hc,Ts,VJ,VH,UA,Tn,Vk,Ue,T4,TH,Xv,Wn,Nat.reduceAdd,Nat.reduceSub,if_true,gq,m1,m2,m3,m4,q1,q2,q3,q4,q5,q6,q7,q8]
def my{α:Type}(a:α):noex (aa a)=aa a:=rfl
theorem xp{I:Nat->aM->Prop}:∀(ds:List D) (i:Nat) (ρ:aM),I i ρ->
 (∀j d,ds[j]? =some d->∀ρ,I (i+j) ρ->∃ρ1 ρ2,put d ρ=some ρ1/\body ρ1=aa (.nx ρ2)/\I (i+j+1) ρ2)->∃ρ',forL put body ds ρ=aa (.nx ρ')/\I (i+ds.length) ρ'
 |[],i,ρ,h,_=>⟨ρ,rfl,h⟩
 |d::ds,i,ρ,h,step=>by
  obtain⟨ρ1,ρ2,e1,e2,h2⟩:=step 0 d rfl ρ h;obtain⟨ρ',e3,h3⟩:=xp (I:=I) ds (i+1) ρ2 h2 λj d' hd ρ hI=>by
   have:=step (j+1) d' hd ρ (by rw[show i+(j+1)=i+1+j by omega];exact hI);rw[show i+(j+1)+1=i+1+j+1 by omega] at this;exact this
  refine⟨ρ',?_,?_⟩
  ·show (match put d ρ with | none=>af | some ρ1=>body ρ1>>=λo=>match o with | .nx ρ2=>forL put body ds ρ2 | .rt v=>aa (.rt v))=_;rw[e1];show (body ρ1>>=λo=>match o with | .nx ρ2=>forL put body ds ρ2 | .rt v=>aa (.rt v))=_;rw[e2];exact e3
  ·rw[show i+(d::ds).length=i+1+ds.length by simp;omega];exact h3
theorem tf{Pr:D->Prop}:∀(ds:List D),(∀d∈ds,∃y,f d=aa (some y)/\Pr y)->∃ys,dG f ds=aa ys/\ys.length=ds.length/\∀y∈ys,Pr y
 |[],_=>⟨[],rfl,rfl,λ_ h=>by cases h⟩
 |d::ds,h=>by
  obtain⟨y,e,hy⟩:=h d (Th ..);obtain⟨ys,e2,hl,hp⟩:=tf ds λd' hd=>h d' (Tf _ hd);refine⟨y::ys,?_,by simp[hl],λz hz=>?_⟩
  ·rw[eZ,e,ai,e2];rfl
  ·cases hz with
   |head=>exact hy
   |tail _ hz=>exact hp z hz
theorem ig{g:D->D}:∀(ds:List D),(∀d∈ds,f d=aa (some (g d)))->dG f ds=aa (ds.map g)
 |[],_=>rfl
 |d::ds,h=>by
  rw[eZ,h d (Th ..),ai,ig ds λd' hd=>h d' (Tf _ hd)];rfl
def IV(x:Str):Bool:=!(U7 ("abcdef":Str) x 0 ("abcdef":Str).length 1).isEmpty
structure Row (W:Nat) (r:Str):Prop where
 len:r.length=W
 let':∀c∈r.cps.toList,IV ⟨#[c]⟩=true
structure Good (bd:List Str) (W:Nat):Prop where
 r1:1<=bd.length
 r5:bd.length<=5
 w1:1<=W
 w5:W<=5
 rows:∀r∈bd,Row W r
abbrev lE(c:Nat):Prop:=IV ⟨#[c]⟩=true/\c≠101/\c≠100
def Q4(r:Str):Prop:=∀c∈r.cps.toList,c≠101
def Nh(r:Str):Prop:=∀c∈r.cps.toList,c≠101/\c≠100
theorem yG:∀(ys:List D),(∀y∈ys,∃c,y= .str ⟨#[c]⟩/\lE c)->∃xs,pF ys=some xs/\xs.length=ys.length/\(xs.map (·.length)).sum=ys.length/\Row ys.length (eB xs)/\Nh (eB xs)
 |[],_=>⟨[],rfl,rfl,rfl,⟨rfl,λc h=>by cases h⟩,λc h=>by cases h⟩
 |y::ys,h=>by
  obtain⟨c,e,hc⟩:=h y (Th ..);obtain⟨xs,e1,e2,e3,e4,e5⟩:=yG ys λz hz=>h z (Tf _ hz);subst e;have F_:∀z,z∈((⟨#[c]⟩:Str)++eB xs).cps.toList->z=c\/z∈(eB xs).cps.toList:=λz hz=>by
   have:((⟨#[c]⟩:Str)++eB xs).cps= #[c]++(eB xs).cps:=rfl;rw[this] at hz;simpa using hz
  refine⟨⟨#[c]⟩::xs,?_,by simp[e2],?_,⟨?_,λz hz=>?_⟩,λz hz=>?_⟩
  ·show (pF ys).map _=_;rw[e1];rfl
  ·rw[Ts,VN,e3];show 1+ys.length=_;simp;omega
  ·show ((⟨#[c]⟩:Str)++eB xs).length=_;rw[kx,e4.len];show 1+ys.length=_;simp;omega
  ·rcases F_ z hz with rfl | q
   ·exact hc.1
   ·exact e4.let' z q
  ·rcases F_ z hz with rfl | q
   ·exact hc.2
   ·exact e5 z q
def Fi{n:Nat}{d:D}(h:d∈iC lo n):∃i:Nat,i<n/\d= .int (lo+(i:Int)):=by
 unfold iC at h;obtain⟨i,hi,e⟩:=TV.mp h;exact⟨i,UP.mp hi,e.symm⟩
def HM{n j:Nat}{d:D}(h:(iC lo n)[j]? =some d):j<n/\d= .int (lo+(j:Int)):=by
 unfold iC at h;rw[Tx] at h;by_cases hj:j<n
 ·rw[Vb hj] at h;cases h;exact⟨hj,rfl⟩
 ·rw[V0 (by simpa using hj)] at h;cases h
def j4(lo:Int)(n:Nat):(iC lo n).length=n:=by simp[iC]
abbrev iW(w:Nat):D:= .int w
abbrev fz(d:D):Option Sl:=some (.fz d)
def g6{ρ:aM}{d:D}:ie 0 bI δe ρ d=(δe (fz d::ρ)>>=λy=>aa (some y)):=rfl
def Dv{ρ:aM}{d:D}:ie 0 δt δe ρ d=(δt (fz d::ρ)>>=λb=>if b then δe (fz d::ρ)>>=λy=>aa (some y) else aa none):=rfl
def aF{ρ ρ':aM}{o:M Out}(h:a ρ=aa (.nx ρ'))(h2:b ρ'=o):bp a b ρ=o:=by
 unfold bp;rw[h];exact h2
def eR{ρ:aM}{d:D}(h:a ρ=aa (.rt d)):bp a b ρ=aa (.rt d):=by
 unfold bp;rw[h];rfl
def a6{ρ:aM}{d:D}(h:δ ρ=aa d):da i δ ρ=aa (.nx (ρ.set i (fz d))):=by
 unfold da;rw[h];rfl
def fB{ρ:aM}{o:M Out}(h:c ρ=aa true)(h2:a ρ=o):iN c a b ρ=o:=by
 unfold iN;rw[h];exact h2
def c7{ρ:aM}{o:M Out}(h:c ρ=aa false)(h2:b ρ=o):iN c a b ρ=o:=by
 unfold iN;rw[h];exact h2
def aL{ρ:aM}{d:D}(h:δ ρ=aa d):bc δ ρ=aa (.rt d):=by
 unfold bc;rw[h];rfl
def rK{ρ:aM}{d:D}(h:δ ρ=aa d):Ac δ ρ=aa (.nx ρ):=by
 unfold Ac;rw[h];rfl
def bL{ds:List D}{d:D}(h:τ (ds.map (λd=>some (Sl.fz d))++TH (n - ds.length) none)=aa (.rt d)):dF n τ ds=aa d:=by
 unfold dF;rw[h];rfl
def Bn{ds:List D}{ρ:aM}(h:τ (ds.map (λd=>some (Sl.fz d))++TH (n - ds.length) none)=aa (.nx ρ)):dF n τ ds=aa .non:=by
 unfold dF;rw[h];rfl
def Fp{ρ:aM}(h:δi ρ=aa ds)(h2:forL put b ds ρ=aa o):noex (i6 put δi b ρ)=aa o:=by
 unfold i6;rw[h,ai,h2];rfl
def c6{τ:DS}{ρ ρ':aM}(h:τ ρ=aa (.nx ρ')):fZ is τ ρ=aa (.nx (fgt is ρ')):=by
 unfold fZ;rw[h];rfl
def bS{δe:DE}(h:δi ρ=aa ds)(h2:dG (ie n δt δe ρ) ds=aa ys)(h3:ys.length<=lim):bj n δi δt δe ρ=aa (.lst ys):=by
 unfold bj;rw[h,ai,h2,my,ai,Er h3]
def nO{n:Nat}(h:n<=4096):ei [.int (n:Int)]=aa (iC 0 n):=by
 show (if -4096<=(n:Int)/\(n:Int)<=4096 then aa (iC 0 (n:Int).toNat) else af)=_;rw[Zn ⟨by omega,by omega⟩];rfl
structure Alpha (al:Str):Prop where
 pos:0<al.length
 ok:∀c∈al.cps.toList,lE c
def Ji:Alpha "ab"/\Alpha "abc"/\Alpha "aab"/\Alpha "fa":=by
 refine⟨⟨by decide+kernel,?_⟩,⟨by decide+kernel,?_⟩,⟨by decide+kernel,?_⟩,⟨by decide+kernel,?_⟩⟩<;>decide+kernel
def DZ{i:Nat}(h:i<x.length):∃c,c∈x.cps.toList/\x.cps.toList[i]? =some c/\jB (.str x) (.int (i:Int))=aa (.str ⟨#[c]⟩):=by
 have h:i<x.cps.toList.length:=by rw[TZ];exact h
 refine⟨x.cps.toList[i],XN h,Tg h,?_⟩;show (match L2.atI x.cps.toList (i:Int) with | some c=>aa (D.str ⟨#[c]⟩) | none=>af)=_;rw[hZ (Tg h)]
abbrev brd(bd:List Str):D:= .tup (bd.map D.str)
abbrev sgn(at' mo:Nat)(ns:List Int)(W:Nat)(al:Str)(bd:List Str)(R:Nat)(x7 x8:Option Sl):aM:=[fz (.scr ns),fz (.int (at':Int)),fz (.int (mo:Int)),fz (.int (R:Int)),fz (.int (W:Int)),fz (.str al),fz (brd bd),x7,x8]
def CN(at' mo:Nat)(ns:List Int)(hl:ns.length<=63)(al:Str)(ha:Alpha al)(j W R:Nat)(hW:W<=5)(bd:List Str)(x8:Option Sl):
 ∃ys,Qd (sgn at' mo ns W al bd R (fz (.int (0+(j:Int)))) x8)=aa (.lst ys)/\ys.length=W/\∀y∈ys,∃c,y= .str ⟨#[c]⟩/\lE c:=by
 obtain⟨ys,e,IQ,hp⟩:=tf (f:=ie 0 bI (d2 jB (dV 6) (aw 3 aQ (aC (dV 1) (aC (d2 dD (d2 dD (d2 dD (dV 2) (dC (.int 3))) (d2 iU (dC (.int 7)) (dV 8))) (dV 0)) (aC (dA bA (aC (dV 6) aN)) aN)))))
  (sgn at' mo ns W al bd R (fz (.int (0+(j:Int)))) x8)) (Pr:=λy=>∃c,y= .str ⟨#[c]⟩/\lE c) (iC 0 W) λd hd=>by
  obtain⟨i,hi,rfl⟩:=Fi hd;obtain⟨v,hv,e⟩:=e7 ns hl (at'+3+7*j+i) al.length ha.pos;obtain⟨c,hc,_,e2⟩:=DZ hv;refine⟨.str ⟨#[c]⟩,?_,c,rfl,ha.ok c hc⟩;rw[g6];have k:(at':Int)+3+7*(0+(j:Int))+(0+(i:Int))=((at'+3+7*j+i:Nat):Int):=by omega
  have m1:iU (.int 7) (.int (0+(j:Int)))=aa (.int (7*(0+(j:Int)))):=ip (.inl ⟨by decide,by decide⟩);simp only[aw,d2,dV,dC,dA,aC,aN,ai,Tn,Vk,Ue,T4,Nat.reduceAdd,if_true,gq,m1,k,bA,e,e2]
 refine⟨ys,bS (nO (n:=W) (by omega)) e (by rw[IQ,j4,c_];omega),by rw[IQ,j4],hp⟩
def Gn(at' mo:Nat)(ns:List Int)(W:Nat)(al:Str)(bd:List Str)(R:Nat)(x7:Option Sl)(ys:List D)(hb:bd.length<=5)(hy:ys.length<=5)(s3:∀y∈ys,∃c,y= .str ⟨#[c]⟩/\lE c):
 ∃r,(Row ys.length r/\Nh r)/\Qe (sgn at' mo ns W al bd R x7 (fz (.lst ys)))=aa (.nx (sgn at' mo ns W al (bd++[r]) R x7 (fz (.lst ys)))):=by
 obtain⟨xs,t1,t2,t3,t4⟩:=yG ys s3;refine⟨eB xs,t4,?_⟩;have jn:joinM (.str "") [.lst ys]=aa (.str (eB xs)):=by
  show (match pF ys with | some (xs:List Str)=>if ("":Str).length=0/\(xs.map (λx:Str=>x.length)).sum<=lim then aa (D.str (eB xs)) else af | none=>af)=_;rw[t1];show (if ("":Str).length=0/\(xs.map (λx:Str=>x.length)).sum<=lim then aa (D.str (eB xs)) else af)=_;rw[Zn ⟨rfl,by rw[t3,c_];omega⟩]
 have ct:AI (brd bd) (.tup [.str (eB xs)])=aa (brd (bd++[eB xs])):=by
  show (if (bd.map D.str).length+1<=lim then aa (D.tup (bd.map D.str++[.str (eB xs)])) else af)=_;rw[Zn (by rw[Te,c_];omega)];simp[brd]
 refine(a6 (d:=brd (bd++[eB xs])) ?_).trans rfl;simp only[d2,dV,dC,dA,aC,aN,dM,sC,ai,Ue,T4,if_true,jn,di,Tn,Vk,c_,Nat.reduceAdd,Nat.reduceLeDiff,ct]
def yX(ns:List Int)(hl:ns.length<=63)(at' mo:Nat)(m0:0<mo)(m5:mo<=5):∃bd W,Good bd W/\(∀r∈bd,Nh r)/\bd.length<=mo/\W<=mo/\d9 [.scr ns, .int (at':Int), .int (mo:Int)]=aa (brd bd):=by
 obtain⟨r,hr,e1⟩:=e7 ns hl at' mo m0;obtain⟨c,hc,e2⟩:=e7 ns hl (at'+1) mo m0;obtain⟨a,ha,e3⟩:=e7 ns hl (at'+2) 4 (by decide);obtain⟨al,LM,e4⟩:∃al,Alpha al/\cT (.lst [.str "ab", .str "abc", .str "aab", .str "fa"]) (.int (a:Int))=aa (.str al):=by
  obtain⟨a1,a2,a3,a4⟩:=Ji
  match a,ha with
  |0,_=>exact⟨_,a1,rfl⟩
  |1,_=>exact⟨_,a2,rfl⟩
  |2,_=>exact⟨_,a3,rfl⟩
  |3,_=>exact⟨_,a4,rfl⟩
 have k1:(1:Int)+(r:Int)=((r+1:Nat):Int):=by omega
 have k2:(1:Int)+(c:Int)=((c+1:Nat):Int):=by omega
 have wx:aQ [.scr ns, .int (at':Int), .int (mo:Int)]=aa (.int (r:Int)):=e1;have F7:aQ [.scr ns, .int ((at':Int)+1), .int (mo:Int)]=aa (.int (c:Int)):=e2;have Nn:aQ [.scr ns, .int ((at':Int)+2), .int 4]=aa (.int (a:Int)):=e3;obtain⟨ρ',f1,bd,f2,f3,f4⟩:=xp (put:=putN 7) (body:=fZ [7,8] (bp (da 8 Qd) Qe))
  (I:=λi ρ=>∃bd,ρ=sgn at' mo ns (c+1) al bd (r+1) none none/\bd.length=i/\∀z∈bd,Row (c+1) z/\Nh z)
  (iC 0 (r+1)) 0 (sgn at' mo ns (c+1) al [] (r+1) none none) ⟨[],rfl,rfl,λ_ h=>by cases h⟩ λj d hd ρ ⟨bd,hρ,hb,hw⟩=>by
   obtain⟨hj,rfl⟩:=HM hd;subst hρ;obtain⟨ys,s1,s2,s3⟩:=CN at' mo ns hl al LM j (c+1) (r+1) (by omega) bd none;obtain⟨Lb,t1,t2⟩:=Gn at' mo ns (c+1) al bd (r+1) (fz (.int (0+(j:Int)))) ys (by omega) (by omega) s3;refine⟨_,_,rfl,c6 (aF (a6 s1) t2),bd++[Lb],rfl,by simp[hb],λz hz=>?_⟩;rcases Ud.mp hz with h | h
   ·exact hw z h
   ·have h:z=Lb:=by simpa using h
    subst h;rw[s2] at t1;exact t1
 refine⟨bd,c+1,⟨by rw[f3,j4];omega,by rw[f3,j4];omega,by omega,by omega,λr q=>(f4 r q).1⟩,λr q=>(f4 r q).2,by rw[f3,j4];omega,by omega,?_⟩;subst f2;refine bL ?_;refine aF (a6 (d:= .int ((r+1:Nat):Int)) ?_) ?_
 ·simp only[aw,d2,dV,dC,aC,aN,ai,Ts,VJ,VH,UA,Tn,Vk,Ue,T4,Nat.reduceAdd,if_true,gq,wx,k1]
 refine aF (a6 (d:= .int ((c+1:Nat):Int)) ?_) ?_
 ·simp only[aw,d2,dV,dC,aC,aN,ai,Ts,VJ,VH,UA,Tn,Vk,TH,Xv,Wn,Nat.reduceSub,Ue,T4,Nat.reduceAdd,if_true,gq,F7,k2]
 refine aF (a6 (d:= .str al) ?_) ?_
 ·simp only[aw,d2,dV,dC,dA,aC,aN,ai,Ts,VJ,VH,UA,Tn,Vk,TH,Xv,Wn,Nat.reduceSub,Ue,T4,Nat.reduceAdd,if_true,gq,Nn,gw,c_,Nat.reduceLeDiff,e4]
 refine aF (a6 rfl) ?_;refine aF (Fp (nO (by omega)) f1) ?_;exact aL rfl
def yW(ns:List Int)(hl:ns.length<=63)(at' mo:Nat)(m0:0<mo)(m5:mo<=5):∃bd W,Good bd W/\(∀r∈bd,Q4 r)/\bd.length<=mo/\W<=mo/\d9 [.scr ns, .int (at':Int), .int (mo:Int)]=aa (brd bd):=
 let ⟨bd,W,h1,h3,h2⟩:=yX ns hl at' mo m0 m5
 ⟨bd,W,h1,λr hr c hc=>(h3 r hr c hc).1,h2⟩
def yY(ns:List Int)(hl:ns.length<=63)(at' mo:Nat)(m0:0<mo)(m5:mo<=5):∃bd W,Good bd W/\bd.length<=mo/\W<=mo/\d9 [.scr ns, .int (at':Int), .int (mo:Int)]=aa (brd bd):=
 let ⟨bd,W,h1,_,h2⟩:=yW ns hl at' mo m0 m5
 ⟨bd,W,h1,h2⟩
def Plain:D->Prop
 | .non | .bl _ | .int _ | .str _ | .tup _ | .lst _=>True
 |_=>False
def isStr:D->Bool
 | .str _=>true
 |_=>false
def isTup:D->Bool
 | .tup _=>true
 |_=>false
def gP{d:D}(h:Plain d):jm [d, .raw (.ty "str")]=aa (.bl (isStr d)):=by
 cases d<;>first | rfl | exact h.elim
def pO{d:D}(h:Plain d):jm [d, .raw (.ty "tuple")]=aa (.bl (isTup d)):=by
 cases d<;>first | rfl | exact h.elim
def u3:D->Bool
 | .str x=>(x.length==1)&&IV x
 |_=>false
def qh{i:Nat}{d:D}(h:ρ[i]? =some (fz d)):dV i ρ=aa d:=by
 unfold dV;rw[h]
def eq_int(i j:Int):kG (.int i) (.int j)=aa (.bl (i==j)):=rfl
def ne_int(i j:Int):gr (.int i) (.int j)=aa (.bl (!(i==j))):=rfl
def len_str(x:Str):bA [.str x]=aa (.int (x.length:Int)):=rfl
def in_str(x:Str):DX false (.str x) (.str "abcdef")=aa (.bl (IV x)):=rfl
def lj(a b:Nat):((a:Int)==(b:Int))=(a==b):=by
 by_cases h:a=b
 ·subst h;simp
 ·have h2:¬(a:Int)=(b:Int):=by omega
  rw[Zu.mpr h,Zu.mpr h2]
def G8(h:Plain d){i:Nat}{ρ:aM}(hρ:ρ[i]? =some (fz d)):
 eW (dA jm (aC (dV i) (aC (dC (.raw (.ty "str"))) aN))) (eW (d2 kG (dA bA (aC (dV i) aN)) (dC (.int 1))) (d2 (DX false) (dV i) (dC (.str "abcdef")))) ρ=aa (.bl (u3 d)):=by
 have hv:=qh hρ;have e1:=lj;cases d with
 |str x=>
  have k:((x.length:Int)==1)=(x.length==1):=lj x.length 1;simp only[eW,dA,aC,aN,dC,d2,hv,ai,gP h,isStr,C4,if_true,len_str,eq_int,k,in_str,u3];cases x.length==1<;>rfl
 |non=>simp only[eW,dA,aC,aN,dC,d2,hv,ai,gP h,isStr,C4,if_false,Uc,u3]
 |bl b=>simp only[eW,dA,aC,aN,dC,d2,hv,ai,gP h,isStr,C4,if_false,Uc,u3]
 |int b=>simp only[eW,dA,aC,aN,dC,d2,hv,ai,gP h,isStr,C4,if_false,Uc,u3]
 |tup b=>simp only[eW,dA,aC,aN,dC,d2,hv,ai,gP h,isStr,C4,if_false,Uc,u3]
 |lst b=>simp only[eW,dA,aC,aN,dC,d2,hv,ai,gP h,isStr,C4,if_false,Uc,u3]
 |raw _=>exact h.elim
 |exc _=>exact h.elim
 |scr _=>exact h.elim
 |dct _ _=>exact h.elim
 |dci _ _=>exact h.elim
def sD{d:D}(h:Plain d):dg [d]=aa (.bl (u3 d)):=bL (aL (G8 h rfl))
def kK(x:Str):Bool:=x.cps.toList.all λc=>IV ⟨#[c]⟩
def pB:D->Bool
 | .str x=>(decide (1<=x.length)&&decide (x.length<=8))&&kK x
 |_=>false
def BG(l:List Bool):bools (l.map D.bl)=some l:=by
 induction l with
 |nil=>rfl
 |cons b r ih=>show (bools (r.map D.bl)).map _=_;rw[ih];rfl
def all_map(l:List Bool):allM [.lst (l.map D.bl)]=aa (.bl (l.all id)):=by
 show (match bools (l.map D.bl) with | some bs=>aa (D.bl (bs.all id)) | none=>af)=_;rw[BG]
def Dp{ρ:aM}{n:Nat}(h:δ ρ=aa (.int (n:Int))):
 ej (y6 (λi j=>decide (i<=j)) (λi j=>decide (i<=j)) (dC (.int 1)) δ (dC (.int 8))) ρ=aa (decide (1<=n)&&decide (n<=8)):=by
 have k1:decide ((1:Int)<=(n:Int))=decide (1<=n):=by by_cases h:1<=n<;>simp[h]<;>omega
 have k2:decide ((n:Int)<=8)=decide (n<=8):=by by_cases h:n<=8<;>simp[h]<;>omega
 simp only[ej,y6,dC,h,ai,k1,k2,gI,C4];cases decide (1<=n)<;>rfl
def zv(h:Plain d):gk [d]=aa (.bl (pB d)):=by
 refine bL ?_;have hρ:([d].map (λd=>some (Sl.fz d))++TH (1 - [d].length) none)=[fz d]:=rfl;rw[hρ];have hv:dV 0 [fz d]=aa d:=rfl;have no:isStr d=false->yK [fz d]=aa (.rt (.bl false)):=λhs=>by
  refine eR (fB ?_ (aL rfl));simp only[o7,df,cJ,dA,aC,aN,dC,hv,ai,gP h,hs,yF,Xf,if_true]
 cases d with
 |str x=>
  have hi:cJ (dA jm (aC (dV 0) (aC (dC (.raw (.ty "str"))) aN))) [fz (.str x)]=aa true:=by
   simp only[cJ,dA,aC,aN,dC,hv,ai,gP h,isStr,yF]
  have hl:dA bA (aC (dV 0) aN) [fz (.str x)]=aa (.int (x.length:Int)):=rfl;have hc:=Dp hl;by_cases hr:(decide (1<=x.length)&&decide (x.length<=8))=true
  ·rw[hr] at hc;refine aF (c7 ?_ rfl) (aL ?_)
   ·unfold o7 df;rw[hi,ai,ai,hc];rfl
   ·have hb:x.length<=8:=by simp only[Uh,Zs] at hr;exact hr.2
    have cm:bj 0 (λρ=>(dV 0) ρ>>=KN) bI (aw 1 dg (aC (dV 0) aN)) [fz (.str x)]=aa (.lst ((x.cps.toList.map λc=>IV ⟨#[c]⟩).map D.bl)):=by
     refine bS rfl ?_ ?_
     ·have:=ig (f:=ie 0 bI (aw 1 dg (aC (dV 0) aN)) [fz (.str x)]) (g:=λd=>D.bl (u3 d)) (signs x) λd hd=>by
       rw[g6];obtain⟨c,_,rfl⟩:=TV.mp hd;show (dg [.str ⟨#[c]⟩]>>=λy=>aa (some y))=_;rw[sD (d:= .str ⟨#[c]⟩) trivial];rfl
      rw[this];unfold signs;rw[T7,T7];congr 1
     ·rw[Te,Te,TZ,c_];exact T2 hb (by decide)
    rw[bg (ao cm rfl),all_map];show aa (D.bl ((x.cps.toList.map λc=>IV ⟨#[c]⟩).all id))=aa (D.bl ((decide (1<=x.length)&&decide (x.length<=8))&&kK x));rw[hr];unfold kK;rw[Wo];rfl
  ·have hr:(decide (1<=x.length)&&decide (x.length<=8))=false:=by simpa using hr
   rw[hr] at hc;have:pB (.str x)=false:=by
    show ((decide (1<=x.length)&&decide (x.length<=8))&&kK x)=false;rw[hr];rfl
   rw[this];refine eR (fB ?_ (aL rfl));unfold o7 df;rw[hi,ai,ai,hc];rfl
 |non=>exact no rfl
 |bl b=>exact no rfl
 |int b=>exact no rfl
 |tup b=>exact no rfl
 |lst b=>exact no rfl
 |raw _=>exact h.elim
 |exc _=>exact h.elim
 |scr _=>exact h.elim
 |dct _ _=>exact h.elim
 |dci _ _=>exact h.elim
def lO:D->Nat
 | .str x=>x.length
 |_=>0
def p_:D->Bool
 | .tup ds=>(decide (1<=ds.length)&&decide (ds.length<=8))&&(ds.all pB&&ds.all λd=>lO d==lO (ds.headD .non))
 |_=>false
def Plain2:D->Prop
 | .tup ds=>∀d∈ds,Plain d
 |d=>Plain d
def Plain2.plain{d:D}(h:Plain2 d):Plain d:=by
 cases d<;>first | exact h | exact trivial
def G7{ds:List D}:bA [.tup ds]=aa (.int (ds.length:Int)):=rfl
def Ph{r:List D}(h:ds=d::r):bt (.tup ds) (.int 0)=aa d:=by
 subst h;show (match L2.atI (d::r) ((0:Nat):Int) with | some d=>aa d | none=>af)=_;rw[hZ (x:=d) rfl]
def HN{d:D}(h:pB d=true):∃x,d= .str x:=by
 cases d<;>first | exact⟨_,rfl⟩ | cases h
def BX{d:D}(h:Plain d):o7 (df (cJ (dA jm (aC (dV 0) (aC (dC (.raw (.ty "tuple"))) aN))))) (df (ej (y6 (λi j=>decide (i<=j)) (λi j=>decide (i<=j)) (dC (.int 1)) (dA bA (aC (dV 0) aN)) (dC (.int 8))))) [fz d]=
 aa (match d with | .tup ds=>!(decide (1<=ds.length)&&decide (ds.length<=8)) | _=>true):=by
 have hv:dV 0 [fz d]=aa d:=rfl;have no:isTup d=false->o7 (df (cJ (dA jm (aC (dV 0) (aC (dC (.raw (.ty "tuple"))) aN))))) (df (ej (y6 (λi j=>decide (i<=j)) (λi j=>decide (i<=j)) (dC (.int 1)) (dA bA (aC (dV 0) aN)) (dC (.int 8))))) [fz d]=aa true:=λhs=>by
  simp only[o7,df,cJ,dA,aC,aN,dC,hv,ai,pO h,hs,yF,Xf,if_true]
 cases d with
 |tup ds=>
  have hi:cJ (dA jm (aC (dV 0) (aC (dC (.raw (.ty "tuple"))) aN))) [fz (.tup ds)]=aa true:=by
   simp only[cJ,dA,aC,aN,dC,hv,ai,pO h,isTup,yF]
  have hl:dA bA (aC (dV 0) aN) [fz (.tup ds)]=aa (.int (ds.length:Int)):=rfl;unfold o7 df;rw[hi,ai,ai,Dp hl];rfl
 |non=>exact no rfl
 |bl b=>exact no rfl
 |int b=>exact no rfl
 |str b=>exact no rfl
 |lst b=>exact no rfl
 |raw _=>exact h.elim
 |exc _=>exact h.elim
 |scr _=>exact h.elim
 |dct _ _=>exact h.elim
 |dci _ _=>exact h.elim
def all_rows(h:∀d∈ds,Plain d)(hl:ds.length<=8):dA allM (aC (bj 0 (qf (dV 0)) bI (aw 1 gk (aC (dV 0) aN))) aN) [fz (.tup ds)]=aa (.bl (ds.all pB)):=by
 have cm:bj 0 (qf (dV 0)) bI (aw 1 gk (aC (dV 0) aN)) [fz (.tup ds)]=aa (.lst ((ds.map pB).map D.bl)):=by
  refine bS (ds:=ds) rfl ?_ (by rw[Te,Te,c_];omega);rw[T7];refine ig (g:=D.bl∘pB) ds λd hd=>?_;rw[g6];show (gk [d]>>=λy=>aa (some y))=_;rw[zv (h d hd)];rfl
 rw[bg (ao cm rfl),all_map,Wo];rfl
def all_lens(hs:∀d∈ds,∃x,d= .str x)(h0:1<=ds.length)(hl:ds.length<=8):
 dA allM (aC (bj 0 (qf (dV 0)) bI (d2 kG (dA bA (aC (dV 0) aN)) (dA bA (aC (d2 bt (dV 1) (dC (.int 0))) aN)))) aN) [fz (.tup ds)]=aa (.bl (ds.all λd=>lO d==lO (ds.headD .non))):=by
 obtain⟨d0,r,e0⟩:∃d0 r,ds=d0::r:=by
  cases ds with
  |nil=>simp at h0
  |cons a r=>exact⟨a,r,rfl⟩
 have hh:ds.headD .non=d0:=by rw[e0];rfl
 obtain⟨x0,QM⟩:=hs d0 (by rw[e0];exact Th ..);have cm:bj 0 (qf (dV 0)) bI (d2 kG (dA bA (aC (dV 0) aN)) (dA bA (aC (d2 bt (dV 1) (dC (.int 0))) aN))) [fz (.tup ds)]=aa (.lst ((ds.map λd=>lO d==lO (ds.headD .non)).map D.bl)):=by
  refine bS (ds:=ds) rfl ?_ (by rw[Te,Te,c_];omega);rw[T7];refine ig (g:=D.bl∘λd=>lO d==lO (ds.headD .non)) ds λd hd=>?_;rw[g6];obtain⟨x,rfl⟩:=hs d hd;have k:((x.length:Int)==(x0.length:Int))=(x.length==x0.length):=lj _ _;have i0:bt (.tup ds) (.int 0)=aa (.str x0):=by rw[Ph e0,QM]
  have RM:ds.headD .non= .str x0:=by rw[hh,QM]
  simp only[d2,dA,aC,aN,dC,dV,ai,Ue,T4,len_str,i0,eq_int,k,Zm,lO,RM]
 rw[bg (ao cm rfl),all_map,Wo];rfl
def uY{d:D}(h:Plain2 d):iS [d]=aa (.bl (p_ d)):=by
 refine bL ?_;have hρ:([d].map (λd=>some (Sl.fz d))++TH (1 - [d].length) none)=[fz d]:=rfl;rw[hρ];have hf:=BX h.plain;have no:(∀ds,d≠ .tup ds)->r_ [fz d]=aa (.rt (.bl (p_ d))):=λhn=>by
  cases d<;>first | exact Zp rfl (hn _) | exact eR (fB hf (aL rfl))
 cases d with
 |tup ds=>
  have hf:_=aa (!(decide (1<=ds.length)&&decide (ds.length<=8))):=hf;by_cases hr:(decide (1<=ds.length)&&decide (ds.length<=8))=true
  ·rw[hr] at hf;have hb:=hr;simp only[Uh,Zs] at hb;have e:p_ (.tup ds)=(ds.all pB&&ds.all λd=>lO d==lO (ds.headD .non)):=by
    show ((decide (1<=ds.length)&&decide (ds.length<=8))&&_)=_;rw[hr,Xz]
   rw[e];have a1:=all_rows h hb.2;refine aF (c7 hf rfl) ?_;cases hc:ds.all pB with
   |false=>
    rw[hc] at a1;refine eR (fB ?_ (aL rfl));unfold df cJ;rw[a1];rfl
   |true=>
    rw[hc] at a1;refine aF (c7 ?_ rfl) (aL ?_)
    ·unfold df cJ;rw[a1];rfl
    ·rw[Xz];exact all_lens (λd hd=>HN (UG.mp hc d hd)) hb.1 hb.2
  ·have hr:(decide (1<=ds.length)&&decide (ds.length<=8))=false:=by simpa using hr
   rw[hr] at hf;have e:p_ (.tup ds)=false:=by
    show ((decide (1<=ds.length)&&decide (ds.length<=8))&&_)=_;rw[hr];rfl
   rw[e];exact eR (fB hf (aL rfl))
 |non=>exact no λ_ z=>by cases z
 |bl b=>exact no λ_ z=>by cases z
 |int b=>exact no λ_ z=>by cases z
 |str b=>exact no λ_ z=>by cases z
 |lst b=>exact no λ_ z=>by cases z
 |raw _=>exact h.elim
 |exc _=>exact h.elim
 |scr _=>exact h.elim
 |dct _ _=>exact h.elim
 |dci _ _=>exact h.elim
structure Ln (V:Nat) (r:Str):Prop where
 len:r.length=V
structure Brd (ob:List Str) (V:Nat):Prop where
 r1:1<=ob.length
 r8:ob.length<=8
 w1:1<=V
 w8:V<=8
 rows:∀r∈ob,Ln V r
def Good.brd(hg:Good bd W):Brd bd W:=⟨hg.r1,by have:=hg.r5;omega,hg.w1,by have:=hg.w5;omega,λr hr=>⟨(hg.rows r hr).len⟩⟩
def Brd.board{V:Nat}(h:Brd ob V)(hl:∀r∈ob,∀c∈r.cps.toList,IV ⟨#[c]⟩=true):p_ (brd ob)=true:=by
 have O6:∀r∈ob,pB (.str r)=true:=λr hr=>by
  have q:=h.rows r hr;show ((decide (1<=r.length)&&decide (r.length<=8))&&kK r)=true;rw[q.len];have a:decide (1<=V)=true:=Zq h.w1;have b:decide (V<=8)=true:=Zq h.w8;rw[a,b];show kK r=true;exact UG.mpr λc hc=>hl r hr c hc
 have h0:lO ((ob.map D.str).headD .non)=V:=by
  have:=h.r1;have hr:=h.rows;cases ob with
  |nil=>simp at this
  |cons x l=>exact(hr x (Th ..)).len
 show ((decide (1<=(ob.map D.str).length)&&decide ((ob.map D.str).length<=8))&&((ob.map D.str).all pB&&(ob.map D.str).all λd=>lO d==lO ((ob.map D.str).headD .non)))=true;rw[h0,Te,Zq h.r1,Zq h.r8];have a:(ob.map D.str).all pB=true:=UG.mpr λd hd=>by
  obtain⟨r,hr,rfl⟩:=TV.mp hd;exact O6 r hr
 have b:((ob.map D.str).all λd=>lO d==V)=true:=UG.mpr λd hd=>by
  obtain⟨r,hr,rfl⟩:=TV.mp hd;show (r.length==V)=true;rw[(h.rows r hr).len];simp
 rw[a,b];rfl
def BI:Plain2 (brd bd):=λd hd=>by
 obtain⟨r,_,rfl⟩:=TV.mp hd;trivial
def qg(h:δ ρ=aa (.bl b)):cJ δ ρ=aa b:=by
 unfold cJ;rw[h];rfl
def fC(h:δ ρ=aa (.bl b)):ej δ ρ=aa b:=by
 unfold ej;rw[h];rfl
def y_(h:τ ρ=aa b):df τ ρ=aa (!b):=by
 unfold df;rw[h];rfl
def Dx(h1:a ρ=aa p)(h2:c ρ=aa q):o7 a c ρ=aa (p||q):=by
 unfold o7;rw[h1,ai];cases p
 ·exact h2
 ·rfl
def Gv(h1:a ρ=aa (.bl p))(h2:c ρ=aa (.bl q)):eW a c ρ=aa (.bl (p&&q)):=by
 unfold eW;rw[h1,ai];cases p
 ·rfl
 ·exact h2
def Lq(h:c ρ=aa p):IA c a b ρ=if p then a ρ else b ρ:=by
 unfold IA;rw[h];rfl
def GK{V:Nat}(h:Good ob V):dz [brd ob]=aa .non:=by
 refine Bn (c7 (y_ (qg (b:=true) ?_)) rfl);refine(aG (ds:=[brd ob]) rfl rfl).trans ?_;rw[uY BI,h.brd.board λr hr=>(h.rows r hr).let']
structure Wd (ob:List Str) (V:Nat):Prop where
 r1:1<=ob.length
 r8:ob.length<=8
 w1:1<=V
 w8:V<=8
 rows:∀r∈ob,Ln V r
def Brd.wd{V:Nat}(h:Brd ob V):Wd ob V:=⟨h.r1,h.r8,h.w1,h.w8,λr hr=>⟨(h.rows r hr).len⟩⟩
def Wd.len0{V:Nat}(h:Wd ob V)(hρ:ρ[i]? =some (fz (brd ob))):dA bA (aC (d2 bt (dV i) (dC (.int 0))) aN) ρ=aa (.int (V:Int)):=by
 have h1:=h.r1;have hr:=h.rows;obtain⟨x,l,e⟩:∃x l,ob=x::l:=by
  cases ob with
  |nil=>simp at h1
  |cons x l=>exact⟨x,l,rfl⟩
 have hx:x.length=V:=(hr x (by rw[e];exact Th ..)).len;have i0:bt (brd ob) (.int 0)=aa (.str x):=Ph (show ob.map D.str=D.str x::l.map D.str by rw[e];rfl);have k:=av (g:=bt) (qh hρ) (show dC (.int 0) ρ=aa (.int 0) from rfl);rw[i0] at k;rw[bg (ao k rfl)];show aa (D.int (x.length:Int))=_;rw[hx]
theorem Brd.len0{V:Nat}(h:Brd ob V)(hρ:ρ[i]? =some (fz (brd ob))):dA bA (aC (d2 bt (dV i) (dC (.int 0))) aN) ρ=aa (.int (V:Int)):=h.wd.len0 hρ
def G5(hρ:ρ[i]? =some (fz (brd bd))):dA bA (aC (dV i) aN) ρ=aa (.int (bd.length:Int)):=by
 have:bA [brd bd]=aa (.int (bd.length:Int)):=by
  show aa (D.int ((bd.map D.str).length:Int))=_;rw[Te]
 simp only[dA,aC,aN,qh hρ,ai,this]
def je:D->Bool
 | .int _=>true
 |_=>false
def ur(h:Plain d):bC [d]=aa (.bl (je d)):=by
 cases d<;>first | rfl | exact h.elim
def Lo(R W:Nat):D->D->Bool
 | .int a, .int b=>(decide (0<=a)&&decide (a<(R:Int)))&&(decide (0<=b)&&decide (b<(W:Int)))
 |_,_=>false
def Iz(R W:Nat):D->Bool
 | .tup [u,v]=>Lo R W u v
 |_=>false
def Lp(h:δ ρ=aa (.int i))(h2:ε ρ=aa (.int n)):
 y6 (λi j=>decide (i<=j)) (λi j=>decide (i<j)) (dC (.int 0)) δ ε ρ=aa (.bl (decide (0<=i)&&decide (i<n))):=by
 simp only[y6,dC,h,h2,ai,gI];cases decide (0<=i)<;>rfl
def xB(hg:Brd bd W)(h:Plain2 d):kE [brd bd,d]=aa (.bl (Iz bd.length W d)):=by
 refine bL ?_;have hρ:([brd bd,d].map (λd=>some (Sl.fz d))++TH (2 - [brd bd,d].length) none)=[fz (brd bd),fz d]:=rfl;rw[hρ];have hv:dV 1 [fz (brd bd),fz d]=aa d:=rfl;have no:isTup d=false->ux [fz (brd bd),fz d]=aa (.rt (.bl false)):=λhs=>by
  refine eR (fB ?_ (aL rfl));simp only[o7,df,cJ,dA,aC,aN,dC,hv,ai,pO h.plain,hs,yF,Xf,if_true]
 cases d with
 |tup ds=>
  have hi:df (cJ (dA jm (aC (dV 1) (aC (dC (.raw (.ty "tuple"))) aN)))) [fz (brd bd),fz (.tup ds)]=aa false:=by
   simp only[df,cJ,dA,aC,aN,dC,hv,ai,pO h.plain,isTup,yF,Bool.not_true]
  have k:((ds.length:Int)==2)=(ds.length==2):=lj ds.length 2;have hl:o7 (df (cJ (dA jm (aC (dV 1) (aC (dC (.raw (.ty "tuple"))) aN))))) (ej (d2 gr (dA bA (aC (dV 1) aN)) (dC (.int 2)))) [fz (brd bd),fz (.tup ds)]=aa (!(ds.length==2)):=by
   unfold o7;rw[hi];simp only[ej,d2,dA,aC,aN,dC,hv,ai,G7,ne_int,k,C4,Uc,if_false]
  match ds,h,hl with
  |[],h,hl=>exact eR (fB hl (aL rfl))
  |[_],h,hl=>exact eR (fB hl (aL rfl))
  |_::_::_::_,h,hl=>
   refine eR (fB (hl.trans ?_) (aL rfl));simp
  |[u,v],h,hl=>
   refine aF (c7 hl rfl) ?_;have pu:Plain u:=h u (by simp);have pv:Plain v:=h v (by simp);have w1:aw 1 bC (aC (d2 bt (dV 1) (dC (.int 0))) aN) [fz (brd bd),fz (.tup [u,v])]=aa (.bl (je u)):=ur pu;have w2:aw 1 bC (aC (d2 bt (dV 1) (dC (.int 1))) aN) [fz (brd bd),fz (.tup [u,v])]=aa (.bl (je v)):=ur pv;have hw:o7 (df (cJ (aw 1 bC (aC (d2 bt (dV 1) (dC (.int 0))) aN)))) (df (cJ (aw 1 bC (aC (d2 bt (dV 1) (dC (.int 1))) aN)))) [fz (brd bd),fz (.tup [u,v])]=aa (!(je u&&je v)):=by
    unfold o7 df cJ;rw[w1,w2];simp only[ai,yF];cases je u<;>cases je v<;>rfl
   have bad:(je u&&je v)=false->bp (iN (o7 (df (cJ (aw 1 bC (aC (d2 bt (dV 1) (dC (.int 0))) aN)))) (df (cJ (aw 1 bC (aC (d2 bt (dV 1) (dC (.int 1))) aN))))) (bc (dC (.bl false))) dq) (bc (eW (y6 (λi j=>decide (i<=j)) (λi j=>decide (i<j)) (dC (.int 0)) (d2 bt (dV 1) (dC (.int 0))) (dA bA (aC (dV 0) aN))) (y6 (λi j=>decide (i<=j)) (λi j=>decide (i<j)) (dC (.int 0)) (d2 bt (dV 1) (dC (.int 1))) (dA bA (aC (d2 bt (dV 0) (dC (.int 0))) aN))))) [fz (brd bd),fz (.tup [u,v])]=aa (.rt (.bl false)):=λhz=>by
    rw[hz] at hw;exact eR (fB hw (aL rfl))
   match u,v,hw,bad with
   | .int a, .int b,hw,bad=>
     refine aF (c7 hw rfl) (aL ?_);obtain⟨x0,r,e0⟩:∃x0 r,bd=x0::r:=by
      have:=hg.r1;cases bd with
      |nil=>simp at this
      |cons x r=>exact⟨x,r,rfl⟩
     have hx:x0.length=W:=(hg.rows x0 (by rw[e0];simp)).len;have l0:dA bA (aC (dV 0) aN) [fz (brd bd),fz (.tup [.int a, .int b])]=aa (.int (bd.length:Int)):=by
      show aa (D.int ((bd.map D.str).length:Int))=_;rw[Te]
     have l1:dA bA (aC (d2 bt (dV 0) (dC (.int 0))) aN) [fz (brd bd),fz (.tup [.int a, .int b])]=aa (.int (W:Int)):=by
      have i0:bt (brd bd) (.int 0)=aa (.str x0):=Ph (by rw[e0];rfl);simp only[dA,aC,aN,d2,dC,dV,Ue,ai,i0,len_str,hx]
     have c1:=Lp (δ:=d2 bt (dV 1) (dC (.int 0))) rfl l0;have c2:=Lp (δ:=d2 bt (dV 1) (dC (.int 1))) rfl l1;unfold eW;rw[c1,ai];show (if (decide (0<=a)&&decide (a<(bd.length:Int)))=true then _ else _)=aa (D.bl ((decide (0<=a)&&decide (a<(bd.length:Int)))&&(decide (0<=b)&&decide (b<(W:Int)))));cases (decide (0<=a)&&decide (a<(bd.length:Int)))
     ·rfl
     ·rw[Zn rfl,c2,Xz]
   | .non,_,_,bad=>exact bad rfl
   | .bl _,_,_,bad=>exact bad rfl
   | .str _,_,_,bad=>exact bad rfl
   | .tup _,_,_,bad=>exact bad rfl
   | .lst _,_,_,bad=>exact bad rfl
   | .raw _,_,_,_=>exact pu.elim
   | .exc _,_,_,_=>exact pu.elim
   | .scr _,_,_,_=>exact pu.elim
   | .int a, .non,_,bad=>exact bad rfl
   | .int a, .bl _,_,bad=>exact bad rfl
   | .int a, .str _,_,bad=>exact bad rfl
   | .int a, .tup _,_,bad=>exact bad rfl
   | .int a, .lst _,_,bad=>exact bad rfl
   | .int a, .raw _,_,_=>exact pv.elim
   | .int a, .exc _,_,_=>exact pv.elim
   | .int a, .scr _,_,_=>exact pv.elim
 |non=>exact no rfl
 |bl b=>exact no rfl
 |int b=>exact no rfl
 |str b=>exact no rfl
 |lst b=>exact no rfl
 |raw _=>exact h.elim
 |exc _=>exact h.elim
 |scr _=>exact h.elim
 |dct _ _=>exact h.elim
 |dci _ _=>exact h.elim
abbrev Cell:=Nat×Nat
def cD(c:Cell):D:= .tup [.int (c.1:Int), .int (c.2:Int)]
def On(R W:Nat)(c:Cell):Prop:=c.1<R/\c.2<W
instance {R W:Nat}{c:Cell}:Decidable (On R W c):=by unfold On;infer_instance
def Df:Plain2 (cD c):=λd hd=>by
 have:d= .int (c.1:Int)\/d= .int (c.2:Int):=by simpa[cD] using hd
 rcases this with rfl | rfl<;>trivial
def Gp(h:On R W c):Iz R W (cD c)=true:=by
 show ((decide ((0:Int)<=(c.1:Int))&&decide ((c.1:Int)<(R:Int)))&&(decide ((0:Int)<=(c.2:Int))&&decide ((c.2:Int)<(W:Int))))=true;obtain⟨h1,h2⟩:=h;simp;omega
def Brd.nc(hg:Brd bd W)(h:On bd.length W c):gL [brd bd,cD c]=aa .non:=by
 refine Bn (c7 (y_ (qg (b:=true) ?_)) rfl);refine(aG (ds:=[brd bd,cD c]) rfl rfl).trans ?_;rw[xB hg Df,Gp h]
def Ways(w:Nat):Prop:=w=4\/w=8
def Ways.nw(h:Ways w):d_ [iW w]=aa .non:=by
 rcases h with rfl | rfl<;>rfl
def ch(x:Str)(j:Nat):Nat:=x.cps.toList.getD j 0
def at2(bd:List Str)(i j:Nat):Nat:=ch (bd.getD i ⟨#[]⟩) j
abbrev lt(bd:List Str)(c:Cell):Nat:=at2 bd c.1 c.2
def sg(n:Nat):D:= .str ⟨#[n]⟩
def wa{c:Nat}(h:c<x.length):jB (.str x) (.int (c:Int))=aa (sg (ch x c)):=by
 have h':c<x.cps.toList.length:=by rw[TZ];exact h
 show (match L2.atI x.cps.toList (c:Int) with | some c=>aa (D.str ⟨#[c]⟩) | none=>af)=_;rw[hZ (Tg h')];unfold sg ch;rw[Tw,Tg h'];rfl
def getD_mem{bd:List Str}(h:i<bd.length):bd.getD i ⟨#[]⟩∈bd:=by
 rw[Tw,Tg h];exact XN h
def JZ{i:Nat}(h:i<bd.length):bt (brd bd) (.int (i:Int))=aa (.str (bd.getD i ⟨#[]⟩)):=by
 show (match L2.atI (bd.map D.str) (i:Int) with | some d=>aa d | none=>af)=_;rw[hZ ?_];rw[Tx,Tg h,Tw,Tg h];rfl
def fj(hg:Brd bd W)(h:On bd.length W c):aY [brd bd,cD c]=aa (sg (lt bd c)):=by
 refine bL (aL ?_);refine(av ((av rfl rfl).trans (JZ h.1)) rfl).trans ?_;exact wa (by rw[(hg.rows _ (getD_mem h.1)).len];exact h.2)
def Lx(a b:Nat):kG (sg a) (sg b)=aa (.bl (decide (a=b))):=by
 show aa (D.bl (decide ((⟨#[a]⟩:Str)=⟨#[b]⟩)))=_;congr 2;by_cases h:a=b
 ·subst h;simp
 ·have:¬((⟨#[a]⟩:Str)=⟨#[b]⟩):=λz=>by
   injection z with z
   exact h (by simpa using z)
  rw[Zr h,Zr this]
def jx(a b:Nat):Nat:=max a b - min a b
def pd(w:Nat)(a b:Cell):Bool:=if w=4 then decide (jx a.1 b.1+jx a.2 b.2=1) else decide (max (jx a.1 b.1) (jx a.2 b.2)=1)
def Aq(a b:Nat):C_ [.int ((a:Int) - (b:Int))]=aa (.int (jx a b:Int)):=by
 show aa (D.int _)=_;congr 2;unfold jx;omega
def uB(hw:Ways w)(a b:Cell):d5 [cD a,cD b,iW w]=aa (.bl (pd w a b)):=by
 refine bL ?_;refine aF ((a6 (Aq a.1 b.1)).trans rfl) ?_;refine aF ((a6 (Aq a.2 b.2)).trans rfl) ?_;rcases hw with rfl | rfl
 ·refine eR (fB (fC rfl) (aL ?_));show aa (D.bl (((jx a.1 b.1:Int)+(jx a.2 b.2:Int))==1))=_;unfold pd;rw[Zn rfl];congr 2;have:((jx a.1 b.1:Int)+(jx a.2 b.2:Int))=((jx a.1 b.1+jx a.2 b.2:Nat):Int):=by omega
  rw[this];have e:=lj (jx a.1 b.1+jx a.2 b.2) 1;exact e.trans rfl
 ·refine aF (c7 (fC rfl) rfl) (aL ?_);show aa (D.bl ((if (jx a.1 b.1:Int)<(jx a.2 b.2:Int) then(jx a.2 b.2:Int) else(jx a.1 b.1:Int))==1))=_;have hn:pd 8 a b=decide (max (jx a.1 b.1) (jx a.2 b.2)=1):=rfl;rw[hn];congr 2;have:(if (jx a.1 b.1:Int)<(jx a.2 b.2:Int) then(jx a.2 b.2:Int) else(jx a.1 b.1:Int))=((max (jx a.1 b.1) (jx a.2 b.2):Nat):Int):=by split<;>omega
  rw[this];have e:=lj (max (jx a.1 b.1) (jx a.2 b.2)) 1;exact e.trans rfl
def ED(w:Nat)(a b:Cell):pd w a b=pd w b a:=by
 have e:∀x y:Nat,jx x y=jx y x:=λx y=>by unfold jx;rw[Nat.max_comm,Nat.min_comm]
 unfold pd;rw[e a.1,e a.2]
def kF(h1:put d ρ=some ρ1)(h2:body ρ1=aa (.nx ρ2)):forL put body (d::ds) ρ=forL put body ds ρ2:=by
 show (match put d ρ with | none=>af | some ρ1=>body ρ1>>=λo=>match o with | .nx ρ2=>forL put body ds ρ2 | .rt v=>aa (.rt v))=_;rw[h1];show (body ρ1>>=λo=>match o with | .nx ρ2=>forL put body ds ρ2 | .rt v=>aa (.rt v))=_;rw[h2];rfl
section
variable{α σ:Type}{put:D->aM->Option aM}{body:DS}
theorem ng(Zx:α->D)(mk:σ->aM)(step:σ->α->σ)(I:σ->Prop):∀(xs:List α) (s:σ),I s->(∀s,I s->∀x∈xs,I (step s x)/\∃ρ1,put (Zx x) (mk s)=some ρ1/\body ρ1=aa (.nx (mk (step s x))))->
 I (xs.foldl step s)/\forL put body (xs.map Zx) (mk s)=aa (.nx (mk (xs.foldl step s)))
 |[],s,h,_=>⟨h,rfl⟩
 |x::xs,s,h,st=>by
  obtain⟨h2,ρ1,e1,e2⟩:=st s h x (Th ..);obtain⟨h3,e3⟩:=ng Zx mk step I xs (step s x) h2 λs hs y hy=>st s hs y (Tf _ hy);exact⟨h3,(kF e1 e2).trans e3⟩
theorem ik(Zx:α->D)(mk:List D->aM)(g:α->List D):∀(xs:List α) (M2:List D),(M2++xs.flatMap g).length<=B->(∀x∈xs,∀M2,(M2++g x).length<=B->∃ρ1,put (Zx x) (mk M2)=some ρ1/\body ρ1=aa (.nx (mk (M2++g x))))->
 forL put body (xs.map Zx) (mk M2)=aa (.nx (mk (M2++xs.flatMap g)))
 |[],M2,_,_=>by simp;rfl
 |x::xs,M2,hB,st=>by
  have Qs:((M2++g x)++xs.flatMap g).length<=B:=by simpa[Vl,WE] using hB
  obtain⟨ρ1,e1,e2⟩:=st x (Th ..) M2 (T2 (by simp only[Tt];omega) Qs);have e3:=ik Zx mk g xs (M2++g x) Qs λy hy=>st y (Tf _ hy);rw[Ts,kF e1 e2,e3,Vl,WE]
end
def mQ(h:δi ρ=aa ds)(h2:forL put b ds ρ=m):i6 put δi b ρ=m:=by
 unfold i6;rw[h];exact h2
def i3{τ:DS}(h:τ ρ=aa o):(λρ=>noex (τ ρ)) ρ=aa o:=by
 show noex (τ ρ)=_;rw[h];rfl
def yo(lo n:Nat):iC (lo:Int) n=(Uq lo n).map λ(k:Nat)=>D.int (k:Int):=by
 unfold iC;rw[W_];have:∀(n a:Nat),(Uq a n).map (λ(i:Nat)=>D.int ((lo:Int)+(i:Int)))=(Uq (lo+a) n).map λ(k:Nat)=>D.int (k:Int):=by
  intro n;induction n with
  |zero=>intro a;rfl
  |succ n ih=>
   intro a;rw[VG,VG,Ts,Ts,ih (a+1)];rfl
 exact this n 0
def CL(h:δ ρ=aa (.int (n:Int)))(hn:n<=4096):(aC δ aN ρ>>=ei)=aa ((TB n).map λ(k:Nat)=>D.int (k:Int)):=by
 rw[ao h rfl,ai,nO hn,show iC 0 n=iC ((0:Nat):Int) n from rfl,yo,W_]
def KH(h:δ ρ=aa (.int (i:Int)))(h2:ε ρ=aa (.int (j:Int)))(hi:i<=4096)(hj:j<=4096):(aC δ (aC ε aN) ρ>>=rJ)=aa ((Uq i (j - i)).map λ(k:Nat)=>D.int (k:Int)):=by
 rw[ao h (ao h2 rfl),ai];show (if (-4096<=(i:Int)/\(i:Int)<=4096)/\(-4096<=(j:Int)/\(j:Int)<=4096) then aa (iC (i:Int) ((j:Int) - (i:Int)).toNat) else af)=_;rw[Zn ⟨⟨by omega,by omega⟩,by omega,by omega⟩,show ((j:Int) - (i:Int)).toNat=j - i by omega,yo]
def cU(W r:Nat):List Cell:=(TB W).map λk=>(r,k)
def bh(R W:Nat):List Cell:=(TB R).flatMap (cU W)
def bM:c∈bh R W↔On R W c:=by
 unfold bh cU On;simp only[List.mem_flatMap,UP,TV];constructor
 ·rintro⟨r,hr,k,hk,rfl⟩;exact⟨hr,hk⟩
 ·rintro⟨h1,h2⟩;exact⟨c.1,h1,c.2,h2,rfl⟩
def d6(R W:Nat):(bh R W).length=R*W:=by
 unfold bh;have:∀l:List Nat,(l.flatMap (cU W)).length=l.length*W:=by
  intro l;induction l with
  |nil=>simp
  |cons a l ih=>rw[Vl,Tt,ih,Tn,Nat.succ_mul];simp[cU];omega
 rw[this,U0]
def h9(hg:Brd bd W)(r:Nat):bo [brd bd, .int (r:Int)]=aa (.lst ((cU W r).map cD)):=by
 have:=hg.w8;refine bL (aL (bS (CL (hg.len0 rfl) (by omega)) ?_ (by simp[cU,c_];omega)));rw[show (cU W r).map cD=((TB W).map λ(k:Nat)=>D.int (k:Int)).map (λe=> .tup [.int (r:Int),e]) by simp[cU,T7];intro a _;rfl];exact ig _ λe _=>rfl
def sk(hg:Brd bd W):gK [brd bd]=aa (.lst ((bh bd.length W).map cD)):=by
 have h8:=hg.r8;have w8:=hg.w8;have hm:bd.length*W<=64:=WA h8 w8;have NA:(TB bd.length).flatMap (λr=>(cU W r).map cD)=(bh bd.length W).map cD:=by
  unfold bh;rw[List.map_flatMap]
 have e:=ik (put:=putN 2) (body:=fZ [2] (Fo 1 (aw 2 bo (aC (dV 0) (aC (dV 2) aN))))) (λ(k:Nat)=>D.int (k:Int)) (λM2=>[fz (brd bd),some (.ow (.lst M2)),none]) (λr=>(cU W r).map cD) (TB bd.length) []
  (by rw[UA,NA,Te,d6];exact hm) λr hr M2 hB=>by
   refine⟨[fz (brd bd),some (.ow (.lst M2)),fz (.int (r:Int))],rfl,?_⟩;refine(c6 (ρ':=[fz (brd bd),some (.ow (.lst (M2++(cU W r).map cD))),fz (.int (r:Int))]) ?_).trans rfl;show (bo [brd bd, .int (r:Int)]>>=λd=>lstM d>>=λes=>if M2.length+es.length<=lim then aa (Out.nx (List.set [fz (brd bd),some (.ow (.lst M2)),fz (.int (r:Int))] 1 (some (.ow (.lst (M2++es)))))) else af)=_;rw[h9 hg,ai];show (if M2.length+((cU W r).map cD).length<=lim then aa (Out.nx [fz (brd bd),some (.ow (.lst (M2++(cU W r).map cD))),fz (.int (r:Int))]) else af)=_;rw[Zn (by rw[Tt] at hB;rw[c_];omega)]
 rw[UA,NA] at e;refine bL (aF rfl (aF (i3 (mQ (CL (G5 rfl) (by omega)) e)) ?_));rfl
def mw(R W w:Nat)(c:Cell):List Cell:=
 (Uq (c.1 - 1) (min (c.1+2) R - (c.1 - 1))).flatMap λr=>((Uq (c.2 - 1) (min (c.2+2) W - (c.2 - 1))).map λk=>(r,k)).filter (pd w c)
def tQ(hw:Ways w):x∈mw R W w c↔On R W x/\pd w c x=true:=by
 unfold mw On;simp only[List.mem_flatMap,UE,TV,List.mem_range'_1];constructor
 ·rintro⟨r,⟨h1,h2⟩,⟨k,⟨h3,h4⟩,rfl⟩,h5⟩;refine⟨⟨?_,?_⟩,h5⟩
  ·show r<R;omega
  ·show k<W;omega
 ·rintro⟨⟨h1,h2⟩,h5⟩;have h6:jx c.1 x.1<=1/\jx c.2 x.2<=1:=by
   unfold pd at h5;rcases hw with rfl | rfl
   ·have h5:=Zt h5;exact⟨h5▸Nat.le_add_right ..,h5▸Nat.le_add_left ..⟩
   ·have h5:=Zt h5;exact⟨h5▸Nat.le_max_left ..,h5▸Nat.le_max_right ..⟩
  have g:∀{a b B:Nat},jx a b<=1->b<B->a - 1<=b/\b<a - 1+(min (a+2) B - (a - 1)):=λ{a b B} h k=>by
   have h1:b<=a+1/\a<=b+1:=by unfold jx at h;omega
   have h2:min (a+2) B=a+2\/min (a+2) B=B:=by omega
   omega
  exact⟨x.1,g h6.1 h1,⟨x.2,g h6.2 h2,rfl⟩,h5⟩
def tN(R W w:Nat)(c:Cell):(mw R W w c).length<=9:=by
 unfold mw;rw[Y2];have h:∀r,(((Uq (c.2 - 1) (min (c.2+2) W - (c.2 - 1))).map λk=>(r,k)).filter (pd w c)).length<=3:=λr=>by
  refine T2 (U2 ..) ?_;rw[Te,Xx];omega
 have:∀(l:List Nat),(l.map λr=>(((Uq (c.2 - 1) (min (c.2+2) W - (c.2 - 1))).map λk=>(r,k)).filter (pd w c)).length).sum<=3*l.length:=by
  intro l;induction l with
  |nil=>simp
  |cons a l ih=>rw[Ts,VN,Tn];have:=h a;omega
 refine T2 (this _) ?_;rw[Xx];omega
abbrev nc(b c w:D)(M2:List D)(x4 x5:Option Sl):aM:=[fz b,fz c,fz w,some (.ow (.lst M2)),x4,x5]
def qS(hg:Brd bd W)(hw:Ways w)(hc:On bd.length W c):dB [brd bd,cD c,iW w]=aa (.lst ((mw bd.length W w c).map cD)):=by
 have h8:=hg.r8;have w8:=hg.w8;obtain⟨c1,c2⟩:=hc;have LZ:∀n:Nat,zG [.int ((n:Int) - 1), .int 0]=aa (.int ((n - 1:Nat):Int)):=λn=>by
  show aa (D.int (if (0:Int)>(n:Int) - 1 then 0 else(n:Int) - 1))=_;congr 2;split<;>omega
 have L0:∀n m:Nat,Ci [.int ((n:Int)+2), .int (m:Int)]=aa (.int ((min (n+2) m:Nat):Int)):=λn m=>by
  show aa (D.int (if (m:Int)<(n:Int)+2 then(m:Int) else(n:Int)+2))=_;congr 2;split<;>omega
 have inner:∀(r:Nat) (M2:List D),M2.length<=16->forL (putN 5) (fZ [5] (iN (cJ (aw 3 d5 (aC (dV 1) (aC (dA di (aC (dV 4) (aC (dV 5) aN))) (aC (dV 2) aN))))) (k_ 3 (dA di (aC (dV 4) (aC (dV 5) aN)))) dq))
  ((Uq (c.2 - 1) (min (c.2+2) W - (c.2 - 1))).map λ(k:Nat)=>D.int (k:Int)) (nc (brd bd) (cD c) (iW w) M2 (fz (.int (r:Int))) none)=
  aa (.nx (nc (brd bd) (cD c) (iW w) (M2++(Uq (c.2 - 1) (min (c.2+2) W - (c.2 - 1))).flatMap λk=>if pd w c (r,k) then [cD (r,k)] else []) (fz (.int (r:Int))) none)):=λr M2 zl=>by
  refine ik (λ(k:Nat)=>D.int (k:Int)) (λM2=>nc (brd bd) (cD c) (iW w) M2 (fz (.int (r:Int))) none) (λk=>if pd w c (r,k) then [cD (r,k)] else []) (B:=64) _ M2 ?_ λk hk M2 hB=>?_
  ·rw[Tt,Y2];have:∀l:List Nat,(l.map λk=>(if pd w c (r,k) then [cD (r,k)] else []).length).sum<=l.length:=by
    intro l;induction l with
    |nil=>simp
    |cons a l ih=>rw[Ts,VN,Tn];split<;>simp<;>omega
   have h2:=this (Uq (c.2 - 1) (min (c.2+2) W - (c.2 - 1)));rw[Xx] at h2;omega
  ·refine⟨nc (brd bd) (cD c) (iW w) M2 (fz (.int (r:Int))) (fz (.int (k:Int))),rfl,?_⟩;have ht:cJ (aw 3 d5 (aC (dV 1) (aC (dA di (aC (dV 4) (aC (dV 5) aN))) (aC (dV 2) aN)))) (nc (brd bd) (cD c) (iW w) M2 (fz (.int (r:Int))) (fz (.int (k:Int))))=aa (pd w c (r,k)):=
    qg ((aG rfl rfl).trans (uB hw c (r,k)))
   cases hn:pd w c (r,k) with
   |true=>
    rw[hn] at ht;rw[hn,Zn rfl,Tt] at hB;refine(c6 (ρ':=nc (brd bd) (cD c) (iW w) (M2++[cD (r,k)]) (fz (.int (r:Int))) (fz (.int (k:Int)))) (fB ht ?_)).trans rfl;show (if M2.length<lim then aa (Out.nx (nc (brd bd) (cD c) (iW w) (M2++[cD (r,k)]) (fz (.int (r:Int))) (fz (.int (k:Int))))) else af)=_;rw[Zn (by rw[c_];simp at hB;omega)]
   |false=>
    rw[hn] at ht;refine(c6 (c7 ht rfl)).trans ?_;simp;rfl
 have flt:∀r,((Uq (c.2 - 1) (min (c.2+2) W - (c.2 - 1))).flatMap λk=>if pd w c (r,k) then [cD (r,k)] else [])=(((Uq (c.2 - 1) (min (c.2+2) W - (c.2 - 1))).map λk=>(r,k)).filter (pd w c)).map cD:=λr=>by
  generalize Uq (c.2 - 1) (min (c.2+2) W - (c.2 - 1))=l;induction l with
  |nil=>rfl
  |cons a l ih=>
   rw[Vl,ih,Ts,V4];cases pd w c (r,a)<;>rfl
 have tot:(Uq (c.1 - 1) (min (c.1+2) bd.length - (c.1 - 1))).flatMap (λr=>(((Uq (c.2 - 1) (min (c.2+2) W - (c.2 - 1))).map λk=>(r,k)).filter (pd w c)).map cD)=(mw bd.length W w c).map cD:=by
  unfold mw;rw[List.map_flatMap]
 have outer:=ik (put:=putN 4) (body:=fZ [4,5] (i6 (putN 5) (λρ=>(aC (dA zG (aC (d2 c9 (d2 bt (dV 1) (dC (.int 1))) (dC (.int 1))) (aC (dC (.int 0)) aN))) (aC (dA Ci (aC (d2 dD (d2 bt (dV 1) (dC (.int 1))) (dC (.int 2))) (aC (dA bA (aC (d2 bt (dV 0) (dC (.int 0))) aN)) aN))) aN)) ρ>>=rJ) (fZ [5] (iN (cJ (aw 3 d5 (aC (dV 1) (aC (dA di (aC (dV 4) (aC (dV 5) aN))) (aC (dV 2) aN))))) (k_ 3 (dA di (aC (dV 4) (aC (dV 5) aN)))) dq))))
  (λ(k:Nat)=>D.int (k:Int)) (λM2=>nc (brd bd) (cD c) (iW w) M2 none none) (λr=>(((Uq (c.2 - 1) (min (c.2+2) W - (c.2 - 1))).map λk=>(r,k)).filter (pd w c)).map cD) (Uq (c.1 - 1) (min (c.1+2) bd.length - (c.1 - 1))) []
  (by rw[UA,tot,Te];have:=tN bd.length W w c;omega) λr hr M2 hB=>by
   refine⟨nc (brd bd) (cD c) (iW w) M2 (fz (.int (r:Int))) none,rfl,?_⟩;have e:=inner r M2 (by rw[Tt] at hB;omega);rw[flt r] at e;refine(c6 (mQ (KH ?_ ?_ (by omega) (by omega)) e)).trans rfl
   ·exact(bg rfl).trans (LZ c.2)
   ·refine(bg ?_).trans (L0 c.2 W);exact ao (show d2 dD (d2 bt (dV 1) (dC (.int 1))) (dC (.int 2)) (nc (brd bd) (cD c) (iW w) M2 (fz (.int (r:Int))) none)=aa (.int ((c.2:Int)+2)) from rfl) (ao (hg.len0 rfl) rfl)
 rw[UA,tot] at outer;refine bL (aF rfl (aF (i3 (mQ (KH ?_ ?_ (by omega) (by omega)) outer)) ?_))
 ·exact(bg rfl).trans (LZ c.1)
 ·refine(bg ?_).trans (L0 c.1 bd.length);exact ao (show d2 dD (d2 bt (dV 1) (dC (.int 0))) (dC (.int 2)) (nc (brd bd) (cD c) (iW w) [] none none)=aa (.int ((c.1:Int)+2)) from rfl) (ao (G5 rfl) rfl)
 ·rfl
def bx(bd:List Str)(W w:Nat)(c:Cell):List Cell:=(mw bd.length W w c).filter λx=>decide (lt bd x=lt bd c)
def iu(hw:Ways w):x∈bx bd W w c↔On bd.length W x/\pd w c x=true/\lt bd x=lt bd c:=by
 unfold bx;rw[UE,tQ hw,Zs,and_assoc]
def Ce(bd:List Str)(W w:Nat)(c:Cell):(bx bd W w c).length<=9:=T2 (U2 ..) (tN ..)
theorem tj(Zx:α->D)(p:α->Bool):∀(xs:List α),(∀x∈xs,f (Zx x)=aa (if p x then some (Zx x) else none))->dG f (xs.map Zx)=aa ((xs.filter p).map Zx)
 |[],_=>rfl
 |x::xs,h=>by
  rw[Ts,eZ,h x (Th ..),ai,tj Zx p xs λy hy=>h y (Tf _ hy),V4];cases p x<;>rfl
def qH(hg:Brd bd W)(hw:Ways w)(hc:On bd.length W c):cO [brd bd,cD c,iW w]=aa (.lst ((bx bd W w c).map cD)):=by
 refine bL (aF (ρ':=[fz (brd bd),fz (cD c),fz (iW w),fz (sg (lt bd c))]) ((a6 ((aG rfl rfl).trans (fj hg hc))).trans rfl) (aL ?_));refine bS ?_ (tj cD _ _ λx hx=>?_) (by rw[Te,c_];exact T2 (Ce bd W w c) (by decide))
 ·show (aw 3 dB _ _>>=lstM)=_;have e:aw 3 dB (aC (dV 0) (aC (dV 1) (aC (dV 2) aN))) [fz (brd bd),fz (cD c),fz (iW w),fz (sg (lt bd c))]=aa (.lst ((mw bd.length W w c).map cD)):=qS hg hw hc;rw[e];rfl
 ·have Sd:=(tQ hw).mp hx;rw[Dv];have e:ej (d2 kG (aw 2 aY (aC (dV 1) (aC (dV 0) aN))) (dV 4)) (fz (cD x)::[fz (brd bd),fz (cD c),fz (iW w),fz (sg (lt bd c))])=aa (decide (lt bd x=lt bd c)):=by
   refine fC ?_;exact(av ((aG rfl rfl).trans (fj hg Sd.1)) rfl).trans (Lx _ _)
  rw[e,ai];cases decide (lt bd x=lt bd c)<;>rfl
end K1
namespace K1
section
variable{α:Type}[DecidableEq α]
structure Bk (α:Type) where
 ks:List α
 ps:List (Option α)
 fu:List α
def fo(c:α)(s:Bk α)(x:α):Bk α:=if x∈s.ks then s else⟨s.ks++[x],s.ps++[some c],s.fu++[x]⟩
variable(nb:α->List α)
def nU(s:Bk α)(c:α):Bk α:=(nb c).foldl (fo c) s
def cY(s:Bk α)(W1:List α):Bk α:=W1.foldl (nU nb) s
def Rb(a:α):Nat->α->Prop
 |0,x=>x=a
 |k+1,x=>Rb a k x\/∃y,Rb a k y/\x∈nb y
variable{nb}{a:α}
def Rb.mono(h:i<=j)(r:Rb nb a i x):Rb nb a j x:=by
 induction h with
 |refl=>exact r
 |step _ ih=>exact .inl ih
structure Grown (P:α->α->Prop) (s t:Bk α):Prop where
 ex:∃fs:List (α×α),t.ks=s.ks++fs.map (·.1)/\t.ps=s.ps++fs.map (λp=>some p.2)/\t.fu=s.fu++fs.map (·.1)/\(∀p∈fs,P p.2 p.1)
 nd:s.ks.Nodup->t.ks.Nodup
def Grown.refl(s:Bk α):Grown P s s:=⟨⟨[],by simp,by simp,by simp,λ_ h=>by cases h⟩,id⟩
def Grown.trans(h1:Grown P s t)(h2:Grown P t u):Grown P s u:=by
 obtain⟨fs,a1,a2,a3,a4⟩:=h1.ex;obtain⟨gs,b1,b2,b3,b4⟩:=h2.ex;refine⟨⟨fs++gs,by rw[b1,a1];simp,by rw[b2,a2];simp,by rw[b3,a3];simp,λp hp=>?_⟩,λh=>h2.nd (h1.nd h)⟩;rcases Ud.mp hp with h | h
 ·exact a4 p h
 ·exact b4 p h
def wK(s:Bk α)(h:P c x):Grown P s (fo c s x):=by
 unfold fo;split
 ·exact Grown.refl s
 ·rename_i hx;refine⟨⟨[(x,c)],rfl,rfl,rfl,λp hp=>?_⟩,λhn=>?_⟩
  ·have:p=(x,c):=by simpa using hp
   subst this;exact h
  ·refine UI.mpr ⟨hn,by simp,λy hy z hz e=>?_⟩;have hz:z=x:=by simpa using hz
   rw[e,hz] at hy;exact hx hy
def BF(s:Bk α):y∈(fo c s x).ks↔y∈s.ks\/y=x:=by
 unfold fo;split
 ·rename_i hx;exact⟨.inl,λh=>h.elim id λe=>by rw[e];exact hx⟩
 ·simp
theorem foldStep:∀(l:List α) (s:Bk α),(∀x∈l,P c x)->Grown P s (l.foldl (fo c) s)/\∀y,y∈(l.foldl (fo c) s).ks↔y∈s.ks\/y∈l
 |[],s,_=>⟨Grown.refl s,λy=>by simp⟩
 |x::l,s,h=>by
  obtain⟨h1,h2⟩:=foldStep l (fo c s x) λy hy=>h y (Tf _ hy);refine⟨(wK s (h x (Th ..))).trans h1,λy=>?_⟩;rw[X6,h2 y,BF];simp[or_assoc]
theorem xo:∀(l:List α) (s:Bk α),(∀c∈l,∀x∈nb c,P c x)->Grown P s (cY nb s l)/\∀y,y∈(cY nb s l).ks↔y∈s.ks\/∃c∈l,y∈nb c
 |[],s,_=>⟨Grown.refl s,λy=>by simp[cY]⟩
 |c::l,s,h=>by
  obtain⟨g1,m1⟩:=foldStep (nb c) s (h c (Th ..));obtain⟨g2,m2⟩:=xo l (nU nb s c) λc' hc=>h c' (Tf _ hc);refine⟨g1.trans g2,λy=>?_⟩;show y∈(cY nb (nU nb s c) l).ks↔_;rw[m2 y];show (y∈((nb c).foldl (fo c) s).ks\/_)↔_;rw[m1 y];simp[or_assoc]
structure Rng (nb:α->List α) (a:α) (k:Nat) (ks:List α) (ps:List (Option α)) (W1:List α):Prop where
 len:ks.length=ps.length
 nd:ks.Nodup
 mem:∀x,x∈ks↔Rb nb a k x
 rg:∀x,x∈W1↔Rb nb a k x/\∀j,Rb nb a j x->k<=j
 par:∀x p,(x,some p)∈ks.zip ps->x∈nb p/\p∈ks/\∀j,Rb nb a j x->∃i,j=i+1/\Rb nb a i p
 non:∀x,(x,none)∈ks.zip ps->x=a
 sz:k<=ks.length/\(W1≠[]->k+1<=ks.length)
def Rng.zero(nb:α->List α)(a:α):Rng nb a 0 [a] [none] [a] where
 len:=rfl
 nd:=by simp
 mem:=λx=>by simp[Rb]
 rg:=λx=>by simp[Rb]
 par:=λx p h=>by simp at h
 non:=λx h=>by simpa using h
 sz:=⟨by simp,λ_=>by simp⟩
def Rng.next(h:Rng nb a k ks ps W1)(hr:W1≠[]):Rng nb a (k+1) (cY nb ⟨ks,ps,[]⟩ W1).ks (cY nb ⟨ks,ps,[]⟩ W1).ps (cY nb ⟨ks,ps,[]⟩ W1).fu:=by
 obtain⟨g,m⟩:=xo (P:=λc x=>c∈W1/\x∈nb c) W1 ⟨ks,ps,[]⟩ λc hc x hx=>⟨hc,hx⟩
 obtain⟨fs,e1,e2,e3,e4⟩:=g.ex;have ND:=g.nd h.nd;have hm:∀x,x∈(cY nb ⟨ks,ps,[]⟩ W1).ks↔Rb nb a (k+1) x:=λx=>by
  rw[m x];show (x∈ks\/_)↔(Rb nb a k x\/_);constructor
  ·rintro(q | ⟨c,hc,hx⟩)
   ·exact .inl ((h.mem x).mp q)
   ·exact .inr ⟨c,((h.rg c).mp hc).1,hx⟩
  ·rintro(q | ⟨y,hy,hx⟩)
   ·exact .inl ((h.mem x).mpr q)
   ·by_cases hk:∀j,Rb nb a j y->k<=j
    ·exact .inr ⟨y,(h.rg y).mpr ⟨hy,hk⟩,hx⟩
    ·refine .inl ((h.mem x).mpr ?_);obtain⟨j,hj⟩:=Yr.mp hk;obtain⟨ON,RO⟩:=YH.mp hj;exact Rb.mono (i:=j+1) (by omega) (.inr ⟨y,ON,hx⟩)
 have wx:(cY nb ⟨ks,ps,[]⟩ W1).ks=ks++fs.map (·.1):=e1;have F7:(cY nb ⟨ks,ps,[]⟩ W1).ps=ps++fs.map (λp=>some p.2):=e2;have Nn:(cY nb ⟨ks,ps,[]⟩ W1).fu=fs.map (·.1):=e3;have new:∀x,x∈fs.map (·.1)->¬Rb nb a k x:=λx hx hk=>by
  rw[wx] at ND;exact(UI.mp ND).2.2 x ((h.mem x).mpr hk) x hx rfl
 have Ml:∀x,¬Rb nb a k x->∀j,Rb nb a j x->k+1<=j:=λx hx j hj=>by
  by_cases RP:k+1<=j
  ·exact RP
  ·exact Zp (Rb.mono (by omega) hj) hx
 have L_:(cY nb ⟨ks,ps,[]⟩ W1).ks.zip (cY nb ⟨ks,ps,[]⟩ W1).ps=ks.zip ps++fs.map λp=>(p.1,some p.2):=by
  rw[wx,F7,List.zip_append h.len];congr 1;rw[List.zip_map']
 refine⟨?_,ND,hm,λx=>?_,λx p hp=>?_,λx hx=>?_,?_⟩
 ·rw[wx,F7,Tt,Tt,Te,Te,h.len]
 ·rw[Nn];constructor
  ·intro hx;exact⟨(hm x).mp (by rw[wx];exact TL _ hx),Ml x (new x hx)⟩
  ·rintro⟨h1,h2⟩;have h3:=(hm x).mpr h1;rw[wx] at h3;rcases Ud.mp h3 with q | q
   ·have:=h2 k ((h.mem x).mp q);omega
   ·exact q
 ·rw[L_] at hp;rcases Ud.mp hp with q | q
  ·obtain⟨q1,q2,q3⟩:=h.par x p q;exact⟨q1,by rw[wx];exact Vj _ q2,q3⟩
  ·obtain⟨f,hf,e⟩:=TV.mp q;cases e;obtain⟨f1,f2⟩:=e4 f hf;have hc:=(h.rg f.2).mp f1;refine⟨f2,by rw[wx];exact Vj _ ((h.mem _).mpr hc.1),λj hj=>?_⟩;have:=Ml f.1 (new f.1 (TV.mpr ⟨f,hf,rfl⟩)) j hj;exact⟨j - 1,by omega,Rb.mono (by omega) hc.1⟩
 ·rw[L_] at hx;rcases Ud.mp hx with q | q
  ·exact h.non x q
  ·obtain⟨f,hf,e⟩:=TV.mp q;cases e
 ·have hs:=h.sz.2 hr;rw[wx,Tt,Te];refine⟨by omega,λiM=>?_⟩;have:fs≠[]:=λz=>iM (by rw[Nn,z];rfl);have:=Y1.mpr this;omega
def Rng.last(h:Rng nb a k ks ps []):∀x,x∈ks↔∃j,Rb nb a j x:=by
 have none:∀x,¬(Rb nb a k x/\∀j,Rb nb a j x->k<=j):=λx q=>by
  have:=(h.rg x).mpr q;cases this
 have hk:∀x,Rb nb a k x->∃i,i<k/\Rb nb a i x:=λx hx=>by
  by_cases q:∀j,Rb nb a j x->k<=j
  ·exact Zp ⟨hx,q⟩ (none x)
  ·obtain⟨j,hj⟩:=Yr.mp q;obtain⟨ON,RO⟩:=YH.mp hj;exact⟨j,by omega,ON⟩
 have all:∀j x,Rb nb a j x->Rb nb a k x:=by
  intro j;induction j with
  |zero=>intro x hx;exact Rb.mono (Ur _) hx
  |succ j ih=>
   rintro x (q | ⟨y,hy,hx⟩)
   ·exact ih x q
   ·obtain⟨i,hi,hr⟩:=hk y (ih y hy);exact Rb.mono (i:=i+1) (by omega) (.inr ⟨y,hr,hx⟩)
 exact λx=>⟨λq=>⟨k,(h.mem x).mp q⟩,λ⟨j,hj⟩=>(h.mem x).mpr (all j x hj)⟩
def jH{l U:List α}(hn:l.Nodup)(h:∀x∈l,x∈U):l.length<=U.length:=by
 induction l generalizing U with
 |nil=>simp
 |cons a l ih=>
  rw[Ul] at hn;have hl:∀x∈l,x∈U.erase a:=λx hx=>by
   have iM:x≠a:=λz=>hn.1 (by rw[<-z];exact hx);exact(List.mem_erase_of_ne iM).mpr (h x (Tf _ hx))
  have h1:=ih hn.2 hl;have h2:=Yv (h a (Th ..));have h3:=List.length_pos_of_mem (h a (Th ..));rw[Tn];omega
end
end K1
namespace K1
open PySem L2 L3
def keyOf(c:Cell):List Key:=[.inl (c.1:Int), .inl (c.2:Int)]
def kI(h:keyOf a=keyOf b):a=b:=by
 unfold keyOf at h;injection h with h1 h2
 injection h1 with h1
 injection h2 with h2 _
 injection h2 with h2
 exact XY (W7 h1) (W7 h2)
def u0(c:Cell):pb (cD c)=some (keyOf c):=rfl
theorem kY:∀{ks:List Cell}{ds:List D},c∉ks->iI (ks.map keyOf) ds (keyOf c)=none
 |[],_,_=>by simp[iI]
 |k::ks,[],_=>by simp[iI]
 |k::ks,d::ds,h=>by
  rw[Ts];unfold iI;rw[Zo (λz=>h (by rw[kI z];exact Th ..))];exact kY λz=>h (Tf _ z)
theorem nR:∀{ks:List Cell}{ds:List D},ks.length=ds.length->c∈ks->∃d,iI (ks.map keyOf) ds (keyOf c)=some d/\(c,d)∈ks.zip ds
 |[],_,_,h=>by cases h
 |k::ks,[],hl,_=>by simp at hl
 |k::ks,d::ds,hl,h=>by
  rw[Ts];unfold iI;by_cases hk:k=c
  ·subst hk;rw[Zn rfl];exact⟨d,rfl,by simp⟩
  ·rw[Zo (λz=>hk (kI z))];have hc:c∈ks:=by
    rcases Tz.mp h with q | q
    ·exact Zp q.symm hk
    ·exact q
   obtain⟨d',e1,e2⟩:=nR (by simpa using hl) hc;exact⟨d',e1,by simp[e2]⟩
def uX{ks:List Cell}(hl:ks.length=ds.length):lL neg (cD c) (.dct (ks.map keyOf) ds)=aa (.bl (if neg then !decide (c∈ks) else decide (c∈ks))):=by
 show (match (pb (cD c)).map (iI (ks.map keyOf) ds) with | some o=>aa (D.bl (if neg then !o.isSome else o.isSome)) | none=>af)=_;rw[u0];show aa (D.bl (if neg then !(iI (ks.map keyOf) ds (keyOf c)).isSome else(iI (ks.map keyOf) ds (keyOf c)).isSome))=_;by_cases h:c∈ks
 ·obtain⟨d,e,_⟩:=nR hl h;rw[e,Zq h];rfl
 ·rw[kY h,Zr h];rfl
def yh(h:c∉ks)(hl:ds.length<lim):rA (.dct (ks.map keyOf) ds) (cD c) d=some (.dct ((ks++[c]).map keyOf) (ds++[d])):=by
 show (match pb (cD c) with | some kk=>if ds.length<lim then some (C.dct (eQ (ks.map keyOf) ds kk) (dn (ks.map keyOf) ds kk d)) else none | none=>none)=_;rw[u0];show (if ds.length<lim then some (C.dct (eQ (ks.map keyOf) ds (keyOf c)) (dn (ks.map keyOf) ds (keyOf c) d)) else none)=_;rw[Zn hl];unfold eQ dn;rw[kY h];simp
def FL(h:τ (IG ρ)=aa b):Jf τ ρ=aa b:=by
 unfold Jf;rw[h];rfl
def FY(h1:c ρ=aa true)(h2:body ρ=aa (.nx ρ'))(h3:fN c body n ρ'=m):fN c body (n+1) ρ=m:=by
 show (c ρ>>=λb=>if b then body ρ>>=λo=>match o with | .nx ρ'=>fN c body n ρ' | .rt d=>aa (.rt d) else aa (.nx ρ))=_;rw[h1,ai,Zn rfl,h2];exact h3
def FX(h1:c ρ=aa false):fN c body (n+1) ρ=aa (.nx ρ):=by
 show (c ρ>>=λb=>if b then body ρ>>=λo=>match o with | .nx ρ'=>fN c body n ρ' | .rt d=>aa (.rt d) else aa (.nx ρ))=_;rw[h1];rfl
def EJ:Option Cell->D
 |none=> .non
 |some c=>cD c
abbrev Iw(ks:List Cell)(ps:List (Option Cell)):C:= .dct (ks.map keyOf) (ps.map EJ)
abbrev Dd(ks:List Cell)(ps:List (Option Cell)):D:= .dct (ks.map keyOf) (ps.map EJ)
abbrev sb(b s w:D)(ks:List Cell)(ps:List (Option Cell))(x4 x5 x6 x7:Option Sl):aM:=[fz b,fz s,fz w,some (.ow (Iw ks ps)),x4,x5,x6,x7]
structure Bok (R W:Nat) (s:Bk Cell):Prop where
 len:s.ks.length=s.ps.length
 nd:s.ks.Nodup
 on:∀x∈s.ks,On R W x
 fu:s.fu.length<=s.ks.length
def Bok.le(h:Bok R W s):s.ks.length<=R*W:=by
 rw[<-d6 R W];exact jH h.nd λx hx=>bM.mpr (h.on x hx)
def Bok.step(h:Bok R W s)(hx:On R W x):Bok R W (fo c s x):=by
 unfold fo;split
 ·exact h
 ·rename_i hn;refine⟨by simp[h.len],?_,λy hy=>?_,by simp;exact h.fu⟩
  ·refine UI.mpr ⟨h.nd,by simp,λy hy z hz e=>?_⟩;have hz:z=x:=by simpa using hz
   rw[e,hz] at hy;exact hn hy
  ·rcases Ud.mp hy with q | q
   ·exact h.on y q
   ·have:y=x:=by simpa using q
    rw[this];exact hx
def HR(hg:Brd bd W)(h:Bok bd.length W s):
 KJ (sb (brd bd) (cD a) w s.ks s.ps r (some (.ow (.lst (s.fu.map cD)))) (fz (cD c)) (fz (cD x)))=aa (.nx (sb (brd bd) (cD a) w (fo c s x).ks (fo c s x).ps r (some (.ow (.lst ((fo c s x).fu.map cD)))) (fz (cD c)) none)):=by
 have hle:=h.le;have hm:bd.length*W<=64:=WA hg.r8 hg.w8;have ht:Jf (ej (d2 (lL true) (dV 7) (dV 3))) (sb (brd bd) (cD a) w s.ks s.ps r (some (.ow (.lst (s.fu.map cD)))) (fz (cD c)) (fz (cD x)))=aa (!decide (x∈s.ks)):=
  FL (fC ((av rfl rfl).trans (uX (by rw[Te];exact h.len))))
 by_cases hx:x∈s.ks
 ·rw[Zq hx] at ht;have e:fo c s x=s:=Zn hx;rw[e];exact(c6 (c7 ht rfl)).trans rfl
 ·rw[Zr hx] at ht;have e:fo c s x=⟨s.ks++[x],s.ps++[some c],s.fu++[x]⟩:=Zo hx;rw[e];refine(c6 (ρ':=sb (brd bd) (cD a) w (s.ks++[x]) (s.ps++[some c]) r (some (.ow (.lst ((s.fu++[x]).map cD)))) (fz (cD c)) (fz (cD x))) (fB ht (aF (ρ':=sb (brd bd) (cD a) w (s.ks++[x]) (s.ps++[some c]) r (some (.ow (.lst (s.fu.map cD)))) (fz (cD c)) (fz (cD x))) ?_ ?_))).trans rfl
  ·show (match rA (Iw s.ks s.ps) (cD x) (cD c) with | some c'=>aa (Out.nx (List.set (sb (brd bd) (cD a) w s.ks s.ps r (some (.ow (.lst (s.fu.map cD)))) (fz (cD c)) (fz (cD x))) 3 (some (.ow c')))) | none=>af)=_;rw[yh hx (by rw[Te,<-h.len,c_];omega)];rw[show s.ps.map EJ++[cD c]=(s.ps++[some c]).map EJ by simp[EJ]];rfl
  ·show (if (s.fu.map cD).length<lim then aa (Out.nx (sb (brd bd) (cD a) w (s.ks++[x]) (s.ps++[some c]) r (some (.ow (.lst (s.fu.map cD++[cD x])))) (fz (cD c)) (fz (cD x)))) else af)=_;have:=h.fu;rw[Zn (by rw[Te,c_];omega)];rw[show s.fu.map cD++[cD x]=(s.fu++[x]).map cD by simp]
def MW:DS:=fZ [6,7] (i6 (putN 7) (g7 (aw 3 cO (aC (dV 0) (aC (dV 6) (aC (dV 2) aN))))) KJ)
def Bp(hg:Brd bd W)(hw:Ways w)(hc:On bd.length W c)(h:Bok bd.length W s):
 Bok bd.length W (nU (bx bd W w) s c)/\MW (sb (brd bd) (cD a) (iW w) s.ks s.ps r (some (.ow (.lst (s.fu.map cD)))) (fz (cD c)) none)=
  aa (.nx (sb (brd bd) (cD a) (iW w) (nU (bx bd W w) s c).ks (nU (bx bd W w) s c).ps r (some (.ow (.lst ((nU (bx bd W w) s c).fu.map cD)))) none none)):=by
 obtain⟨h1,e⟩:=ng (put:=putN 7) cD (λs:Bk Cell=>sb (brd bd) (cD a) (iW w) s.ks s.ps r (some (.ow (.lst (s.fu.map cD)))) (fz (cD c)) none) (fo c) (Bok bd.length W) (bx bd W w c) s h λs hs x hx=>
  ⟨hs.step ((iu hw).mp hx).1,_,rfl,HR hg hs⟩
 refine⟨h1,(c6 (mQ ?_ e)).trans rfl⟩;show (aw 3 cO (aC (dV 0) (aC (dV 6) (aC (dV 2) aN))) (sb (brd bd) (cD a) (iW w) s.ks s.ps r (some (.ow (.lst (s.fu.map cD)))) (fz (cD c)) none)>>=lstM)=_;have e2:aw 3 cO (aC (dV 0) (aC (dV 6) (aC (dV 2) aN))) (sb (brd bd) (cD a) (iW w) s.ks s.ps r (some (.ow (.lst (s.fu.map cD)))) (fz (cD c)) none)=aa (.lst ((bx bd W w c).map cD)):=qH hg hw hc;rw[e2];rfl
def MV:DS:=fZ [5,6,7] (bp (vV 5) (bp (i6 (putN 6) (g7 (dV 4)) MW) (Fq 5 (da 4 (dV 5)))))
def HQ(hg:Brd bd W)(hw:Ways w)(hr:∀c∈W1,On bd.length W c)(h:Bok bd.length W s)(hf:s.fu=[]):
 Bok bd.length W (cY (bx bd W w) s W1)/\MV (sb (brd bd) (cD a) (iW w) s.ks s.ps (fz (.lst (W1.map cD))) none none none)=
  aa (.nx (sb (brd bd) (cD a) (iW w) (cY (bx bd W w) s W1).ks (cY (bx bd W w) s W1).ps (fz (.lst ((cY (bx bd W w) s W1).fu.map cD))) none none none)):=by
 obtain⟨h1,e⟩:=ng (put:=putN 6) cD (λs:Bk Cell=>sb (brd bd) (cD a) (iW w) s.ks s.ps (fz (.lst (W1.map cD))) (some (.ow (.lst (s.fu.map cD)))) none none) (nU (bx bd W w)) (Bok bd.length W) W1 s h λs hs c hc=>
  ⟨(Bp (a:=a) (r:=fz (.lst (W1.map cD))) hg hw (hr c hc) hs).1,_,rfl,(Bp hg hw (hr c hc) hs).2⟩
 refine⟨h1,(c6 (ρ':=sb (brd bd) (cD a) (iW w) (cY (bx bd W w) s W1).ks (cY (bx bd W w) s W1).ps (fz (.lst ((cY (bx bd W w) s W1).fu.map cD))) (fz (.lst ((cY (bx bd W w) s W1).fu.map cD))) none none) ?_).trans rfl⟩;refine aF rfl (aF (ρ':=sb (brd bd) (cD a) (iW w) (cY (bx bd W w) s W1).ks (cY (bx bd W w) s W1).ps (fz (.lst (W1.map cD))) (some (.ow (.lst ((cY (bx bd W w) s W1).fu.map cD)))) none none) ?_ rfl);rw[hf] at e;exact mQ rfl e
theorem yt(hg:Brd bd W)(hw:Ways w)(ha:On bd.length W a):∀(fuel k:Nat) (ks:List Cell) (ps:List (Option Cell)) (W1:List Cell),bd.length*W+2<=fuel+k->Rng (bx bd W w) a k ks ps W1->(∀x∈ks,On bd.length W x)->
 ∃k' ks' NS,Rng (bx bd W w) a k' ks' NS []/\(∀x∈ks',On bd.length W x)/\fN (cJ (dV 4)) MV fuel (sb (brd bd) (cD a) (iW w) ks ps (fz (.lst (W1.map cD))) none none none)=aa (.nx (sb (brd bd) (cD a) (iW w) ks' NS (fz (.lst [])) none none none))
 |0,k,ks,ps,W1,hf,hR,D8=>by
  have h1:ks.length<=bd.length*W:=by
   rw[<-d6 bd.length W];exact jH hR.nd λx hx=>bM.mpr (D8 x hx)
  have:=hR.sz.1;omega
 |fuel+1,k,ks,ps,[],hf,hR,D8=>⟨k,ks,ps,hR,D8,FX rfl⟩
 |fuel+1,k,ks,ps,c::W1,hf,hR,D8=>by
  have iM:c::W1≠[]:=by simp
  have hN:=hR.next iM;have O5:∀x∈c::W1,On bd.length W x:=λx hx=>D8 x ((hR.mem x).mpr ((hR.rg x).mp hx).1);obtain⟨hb,e⟩:=HQ hg hw O5 (s:=⟨ks,ps,[]⟩) ⟨hR.len,hR.nd,D8,Ur _⟩ rfl;obtain⟨k',ks',NS,q1,q2,q3⟩:=yt hg hw ha fuel (k+1) _ _ _ (by omega) hN hb.on;exact⟨k',ks',NS,q1,q2,FY rfl e q3⟩
def ku(hg:Brd bd W)(hw:Ways w)(ha:On bd.length W a):
 ∃k ks ps,Rng (bx bd W w) a k ks ps []/\(∀x∈ks,On bd.length W x)/\bD [brd bd,cD a,iW w]=aa (Dd ks ps):=by
 have hm:bd.length*W<=64:=WA hg.r8 hg.w8;obtain⟨k,ks,ps,h1,h2,h3⟩:=yt hg hw ha lim 0 [a] [none] [a] (by rw[c_];omega) (Rng.zero _ _) (λx hx=>(show x=a by simpa using hx)▸ha);refine⟨k,ks,ps,h1,h2,bL (aF rfl (aF rfl (aF (i3 h3) rfl)))⟩
def la[DecidableEq α](n:Nat)(Zx:α->D):Prop:=∀k x y,o8 (n+k) (Zx x) (Zx y)=some (decide (x=y))
def AF(n:Nat)(xs ys:List D):o8 (n+1) (.tup xs) (.tup ys)=si (o8 n) xs ys:=rfl
def fW(n:Nat)(i j:Int):o8 n (.int i) (.int j)=some (i==j):=by cases n<;>rfl
def GG(n:Nat)(i j:Str):o8 n (.str i) (.str j)=some (i==j):=by cases n<;>rfl
theorem uQ[DecidableEq α](h:∀x y,f (Zx x) (Zx y)=some (decide (x=y))):∀(xs ys:List α),si f (xs.map Zx) (ys.map Zx)=some (decide (xs=ys))
 |[],[]=>rfl
 |[],_::_=>by simp[si]
 |_::_,[]=>by simp[si]
 |x::xs,y::ys=>by
  rw[Ts,Ts];show (match f (Zx x) (Zx y),si f (xs.map Zx) (ys.map Zx) with | some b,some r=>some (b&&r) | _,_=>none)=_;rw[h,uQ h xs ys];show some (decide (x=y)&&decide (xs=ys))=_;congr 1;by_cases h1:x=y<;>by_cases h2:xs=ys<;>simp[h1,h2]
def DI:la 1 cD:=λk a b=>by
 rw[Nat.add_comm];show (match o8 k (.int (a.1:Int)) (.int (b.1:Int)),si (o8 k) [.int (a.2:Int)] [.int (b.2:Int)] with | some b,some r=>some (b&&r) | _,_=>none)=_;rw[fW];show (match some ((a.1:Int)==(b.1:Int)),(match o8 k (.int (a.2:Int)) (.int (b.2:Int)),si (o8 k) [] [] with | some b,some r=>some (b&&r) | _,_=>none) with | some b,some r=>some (b&&r) | _,_=>none)=_;rw[fW];show some (((a.1:Int)==(b.1:Int))&&(((a.2:Int)==(b.2:Int))&&true))=_;rw[lj,lj,Yy];congr 1;obtain⟨a1,a2⟩:=a;obtain⟨b1,b2⟩:=b;by_cases h1:a1=b1<;>by_cases h2:a2=b2<;>simp[h1,h2]
def uN[DecidableEq α](h:la n Zx):la (n+1) (λl:List α=> .lst (l.map Zx)):=λk x y=>by
 rw[show n+1+k=(n+k)+1 by omega];exact uQ (h k) x y
def GD[DecidableEq α](h:la n Zx):la (n+1) (λl:List α=> .tup (l.map Zx)):=λk x y=>by
 rw[show n+1+k=(n+k)+1 by omega];exact uQ (h k) x y
def AE:la 0 D.str:=λk x y=>by
 rw[GG];congr 1
def GC:la 0 D.int:=λk x y=>by
 rw[fW];congr 1
def GA:la 1 brd:=GD AE
def Jt[DecidableEq α](h:la n Zx)(hn:n<=6)(x y:α):kG (Zx x) (Zx y)=aa (.bl (decide (x=y))):=by
 have:=h (6 - n) x y;rw[show n+(6 - n)=6 by omega] at this;unfold kG;rw[this]
def DJ[DecidableEq α](h:la n Zx)(hn:n<=6)(x y:α):gr (Zx x) (Zx y)=aa (.bl (!decide (x=y))):=by
 have:=h (6 - n) x y;rw[show n+(6 - n)=6 by omega] at this;unfold gr;rw[this]
abbrev cL(l:List Cell):D:= .lst (l.map cD)
def DM(a b:List Cell):kG (cL a) (cL b)=aa (.bl (decide (a=b))):=Jt (uN DI) (by decide) a b
def ic(c:Cell):List Int:=[(c.1:Int),(c.2:Int)]
def Dr(a b:Cell):Bool:=if a.1=b.1 then decide (a.2<b.2) else decide (a.1<b.1)
def GW(k:Cell):List Cell->List Cell
 |[]=>[k]
 |x::r=>if Dr k x then k::x::r else x::GW k r
def oW:List Cell->List Cell
 |[]=>[]
 |k::r=>GW k (oW r)
def zC(a b:Cell):e9 (ic a) (ic b)=Dr a b:=by
 show (if (a.1:Int)=(b.1:Int) then(if (a.2:Int)=(b.2:Int) then false else decide ((a.2:Int)<(b.2:Int))) else decide ((a.1:Int)<(b.1:Int)))=_;unfold Dr;by_cases h:a.1=b.1
 ·rw[Zn h,Zn (by omega)];by_cases h2:a.2=b.2
  ·rw[Zn (by omega),h2];simp
  ·rw[Zo (by omega)];by_cases h3:a.2<b.2
   ·rw[Zq h3,Zq (by omega)]
   ·rw[Zr h3,Zr (by omega)]
 ·rw[Zo h,Zo (by omega)];by_cases h3:a.1<b.1
  ·rw[Zq h3,Zq (by omega)]
  ·rw[Zr h3,Zr (by omega)]
theorem Ec(k:Cell):∀l:List Cell,insI (ic k) (l.map ic)=(GW k l).map ic
 |[]=>rfl
 |x::r=>by
  rw[Ts];unfold insI GW;rw[zC];cases Dr k x with
  |true=>rfl
  |false=>rw[Zo (by decide),Zo (by decide),Ts,Ec k r]
theorem pX:∀l:List Cell,sortI (l.map ic)=(oW l).map ic
 |[]=>rfl
 |k::r=>by
  rw[Ts];unfold sortI oW;rw[pX r,Ec]
def uW(h:ic a=ic b):a=b:=by
 unfold ic at h;injection h with h1 h2
 injection h2 with h2 _
 exact XY (W7 h1) (W7 h2)
def tR:x∈oW l↔x∈l:=by
 have h:=iG (x:=ic x) (l:=l.map ic);rw[pX] at h;constructor
 ·intro hx;obtain⟨y,hy,e⟩:=TV.mp (h.mp (TV.mpr ⟨x,hx,rfl⟩));rw[<-uW e];exact hy
 ·intro hx;obtain⟨y,hy,e⟩:=TV.mp (h.mpr (TV.mpr ⟨x,hx,rfl⟩));rw[<-uW e];exact hy
def RiseC(l:List Cell):Prop:=l.Pairwise λa b=>Dr a b=true
def vT:yS (l.map ic)↔RiseC l:=by
 unfold yS RiseC;rw[WD];constructor<;>intro h<;>refine WV ?_ h<;>intro a b q
 ·rw[<-zC];exact q
 ·rw[zC];exact q
def xJ{l:List Cell}(h:l.Nodup):(l.map ic).Nodup:=by
 unfold US at h⊢;rw[WD];exact WV (λh z=>h (uW z)) h
def rQ{l:List Cell}(h:l.Nodup):RiseC (oW l):=by
 have:=lW (xJ h);rw[pX] at this;exact vT.mp this
def CJ(ha:RiseC a)(hb:RiseC b)(h:∀x,x∈a↔x∈b):a=b:=by
 have e:=rH (vT.mpr ha) (vT.mpr hb) λx=>by
  constructor
  ·intro hx;obtain⟨y,hy,rfl⟩:=TV.mp hx;exact TV.mpr ⟨y,(h y).mp hy,rfl⟩
  ·intro hx;obtain⟨y,hy,rfl⟩:=TV.mp hx;exact TV.mpr ⟨y,(h y).mpr hy,rfl⟩
 have inj:∀(a b:List Cell),a.map ic=b.map ic->a=b:=by
  intro a;induction a with
  |nil=>intro b h;cases b with
   |nil=>rfl
   |cons=>simp at h
  |cons x a ih=>intro b h;cases b with
   |nil=>simp at h
   |cons y b=>
    rw[Ts,Ts] at h;injection h with h1 h2
    rw[uW h1,ih b h2]
 exact inj a b e
def RiseC.nodup(h:RiseC l):l.Nodup:=by
 refine WV ?_ h;intro a b q z;subst z;unfold Dr at q;rw[Zn rfl] at q;have:=Zt q;omega
theorem nq:∀ks:List Cell,gu (ks.map keyOf)=some (ks.map ic)
 |[]=>rfl
 |k::r=>by
  show (match tE (keyOf k),gu (r.map keyOf) with | some x,some xs=>some (x::xs) | _,_=>none)=_;rw[nq r];rfl
def Mx{ks:List Cell}(h:ks.Nodup)(hl:ks.length<64):jO (ks.map ic)=true:=by
 unfold jO;rw[Te,Zq (xJ h),Zq hl];simp;intro a b _ z;cases z
def yz(h:ks.Nodup)(hl:ks.length<64):rR [.dct (ks.map keyOf) ds]=aa (cL (oW ks)):=by
 show (match gu (ks.map keyOf) with | some ks=>if jO ks&&ks.all (λk=>decide (k.length<=lim)) then aa (D.lst ((sortI ks).map tupI)) else af | none=>af)=_;rw[nq];show (if jO (ks.map ic)&&(ks.map ic).all (λk=>decide (k.length<=lim)) then aa (D.lst ((sortI (ks.map ic)).map tupI)) else af)=_;rw[Mx h hl];have:(ks.map ic).all (λk=>decide (k.length<=lim))=true:=by
  simp;intro a b _;show 2<=lim
  decide
 rw[this,Yy,Zn rfl,pX,T7];rfl
def Cn(bd:List Str)(W w:Nat)(a b:Cell):Prop:=∃j,Rb (bx bd W w) a j b
def Cn.refl:Cn bd W w a a:=⟨0,rfl⟩
def zD(hw:Ways w)(ha:On bd.length W a)(h:b∈bx bd W w a):a∈bx bd W w b:=by
 obtain⟨h1,h2,h3⟩:=(iu hw).mp h;exact(iu hw).mpr ⟨ha,by rw[ED];exact h2,h3.symm⟩
theorem Fe(hw:Ways w)(ha:On bd.length W a):∀{j:Nat},Rb (bx bd W w) a j b->On bd.length W b
 |0,h=>by rw[show b=a from h];exact ha
 |j+1, .inl h=>Fe hw ha h
 |j+1, .inr ⟨y,_,hy⟩=>((iu hw).mp hy).1
theorem rF(h:c∈bx bd W w a):∀{j:Nat},Rb (bx bd W w) c j b->Rb (bx bd W w) a (j+1) b
 |0,q=> .inr ⟨a,rfl,by rw[show b=c from q];exact h⟩
 |j+1, .inl q=> .inl (rF h q)
 |j+1, .inr ⟨y,q,hy⟩=> .inr ⟨y,rF h q,hy⟩
theorem vR(hw:Ways w)(ha:On bd.length W a):∀{j:Nat},Rb (bx bd W w) a j b->Rb (bx bd W w) b j a
 |0,h=>show a=b from(show b=a from h).symm
 |j+1, .inl h=> .inl (vR hw ha h)
 |j+1, .inr ⟨y,q,hy⟩=>rF (zD hw (Fe hw ha q) hy) (vR hw ha q)
theorem rG(h:Rb (bx bd W w) a i b):∀{j:Nat},Rb (bx bd W w) b j c->Rb (bx bd W w) a (i+j) c
 |0,q=>by rw[show c=b from q];exact h
 |j+1, .inl q=> .inl (rG h q)
 |j+1, .inr ⟨y,q,hy⟩=> .inr ⟨y,rG h q,hy⟩
theorem nM(hw:Ways w):∀{j:Nat},Rb (bx bd W w) a j b->lt bd b=lt bd a
 |0,h=>by rw[show b=a from h]
 |j+1, .inl h=>nM hw h
 |j+1, .inr ⟨y,q,hy⟩=>((iu hw).mp hy).2.2.trans (nM hw q)
section
variable{bd:List Str}{W w:Nat}{a b c:Cell}
def Cn.on(hw:Ways w)(ha:On bd.length W a)(h:Cn bd W w a b):On bd.length W b:=let ⟨_,q⟩:=h;Fe hw ha q
def Cn.symm(hw:Ways w)(ha:On bd.length W a)(h:Cn bd W w a b):Cn bd W w b a:=let ⟨j,q⟩:=h;⟨j,vR hw ha q⟩
def Cn.trans(h:Cn bd W w a b)(h2:Cn bd W w b c):Cn bd W w a c:=let ⟨i,q⟩:=h;let ⟨j,r⟩:=h2;⟨i+j,rG q r⟩
def Cn.letter(hw:Ways w)(h:Cn bd W w a b):lt bd b=lt bd a:=let ⟨_,q⟩:=h;nM hw q
end
structure IsPatch (bd:List Str) (W w:Nat) (a:Cell) (P:List Cell):Prop where
 rise:RiseC P
 mem:∀x,x∈P↔Cn bd W w a x
def IsPatch.one(h:IsPatch bd W w a P)(h2:IsPatch bd W w a Q):P=Q:=CJ h.rise h2.rise λx=>(h.mem x).trans (h2.mem x).symm
def l7{bd:List Str}{ks:List Cell}(hn:ks.Nodup)(D8:∀x∈ks,On bd.length W x):ks.length<=bd.length*W:=by
 rw[<-d6 bd.length W];exact jH hn λx hx=>bM.mpr (D8 x hx)
end K1
namespace K1
open PySem L2 L3 HT
def gG(l:List Nat):Str:=⟨l.toArray⟩
def lX(l:List Nat):(gG l).cps.toList=l:=by simp[gG]
def G6(l:List Nat):(gG l).length=l.length:=by simp[gG,Str.length]
def yT(x y:Str):(x++y).cps.toList=x.cps.toList++y.cps.toList:=by
 show (x.cps++y.cps).toList=_;simp
theorem Bv:∀l:List Nat,pF (l.map sg)=some (l.map λc=>(⟨#[c]⟩:Str))
 |[]=>rfl
 |c::r=>by
  show (pF (r.map sg)).map _=_;rw[Bv r];rfl
theorem Ax:∀l:List Nat,eB (l.map λc=>(⟨#[c]⟩:Str))=gG l
 |[]=>rfl
 |c::r=>by
  refine H0 ?_;show ((⟨#[c]⟩:Str)++eB (r.map λc=>(⟨#[c]⟩:Str))).cps.toList=_;rw[yT,Ax r,lX,lX];rfl
theorem FG:∀l:List Nat,((l.map λc=>(⟨#[c]⟩:Str)).map (·.length)).sum=l.length
 |[]=>rfl
 |c::r=>by
  show 1+((r.map λc=>(⟨#[c]⟩:Str)).map (·.length)).sum=_;rw[FG r,Tn];omega
def uZ{l:List Nat}(h:l.length<=4096):joinM (.str "") [.lst (l.map sg)]=aa (.str (gG l)):=by
 show (match pF (l.map sg) with | some (xs:List Str)=>if ("":Str).length=0/\(xs.map λx:Str=>x.length).sum<=lim then aa (D.str (eB xs)) else af | none=>af)=_;rw[Bv];show (if ("":Str).length=0/\((l.map λc=>(⟨#[c]⟩:Str)).map λx:Str=>x.length).sum<=lim then aa (D.str (eB (l.map λc=>(⟨#[c]⟩:Str)))) else af)=_;rw[Zn ⟨rfl,by have:=FG l;rw[c_];exact T2 (YS this) h⟩,Ax]
abbrev SQ:List Nat:=[97,98,99,100,101,102]
def Gj{bd:List Str}{i j:Nat}(hi:i<bd.length)(hj:j<bd[i].cps.toList.length):at2 bd i j=bd[i].cps.toList[j]:=by
 unfold at2 ch;rw[Tw (l:=bd),Tg hi,Y_,Tw,Tg hj,Y_]
def D2{α:Type}{l:List α}{i:Nat}{x:α}(h:l[i]? =some x)(hi:i<l.length):l[i]=x:=by
 rw[Tg hi] at h;exact Ub h
end K1
namespace K1
open PySem L2 L3
def Oa(w:Nat):List Cell->Bool
 |a::b::r=>pd w a b&&Oa w (b::r)
 |_=>true
def p7:L2.atI (l++[x]) (-1)=some x:=by
 unfold L2.atI Gb;rw[Zo (by decide)];have: -((l++[x]).length:Int)<= -1:=by simp;omega
 rw[Zn this];have e:((-1:Int)+((l++[x]).length:Int)).toNat=l.length:=by simp;omega
 show (l++[x])[((-1:Int)+((l++[x]).length:Int)).toNat]? =some x;rw[e];simp
abbrev wr(bd w a b k t:D):aM:=[fz bd,fz w,fz a,fz b,fz k,fz t]
theorem d4(Zx:α->D)(g:α->D):∀(xs:List α),(∀x∈xs,f (Zx x)=aa (some (g x)))->dG f (xs.map Zx)=aa (xs.map g)
 |[],_=>rfl
 |x::xs,h=>by
  rw[Ts,eZ,h x (Th ..),ai,d4 Zx g xs λy hy=>h y (Tf _ hy)];rfl
def dw(ks:List Cell)(c:Cell):List Cell:=if c∈ks then ks else ks++[c]
def bZ(l:List Cell):List Cell:=l.foldl dw []
def aU(ks:List Cell):List D:=ks.map λ_=> .bl true
def Dc:x∈dw ks c↔x∈ks\/x=c:=by
 unfold dw;split
 ·rename_i h;exact⟨.inl,λq=>q.elim id λe=>by rw[e];exact h⟩
 ·simp
theorem qp:∀(l ks:List Cell),(ks.Nodup->(l.foldl dw ks).Nodup)/\(∀x,x∈l.foldl dw ks↔x∈ks\/x∈l)/\(l.foldl dw ks).length<=ks.length+l.length
 |[],ks=>⟨id,λx=>by simp,by simp⟩
 |c::l,ks=>by
  obtain⟨h1,h2,h3⟩:=qp l (dw ks c);refine⟨λhn=>h1 ?_,λx=>?_,?_⟩
  ·unfold dw;split
   ·exact hn
   ·rename_i hc;refine UI.mpr ⟨hn,by simp,λy hy z hz e=>?_⟩;have hz:z=c:=by simpa using hz
    rw[e,hz] at hy;exact hc hy
  ·rw[X6,h2 x,Dc];simp[or_assoc]
  ·rw[X6,Tn];have:(dw ks c).length<=ks.length+1:=by unfold dw;split<;>simp
   omega
def kM:x∈bZ l↔x∈l:=by
 unfold bZ;rw[(qp l []).2.1 x];simp
def Et(l:List Cell):(bZ l).Nodup:=(qp l []).1 Ws
def Cd(l:List Cell):(bZ l).length<=l.length:=by have:=(qp l []).2.2;simpa[bZ] using this
theorem ue:∀{ks:List (List Key)}{l:List Cell},ks.length=l.length->pA ks (aU l) k (.bl true)=aU l
 |[],[],_=>rfl
 |k'::ks,c::l,h=>by
  show (if k'=k then D.bl true else D.bl true)::pA ks (aU l) k (.bl true)=_;rw[ue (by simpa using h)];split<;>rfl
 |[],_::_,h=>by simp at h
 |_::_,[],h=>by simp at h
def E8(hl:ks.length<lim):rA (.dct (ks.map keyOf) (aU ks)) (cD c) (.bl true)=some (.dct ((dw ks c).map keyOf) (aU (dw ks c))):=by
 have P3:(aU ks).length=ks.length:=by simp[aU]
 unfold dw;by_cases h:c∈ks
 ·rw[Zn h];show (match pb (cD c) with | some kk=>if (aU ks).length<lim then some (C.dct (eQ (ks.map keyOf) (aU ks) kk) (dn (ks.map keyOf) (aU ks) kk (.bl true))) else none | none=>none)=_;rw[u0];show (if (aU ks).length<lim then some (C.dct (eQ (ks.map keyOf) (aU ks) (keyOf c)) (dn (ks.map keyOf) (aU ks) (keyOf c) (.bl true))) else none)=_;rw[Zn (by rw[P3];exact hl)];obtain⟨d,e,_⟩:=nR P3.symm h;unfold eQ dn;rw[e];show some (C.dct (ks.map keyOf) (pA (ks.map keyOf) (aU ks) (keyOf c) (.bl true)))=_;rw[ue (by simp)]
 ·rw[Zo h,yh h (by rw[P3];exact hl)];simp[aU]
abbrev zw(l:List Cell):D:= .dct ((bZ l).map keyOf) (aU (bZ l))
def tK(hl:l.length<4000):iT [cL l]=aa (zw l):=by
 have e:∀(xs ks:List Cell),ks.length+xs.length<4000->forL (putN 2) (fZ [2] (yr 1 (dV 2) (dC (.bl true)))) (xs.map cD) [fz (cL l),some (.ow (.dct (ks.map keyOf) (aU ks))),none]=aa (.nx [fz (cL l),some (.ow (.dct ((xs.foldl dw ks).map keyOf) (aU (xs.foldl dw ks)))),none]):=by
  intro xs;induction xs with
  |nil=>intro ks _;rfl
  |cons x xs ih=>
   intro ks hk;rw[Tn] at hk;have hle:(dw ks x).length<=ks.length+1:=by unfold dw;split<;>simp
   refine(kF rfl ?_).trans (ih (dw ks x) (by omega));refine(c6 (ρ':=[fz (cL l),some (.ow (.dct ((dw ks x).map keyOf) (aU (dw ks x)))),fz (cD x)]) ?_).trans rfl;show (match rA (.dct (ks.map keyOf) (aU ks)) (cD x) (.bl true) with | some c'=>aa (Out.nx [fz (cL l),some (.ow c'),fz (cD x)]) | none=>af)=_;rw[E8 (by rw[c_];omega)]
 refine bL (aF rfl (aF (i3 (mQ rfl (e l [] (by simpa using hl)))) rfl))
end K1
namespace K1
open PySem L2 L3 HT
def AR(R W:Nat)(g:Nat->Nat->Nat):List Str:=(TB R).map λi=>gG ((TB W).map (g i))
def u9(R W:Nat)(g:Nat->Nat->Nat):(AR R W g).length=R:=by simp[AR]
def AS{R W:Nat}{g:Nat->Nat->Nat}:∀r∈AR R W g,r.length=W:=λr hr=>by
 obtain⟨i,_,rfl⟩:=TV.mp hr;rw[G6,Te,U0]
def Ep{R W:Nat}{g:Nat->Nat->Nat}{i j:Nat}(hi:i<R)(hj:j<W):at2 (AR R W g) i j=g i j:=by
 have h1:i<(AR R W g).length:=by rw[u9];exact hi
 have e0:(AR R W g)[i]? =some (gG ((TB W).map (g i))):=by
  unfold AR;rw[Tx,Vb hi];rfl
 have e1:(AR R W g)[i].cps.toList=(TB W).map (g i):=by rw[D2 e0 h1,lX]
 have h2:j<(AR R W g)[i].cps.toList.length:=by rw[e1,Te,U0];exact hj
 rw[Gj h1 h2];have:(AR R W g)[i].cps.toList[j]? =some (g i j):=by rw[e1,Tx,Vb hj];rfl
 exact D2 this h2
def rq(bd:List Str)(W:Nat)(some:List Cell)(c:Nat):List Str:=AR bd.length W λi j=>if (i,j)∈some then c else at2 bd i j
def pG{bd:List Str}{W:Nat}(hg:Brd bd W){so:D}{l ks:List Cell}{ds:List D}(hk:iT [so]=aa (.dct (ks.map keyOf) ds))(hl:ks.length=ds.length)(hm:∀x,x∈ks↔x∈l)(c:Nat):bW [brd bd,so,sg c]=aa (brd (rq bd W l c)):=by
 have h8:=hg.r8;have w8:=hg.w8;have row:∀{i:Nat},i<bd.length->∀{x4 x5:Option Sl},dM sC joinM (dC (.str "")) (aC (bj 0 (g7 (dV 6)) bI (IA (ej (d2 (lL false) (dV 0) (dV 4))) (dV 3) (aw 2 aY (aC (dV 1) (aC (dV 0) aN))))) aN) [fz (brd bd),fz so,fz (sg c),fz (.dct (ks.map keyOf) ds),x4,x5,fz (.lst ((cU W i).map cD))]=aa (.str (gG ((TB W).map λj=>if (i,j)∈l then c else at2 bd i j))):=by
  intro i hi x4 x5;have cm:bj 0 (g7 (dV 6)) bI (IA (ej (d2 (lL false) (dV 0) (dV 4))) (dV 3) (aw 2 aY (aC (dV 1) (aC (dV 0) aN)))) [fz (brd bd),fz so,fz (sg c),fz (.dct (ks.map keyOf) ds),x4,x5,fz (.lst ((cU W i).map cD))]=aa (.lst (((TB W).map λj=>if (i,j)∈l then c else at2 bd i j).map sg)):=by
   refine bS (ds:=(cU W i).map cD) rfl ?_ (by simp[c_];omega);unfold cU;rw[T7,T7];refine d4 (cD∘λk=>(i,k)) _ _ λj hj=>?_;have hj:=UP.mp hj;have hc:On bd.length W (i,j):=⟨hi,hj⟩
   rw[g6];have e1:ej (d2 (lL false) (dV 0) (dV 4)) (fz (cD (i,j))::[fz (brd bd),fz so,fz (sg c),fz (.dct (ks.map keyOf) ds),x4,x5,fz (.lst ((cU W i).map cD))])=aa (decide ((i,j)∈ks)):=fC ((av (x:=cD (i,j)) (y:= .dct (ks.map keyOf) ds) rfl rfl).trans (uX hl));have e2:IA (ej (d2 (lL false) (dV 0) (dV 4))) (dV 3) (aw 2 aY (aC (dV 1) (aC (dV 0) aN))) (fz (cD (i,j))::[fz (brd bd),fz so,fz (sg c),fz (.dct (ks.map keyOf) ds),x4,x5,fz (.lst ((cU W i).map cD))])=aa (sg (if (i,j)∈l then c else at2 bd i j)):=by
    rw[Lq e1];by_cases h:(i,j)∈l
    ·rw[Zn h,Zn (Zq ((hm _).mpr h))];rfl
    ·rw[Zo h,Zo (λz=>h ((hm _).mp (Zt z)))];exact(aG (ds:=[brd bd,cD (i,j)]) rfl rfl).trans (fj hg hc)
   exact(Zv (· >>=λy=>aa (some y)) e2).trans rfl
  show (if sC (.str "") then((aC _ aN) [fz (brd bd),fz so,fz (sg c),fz (.dct (ks.map keyOf) ds),x4,x5,fz (.lst ((cU W i).map cD))]>>=λds=>joinM (.str "") ds) else af)=_;rw[Zn (show sC (.str "")=true from rfl),ao cm (xs:=[]) rfl,ai];exact uZ (by simp;omega)
 have lp:=ik (put:=putN 5) (body:=fZ [5,6] (bp (da 6 (aw 2 bo (aC (dV 0) (aC (dV 5) aN)))) (k_ 4 (dM sC joinM (dC (.str "")) (aC (bj 0 (g7 (dV 6)) bI (IA (ej (d2 (lL false) (dV 0) (dV 4))) (dV 3) (aw 2 aY (aC (dV 1) (aC (dV 0) aN))))) aN))))) (λ(k:Nat)=>D.int (k:Int)) (λM2=>[fz (brd bd),fz so,fz (sg c),fz (.dct (ks.map keyOf) ds),some (.ow (.lst M2)),none,none]) (λi=>[.str (gG ((TB W).map λj=>if (i,j)∈l then c else at2 bd i j))]) (B:=100) (TB bd.length) [] (by
  have:∀l':List Nat,(l'.flatMap λi=>[D.str (gG ((TB W).map λj=>if (i,j)∈l then c else at2 bd i j))]).length=l'.length:=by
   intro l';induction l' with
   |nil=>rfl
   |cons a l' ih=>rw[Vl,Tt,ih,Tn];simp;omega
  rw[UA,this,U0];omega) λi hi M2 ha=>by
  have hi:=UP.mp hi;refine⟨[fz (brd bd),fz so,fz (sg c),fz (.dct (ks.map keyOf) ds),some (.ow (.lst M2)),fz (.int (i:Int)),none],rfl,?_⟩;refine(c6 (ρ':=[fz (brd bd),fz so,fz (sg c),fz (.dct (ks.map keyOf) ds),some (.ow (.lst (M2++[.str (gG ((TB W).map λj=>if (i,j)∈l then c else at2 bd i j))]))),fz (.int (i:Int)),fz (.lst ((cU W i).map cD))]) (aF (ρ':=[fz (brd bd),fz so,fz (sg c),fz (.dct (ks.map keyOf) ds),some (.ow (.lst M2)),fz (.int (i:Int)),fz (.lst ((cU W i).map cD))]) ((a6 ((aG (ds:=[brd bd, .int (i:Int)]) rfl rfl).trans (h9 hg i))).trans rfl) ?_)).trans rfl;show (dM sC joinM _ _ _>>=λd=>if M2.length<lim then aa (Out.nx _) else af)=_;rw[row hi,ai,Zn (by rw[c_];rw[Tt] at ha;simp at ha;omega)];rfl
 refine bL (aF (ρ':=[fz (brd bd),fz so,fz (sg c),fz (.dct (ks.map keyOf) ds),none,none,none]) ((a6 ((aG (ds:=[so]) rfl rfl).trans hk)).trans rfl) (aF (ρ':=[fz (brd bd),fz so,fz (sg c),fz (.dct (ks.map keyOf) ds),some (.ow (.lst [])),none,none]) rfl (aF (i3 (mQ (CL (n:=bd.length) (G5 (i:=0) rfl) (by omega)) lp)) (aL ?_))));refine(bg (xs:=[.lst ((TB bd.length).flatMap λi=>[.str (gG ((TB W).map λj=>if (i,j)∈l then c else at2 bd i j))])]) rfl).trans ?_;show aa (D.tup _)=aa (D.tup ((rq bd W l c).map D.str));unfold rq AR;rw[T7];have:∀l':List Nat,(l'.flatMap λi=>[D.str (gG ((TB W).map λj=>if (i,j)∈l then c else at2 bd i j))])=l'.map (D.str∘λi=>gG ((TB W).map λj=>if (i,j)∈l then c else at2 bd i j)):=by
  intro l';induction l' with
  |nil=>rfl
  |cons a l' ih=>rw[Vl,ih];rfl
 rw[this]
def nS{bd:List Str}{W:Nat}(hg:Brd bd W){l:List Cell}(hl:l.length<4000)(c:Nat):bW [brd bd,cL l,sg c]=aa (brd (rq bd W l c)):=
 pG hg (tK hl) (by simp[aU]) (λx=>kM) c
def HG{bd:List Str}{W:Nat}{l:List Cell}{c i j:Nat}(hi:i<bd.length)(hj:j<W):at2 (rq bd W l c) i j=if (i,j)∈l then c else at2 bd i j:=Ep hi hj
def mL(bd:List Str)(W:Nat)(l:List Cell)(c:Nat):(rq bd W l c).length=bd.length:=u9 ..
end K1
namespace K1
open PySem L2 L3
def Ej(l:List Cell):bA [cL l]=aa (.int (l.length:Int)):=by
 show aa (D.int ((l.map cD).length:Int))=_;rw[Te]
def rV(f:Cell->D)(x:Cell)(d:D):Cell->D:=λy=>if y=x then d else f y
theorem Bw:∀{ks:List Cell},x∈ks->iI (ks.map keyOf) (ks.map f) (keyOf x)=some (f x)
 |y::ks,h=>by
  show (if keyOf y=keyOf x then some (f y) else iI (ks.map keyOf) (ks.map f) (keyOf x))=_;by_cases e:y=x
  ·subst e;rw[Zn rfl]
  ·rw[Zo (λz=>e (kI z))];rcases Tz.mp h with q | q
   ·exact Zp q.symm e
   ·exact Bw q
theorem Bi:∀{ks:List Cell},pA (ks.map keyOf) (ks.map f) (keyOf x) d=ks.map (rV f x d)
 |[]=>rfl
 |y::ks=>by
  show (if keyOf y=keyOf x then d else f y)::pA (ks.map keyOf) (ks.map f) (keyOf x) d=_;rw[Bi,Ts];congr 1;unfold rV;by_cases e:y=x
  ·subst e;rw[Zn rfl,Zn rfl]
  ·rw[Zo (λz=>e (kI z)),Zo e]
def rank(W:Nat)(x:Cell):Nat:=x.1*W+x.2
def ib(ha:On R W a)(hb:On R W b):Dr a b=true↔rank W a<rank W b:=by
 unfold Dr rank;have h1:=ha.2;have h2:=hb.2;by_cases h:a.1=b.1
 ·rw[Zn h,Zs,h];omega
 ·rw[Zo h,Zs];constructor
  ·intro q;have:(a.1+1)*W<=b.1*W:=Y0 _ q;rw[Nat.add_mul,Nat.one_mul] at this;omega
  ·intro q;refine Classical.byContradiction λz=>?_;have:(b.1+1)*W<=a.1*W:=Y0 _ (by omega);rw[Nat.add_mul,Nat.one_mul] at this;omega
def Fd(ha:On R W a)(hb:On R W b)(h:rank W a=rank W b):a=b:=by
 have n1:¬Dr a b=true:=λz=>by have:=(ib ha hb).mp z;omega
 have n2:¬Dr b a=true:=λz=>by have:=(ib hb ha).mp z;omega
 unfold Dr at n1 n2;obtain⟨a1,a2⟩:=a;obtain⟨b1,b2⟩:=b;simp only at n1 n2;by_cases h1:a1=b1
 ·rw[Zn h1,Zs] at n1;rw[Zn h1.symm,Zs] at n2;rw[Prod.mk.injEq];exact⟨h1,by omega⟩
 ·rw[Zo h1,Zs] at n1;rw[Zo (Vh h1),Zs] at n2;omega
section
variable{W:Nat}
def mu(R W:Nat)(L:Cell->Cell):Nat:=((bh R W).map λx=>rank W (L x)).sum
end
def Pf(h:δ ρ=aa (cL l)):g7 δ ρ=aa (l.map cD):=by
 show (δ ρ>>=lstM)=_;rw[h];rfl
def jw(R W:Nat):RiseC (bh R W):=by
 unfold RiseC bh cU;rw[List.pairwise_flatMap];constructor
 ·intro r _;rw[WD];exact List.pairwise_lt_range.imp λh=>by show (if _ then _ else _)=true;rw[Zn rfl,Zs];exact h
 ·refine List.pairwise_lt_range.imp λ{a b} h x hx y hy=>?_;obtain⟨i,_,rfl⟩:=TV.mp hx;obtain⟨j,_,rfl⟩:=TV.mp hy;show (if a=b then _ else decide (a<b))=true;rw[Zo (by omega),Zs];exact h
section
variable{bd:List Str}{W w:Nat}
def Least(bd:List Str)(W w:Nat)(x m:Cell):Prop:=Cn bd W w x m/\∀z,Cn bd W w x z->rank W m<=rank W z
end
def LN:((bh 8 8).map λc=>gN (ic c)).Nodup:=by decide+kernel
theorem tV:∀{l:List α},(l.map f).Nodup->∀a∈l,∀b∈l,f a=f b->a=b
 |x::l,h,a,ha,b,hb,e=>by
  rw[Ts,Ul] at h;by_cases h1:a=x
  ·by_cases h2:b=x
   ·rw[h1,h2]
   ·have hb:b∈l:=(Tz.mp hb).resolve_left h2;exact Zp (TV.mpr ⟨b,hb,by rw[<-h1];exact e.symm⟩) h.1
  ·have ha:a∈l:=(Tz.mp ha).resolve_left h1;by_cases h2:b=x
   ·exact Zp (TV.mpr ⟨a,ha,by rw[<-h2];exact e⟩) h.1
   ·exact tV h.2 a ha b ((Tz.mp hb).resolve_left h2) e
def GL(hR:R<=8)(hW:W<=8){l:List Cell}(hn:l.Nodup)(D8:∀x∈l,On R W x):(l.map λc=>gN (ic c)).Nodup:=by
 have h8:∀x∈l,x∈bh 8 8:=λx hx=>bM.mpr ⟨by have:=(D8 x hx).1;omega,by have:=(D8 x hx).2;omega⟩;rw[US,WD];refine List.Pairwise.imp_of_mem (λ{a b} ha hb h z=>h ?_) hn;exact tV LN a (h8 a ha) b (h8 b hb) z
def Kz{ks:List Cell}{f:Cell->D}{x:Cell}{d:D}:eQ (ks.map keyOf) (ks.map f) (keyOf x)=(dw ks x).map keyOf/\dn (ks.map keyOf) (ks.map f) (keyOf x) d=(dw ks x).map (rV f x d):=by
 unfold dw eQ dn;by_cases h:x∈ks
 ·rw[Bw h,Zn h];exact⟨rfl,Bi⟩
 ·rw[kY h,Zo h];have e1:ks.map f=ks.map (rV f x d):=UZ λy hy=>by
   unfold rV;rw[Zo (λz:y=x=>h (z▸hy))]
  have e2:(ks++[x]).map (rV f x d)=ks.map (rV f x d)++[d]:=by
   rw[UR];congr 1;show [rV f x d x]=[d]
   unfold rV;rw[Zn rfl]
  exact⟨by rw[UR];rfl,by rw[e2,<-e1];rfl⟩
theorem qN:∀(l ks:List Cell),cP (ks.map keyOf) (aU ks) (l.map keyOf) (aU l)=((l.foldl dw ks).map keyOf,aU (l.foldl dw ks))
 |[],ks=>rfl
 |x::l,ks=>by
  show cP (eQ (ks.map keyOf) (aU ks) (keyOf x)) (dn (ks.map keyOf) (aU ks) (keyOf x) (.bl true)) (l.map keyOf) (aU l)=_;have h:=Kz (ks:=ks) (f:=λ_=>D.bl true) (x:=x) (d:= .bl true);have e:rV (λ_=>D.bl true) x (.bl true)=λ_=>D.bl true:=by
   funext y;unfold rV;split<;>rfl
  rw[e] at h;rw[show aU ks=ks.map (λ_=>D.bl true) from rfl,h.1,h.2];exact qN l (dw ks x)
def DU{l ks:List Cell}(h:ks.Nodup):(l.foldl dw ks).Nodup:=(qp l ks).1 h
section
open Classical
variable{bd:List Str}{W w:Nat}
noncomputable def aH(bd:List Str)(W w:Nat)(m:Cell):List Cell:=(bh bd.length W).filter λx=>decide (Cn bd W w m x)
noncomputable def eI(bd:List Str)(W w:Nat)(l:List Cell):List Cell:=l.filter λx=>decide (Least bd W w x x)
def eg(hw:Ways w){m:Cell}(hm:On bd.length W m):IsPatch bd W w m (aH bd W w m):=by
 refine⟨(jw _ _).filter _,λx=>?_⟩;unfold aH;rw[UE,bM,Zs];exact⟨λh=>h.2,λh=>⟨h.on hw hm,h⟩⟩
theorem Least.on(hw:Ways w){x m:Cell}(hx:On bd.length W x)(h:Least bd W w x m):On bd.length W m:=h.1.on hw hx
def Least.move(hw:Ways w){x y m:Cell}(hx:On bd.length W x)(h:Least bd W w x m)(hy:Cn bd W w x y):Least bd W w y m:=
 ⟨(hy.symm hw hx).trans h.1,λz hz=>h.2 z (hy.trans hz)⟩
def Least.self(hw:Ways w){x m:Cell}(hx:On bd.length W x)(h:Least bd W w x m):Least bd W w m m:=h.move hw hx h.1
variable(L:Cell->Cell)
def Cb(hw:Ways w):∃L:Cell->Cell,∀x,On bd.length W x->Least bd W w x (L x):=by
 have h:∀x,∃m,On bd.length W x->Least bd W w x m:=λx=>by
  by_cases hx:On bd.length W x
  ·have hP:=eg hw hx;cases hp:aH bd W w x with
   |nil=>have:=(hP.mem x).mpr Cn.refl;rw[hp] at this;cases this
   |cons m r=>
    rw[hp] at hP;have hm:=(hP.mem m).mp (Th ..);refine⟨m,λ_=>⟨hm,λz hz=>?_⟩⟩;rcases Tz.mp ((hP.mem z).mpr hz) with rfl | Se
    ·exact Tr _
    ·exact U6 ((ib (hm.on hw hx) (hz.on hw hx)).mp ((UQ.mp hP.rise).1 z Se))
  ·exact⟨x,λz=>Zp z hx⟩
 exact⟨λx=>Classical.choose (h x),λx=>Classical.choose_spec (h x)⟩
noncomputable def rh(bd:List Str)(W w:Nat):D:= .lst ((eI bd W w (bh bd.length W)).map λm=>cL (aH bd W w m))
end
section
open Classical
variable{bd:List Str}{W w:Nat}
noncomputable def BD(bd:List Str)(W w:Nat)(s:List Cell):List D:=(eI bd W w s).map λm=>cL (aH bd W w m)
noncomputable def Jj(bd:List Str)(W w:Nat)(s ks:List Cell)(x4 x5:Option Sl):aM:=[fz (brd bd),fz (iW w),some (.ow (.lst (BD bd W w s))),some (.ow (.dct (ks.map keyOf) (aU ks))),x4,x5]
structure Seen (bd:List Str) (W w:Nat) (s ks:List Cell):Prop where
 nd:ks.Nodup
 on:∀y∈ks,On bd.length W y
 mem:∀y,y∈ks↔∃m∈eI bd W w s,Cn bd W w m y
def FW(h0:ρ[i]? =some (some (.ow (.dct (ks.map keyOf) (aU ks)))))(hd:δ ρ=aa (zw l))(hz:ks.length+l.length<=4096)(hh:ks=[]->((bZ l).map λc=>gN (ic c)).Nodup):
 Ft i δ ρ=aa (.nx (ρ.set i (some (.ow (.dct (((bZ l).foldl dw ks).map keyOf) (aU ((bZ l).foldl dw ks))))))):=by
 unfold Ft Cu;rw[h0];show (δ ρ>>=λd=>match FV (ks.map keyOf) (aU ks) d with | some c'=>aa (Out.nx (ρ.set i (some (.ow c')))) | none=>af)=_;rw[hd,ai];have:FV (ks.map keyOf) (aU ks) (zw l)=some (.dct (((bZ l).foldl dw ks).map keyOf) (aU ((bZ l).foldl dw ks))):=by
  show (match gu ((bZ l).map keyOf) with | some ns=>if (aU ks).length+(aU (bZ l)).length<=lim/\((ks.map keyOf).isEmpty=true->(ns.map gN).Nodup) then some (C.dct (cP (ks.map keyOf) (aU ks) ((bZ l).map keyOf) (aU (bZ l))).1 (cP (ks.map keyOf) (aU ks) ((bZ l).map keyOf) (aU (bZ l))).2) else none | none=>none)=_;rw[nq];show (if (aU ks).length+(aU (bZ l)).length<=lim/\((ks.map keyOf).isEmpty=true->(((bZ l).map ic).map gN).Nodup) then some (C.dct (cP (ks.map keyOf) (aU ks) ((bZ l).map keyOf) (aU (bZ l))).1 (cP (ks.map keyOf) (aU ks) ((bZ l).map keyOf) (aU (bZ l))).2) else none)=_;have c1:(aU ks).length+(aU (bZ l)).length<=lim:=by
   have:=Cd l;unfold aU;rw[Te,Te,c_];omega
  have c2:(ks.map keyOf).isEmpty=true->(((bZ l).map ic).map gN).Nodup:=λz=>by
   rw[T7];exact hh (by cases ks with | nil=>rfl | cons _ _=>cases z)
  rw[Zn ⟨c1,c2⟩,qN]
 rw[this]
def yy(hg:Brd bd W)(hs:bd.length*W<64)(hw:Ways w)(hx:On bd.length W x)(h0:dV 0 ρ=aa (brd bd))(h1:dV 1 ρ=aa (iW w))(h4:dV 4 ρ=aa (cD x)):
 dA rR (aC (aw 3 bD (aC (dV 0) (aC (dV 4) (aC (dV 1) aN)))) aN) ρ=aa (cL (aH bd W w x)):=by
 obtain⟨k,ks,ps,q1,q2,q3⟩:=ku hg hw hx;have e1:aw 3 bD (aC (dV 0) (aC (dV 4) (aC (dV 1) aN))) ρ=aa (Dd ks ps):=(aG (ao h0 (ao h4 (ao h1 rfl))) rfl).trans q3;refine(bg (ao e1 rfl)).trans ((yz q1.nd (VP (l7 q1.nd q2) hs)).trans ?_);have:oW ks=aH bd W w x:=IsPatch.one ⟨rQ q1.nd,λx=>tR.trans (q1.last x)⟩ (eg hw hx);rw[this]
def iZ(s:List Cell)(x:Cell):eI bd W w (s++[x])=if Least bd W w x x then eI bd W w s++[x] else eI bd W w s:=by
 unfold eI;rw[List.filter_append];by_cases h:Least bd W w x x
 ·rw[Zn h,List.filter_cons_of_pos (by rw[Zs];exact h),List.filter_nil]
 ·rw[Zo h,List.filter_cons_of_neg (by rw[Zs];exact h),List.filter_nil,T_]
def Gi(hg:Brd bd W)(hs:bd.length*W<64)(hw:Ways w){L:Cell->Cell}(hL:∀x,On bd.length W x->Least bd W w x (L x))(e:s++x::r=bh bd.length W)(h:Seen bd W w s ks):
 ∃ks',Seen bd W w (s++[x]) ks'/\Oc (Jj bd W w s ks (fz (cD x)) none)=aa (.nx (Jj bd W w (s++[x]) ks' none none)):=by
 have hx:On bd.length W x:=bM.mp (by rw[<-e];simp);have D_:=jw bd.length W;rw[<-e] at D_;have NK:∀y∈s,On bd.length W y:=λy hy=>bM.mp (by rw[<-e];simp[hy]);have O5:∀y∈r,On bd.length W y:=λy hy=>bM.mp (by rw[<-e];simp[hy]);have GN:∀y∈s,rank W y<rank W x:=λy hy=>(ib (NK y hy) hx).mp ((YT.mp D_).2.2 y hy x (Th ..));have JD:∀y∈r,rank W x<rank W y:=λy hy=>(ib hx (O5 y hy)).mp ((UQ.mp (YT.mp D_).2.1).1 y hy);have S7:ks.length<=64:=by have:=l7 h.nd h.on;omega
 have IT:s.length<64:=by
  have:=Zv List.length e;rw[d6,Tt,Tn] at this;omega
 have ht:Jf (ej (d2 (lL true) (dV 4) (dV 3))) (Jj bd W w s ks (fz (cD x)) none)=aa (!decide (x∈ks)):=
  FL (fC ((av rfl rfl).trans (uX (by simp[aU]))))
 by_cases hl:Least bd W w x x
 ·have Pb:x∉ks:=λz=>by
   obtain⟨m,hm,hc⟩:=(h.mem x).mp z;unfold eI at hm;rw[UE,Zs] at hm;have h1:=GN m hm.1;have h2:=hl.2 m (hc.symm hw (NK m hm.1));omega
  rw[Zr Pb] at ht;have hP:=eg hw hx;have JC:∀y∈aH bd W w x,On bd.length W y:=λy hy=>((hP.mem y).mp hy).on hw hx;have Ov:(aH bd W w x).length<=64:=by have:=l7 hP.rise.nodup JC;omega
  have NA:(BD bd W w s).length<lim:=by
   unfold BD;rw[Te,c_];have:=U2 (λx=>decide (Least bd W w x x)) s;unfold eI;omega
  refine⟨(bZ (aH bd W w x)).foldl dw ks,⟨DU h.nd,λy hy=>?_,λy=>?_⟩,?_⟩
  ·rcases((qp (bZ (aH bd W w x)) ks).2.1 y).mp hy with q | q
   ·exact h.on y q
   ·exact JC y (kM.mp q)
  ·rw[(qp (bZ (aH bd W w x)) ks).2.1 y,kM,h.mem y,iZ,Zn hl,hP.mem y];constructor
   ·rintro(⟨m,hm,hc⟩ | hc)
    ·exact⟨m,Ud.mpr (.inl hm),hc⟩
    ·exact⟨x,by simp,hc⟩
   ·rintro⟨m,hm,hc⟩;rcases Ud.mp hm with hm | hm
    ·exact .inl ⟨m,hm,hc⟩
    ·rw[TQ.mp hm] at hc;exact .inr hc
  ·have ef:BD bd W w (s++[x])=BD bd W w s++[cL (aH bd W w x)]:=by
    unfold BD;rw[iZ,Zn hl,UR];rfl
   refine(c6 (ρ':=[fz (brd bd),fz (iW w),some (.ow (.lst (BD bd W w s++[cL (aH bd W w x)]))),some (.ow (.dct (((bZ (aH bd W w x)).foldl dw ks).map keyOf) (aU ((bZ (aH bd W w x)).foldl dw ks)))),fz (cD x),fz (cL (aH bd W w x))]) (fB ht (aF ((a6 (yy hg hs hw hx rfl rfl rfl)).trans rfl) (aF (ρ':=[fz (brd bd),fz (iW w),some (.ow (.lst (BD bd W w s++[cL (aH bd W w x)]))),some (.ow (.dct (ks.map keyOf) (aU ks))),fz (cD x),fz (cL (aH bd W w x))]) ?_ ?_)))).trans ?_
   ·show (if (BD bd W w s).length<lim then aa (Out.nx [fz (brd bd),fz (iW w),some (.ow (.lst (BD bd W w s++[cL (aH bd W w x)]))),some (.ow (.dct (ks.map keyOf) (aU ks))),fz (cD x),fz (cL (aH bd W w x))]) else af)=_;rw[Zn NA]
   ·exact(FW rfl ((aG rfl rfl).trans (tK (by omega))) (by omega) (λ_=>GL hg.r8 hg.w8 (Et _) λy hy=>JC y (kM.mp hy))).trans rfl
   ·unfold Jj;rw[ef];rfl
 ·have hm:=hL x hx;have iM:L x≠x:=λz=>hl (by rw[z] at hm;exact hm);have iL:rank W (L x)<rank W x:=by
   have h1:=hm.2 x Cn.refl;have h2:rank W (L x)≠rank W x:=λz=>iM (Fd (hm.on hw hx) hx z);omega
  have RX:L x∈s:=by
   have:L x∈s++x::r:=by rw[e];exact bM.mpr (hm.on hw hx)
   rcases Ud.mp this with q | q
   ·exact q
   ·rcases Tz.mp q with q | q
    ·exact Zp q iM
    ·have:=JD _ q;omega
  have Pb:x∈ks:=(h.mem x).mpr ⟨L x,by unfold eI;rw[UE,Zs];exact⟨RX,hm.self hw hx⟩,hm.1.symm hw hx⟩;rw[Zq Pb] at ht;refine⟨ks,⟨h.nd,h.on,λy=>by rw[iZ,Zo hl];exact h.mem y⟩,?_⟩;have ef:BD bd W w (s++[x])=BD bd W w s:=by
   unfold BD;rw[iZ,Zo hl]
  refine(c6 (c7 ht rfl)).trans ?_;unfold Jj;rw[ef];rfl
theorem As(hg:Brd bd W)(hs:bd.length*W<64)(hw:Ways w){L:Cell->Cell}(hL:∀x,On bd.length W x->Least bd W w x (L x)):∀(r s ks:List Cell),s++r=bh bd.length W->Seen bd W w s ks->
 ∃ks',forL (putN 4) Oc (r.map cD) (Jj bd W w s ks none none)=aa (.nx (Jj bd W w (bh bd.length W) ks' none none))
 |[],s,ks,e,h=>by
  rw[T_] at e;exact⟨ks,by rw[e];rfl⟩
 |x::r,s,ks,e,h=>by
  obtain⟨Sg,h1,e1⟩:=Gi hg hs hw hL e h;obtain⟨Sh,e2⟩:=As hg hs hw hL r (s++[x]) Sg (by rw[WE];exact e) h1;exact⟨Sh,(kF rfl e1).trans e2⟩
def o4(hg:Brd bd W)(hs:bd.length*W<64)(hw:Ways w):cW [brd bd,iW w]=aa (rh bd W w):=by
 obtain⟨L,hL⟩:=Cb hw;obtain⟨ks,e⟩:=As hg hs hw hL (bh bd.length W) [] [] rfl ⟨Ws,(λy hy=>(by cases hy)),(λy=>⟨λz=>(by cases z),λ⟨m,hm,_⟩=>(by cases hm)⟩)⟩;refine bL (aF rfl (aF rfl (aF (i3 (mQ (Pf ((aG rfl rfl).trans (sk hg))) e)) rfl)))
end
theorem qm(g:α->β):∀l:List α,(l.flatMap λr=>[g r])=l.map g
 |[]=>rfl
 |a::l=>by rw[Vl,qm g l];rfl
section
open Classical
variable{bd:List Str}{W w:Nat}
noncomputable def eM(bd:List Str)(W w:Nat):List (List Cell):=(eI bd W w (bh bd.length W)).map (aH bd W w)
def zV:rh bd W w= .lst ((eM bd W w).map cL):=by
 unfold rh eM;rw[T7];rfl
def xF(h:m∈eI bd W w (bh bd.length W)):On bd.length W m:=by
 unfold eI at h;exact bM.mp (UE.mp h).1
def zy:(eM bd W w).length<=bd.length*W:=by
 unfold eM eI;rw[Te,<-d6 bd.length W];exact U2 ..
end
end K1
namespace K1
open PySem PySem.Spec L2 L3
open PyProof.Rows hiding St
def Pg(h:δ ρ=aa (.lst ds)):g7 δ ρ=aa ds:=by
 unfold g7;rw[h];rfl
theorem qT:∀l:List Int,nums (l.map D.int)=some l
 |[]=>rfl
 |x::l=>by
  show (nums (l.map D.int)).map _=_;rw[qT l];rfl
def Sk(h:0<l.length):Mn [.lst (l.map D.int)]=aa (.int (G9 l)):=by
 show (match nums (l.map D.int) with | some ns=>if 0<ns.length then aa (D.int (G9 ns)) else af | none=>af)=_;rw[qT];exact Zn h
def ne_self{d:D}(h:o8 6 d d=some true):gr d d=aa (.bl false):=by
 unfold gr;rw[h];rfl
def Br{l:List Int}(h:δ ρ=aa (.lst (l.map D.int))):dA uh (aC δ aN) ρ=aa (.int l.sum):=by
 refine(bg (ao h rfl)).trans ?_;show (match nums (l.map D.int) with | some ns=>aa (D.int ns.sum) | none=>af)=_;rw[qT]
def uP(a b:Int):kG (.int a) (.int b)=aa (.bl (a==b)):=by
 unfold kG;rw[fW]
def fi{i:Nat}(h:l[i]? =some d):cT (.lst l) (.int (i:Int))=aa d:=by
 show (match L2.atI l (i:Int) with | some x=>aa x | none=>af)=_;rw[hZ h]
def IZ(m:Nat)(hm:m<=64)(hn:δn ρ=aa (.int (m:Int)))(h:∀k:Nat,k<m->δ (fz (.int (k:Int))::ρ)=aa (g k)):bj 0 (λρ=>(aC δn aN) ρ>>=ei) bI δ ρ=aa (.lst ((TB m).map g)):=by
 refine bS (CL hn (by omega)) (d4 (λ(k:Nat)=>D.int (k:Int)) g (TB m) λk hk=>?_) (by rw[Te,U0,c_];omega);rw[g6,h k (UP.mp hk)];rfl
end K1
namespace K1
open PySem L2 L3 HT
theorem m8(x:Str)(c:Nat):∀(n a:Nat) (st:Array Nat×Nat),a+n<=x.length+1->st.snd<=a->st.fst.size<=a->
 (forIn (Uq a n) st (Y8 x ⟨#[c]⟩ x.length (x.length+1))).run.fst.size=st.fst.size+((Uq a n).filter λi=>decide (x.cps.toList[i]? =some c)).length
 |0,a,st,_,_,_=>rfl
 |n+1,a,st,h1,h2,h3=>by
  rw[VG,WY,V4];have key:=StrLaws.subAt_one x c a;unfold Y8;by_cases hc:x.cps.toList[a]? =some c
  ·have k:=key.mpr hc;rw[Zn ⟨⟨⟨by omega,h2⟩,k.1⟩,k.2⟩,Zn (Zq hc)];have ih:=m8 x c n (a+1) (st.fst.push a,a+(⟨#[c]⟩:Str).length) (by omega) (Tr _) (by simp;omega);refine Eq.trans ih ?_;simp;omega
  ·rw[Zo (λz=>hc (key.mp ⟨z.1.2,z.2⟩)),Zo (by simpa using hc)];exact m8 x c n (a+1) (st.fst,st.snd) (by omega) (by show st.snd<=a+1;omega) (by show st.fst.size<=a+1;omega)
theorem uM(c:Nat):∀l:List Nat,((TB (l.length+1)).filter λi=>decide (l[i]? =some c)).length=l.count c
 |[]=>by simp[Wf]
 |a::l=>by
  rw[Tn,Vr,V4,X7];have e:((λi=>decide ((a::l)[i]? =some c))∘YE)=λi=>decide (l[i]? =some c):=by
   funext i;simp
  rw[e];by_cases h:a=c
  ·subst h;simp only[Ue,decide_true,if_true,Tn,Te,uM a l,List.count_cons_self]
  ·have h':¬(a==c)=true:=by simpa using h
   simp only[Ue,Option.some.injEq,h,decide_false,Uc,if_false,Te,uM c l];rw[List.count_cons_of_ne h]
def Gr(x:Str)(c:Nat):(U7 x ⟨#[c]⟩ 0 x.length (x.length+1)).length=x.cps.toList.count c:=by
 have k:=m8 x c (x.length+1 - 0) 0 (#[],0) (by omega) (Tr _) (Tr _);rw[StrLaws.occ_eq,TZ,k,<-uM c x.cps.toList];show 0+_=_;rw[Wr,TZ,W_];rfl
theorem xa{α:Type}{f:D->M (Option D)}(Zx:α->D)(p:α->Bool)(g:α->D):∀(xs:List α),(∀x∈xs,f (Zx x)=aa (if p x then some (g x) else none))->dG f (xs.map Zx)=aa ((xs.filter p).map g)
 |[],_=>rfl
 |x::xs,h=>by
  rw[Ts,eZ,h x (Th ..),ai,xa Zx p g xs λy hy=>h y (Tf _ hy),V4];cases p x<;>rfl
end K1
namespace K1
open PySem L2 L3
open PyProof.Rows hiding St
def de(b:List Str)(j:Nat):List Nat:=(TB b.length).map λi=>at2 b i j
def eE(l:List Nat):List Nat:=TH (l.length - (l.filter (· !=46)).length) 46++l.filter (· !=46)
def m_(l:List Nat):(eE l).length=l.length:=by
 unfold eE;rw[Tt,U1];have:=U2 (· !=46) l;omega
def gi(b:List Str)(j:Nat):(de b j).length=b.length:=by unfold de;rw[Te,U0]
def jz(b:List Str)(W:Nat):List Str:=AR b.length W λi j=>(eE (de b j)).getD i 0
def FF{x:Str}{l:List Nat}(h:x.cps.toList=l):x=gG l:=by
 cases x with
 |mk a=>cases a with | mk y=>cases h;rfl
def HK(l:List Nat):Wi (gG l) (TC ".") (TC "")=gG (l.filter (· !=46)):=FF ((replace_strikes (gG l) 46).trans rfl)
def Fh(l:List Nat)(n:Nat):WG (gG l) (n:Int) 46=gG (TH (n - l.length) 46++l):=FF ((rjustF_list (gG l) (n:Int) 46).trans rfl)
def pQ(l:List Nat):(gG l).length=l.length:=rfl
def y9{kd:D->Bool}{g:D->List D->M D}{o:DE}{s:DA}{ρ:aM}{d:D}{ds:List D}(h1:o ρ=aa d)(h2:kd d=true)(h3:s ρ=aa ds):dM kd g o s ρ=g d ds:=by
 unfold dM;rw[h1,ai,Zn h2,h3];rfl
section
variable{bd:List Str}{W:Nat}
def Du(hg:Brd bd W){k:Nat}(hk:k<W){ρ:aM}{i:Nat}(h0:ρ[0]? =some (fz (brd bd)))(hi:ρ[i]? =some (fz (.int (k:Int)))):dM sC joinM (dC (.str "")) (aC (bj 0 (qf (dV 0)) bI (d2 jB (dV 0) (dV (i+1)))) aN) ρ=aa (.str (gG (de bd k))):=by
 have r8:=hg.r8;have cm:bj 0 (qf (dV 0)) bI (d2 jB (dV 0) (dV (i+1))) ρ=aa (.lst ((de bd k).map sg)):=by
  have e0:bd=(TB bd.length).map λj=>bd.getD j ⟨#[]⟩:=by
   refine V5 (by simp) λj h1 h2=>?_;rw[Vp,Xy,Tw,Tg h1];rfl
  refine bS (ds:=bd.map D.str) ?_ ?_ (by rw[Te,gi,c_];omega)
  ·show (dV 0 ρ>>=_)=_;unfold dV;rw[h0];rfl
  ·have:dG (ie 0 bI (d2 jB (dV 0) (dV (i+1))) ρ) (((TB bd.length).map λj=>bd.getD j ⟨#[]⟩).map D.str)=aa ((de bd k).map sg):=by
    unfold de;rw[T7,T7];refine d4 (D.str∘λj=>bd.getD j ⟨#[]⟩) _ _ λj hj=>?_;have hj:=UP.mp hj;have hl:k<(bd.getD j ⟨#[]⟩).length:=by rw[(hg.rows _ (getD_mem hj)).len];exact hk
    rw[g6];show (d2 jB (dV 0) (dV (i+1)) (fz (.str (bd.getD j ⟨#[]⟩))::ρ)>>=λy=>aa (some y))=_;rw[av (x:= .str (bd.getD j ⟨#[]⟩)) (y:= .int (k:Int)) rfl (by unfold dV;rw[T4,hi]),wa hl];rfl
   rw[<-e0] at this;exact this
 refine(y9 (d:= .str "") rfl rfl (ao cm rfl)).trans (uZ (by rw[gi];omega))
def DQ(hg:Brd bd W){k:Nat}(hk:k<W):dR [brd bd, .int (k:Int)]=aa (.str (gG (eE (de bd k)))):=by
 have r8:=hg.r8;have cl:=gi bd k;have fl:=U2 (· !=46) (de bd k);refine bL (aF (a6 (Du hg hk rfl rfl)) (aL ?_));have e1:AB "." (dV 2) [fz (brd bd),fz (.int (k:Int)),fz (.str (gG (de bd k)))]=aa (.str (gG ((de bd k).filter (· !=46)))):=by
  show (if (gG (de bd k)).length<=1000/\(Wi (gG (de bd k)) (TC ".") (TC "")).length<=lim then aa (D.str (Wi (gG (de bd k)) (TC ".") (TC ""))) else af)=_;rw[HK,Zn ⟨by rw[pQ];omega,by rw[pQ,c_];omega⟩]
 refine(y9 (d:= .str (gG ((de bd k).filter (· !=46)))) (ds:=[.int ((bd.length:Nat):Int), .str "."]) e1 rfl (ao ((bg (xs:=[brd bd]) (ao rfl rfl)).trans ?_) rfl)).trans ?_
 ·show aa (D.int (((bd.map D.str).length:Nat):Int))=_;rw[Te]
 ·show (if PadOk ((bd.length:Nat):Int)=true/\(TC ".").length=1/\(WG (gG ((de bd k).filter (· !=46))) ((bd.length:Nat):Int) 46).length<=lim then aa (D.str (WG (gG ((de bd k).filter (· !=46))) ((bd.length:Nat):Int) 46)) else af)=_;have e2:WG (gG ((de bd k).filter (· !=46))) ((bd.length:Nat):Int) 46=gG (eE (de bd k)):=by rw[Fh];unfold eE;rw[cl]
  have e3:PadOk ((bd.length:Nat):Int)=true:=by
   generalize bd.length=n at r8
   match n,r8 with
   |0,_ | 1,_ | 2,_ | 3,_ | 4,_ | 5,_ | 6,_ | 7,_ | 8,_=>rfl
  rw[e2,Zn ⟨e3,rfl,by rw[pQ,m_,c_];omega⟩]
end
section
variable{bd:List Str}{W:Nat}
abbrev s_(bd:List Str)(W:Nat):D:= .lst ((TB W).map λj=> .str (gG (eE (de bd j))))
def Jr(l:List Nat)(i:Nat):ch (gG l) i=l.getD i 0:=by
 unfold ch gG;simp
def DP(hg:Brd bd W){i:Nat}(hi:i<bd.length){x0 x2:Option Sl}{ρ:aM}:dM sC joinM (dC (.str "")) (aC (bj 0 (g7 (dV 1)) bI (d2 jB (dV 0) (dV 4))) aN) (x0::fz (s_ bd W)::x2::fz (.int (i:Int))::ρ)=aa (.str (gG ((TB W).map λj=>(eE (de bd j)).getD i 0))):=by
 have w8:=hg.w8;refine(y9 (d:= .str "") (ds:=[.lst (((TB W).map λj=>(eE (de bd j)).getD i 0).map sg)]) rfl rfl (ao (bS (ds:=(TB W).map λj=> .str (gG (eE (de bd j)))) rfl ?_ (by simp[c_];omega)) rfl)).trans (uZ (by simp;omega));rw[T7];refine d4 (λj:Nat=>D.str (gG (eE (de bd j)))) _ _ λj hj=>?_;rw[g6];show (jB (.str (gG (eE (de bd j)))) (.int (i:Int))>>=λy=>aa (some y))=_;rw[wa (by rw[pQ,m_,gi];exact hi),Jr];rfl
def ze(hg:Brd bd W):jy [brd bd]=aa (brd (jz bd W)):=by
 have r8:=hg.r8;have w8:=hg.w8;have lp:=ik (put:=putN 3) (body:=fZ [3] (k_ 2 (dM sC joinM (dC (.str "")) (aC (bj 0 (g7 (dV 1)) bI (d2 jB (dV 0) (dV 4))) aN)))) (B:=100) (λ(k:Nat)=>D.int (k:Int)) (λM2=>[fz (brd bd),fz (s_ bd W),some (.ow (.lst M2)),none]) (λi=>[.str (gG ((TB W).map λj=>(eE (de bd j)).getD i 0))]) (TB bd.length) [] (by
  rw[UA,qm,Te,U0];omega) λi hi M2 ha=>by
  have hi:=UP.mp hi;refine⟨[fz (brd bd),fz (s_ bd W),some (.ow (.lst M2)),fz (.int (i:Int))],rfl,?_⟩;refine(c6 (ρ':=[fz (brd bd),fz (s_ bd W),some (.ow (.lst (M2++[.str (gG ((TB W).map λj=>(eE (de bd j)).getD i 0))]))),fz (.int (i:Int))]) ?_).trans rfl;show (dM sC joinM _ _ _>>=λd=>if M2.length<lim then aa (Out.nx _) else af)=_;rw[DP hg hi,ai,Zn (by rw[c_];rw[Tt] at ha;simp at ha;omega)];rfl
 refine bL (aF (ρ':=[fz (brd bd),fz (s_ bd W),none,none]) ((a6 (IZ W (by omega) (hg.wd.len0 (i:=0) rfl) λk hk=>?_)).trans rfl) (aF (ρ':=[fz (brd bd),fz (s_ bd W),some (.ow (.lst [])),none]) rfl (aF (i3 (mQ (CL (n:=bd.length) (G5 (i:=0) rfl) (by omega)) lp)) (aL ?_))))
 ·exact(aG (ds:=[brd bd, .int (k:Int)]) rfl rfl).trans (DQ hg hk)
 ·refine(bg (xs:=[.lst ((TB bd.length).flatMap λi=>[.str (gG ((TB W).map λj=>(eE (de bd j)).getD i 0))])]) rfl).trans ?_;show aa (D.tup _)=aa (D.tup ((jz bd W).map D.str));unfold jz AR;rw[T7,qm];rfl
def ij(bd:List Str)(W:Nat):(jz bd W).length=bd.length:=u9 ..
def DN{i j:Nat}(hi:i<bd.length)(hj:j<W):at2 (jz bd W) i j=(eE (de bd j)).getD i 0:=Ep hi hj
def BW{j:Nat}(hj:j<W):de (jz bd W) j=eE (de bd j):=by
 refine V5 (by rw[gi,m_,gi,ij]) λi h1 h2=>?_;have h3:i<bd.length:=by rw[gi,ij] at h1;exact h1
 have e:(de (jz bd W) j)[i]=at2 (jz bd W) i j:=by simp[de]
 rw[e,DN h3 hj,Tw,Tg h2];rfl
def BV(hg:Brd bd W):Brd (jz bd W) W:=⟨by rw[ij];exact hg.r1,by rw[ij];exact hg.r8,hg.w1,hg.w8,λr hr=>⟨AS r hr⟩⟩
def yg(hg:Brd bd W)(l:List Cell)(c:Nat):Brd (rq bd W l c) W:=⟨by rw[mL];exact hg.r1,by rw[mL];exact hg.r8,hg.w1,hg.w8,λr hr=>⟨AS r hr⟩⟩
end
def m7(p:Nat->Bool)(b:List Str)(W:Nat):Nat:=(bh b.length W).countP λx=>p (lt b x)
def sm(n:Nat)(f:Nat->Nat):Nat:=((TB n).map f).sum
def kW(n:Nat)(f:Nat->Nat):sm (n+1) f=sm n f+f n:=by
 unfold sm;rw[Wf,UR,List.sum_append];simp
def Bq(f:Nat->Nat):sm 0 f=0:=rfl
def mU{n:Nat}{f g:Nat->Nat}(h:∀i,i<n->f i=g i):sm n f=sm n g:=by
 unfold sm;rw[UZ λi hi=>h i (UP.mp hi)]
def KQ(n:Nat)(f g:Nat->Nat):sm n (λi=>f i+g i)=sm n f+sm n g:=by
 induction n with
 |zero=>rfl
 |succ n ih=>rw[kW,kW,kW,ih];omega
def HW(n m:Nat)(f:Nat->Nat->Nat):sm n (λi=>sm m (f i))=sm m λj=>sm n λi=>f i j:=by
 induction n with
 |zero=>
  rw[Bq];have:∀m,sm m (λj=>sm 0 λi=>f i j)=0:=λm=>by
   induction m with
   |zero=>rfl
   |succ m ih=>rw[kW,ih,Bq]
  rw[this]
 |succ n ih=>
  rw[kW,ih,<-KQ];exact mU λj _=>(kW n λi=>f i j).symm
def ind(b:Bool):Nat:=if b then 1 else 0
theorem iR{α:Type}(p:α->Bool):∀l:List α,l.countP p=(l.map λx=>ind (p x)).sum
 |[]=>rfl
 |a::l=>by
  rw[V6,iR p l,Ts,VN];unfold ind;omega
def Gu(p:Nat->Bool)(n:Nat):(TB n).countP p=sm n λi=>ind (p i):=iR p _
def Az(p:Nat->Bool)(b:List Str)(W:Nat):m7 p b W=sm b.length λi=>sm W λj=>ind (p (at2 b i j)):=by
 unfold m7 bh;rw[List.countP_flatMap];unfold sm;congr 1;refine UZ λi _=>?_;show (cU W i).countP _=_;unfold cU;rw[List.countP_map];exact iR _ _
def w_(p:Nat->Bool)(b:List Str)(W:Nat):m7 p b W=sm W λj=>(de b j).countP p:=by
 rw[Az,HW];refine mU λj _=>?_;unfold de;rw[List.countP_map];exact(Gu _ _).symm
def BP{p:Nat->Bool}(hp:p 46=false)(l:List Nat):(eE l).countP p=l.countP p:=by
 unfold eE;rw[List.countP_append,List.countP_replicate,hp,List.countP_filter];simp only[Uc,if_false,Wr];refine Zl λx _=>?_;constructor
 ·intro h;exact(UC.mp h).1
 ·intro h;refine UC.mpr ⟨h,?_⟩;refine bne_iff_ne.mpr λz=>?_;rw[z,hp] at h;cases h
def Ds{p:Nat->Bool}(hp:p 46=false)(b:List Str)(W:Nat):m7 p (jz b W) W=m7 p b W:=by
 rw[w_,w_];exact mU λj hj=>by rw[BW hj,BP hp]
def Gq{R W:Nat}{P:List Cell}(hn:P.Nodup)(ho:∀x∈P,On R W x):((bh R W).countP λx=>decide (x∈P))=P.length:=by
 rw[X0];refine Yd (jH ((jw R W).nodup.filter _) λx hx=>Zt (UE.mp hx).2) (jH hn λx hx=>UE.mpr ⟨bM.mpr (ho x hx),Zq hx⟩)
def Gs{p:Nat->Bool}(hp:p 46=false){b:List Str}{W s:Nat}{P:List Cell}(hn:P.Nodup)(ho:∀x∈P,On b.length W x)(hs:∀x∈P,lt b x=s):
 m7 p (rq b W P 46) W+(if p s then P.length else 0)=m7 p b W:=by
 have h1:(if p s then P.length else 0)=(bh b.length W).countP λx=>decide (x∈P)&&p s:=by
  cases p s
  ·rw[Zo T6];refine(List.countP_eq_zero.mpr λx _=>?_).symm;simp
  ·rw[Zn rfl,<-Gq hn ho];exact Zl λx _=>by simp
 have h2:∀l:List Cell,(∀x∈l,On b.length W x)->(l.countP λx=>p (lt (rq b W P 46) x))+(l.countP λx=>decide (x∈P)&&p s)=l.countP λx=>p (lt b x):=λl=>by
  induction l with
  |nil=>intro _;rfl
  |cons x l ih=>
   intro hl;have ih:=ih λy hy=>hl y (Tf _ hy);rw[V6,V6,V6];have hx:=hl x Th;have e:lt (rq b W P 46) x=if x∈P then 46 else lt b x:=HG hx.1 hx.2
   rw[e];by_cases h:x∈P
   ·rw[Zn h,hp,Zq h,hs x h];simp only[Xz,Uc,if_false];omega
   ·rw[Zo h,Zr h];simp only[Bool.false_and,Uc,if_false];omega
 rw[h1];have:=h2 (bh b.length W) λx hx=>bM.mp hx;unfold m7;rw[mL];exact this
def Dt(p:Nat->Bool){b:List Str}{W:Nat}(hr:∀r∈b,r.length=W):m7 p b W=(b.map λr=>r.cps.toList.countP p).sum:=by
 rw[Az];have:∀i,i<b.length->(sm W λj=>ind (p (at2 b i j)))=(b.getD i ⟨#[]⟩).cps.toList.countP p:=λi hi=>by
  have hl:=hr _ (getD_mem hi);rw[iR];unfold sm;congr 1;refine V5 (by simp;exact hl.symm) λj h1 h2=>?_;rw[Vp,Vp,Xy];rw[Te,U0] at h1;have hj:j<(b.getD i ⟨#[]⟩).cps.toList.length:=by rw[Te] at h2;exact h2
  show ind (p (ch (b.getD i ⟨#[]⟩) j))=_;unfold ch;congr 2;rw[Tw,Tg hj];rfl
 rw[mU this];unfold sm;congr 1;refine V5 (by simp) λi h1 h2=>?_;rw[Vp,Vp,Xy];rw[Te] at h2;rw[Tw,Tg h2];rfl
def u_{b:List Str}{W:Nat}(hg:Brd b W):bV [brd b]=aa (.int (m7 (· !=46) b W:Nat)):=by
 refine bL (aL ((Br (l:=b.map λr=>((r.cps.toList.countP (· !=46):Nat):Int)) (bS (ds:=b.map D.str) rfl ((d4 D.str (λr=> .int ((r.cps.toList.countP (· !=46):Nat):Int)) b λr hr=>?_).trans (by rw[T7];rfl)) (by rw[Te,Te,c_];have:=hg.r8;omega))).trans ?_))
 ·have hc:((y7 r ".":Nat):Int)=((r.cps.toList.count 46:Nat):Int):=by
   show ((y7 r ⟨#[46]⟩:Nat):Int)=_;unfold y7;rw[Gr]
  have h2:r.cps.toList.countP (· !=46)+r.cps.toList.count 46=r.length:=by
   have:∀l:List Nat,l.countP (· !=46)+l.count 46=l.length:=λl=>by
    induction l with
    |nil=>rfl
    |cons x l ih=>
     rw[V6,List.count_cons,Tn];by_cases z:x=46
     ·subst z;simp;omega
     ·have z1:(x !=46)=true:=bne_iff_ne.mpr z;have z2:(x==46)=false:=Zu.mpr z;rw[z1,z2];simp;omega
   exact this _
  rw[g6,show d2 c9 (dA bA (aC (dV 0) aN)) (dM sC AA (dV 0) (aC (dC (.str ".")) aN)) _=aa (.int ((r.cps.toList.countP (· !=46):Nat):Int)) from(av (x:= .int ((r.length:Nat):Int)) (y:= .int ((r.cps.toList.count 46:Nat):Int)) ((bg (xs:=[.str r]) (ao rfl rfl)).trans (len_str _)) (by
   show aa (D.int ((y7 r ".":Nat):Int))=_;rw[hc])).trans (by show aa (D.int (((r.length:Nat):Int) - ((r.cps.toList.count 46:Nat):Int)))=_;congr 2;omega)]
  rfl
 ·congr 2;rw[Dt _ λr hr=>(hg.rows r hr).len];have:∀l:List Str,(l.map λr=>((r.cps.toList.countP (· !=46):Nat):Int)).sum=(((l.map λr=>r.cps.toList.countP (· !=46)).sum:Nat):Int):=λl=>by
   induction l with
   |nil=>rfl
   |cons x l ih=>rw[Ts,VN,ih,Ts,VN];omega
  exact this b
end K1
namespace K1
open PySem PySem.Spec L2 L3
open PyProof.Rows hiding St
section
open Classical
variable{bd:List Str}{W w:Nat}
def En:m∈eI bd W w l↔m∈l/\Least bd W w m m:=by
 unfold eI;rw[UE,Zs]
def Cy{i:Nat}(h:(eM bd W w)[i]? =some P):∃m,(eI bd W w (bh bd.length W))[i]? =some m/\P=aH bd W w m:=by
 unfold eM at h;rw[Tx] at h;cases q:(eI bd W w (bh bd.length W))[i]? with
 |none=>rw[q] at h;cases h
 |some m=>rw[q] at h;cases h;exact⟨m,rfl,rfl⟩
def J8{l:List α}{i:Nat}(h:l[i]? =some x):x∈l:=TU h
def zU(hw:Ways w){m:Cell}(hm:m∈eI bd W w (bh bd.length W)):∃r,aH bd W w m=m::r:=by
 have ho:=xF hm;have hP:=eg hw ho;cases hp:aH bd W w m with
 |nil=>have:=(hP.mem m).mpr Cn.refl;rw[hp] at this;cases this
 |cons a r=>
  refine⟨r,?_⟩;rw[hp] at hP;by_cases e:a=m
  ·rw[e]
  ·have F_:m∈a::r:=(hP.mem m).mpr Cn.refl;have F_:m∈r:=by
    cases F_ with
    |head=>exact Zp rfl e
    |tail _ q=>exact q
   have hc:=(hP.mem a).mp (Th ..);have h1:=(ib (hc.on hw ho) ho).mp ((UQ.mp hP.rise).1 m F_);have:=(En.mp hm).2.2 a hc;omega
end
end K1
namespace K1
open PySem L2 L3
structure Iso (a a':List Str) (W W' w:Nat) (φ:Cell->Cell):Prop where
 on:∀x,On a.length W x->On a'.length W' (φ x)
 nx:∀x y,On a.length W x->On a.length W y->pd w x y=true->pd w (φ x) (φ y)=true
 lt:∀x,On a.length W x->lt a' (φ x)=lt a x
section
open Classical
variable{a a':List Str}{W W' w:Nat}{φ ψ:Cell->Cell}
structure Iso2 (a a':List Str) (W W' w:Nat) (φ ψ:Cell->Cell):Prop where
 f:Iso a a' W W' w φ
 g:Iso a' a W' W w ψ
 fg:∀x,On a.length W x->ψ (φ x)=x
 gf:∀x,On a'.length W' x->φ (ψ x)=x
def Iso2.symm(h:Iso2 a a' W W' w φ ψ):Iso2 a' a W' W w ψ φ:=⟨h.g,h.f,h.gf,h.fg⟩
end
end K1
namespace K1
open PySem PySem.Spec L2 L3
open PyProof.Rows hiding St
section
variable{ρ ρ':aM}{Q:OX->Prop}{τ:DS}{C a:Addr}{o:Ob}{i:Nat}{x f:Str}
def c8(h:τ ρ=aa (.nx ρ'))(k:ObK ρ ρ')(q:Q (.nx ρ')):(cC τ).f ρ Q:=by
 show (match τ ρ with | none=>False | some (.ok (.nx ρ'))=>ObK ρ ρ'/\Q (.nx ρ') | some (.ok (.rt d))=>Q (.rt (.fz d) (kO ρ)) | some (.ex n)=>Q (.ex n (kO ρ)));rw[h];exact⟨k,q⟩
def uw(h:τ ρ=aa (.rt d))(q:Q (.rt (.fz d) (kO ρ))):(cC τ).f ρ Q:=by
 show (match τ ρ with | none=>False | some (.ok (.nx ρ'))=>ObK ρ ρ'/\Q (.nx ρ') | some (.ok (.rt d))=>Q (.rt (.fz d) (kO ρ)) | some (.ex n)=>Q (.ex n (kO ρ)));rw[h];exact q
def sq{A B:XS}(h:A.f ρ λx=>match x with | .nx ρ'=>B.f ρ' Q | .rt r ρ'=>Q (.rt r ρ') | .ex n ρ'=>Q (.ex n ρ')):(bN A B).f ρ Q:=A.mono ρ _ _ (λx hx=>by cases x<;>exact hx) h
def xr{χ:XE}(h:χ.f ρ λx=>match x with | .val r ρ'=>Q (.rt r ρ') | .ex n ρ'=>Q (.ex n ρ')):(C2 χ).f ρ Q:=h
theorem bF:∀ρ:aM,ObK ρ ρ
 |[]=> .nil
 |x::ρ=> .cons (.inl rfl) (bF ρ)
theorem gS{d:D}:∀(ρ:aM) (i:Nat),ObK ρ (ρ.set i (some (.fz d)))
 |[],_=> .nil
 |x::ρ,0=> .cons (.inr λa o z=>by cases z) (bF ρ)
 |x::ρ,i+1=> .cons (.inl rfl) (gS ρ i)
def bz(h:ρ[i]? =some (some (.ob a o)))(hc:o.c=C):bu ρ i C=some (a,o):=by
 unfold bu;rw[h];exact Zn hc
def a9{g:Addr->Ob->List D->M D}{δs:DA}(h:bu ρ i C=some (a,o))(ha:δs ρ=aa ds)(hl:ds.length=m):aP C i x m g δs ρ=mO o x (g a o ds):=by
 unfold aP mO;rw[h];show (match o.fs.lookup x with | none=>δs ρ>>=λds=>if ds.length=m then g a o ds else af | some _=>af)=_;cases o.fs.lookup x with
 |none=>
  show (δs ρ>>=λds=>if ds.length=m then g a o ds else af)=_;rw[ha];exact Zn hl
 |some _=>rfl
def ba{d:D}(h:bu ρ i C=some (a,o))(hf:o.fs.lookup f=some (.fz d)):eV C i f ρ=aa d:=by
 unfold eV;rw[h];show (match o.fs.lookup f with | some (.fz d)=>aa d | _=>af)=_;rw[hf]
def Jw{δ:DE}{ds:List D}{d:D}(h:bu ρ i C=some (a,o))(hf:o.fs.lookup f=some (.ow ds))(hd:δ ρ=aa d)(hl:ds.length<lim)(q:Q (.nx (ρ.set i (some (.ob a (cq o f (.ow (ds++[d])))))))):(Ii C i f δ).f ρ Q:=by
 show (match bu ρ i C with | none=>False | some (a,o)=>match o.fs.lookup f with | some (.ow ds)=>(match δ ρ with | none=>False | some (.ex n)=>Q (.ex n ρ) | some (.ok d)=>ds.length<lim/\Q (.nx (ρ.set i (some (.ob a (cq o f (.ow (ds++[d])))))))) | _=>False);rw[h];show (match o.fs.lookup f with | some (.ow ds)=>(match δ ρ with | none=>False | some (.ex n)=>Q (.ex n ρ) | some (.ok d)=>ds.length<lim/\Q (.nx (ρ.set i (some (.ob a (cq o f (.ow (ds++[d])))))))) | _=>False);rw[hf];show (match δ ρ with | none=>False | some (.ex n)=>Q (.ex n ρ) | some (.ok d)=>ds.length<lim/\Q (.nx (ρ.set i (some (.ob a (cq o f (.ow (ds++[d]))))))));rw[hd];exact⟨hl,q⟩
def e8{δ:DE}{d:D}(h:bu ρ i C=some (a,o))(hd:δ ρ=aa d)(hl:o.fs.length<100)(q:Q (.nx (ρ.set i (some (.ob a (cq o f (.fz d))))))):(gZ C i f δ).f ρ Q:=by
 show (match δ ρ with | none=>False | some (.ex n)=>Q (.ex n ρ) | some (.ok d)=>match bu ρ i C with | some (a,o)=>o.fs.length<100/\Q (.nx (ρ.set i (some (.ob a (cq o f (.fz d)))))) | none=>False);rw[hd];show (match bu ρ i C with | some (a,o)=>o.fs.length<100/\Q (.nx (ρ.set i (some (.ob a (cq o f (.fz d)))))) | none=>False);rw[h];exact⟨hl,q⟩
def Jx{δs:DA}{ds:List D}(h:bu ρ i C=some (a,o))(hd:δs ρ=aa ds)(hl:o.fs.length<100)(h2:ds.length<=lim)(q:Q (.nx (ρ.set i (some (.ob a (cq o f (.ow ds))))))):(Ij C i f δs).f ρ Q:=by
 show (match δs ρ with | none=>False | some (.ex n)=>Q (.ex n ρ) | some (.ok ds)=>match bu ρ i C with | some (a,o)=>o.fs.length<100/\ds.length<=lim/\Q (.nx (ρ.set i (some (.ob a (cq o f (.ow ds)))))) | none=>False);rw[hd];show (match bu ρ i C with | some (a,o)=>o.fs.length<100/\ds.length<=lim/\Q (.nx (ρ.set i (some (.ob a (cq o f (.ow ds)))))) | none=>False);rw[h];exact⟨hl,h2,q⟩
def iJ{g:Addr->Ob->List D->M (D×Ob)}{δs:DA}{ds:List D}{d:D}{o':Ob}{m:Nat}{R:OE->Prop}(h:bu ρ i C=some (a,o))(hn:o.fs.lookup x=none)(ha:δs ρ=aa ds)(hl:ds.length=m)(hg:g a o ds=aa (d,o'))(q:R (.val (.fz d) (ρ.set i (some (.ob a o'))))):(fV C i x m g δs).f ρ R:=by
 show (match bu ρ i C with | some (a,o)=>(match o.fs.lookup x with | none=>(match δs ρ with | none=>False | some (.ex n)=>R (.ex n ρ) | some (.ok ds)=>ds.length=m/\match g a o ds with | none=>False | some (.ok (d,o'))=>R (.val (.fz d) (ρ.set i (some (.ob a o')))) | some (.ex n)=>R (.ex n ρ)) | some _=>False) | none=>False);rw[h];show (match o.fs.lookup x with | none=>(match δs ρ with | none=>False | some (.ex n)=>R (.ex n ρ) | some (.ok ds)=>ds.length=m/\match g a o ds with | none=>False | some (.ok (d,o'))=>R (.val (.fz d) (ρ.set i (some (.ob a o')))) | some (.ex n)=>R (.ex n ρ)) | some _=>False);rw[hn];show (match δs ρ with | none=>False | some (.ex n)=>R (.ex n ρ) | some (.ok ds)=>ds.length=m/\match g a o ds with | none=>False | some (.ok (d,o'))=>R (.val (.fz d) (ρ.set i (some (.ob a o')))) | some (.ex n)=>R (.ex n ρ));rw[ha];refine⟨hl,?_⟩;show (match g a o ds with | none=>False | some (.ok (d,o'))=>R (.val (.fz d) (ρ.set i (some (.ob a o')))) | some (.ex n)=>R (.ex n ρ));rw[hg];exact q
def J9{g:Addr->Ob->List D->M (D×Ob)}{ds:List D}{r:D×Ob}(h:Ex g a o ds=aa r):g a o ds=aa r:=mx h
def pK{m n:Nat}{τ:XS}{g:Addr->Ob->List D->M (D×Ob)}(h:∀a o ds d o',o.c=C->ds.length=m->g a o ds=aa (d,o')->τ.f (bB n a o ds) λx=>∃(ρ:aM) (i:Nat),ρ[i]? =some (some (Sl.ob a o'))/\(x= .rt (.fz d) ρ\/(d= .non/\x= .nx ρ))):js C m n τ (Ex g):=λa o ds hc hl=>by
 have q:Ex g a o ds=af\/∃d o',Ex g a o ds=aa (d,o'):=by
  show noex (g a o ds)=af\/∃d o',noex (g a o ds)=aa (d,o');rcases(g a o ds).cs with e | ⟨k,e⟩ | ⟨⟨d,o'⟩,e⟩
  ·rw[e];exact .inl rfl
  ·rw[e];exact .inl rfl
  ·rw[e];exact .inr ⟨d,o',rfl⟩
 rcases q with q | ⟨d,o',q⟩
 ·rw[q];trivial
 ·rw[q];exact h a o ds d o' hc hl (J9 q)
end
section
variable{ρ ρ':aM}{Q:OX->Prop}{i n:Nat}{x:Str}
def Ik{χ:XE}(h:χ.f ρ λx=>match x with | .val r ρ'=>Q (.nx (ρ'.set i (some r))) | .ex n ρ'=>Q (.ex n ρ')):(C3 i χ).f ρ Q:=h
end
def uT{o:Ob}{w:D}{l:List D}{p:Nat}(h:B0 o=some (w,l,p)):o=jr o.c w l p/\p<l.length/\l.length<=100:=by
 obtain⟨c,fs⟩:=o;unfold B0 at h;split at h
 ·rename_i x w' y l' z p' e;split at h
  ·rename_i q;obtain⟨rfl,rfl,rfl,h1,h2⟩:=q;cases h;cases e;exact⟨rfl,h1,h2⟩
  ·cases h
 ·cases h
def zh{C:Addr}{w:D}{l:List D}{p:Nat}(h1:p<l.length)(h2:l.length<=100):B0 (jr C w l p)=some (w,l,p):=by
 show (if ("ways":Str)="ways"/\("stages":Str)="stages"/\("place":Str)="place"/\p<l.length/\l.length<=100 then some (w,l,p) else none)=_;rw[Zn ⟨rfl,rfl,rfl,h1,h2⟩]
def eY{α:Type}{o:Ob}{x:Str}{m:M α}(h:o.fs.lookup x=none):mO o x m=m:=by
 unfold mO;rw[h]
section
variable{CK CG a:Addr}{w b:D}{l:List D}{p:Nat}
def Bm(h:l[p]? =some b):aX CK CG a (jr CG w l p) []=aa b:=by
 have ho:bu (bB 1 a (jr CG w l p) []) 0 CG=some (a,jr CG w l p):=bz rfl rfl;exact(av (ba ho rfl) (ba ho rfl)).trans (fi h)
def Bs(hp:p<l.length):QX (.lst l) none (some ((p:Int)+1))=aa (.lst (l.take (p+1))):=by
 have e0:((p:Int)+1)=((p+1:Nat):Int):=by omega
 have e1:HT.sIx l.length l.length (some ((p+1:Nat):Int))=p+1:=by rw[HT.sIx_nat];omega
 have e3:HT.sIx l.length 0 none=0:=rfl;rw[e0];show aa (D.lst (L3.cutD l none (some ((p+1:Nat):Int))))=_;unfold L3.cutD;rw[e1,e3,Xc,YR]
def Mv{δ:DE}{ρ:aM}{k:Int}(h:δ ρ=aa (.int k)):oS δ ρ=aa (some k):=by
 unfold oS;rw[h];rfl
def lK{ρ:aM}{Q:OX->Prop}{C:Addr}{o:Ob}{i:Nat}{f:Str}{g:Int->Int}{k:Int}(h:bu ρ i C=some (a,o))(hf:o.fs.lookup f=some (.fz (.int k)))(hl:o.fs.length<100)(q:Q (.nx (ρ.set i (some (.ob a (cq o f (.fz (.int (g k))))))))):(jf C i f g).f ρ Q:=by
 show (match bu ρ i C with | some (a,o)=>(match o.fs.lookup f with | some (.fz (.int k))=>o.fs.length<100/\Q (.nx (ρ.set i (some (.ob a (cq o f (.fz (.int (g k)))))))) | _=>False) | none=>False);rw[h];show (match o.fs.lookup f with | some (.fz (.int k))=>o.fs.length<100/\Q (.nx (ρ.set i (some (.ob a (cq o f (.fz (.int (g k)))))))) | _=>False);rw[hf];exact⟨hl,q⟩
def wM:js CG 2 3 (kA CK CG) (cK CK CG):=pK λa o ds d o' hc hl h=>by
 unfold kA;obtain⟨c,fs⟩:=o;split at h
 ·rename_i b w e;cases e;obtain⟨_,h1,h⟩:=cZ h;obtain⟨_,h2,h⟩:=cZ h;cases dX h;refine sq (c8 (ρ':=bB 3 a ⟨c,[]⟩ [b,w]) (rK ((aG (m:=1) (δs:=aC (dV 1) aN) (ds:=[b]) rfl rfl).trans h1)) (bF _) ?_);refine sq (c8 (ρ':=bB 3 a ⟨c,[]⟩ [b,w]) (rK ((aG (m:=1) (δs:=aC (dV 2) aN) (ds:=[w]) rfl rfl).trans h2)) (bF _) ?_);refine sq (e8 (bz (o:=⟨c,[]⟩) rfl hc) (d:=w) rfl (show 0<100 by decide) ?_);refine sq (e8 (bz (o:=⟨c,[("ways", .fz w)]⟩) rfl hc) (d:= .lst [b]) rfl (show 1<100 by decide) ?_);exact e8 (bz (o:=⟨c,[("ways", .fz w),("stages", .fz (.lst [b]))]⟩) rfl hc) (d:= .int 0) rfl (show 2<100 by decide) ⟨_,0,rfl, .inr ⟨rfl,rfl⟩⟩
 ·exact(du h).elim
noncomputable def wN:js CG 1 4 (kB CK CG) (dh CK CG):=pK λa o ds d o' hc hl h=>by
 unfold kB;split at h
 ·rename_i c w l p eo;obtain⟨e1,hp,xu⟩:=uT eo;generalize o.c=oc at e1 hc h;subst hc e1;split at h
  ·rename_i b hb;obtain⟨pt,h1,h⟩:=cZ h;split at h
   ·rename_i q;obtain⟨b1,h2,h⟩:=cZ h;obtain⟨b2,h3,h⟩:=cZ h;cases dX h;have h2:=mx h2;have h3:=mx h3;have ho:∀{x y z:Option Sl},bu [some (.ob a (jr oc w l p)),x,y,z] 0 oc=some (a,jr oc w l p):=bz rfl rfl;have hr:∀{x y z:Option Sl},aP oc 0 "rows" 0 (aX CK oc) aN [some (.ob a (jr oc w l p)),x,y,z]=aa b:=(a9 (ds:=[]) ho rfl rfl).trans ((eY rfl).trans (Bm hb));refine sq (c8 (ρ':=[some (.ob a (jr oc w l p)),fz c,fz (.lst q),none]) ((a6 (i:=2) ((aG (ds:=[b,c,w]) (ao hr (ao rfl (ao (ba ho rfl) rfl))) rfl).trans h1)).trans rfl) (gS (bB 4 a (jr oc w l p) [c]) 2) ?_);refine sq (c8 (ρ':=[some (.ob a (jr oc w l p)),fz c,fz (.lst q),fz b2]) ((a6 (i:=3) ((aG (ds:=[b1]) (ao ((aG (ds:=[b, .lst q, .str "."]) (ao hr (ao rfl (ao rfl rfl))) rfl).trans h2) rfl) rfl).trans h3)).trans rfl) (gS [some (.ob a (jr oc w l p)),fz c,fz (.lst q),none] 3) ?_);refine sq (e8 ho (d:= .lst (l.take (p+1)++[b2])) ?_ (show 3<100 by decide) ?_)
    ·refine(av (x:= .lst (l.take (p+1))) (y:= .lst [b2]) ?_ rfl).trans ?_
     ·unfold Js;rw[ba ho rfl,ai,show oN _=aa none from rfl,ai,Mv (k:=(p:Int)+1) ((av (x:= .int (p:Int)) (y:= .int 1) (ba ho rfl) rfl).trans rfl),ai];exact Bs hp
     ·show (if (l.take (p+1)).length+1<=lim then aa (D.lst (l.take (p+1)++[b2])) else af)=_;rw[Zn (by rw[UU,c_];omega)]
    refine sq (lK (o:=⟨oc,[("ways", .fz w),("stages", .fz (.lst (l.take (p+1)++[b2]))),("place", .fz (.int (p:Int)))]⟩) (bz rfl rfl) rfl (show 3<100 by decide) ?_);refine uw (aL ((bg (xs:=[.lst q]) (ao rfl rfl)).trans rfl)) ⟨_,0,?_, .inl rfl⟩;rfl
   ·exact(du h).elim
  ·exact(du h).elim
 ·exact(du h).elim
end
section
open Classical
variable{CK CG a:Addr}{b:List Str}{W w p:Nat}{L:List (List Str)}{P:List Cell}
abbrev gO(C:Addr)(w:Nat)(L:List (List Str))(p:Nat):Ob:=jr C (iW w) (L.map brd) p
def DG:D.str "."=sg 46:=by
 show D.str _=D.str _;congr 1
abbrev lf(b:List Str)(W:Nat):Nat:=m7 (· !=46) b W
def p8(h:L[p]? =some b):(L.map brd)[p]? =some (brd b):=by rw[Tx,h];rfl
def vU(h:L[p]? =some b):aX CK CG a (gO CG w L p) []=aa (brd b):=Bm (p8 h)
def zx(hg:Brd b W)(h:L[p]? =some b):cM CK CG a (gO CG w L p) []=aa (.int (lf b W:Nat)):=by
 have ho:bu (bB 1 a (gO CG w L p) []) 0 CG=some (a,gO CG w L p):=bz rfl rfl;exact(aG (ds:=[brd b]) (ao ((a9 (ds:=[]) ho rfl rfl).trans ((eY rfl).trans (vU h))) rfl) rfl).trans (u_ hg)
def Mq(x y:Nat):gr (sg x) (sg y)=aa (.bl (!decide (x=y))):=by
 refine(DJ AE (by decide) (⟨#[x]⟩:Str) ⟨#[y]⟩).trans ?_;congr 3;rw[decide_eq_decide];constructor
 ·intro h;have:=Zv Str.cps h;simpa using this
 ·intro h;rw[h]
def rf(hw:Ways w)(hP:P∈eM b W w):∃m r,P=m::r/\On b.length W m/\P=aH b W w m:=by
 obtain⟨i,hi,e⟩:=Xg hP;obtain⟨m,e1,e2⟩:=Cy (Tg hi);have hm:=J8 e1;obtain⟨r,hr⟩:=zU hw hm;exact⟨m,r,by rw[<-e,e2,hr],xF hm,by rw[<-e,e2]⟩
def Hd(b:List Str)(P:List Cell):Bool:=decide (1<P.length)&& !decide (lt b (P.headD (0,0))=46)
def wZ(hg:Brd b W){m:Cell}{r:List Cell}(hm:On b.length W m):bU [brd b,cL (m::r)]=aa (.bl (Hd b (m::r))):=by
 have h1:d2 Oi (dA bA (aC (dV 1) aN)) (dC (.int 1)) [fz (brd b),fz (cL (m::r))]=aa (.bl (decide (1<(m::r).length))):=by
  refine(av (x:= .int (((m::r).length:Nat):Int)) (y:= .int 1) ((bg (xs:=[cL (m::r)]) (ao rfl rfl)).trans (Ej _)) rfl).trans ?_;show aa (D.bl (decide ((1:Int)<(((m::r).length:Nat):Int))))=_;congr 2;rw[decide_eq_decide];omega
 have h2:d2 gr (aw 2 aY (aC (dV 0) (aC (d2 cT (dV 1) (dC (.int 0))) aN))) (dC (.str ".")) [fz (brd b),fz (cL (m::r))]=aa (.bl (!decide (lt b m=46))):=
  (av (x:=sg (lt b m)) (y:=sg 46) ((aG (ds:=[brd b,cD m]) (ao rfl (ao ((av (x:=cL (m::r)) (y:= .int 0) rfl rfl).trans (fi (i:=0) rfl)) rfl)) rfl).trans (fj hg hm)) (by show aa (D.str ".")=_;rw[DG])).trans (Mq _ _)
 exact bL (aL (Gv h1 h2))
noncomputable def iH(b:List Str)(W w:Nat):List Cell:=((eM b W w).filter (Hd b)).map λP=>P.headD (0,0)
def iQ(hg:Brd b W)(hs:b.length*W<64)(hw:Ways w)(h:L[p]? =some b):bw CK CG a (gO CG w L p) []=aa (cL (iH b W w)):=by
 have ho:bu (bB 2 a (gO CG w L p) []) 0 CG=some (a,gO CG w L p):=bz rfl rfl;have e1:aw 2 cW (aC (aP CG 0 "rows" 0 (aX CK CG) aN) (aC (eV CG 0 "ways") aN)) (bB 2 a (gO CG w L p) [])=aa (.lst ((eM b W w).map cL)):=
  (aG (ds:=[brd b,iW w]) (ao ((a9 (ds:=[]) ho rfl rfl).trans ((eY rfl).trans (vU h))) (ao (ba ho rfl) rfl)) rfl).trans ((o4 hg hs hw).trans (by rw[zV]))
 show (aw 2 cW _ (bB 2 a (gO CG w L p) [])>>=λd=>_)=_;rw[e1,ai];refine(bS (ds:=(eM b W w).map cL) rfl (xa cL (Hd b) (λP=>cD (P.headD (0,0))) (eM b W w) λP hP=>?_) ?_).trans (by
  unfold iH;show _=aa (D.lst (List.map cD (List.map _ _)));rw[T7];rfl)
 ·rw[Dv];obtain⟨m,r,rfl,hm,_⟩:=rf hw hP;have C8:bu (fz (cL (m::r))::(bB 2 a (gO CG w L p) []).set 1 (some (.fz (.lst ((eM b W w).map cL))))) 1 CG=some (a,gO CG w L p):=bz rfl rfl;have et:cJ (aw 2 bU (aC (aP CG 1 "rows" 0 (aX CK CG) aN) (aC (dV 0) aN))) (fz (cL (m::r))::(bB 2 a (gO CG w L p) []).set 1 (some (.fz (.lst ((eM b W w).map cL)))))=aa (Hd b (m::r)):=
   qg ((aG (ds:=[brd b,cL (m::r)]) (ao ((a9 (ds:=[]) C8 rfl rfl).trans ((eY rfl).trans (vU h))) (ao rfl rfl)) rfl).trans (wZ hg hm))
  rw[et];have e0:∀{ρ:aM},d2 cT (dV 0) (dC (.int 0)) (fz (cL (m::r))::ρ)=aa (cD m):=(av (x:=cL (m::r)) (y:= .int 0) rfl rfl).trans (fi (i:=0) rfl);rw[e0];cases Hd b (m::r)<;>rfl
 ·rw[Te,c_];have:=U2 (Hd b) (eM b W w);have:=zy (bd:=b) (W:=W) (w:=w);omega
structure Tk1 (b:List Str) (W w:Nat) (c:Cell):Prop where
 on:On b.length W c
 lt:lt b c≠46
 two:1<(aH b W w c).length
def FO(hw:Ways w){c:Cell}(h:c∈iH b W w):Tk1 b W w c:=by
 obtain⟨P,hP,rfl⟩:=TV.mp h;obtain⟨h1,h2⟩:=UE.mp hP;obtain⟨m,r,rfl,hm,e⟩:=rf hw h1;obtain⟨q1,q2⟩:=UC.mp h2;have q2:lt b m≠46:=λz=>by
  have:decide (lt b m=46)=true:=Zq z;rw[show ((m::r).headD (0,0))=m from rfl,this] at q2;cases q2
 exact⟨hm,q2,by show 1<(aH b W w m).length;rw[<-e];exact Zt q1⟩
def mz(b:List Str)(W:Nat)(P:List Cell):List Str:=jz (rq b W P 46) W
def EC(b:List Str)(W:Nat)(P:List Cell):(mz b W P).length=b.length:=by unfold mz;rw[ij,mL]
def EB(hg:Brd b W)(P:List Cell):Brd (mz b W P) W:=BV (yg hg P 46)
def Ic(hg:Brd b W)(hs:b.length*W<64)(hw:Ways w){c:Cell}(h:Tk1 b W w c):cg [brd b,cD c,iW w]=aa (cL (aH b W w c)):=by
 obtain⟨k,ks,ps,q1,q2,q3⟩:=ku hg hw h.on;have e1:aw 3 bD (aC (dV 0) (aC (dV 1) (aC (dV 2) aN))) [fz (brd b),fz (cD c),fz (iW w),none]=aa (Dd ks ps):=(aG (ao rfl (ao rfl (ao rfl rfl))) rfl).trans q3;have e2:dA rR (aC (aw 3 bD (aC (dV 0) (aC (dV 1) (aC (dV 2) aN)))) aN) [fz (brd b),fz (cD c),fz (iW w),none]=aa (cL (aH b W w c)):=by
  refine(bg (ao e1 rfl)).trans ((yz q1.nd (VP (l7 q1.nd q2) hs)).trans ?_);have:oW ks=aH b W w c:=IsPatch.one ⟨rQ q1.nd,λx=>tR.trans (q1.last x)⟩ (eg hw h.on);rw[this]
 have hP:=eg hw h.on;have two:=h.two;obtain⟨m,r,e⟩:∃m r,aH b W w c=m::r:=by
  cases q:aH b W w c with
  |nil=>rw[q] at two;exact Zp two (by decide)
  |cons m r=>exact⟨m,r,rfl⟩
 have hm:=(hP.mem m).mp (by rw[e];exact Th);have Sq:Hd b (m::r)=true:=by
  unfold Hd;rw[e] at two;rw[Zq two,Zr (show¬lt b ((m::r).headD (0,0))=46 from λz=>h.lt (by rw[<-hm.letter hw];exact z))];rfl
 refine bL (aF (rK ((aG (ds:=[brd b,cD c]) rfl rfl).trans (hg.nc h.on))) (aF (ρ':=[fz (brd b),fz (cD c),fz (iW w),fz (cL (aH b W w c))]) ((a6 e2).trans rfl) (aF (c7 (y_ (qg (b:=true) ?_)) rfl) rfl)));refine(aG (ds:=[brd b,cL (aH b W w c)]) rfl rfl).trans ?_;rw[e,wZ hg (hm.on hw h.on),Sq]
def KY(hg:Brd b W)(hs:b.length*W<64)(hw:Ways w)(h:L[p]? =some b)(hl:L.length<=100){c:Cell}(hc:Tk1 b W w c):
 dh CK CG a (gO CG w L p) [cD c]=aa (.int ((aH b W w c).length:Nat),gO CG w (L.take (p+1)++[mz b W (aH b W w c)]) (p+1)):=by
 have hp:p<L.length:=(To.mp h).1;have e0:=zh (C:=CG) (w:=iW w) (l:=L.map brd) (p:=p) (by rw[Te];exact hp) (by rw[Te];exact hl);unfold dh Ex
 dsimp only
 rw[e0]
 dsimp only
 rw[p8 h];show noex (cg [brd b,cD c,iW w]>>=λpt=>_)=_;rw[Ic hg hs hw hc,ai];show noex (noex (bW [brd b,cL (aH b W w c), .str "."])>>=λb1=>_)=_;have P3:(aH b W w c).length<4000:=by
  have hP:=eg hw hc.on;have:=l7 (bd:=b) (RiseC.nodup hP.rise) λx hx=>((hP.mem x).mp hx).on hw hc.on;omega
 rw[DG,nS hg P3 46,my,ai,ze (yg hg _ 46),my,ai,my];show aa (D.int (((aH b W w c).map cD).length:Nat),jr CG (iW w) ((L.map brd).take (p+1)++[brd (mz b W (aH b W w c))]) (p+1))=_;rw[Te,<-Yx];unfold gO;rw[UR];rfl
def Hb{q:Nat->Bool}(hq:q 46=false)(hw:Ways w){c:Cell}(hc:Tk1 b W w c):m7 q (mz b W (aH b W w c)) W+(if q (lt b c) then(aH b W w c).length else 0)=m7 q b W:=by
 have hP:=eg hw hc.on;unfold mz;rw[Ds hq];exact Gs hq (RiseC.nodup hP.rise) (λx hx=>((hP.mem x).mp hx).on hw hc.on) λx hx=>((hP.mem x).mp hx).letter hw
end
section
open Classical
variable{CK CG a:Addr}{b:List Str}{W w p:Nat}{L:List (List Str)}
def lH(L:List (List Str))(W k:Nat):Int:=(lf (L.getD k []) W:Int) - (lf (L.getD (k+1) []) W:Int)
def getD_at{k:Nat}(h:k<L.length):L[k]? =some (L.getD k []):=by
 rw[Tw,Tg h];rfl
def p9(ha:∀b∈L,Brd b W){k:Nat}(hk:k+1<L.length):aI CK CG a (gO CG w L p) [.int (k:Int)]=aa (.int (lH L W k)):=by
 have ho:bu (bB 2 a (gO CG w L p) [.int (k:Int)]) 0 CG=some (a,gO CG w L p):=bz rfl rfl;have h1:=getD_at (L:=L) (k:=k) (by omega);have h2:=getD_at (L:=L) hk;have m1:L.getD k []∈L:=TU h1;have m2:L.getD (k+1) []∈L:=TU h2;refine(av (x:= .int (lf (L.getD k []) W:Nat)) (y:= .int (lf (L.getD (k+1) []) W:Nat)) ?_ ?_).trans rfl
 ·exact(aG (ds:=[brd (L.getD k [])]) (ao ((av (x:= .lst (L.map brd)) (y:= .int (k:Int)) (ba ho rfl) rfl).trans (fi (p8 h1))) rfl) rfl).trans (u_ (ha _ m1))
 ·exact(aG (ds:=[brd (L.getD (k+1) [])]) (ao ((av (x:= .lst (L.map brd)) (y:= .int ((k+1:Nat):Int)) (ba ho rfl) ((av (x:= .int (k:Int)) (y:= .int 1) rfl rfl).trans rfl)).trans (fi (p8 h2))) rfl) rfl).trans (u_ (ha _ m2))
def Mo{i j:Int}(h: -1000<i/\i<1000):iU (.int i) (.int j)=aa (.int (i*j)):=by
 show (if decide ((-(2 ^ 64)<i/\i<2 ^ 64)\/(-(2 ^ 64)<j/\j<2 ^ 64))=true then aa (D.int (i*j)) else af)=_;rw[Zn (Zq (.inl ⟨by omega,by omega⟩))]
def HX{zs:List Int}{ρ:aM}{i:Nat}(hl:zs.length<=4000)(hz:∀z∈zs,-1000<z/\z<1000)(h:ρ[i]? =some (fz (.lst (zs.map D.int)))):dA uh (aC (bj 0 (g7 (dV i)) bI (d2 iU (dV 0) (dV 0))) aN) ρ=aa (.int (zs.map λz=>z*z).sum):=by
 refine Br (bS (ds:=zs.map D.int) (Pg (qh h)) ((d4 D.int (λz=> .int (z*z)) zs λz hh=>by rw[g6,av (x:= .int z) (y:= .int z) rfl rfl,Mo (hz z hh)];rfl).trans (by rw[T7];rfl)) (by rw[Te,Te,c_];omega))
def IY(hg:Brd b W):lf b W<=64:=by
 have h1:lf b W<=(bh b.length W).length:=List.countP_le_length;rw[d6] at h1;have h2:b.length*W<=8*8:=WA hg.r8 hg.w8;omega
def BU(ha:∀b∈L,Brd b W){k:Nat}(hk:k+1<L.length): -1000<lH L W k/\lH L W k<1000:=by
 have h1:=IY (ha _ (TU (getD_at (L:=L) (k:=k) (by omega))));have h2:=IY (ha _ (TU (getD_at (L:=L) hk)));unfold lH;omega
def EZ(ha:∀b∈L,Brd b W)(hp:p<L.length)(hl:L.length<=60):fe CK CG a (gO CG w L p) []=aa (.int ((TB p).map λk=>lH L W k*lH L W k).sum):=by
 have ho:bu (bB 2 a (gO CG w L p) []) 0 CG=some (a,gO CG w L p):=bz rfl rfl;have e1:bj 0 (λρ=>(aC (eV CG 0 "place") aN) ρ>>=ei) bI (aP CG 1 "taken_behind" 1 (aI CK CG) (aC (dV 0) aN)) (bB 2 a (gO CG w L p) [])=aa (.lst (((TB p).map (lH L W)).map D.int)):=by
  refine(IZ (g:=λk=> .int (lH L W k)) p (by omega) (ba ho rfl) λk hk=>?_).trans (by rw[T7];rfl);exact(a9 (ds:=[.int (k:Int)]) (bz (i:=1) (ρ:=fz (.int (k:Int))::bB 2 a (gO CG w L p) []) (o:=gO CG w L p) rfl rfl) rfl rfl).trans ((eY rfl).trans (p9 ha (by omega)))
 show (bj 0 _ bI _ (bB 2 a (gO CG w L p) [])>>=λd=>_)=_;rw[e1,ai];refine(HX (zs:=(TB p).map (lH L W)) (by simp;omega) (λz hz=>by
  obtain⟨k,hk,rfl⟩:=TV.mp hz;exact BU ha (by have:=UP.mp hk;omega)) rfl).trans ?_
 rw[T7];rfl
def HZ:aR CK CG a (gO CG w L p) []=aa (.tup [.int (p:Int), .int ((L.length:Int) - 1 - (p:Int))]):=by
 have ho:bu (bB 1 a (gO CG w L p) []) 0 CG=some (a,gO CG w L p):=bz rfl rfl;refine(bg (xs:=[.int (p:Int), .int ((L.length:Int) - 1 - (p:Int))]) (ao (ba ho rfl) (ao ((av (x:= .int ((L.length:Int) - 1)) (y:= .int (p:Int)) ((av (x:= .int (L.length:Int)) (y:= .int 1) ((bg (xs:=[.lst (L.map brd)]) (ao (ba ho rfl) rfl)).trans ?_) rfl).trans rfl) (ba ho rfl)).trans rfl) rfl))).trans rfl;show aa (D.int (((L.map brd).length:Nat):Int))=_;rw[Te]
end
end K1
namespace K1
open PySem PySem.Spec L2 L3 HT
open PyProof.Rows hiding St
section
variable{ρ ρ':aM}{Q:OX->Prop}{a:Addr}{i:Nat}
def Qb{χ:XE}(h:χ.f ρ λx=>match x with | .val r ρ'=>Q (.nx ρ') | .ex n ρ'=>Q (.ex n ρ')):(K3 χ).f ρ Q:=h
def uv{C:Addr}{g:Addr->Ob->List D->M (D×Ob)}{δs:DA}{ds:List D}{m:Nat}{O':Ob}{R:OE->Prop}(ha:δs ρ=aa ds)(hl:ds.length=m)(hg:∀a,g a ⟨C,[]⟩ ds=aa (.non,O'))(q:∀a,R (.val (.ob a O') ρ)):(Bz C m g δs).f ρ R:=by
 show (match δs ρ with | none=>False | some (.ex n)=>R (.ex n ρ) | some (.ok ds)=>ds.length=m/\∀a,match g a ⟨C,[]⟩ ds with | none=>False | some (.ok (d,o'))=>d= .non/\R (.val (.ob a o') ρ) | some (.ex n)=>R (.ex n ρ));rw[ha];refine⟨hl,λa=>?_⟩;show (match g a ⟨C,[]⟩ ds with | none=>False | some (.ok (d,o'))=>d= .non/\R (.val (.ob a o') ρ) | some (.ex n)=>R (.ex n ρ));rw[hg a];exact⟨rfl,q a⟩
def F0{δi:DA}{B:XS}{ds:List D}{put:D->aM->Option aM}(h:δi ρ=aa ds)(q:fF put B ds ρ Q):(CZ put δi B).f ρ Q:=by
 show (match δi ρ with | none=>False | some (.ok ds)=>fF put B ds ρ Q | some (.ex n)=>Q (.ex n ρ));rw[h];exact q
def lY{B:XS}{ds:List D}{d:D}(q:B.f (ρ.set i (some (.fz d))) λx=>match x with | .nx ρ2=>fF (putN i) B ds ρ2 Q | .rt r ρ2=>Q (.rt r ρ2) | .ex n ρ2=>Q (.ex n ρ2)):fF (putN i) B (d::ds) ρ Q:=B.mono _ _ _ (λx hx=>by cases x<;>exact hx) q
theorem zM{c c':C}:∀(ρ:aM) (i:Nat),ObK ρ (ρ.set i (some (.ow c)))
 |[],_=> .nil
 |x::ρ,0=> .cons (.inr λa o z=>by cases z) (bF ρ)
 |x::ρ,i+1=> .cons (.inl rfl) (zM (c':=c') ρ i)
def xn{τ:XS}{ρ:aM}{Q:OX->Prop}(h:τ.f ρ λx=>match x with | .nx ρ'=>Q (.nx ρ') | .rt r ρ'=>Q (.rt r ρ') | .ex _ _=>False):(C1 τ).f ρ Q:=τ.mono ρ _ _ (λx hx=>by cases x<;>exact hx) h
def v_{δi:DA}{B T:XS}{ds:List D}{put:D->aM->Option aM}{ρ:aM}{Q:OX->Prop}(h:δi ρ=aa ds)(q:fF put B ds ρ λx=>match x with | .nx ρ'=>T.f ρ' Q | .rt r ρ'=>Q (.rt r ρ') | .ex _ _=>False):(bN (C1 (CZ put δi B)) T).f ρ Q:=
 sq (xn (F0 h (lZ (λx hx=>by cases x<;>first | exact hx | exact hx.elim) ds ρ q)))
def Fw{i:Nat}{A T:XS}{ρ:aM}{Q:OX->Prop}(h:(bN A T).f (frz i ρ) Q):(bN (NY i A) T).f ρ Q:=h
def Qa{χ:XE}{ds:List D}{d:D}(h0:i4 ρ i=some ds)(h:χ.f ρ λx=>x= .val (.fz d) ρ')(h1:i4 ρ' i=some ds)(hl:ds.length<lim)(q:Q (.nx (ρ'.set i (some (.ow (.lst (ds++[d]))))))):(By i χ).f ρ Q:=by
 refine⟨by rw[h0];rfl,χ.mono ρ _ _ (λx hx=>?_) h⟩;subst hx;show (match i4 ρ' i with | some ds=>ds.length<lim/\Q (.nx (ρ'.set i (some (.ow (.lst (ds++[d])))))) | none=>False);rw[h1];exact⟨hl,q⟩
def Nb{χ:XE}{δ:DE}{A B:XS}{d d2:D}{t:Bool}(h:χ.f ρ λx=>x= .val (.fz d) ρ')(h1:δ ρ'=aa d2)(h2:gr d d2=aa (.bl t))(q:if t then A.f ρ' Q else B.f ρ' Q):(C0 (rY gr χ δ) A B).f ρ Q:=by
 show χ.f ρ _;refine χ.mono ρ _ _ (λx hx=>?_) h;subst hx;show (match δ ρ' with | none=>False | some (.ok d2)=>∃b,gr d d2=aa (.bl b)/\_ | some (.ex n)=>_);rw[h1];exact⟨t,h2,q⟩
def QT{i j:Int}(h:i=j):gr (.int i) (.int j)=aa (.bl false):=by
 rw[h];exact ne_self ((fW 6 j j).trans (by simp))
def zj(hG:Good bd W):bd.length*W<64:=by
 have h:=WA hG.r5 hG.w5;omega
end
end K1
namespace K1
open PySem PySem.Spec L2 L3
open PyProof.Rows hiding St
section
variable{CK CG a:Addr}{w:D}{l:List D}{p:Nat}
def wL:js CG 0 1 (kz CK CG) (aZ CK CG):=pK λa o ds d o' hc hl h=>by
 unfold kz;split at h
 ·exact(rE h).elim
 ·rename_i w l p eo;obtain⟨e1,hp,xu⟩:=uT eo;generalize o.c=oc at e1 hc h;subst hc e1;obtain⟨d',h1,h⟩:=cZ h;cases dX h;have h1:=mx h1;have NF:bu (bB 1 a (jr oc w l (p+1)) []) 0 oc=some (a,jr oc w l (p+1)):=bz rfl rfl;refine sq (c8 (ρ':=bB 1 a (jr oc w l (p+1)) []) (c7 (fC ((av (x:= .int ((p+1:Nat):Int)) (y:= .int 0) (ba NF rfl) rfl).trans ?_)) rfl) (bF _) ?_)
  ·show aa (D.bl (((p+1:Nat):Int)==0))=_;rw[Zu.mpr (by omega)]
  refine sq (lK (o:=jr oc w l (p+1)) (k:=((p+1:Nat):Int)) (bz rfl rfl) rfl (show 3<100 by decide) ?_);have e2:cq (jr oc w l (p+1)) "place" (.fz (.int (((p+1:Nat):Int) - 1)))=jr oc w l p:=by
   rw[show ((p+1:Nat):Int) - 1=(p:Int) by omega];rfl
  rw[e2];have ho:bu [some (.ob a (jr oc w l p))] 0 oc=some (a,jr oc w l p):=bz rfl rfl;exact uw (aL ((a9 (ds:=[.int (p:Int)]) ho (ao (ba ho rfl) rfl) rfl).trans ((eY rfl).trans h1))) ⟨_,0,rfl, .inl rfl⟩
 ·exact(du h).elim
def uE:js CG 0 1 (jg CK CG) (cp CK CG):=pK λa o ds d o' hc hl h=>by
 unfold jg;split at h
 ·rename_i w l p eo;obtain⟨e1,hp,xu⟩:=uT eo;generalize o.c=oc at e1 hc h;subst hc e1;split at h
  ·exact(rE h).elim
  ·rename_i iM;obtain⟨d',h1,h⟩:=cZ h;cases dX h;have h1:=mx h1;have ho:bu [some (.ob a (jr oc w l p))] 0 oc=some (a,jr oc w l p):=bz rfl rfl;refine sq (c8 (ρ':=bB 1 a (jr oc w l p) []) (c7 (fC ((av (x:= .int (p:Int)) (y:= .int ((l.length:Int) - 1)) (ba ho rfl) ((av (x:= .int (l.length:Int)) (y:= .int 1) ((bg (xs:=[.lst l]) (ao (ba ho rfl) rfl)).trans rfl) rfl).trans rfl)).trans ?_)) rfl) (bF _) ?_)
   ·show aa (D.bl ((p:Int)==(l.length:Int) - 1))=_;rw[Zu.mpr (by omega)]
   refine sq (lK (o:=jr oc w l p) (k:=(p:Int)) ho rfl (show 3<100 by decide) ?_);have C8:bu [some (.ob a (jr oc w l (p+1)))] 0 oc=some (a,jr oc w l (p+1)):=bz rfl rfl;refine uw (aL ((a9 (ds:=[.int (p:Int)]) C8 (ao ((av (x:= .int ((p+1:Nat):Int)) (y:= .int 1) (ba C8 rfl) rfl).trans ?_) rfl) rfl).trans ((eY rfl).trans h1))) ⟨_,0,rfl, .inl rfl⟩;show aa (D.int (((p+1:Nat):Int) - 1))=_;rw[show ((p+1:Nat):Int) - 1=(p:Int) by omega]
 ·exact(du h).elim
end
end K1
namespace K1
open PySem PySem.Spec L2 L3 HT
open PyProof.Rows hiding St
section
open Classical
variable{CK CG a:Addr}{b:List Str}{W w p:Nat}{L:List (List Str)}
def yV(ha:∀b∈L,Brd b W)(hk:p+1<L.length)(hl:L.length<=100):aZ CK CG a (gO CG w L (p+1)) []=aa (.int (lH L W p),gO CG w L p):=by
 have e0:=zh (C:=CG) (w:=iW w) (l:=L.map brd) (p:=p+1) (by rw[Te];exact hk) (by rw[Te];exact hl);unfold aZ Ex
 dsimp only
 rw[e0]
 dsimp only
 have e1:=p9 (CK:=CK) (CG:=CG) (a:=a) (w:=w) (p:=p) ha hk;rw[show jr (gO CG w L (p+1)).c (iW w) (L.map brd) p=gO CG w L p from rfl,e1];rfl
def GI(ha:∀b∈L,Brd b W)(hk:p+1<L.length)(hl:L.length<=100):cp CK CG a (gO CG w L p) []=aa (.int (lH L W p),gO CG w L (p+1)):=by
 have e0:=zh (C:=CG) (w:=iW w) (l:=L.map brd) (p:=p) (by rw[Te];omega) (by rw[Te];exact hl);unfold cp Ex
 dsimp only
 rw[e0]
 dsimp only
 have e1:=p9 (CK:=CK) (CG:=CG) (a:=a) (w:=w) (p:=p+1) ha hk;rw[Zo (by rw[Te];omega),show jr (gO CG w L p).c (iW w) (L.map brd) (p+1)=gO CG w L (p+1) from rfl,e1];rfl
def NT(L:List (List Str))(W p:Nat):Int:=((TB p).map λk=>lH L W k*lH L W k).sum
noncomputable def jo(L:List (List Str))(W w p:Nat):D:= .tup [brd (L.getD p []),cL (iH (L.getD p []) W w), .int (lf (L.getD p []) W:Nat), .int (NT L W p)]
def Ms(ha:∀b∈L,Brd b W)(hs:∀b∈L,b.length*W<64)(hw:Ways w)(hp:p<L.length)(hl:L.length<=60):aE CK CG a (gO CG w L p) []=aa (jo L W w p):=by
 have ho:bu (bB 1 a (gO CG w L p) []) 0 CG=some (a,gO CG w L p):=bz rfl rfl;have hb:=getD_at (L:=L) hp;have bm:=TU hb;have hg:=ha _ bm;exact(bg (ao ((a9 (ds:=[]) ho rfl rfl).trans ((eY rfl).trans (vU hb))) (ao ((a9 (ds:=[]) ho rfl rfl).trans ((eY rfl).trans (iQ hg (hs _ bm) hw hb))) (ao ((a9 (ds:=[]) ho rfl rfl).trans ((eY rfl).trans (zx hg hb))) (ao ((a9 (ds:=[]) ho rfl rfl).trans ((eY rfl).trans (EZ ha hp hl))) rfl))))).trans rfl
def Gy{L L':List (List Str)}{m k:Nat}(h:∀j,j<m->L.getD j []=L'.getD j [])(hk:k+1<m):lH L W k=lH L' W k:=by
 unfold lH;rw[h k (by omega),h (k+1) hk]
def xM{L L':List (List Str)}{m k:Nat}(h:∀j,j<m->L.getD j []=L'.getD j [])(hk:k<m):jo L W w k=jo L' W w k:=by
 have e:NT L W k=NT L' W k:=by
  unfold NT;congr 1;refine UZ λj hj=>?_;have hj:=UP.mp hj;rw[Gy (W:=W) h (show j+1<m by omega)]
 unfold jo;rw[e,h k hk]
def FP{L:List (List Str)}{q:Nat}{n:List Str}(hq:q<L.length):∀j,j<q+1->(L.take (q+1)++[n]).getD j []=L.getD j []:=λj hj=>by
 rw[Tw,Tw,TF (by rw[UU];omega),Yw (by omega)]
end
section
variable{ρ:aM}{Q:OE->Prop}
def K5{χ:XE}{Q:OX->Prop}(h:χ.f ρ λx=>match x with | .val r ρ'=>Q (.rt r ρ') | .ex n ρ'=>Q (.ex n ρ')):(C2 χ).f ρ Q:=h
def Nc{g:D->D->M D}{χ:XE}{δ:DE}{ρ':aM}{d e:D}{t:Bool}(h:χ.f ρ λx=>x= .val (.fz d) ρ')(h1:δ ρ'=aa e)(h2:g d e=aa (.bl t))(q:Q (.val (.fz (.bl t)) ρ')):(FZ g χ δ).f ρ Q:=by
 show χ.f ρ _;refine χ.mono ρ _ _ (λx hx=>?_) h;subst hx;show (match δ ρ' with | none=>False | some (.ok d2)=>∃b,g d d2=aa (.bl b)/\Q (.val (.fz (.bl b)) ρ') | some (.ex n)=>Q (.ex n ρ'));rw[h1];exact⟨t,h2,q⟩
def m6{as:List Ar}{n m:Nat}{τ:XS}{ss:List Sl}(ha:jt as ρ=aa ss)(hn:(objs as).Nodup)(hm:as.length=m)(h:τ.f (ss.map some++TH (n - ss.length) none) λx=>∃r ρ',x= .rt r ρ'/\(∀c,r≠ .ow c)/\∃ρ2,gF as 0 ρ ρ'=some ρ2/\Q (.val r ρ2)):(fO as n m τ).f ρ Q:=by
 unfold fO
 dsimp only
 rw[ha];refine⟨hn,hm,τ.mono _ _ _ (λx hx=>?_) h⟩;obtain⟨r,ρ',rfl,h1,h2⟩:=hx;exact⟨h1,h2⟩
end
section
open Classical
variable{CK CG:Addr}{b:List Str}{W w:Nat}
def Nj(CG:Addr)(w:Nat)(L:List (List Str))(p:Nat):Option (List Str)->Ob
 |none=>gO CG w L p
 |some n=>gO CG w (L.take (p+1)++[n]) (p+1)
def A_(ns:List Int)(C7:ns.length<=63)(k:Nat)(hg:Brd b W)(hs:b.length*W<64)(hw:Ways w):∃f:Option (List Str),(f=none↔iH b W w=[])/\(∀n,f=some n->Brd n W/\n.length=b.length)/\
 ∀(CK CG a:Addr) (L:List (List Str)) (p:Nat),L[p]? =some b->L.length<=99->
  (aV CK CG).f [fz (.scr ns),fz (.int (k:Int)),some (.ob a (gO CG w L p)),none,none] λx=>∃ρ',x= .rt (.fz (.bl true)) ρ'/\ρ'[2]? =some (some (.ob a (Nj CG w L p f))):=by
 by_cases hz:iH b W w=[]
 ·refine⟨none,⟨λ_=>hz,λ_=>rfl⟩,λn z=>(by cases z),λCK CG a L p hb hl=>?_⟩;unfold aV;refine sq (c8 (ρ':=[fz (.scr ns),fz (.int (k:Int)),some (.ob a (gO CG w L p)),fz (cL []),none]) ((a6 ((a9 (ds:=[]) (bz rfl rfl) rfl rfl).trans ((eY rfl).trans ((iQ hg hs hw hb).trans (by rw[hz]))))).trans rfl) (gS _ 3) ?_);exact sq (uw (fB (fC ((av (x:=cL []) (y:=cL []) rfl rfl).trans ((DM _ _).trans (by rw[Zq rfl])))) rfl) ⟨_,rfl,rfl⟩)
 ·generalize hl:iH b W w=l at*;have Pk:0<l.length:=Y1.mpr hz;obtain⟨v,hv,ev⟩:=e7 ns C7 k l.length Pk;obtain⟨c,Qx⟩:∃c,l[v]? =some c:=⟨_,Tg hv⟩
  have hc:Tk1 b W w c:=FO hw (by rw[hl];exact TU Qx);have QE:=EB hg (aH b W w c);have hq:=Hb (q:=(· !=46)) rfl hw hc;rw[Zn (bne_iff_ne.mpr hc.lt)] at hq;have hq:lf (mz b W (aH b W w c)) W+(aH b W w c).length=lf b W:=hq;refine⟨some (mz b W (aH b W w c)),⟨λz=>(by cases z),λz=>Zp z hz⟩,λn z=>?_,λCK CG a L p hb xu=>?_⟩
  ·cases z;exact⟨QE,EC _ _ _⟩
  have hp:p<L.length:=(To.mp hb).1;unfold aV;refine sq (c8 (ρ':=[fz (.scr ns),fz (.int (k:Int)),some (.ob a (gO CG w L p)),fz (cL l),none]) ((a6 ((a9 (ds:=[]) (bz rfl rfl) rfl rfl).trans ((eY rfl).trans ((iQ hg hs hw hb).trans (by rw[hl]))))).trans rfl) (gS _ 3) ?_);refine sq (c8 (ρ':=[fz (.scr ns),fz (.int (k:Int)),some (.ob a (gO CG w L p)),fz (cL l),none]) (c7 (fC ((av (x:=cL l) (y:=cL []) rfl rfl).trans ((DM _ _).trans (by rw[Zr hz])))) rfl) (bF _) ?_);refine sq (c8 (ρ':=[fz (.scr ns),fz (.int (k:Int)),some (.ob a (gO CG w L p)),fz (cL l),fz (.int (lf b W:Nat))]) ((a6 ((a9 (ds:=[]) (bz rfl rfl) rfl rfl).trans ((eY rfl).trans (zx hg hb)))).trans rfl) (gS _ 4) ?_);have ed:d2 cT (dV 3) (aw 3 aQ (aC (dV 0) (aC (dV 1) (aC (dA bA (aC (dV 3) aN)) aN)))) [fz (.scr ns),fz (.int (k:Int)),some (.ob a (gO CG w L p)),fz (cL l),fz (.int (lf b W:Nat))]=aa (cD c):=
   (av (x:=cL l) (y:= .int (v:Int)) rfl ((aG (ds:=[.scr ns, .int (k:Int), .int (l.length:Int)]) (ao rfl (ao rfl (ao ((bg (xs:=[cL l]) (ao rfl rfl)).trans (Ej l)) rfl))) rfl).trans ev)).trans (fi (d:=cD c) (by rw[Tx,Qx];rfl))
  have ho:bu [fz (.scr ns),fz (.int (k:Int)),some (.ob a (gO CG w (L.take (p+1)++[mz b W (aH b W w c)]) (p+1))),fz (cL l),fz (.int (lf b W:Nat))] 2 CG=some (a,gO CG w (L.take (p+1)++[mz b W (aH b W w c)]) (p+1)):=bz rfl rfl;have el:d2 c9 (dV 4) (aP CG 2 "left" 0 (cM CK CG) aN) [fz (.scr ns),fz (.int (k:Int)),some (.ob a (gO CG w (L.take (p+1)++[mz b W (aH b W w c)]) (p+1))),fz (cL l),fz (.int (lf b W:Nat))]=aa (.int ((lf b W:Int) - (lf (mz b W (aH b W w c)) W:Int))):=
   (av (x:= .int (lf b W:Nat)) rfl ((a9 (ds:=[]) ho rfl rfl).trans ((eY rfl).trans (zx QE (by rw[TR (by rw[UU];omega),UU,show p+1 - min (p+1) L.length=0 by omega];rfl))))).trans rfl
  refine K5 (Nc (iJ (ds:=[cD c]) (bz rfl rfl) rfl (ao ed rfl) rfl (KY hg hs hw hb (by omega) hc) rfl) el (t:=true) ?_ ⟨_,rfl,rfl⟩);show aa (D.bl (((aH b W w c).length:Int)==(lf b W:Int) - (lf (mz b W (aH b W w c)) W:Int)))=_;rw[beq_iff_eq.mpr (by omega)]
end
section
open Classical
variable{CK CG a:Addr}{bd:List Str}{W w p i:Nat}{L:List (List Str)}{ρ:aM}{Q:OE->Prop}
def Eb(hG:Good bd W)(hw:Ways w):∀a,cK CK CG a ⟨CG,[]⟩ [brd bd,iW w]=aa (.non,gO CG w [bd] 0):=λa=>by
 show noex (dz [brd bd]>>=λ_=>d_ [iW w]>>=λ_=>aa (D.non,gO CG w [bd] 0))=_;rw[GK hG,ai,hw.nw,ai];rfl
def FR(hG:Good bd W)(hw:Ways w)(h0:L[0]? =some bd)(hl:L.length<=60)(ho:bu ρ i CG=some (a,gO CG w L p))(hi:ρ[i]? =some (some (.ob a (gO CG w L p))))
 (q:∀a',Q (.val (.ob a' (gO CG w L p)) (ρ.set i (some (.ob a (gO CG w L p)))))):(wm CG i "twin" 2 (cN CK CG)).f ρ Q:=by
 refine⟨by rw[ho];rfl,m6 (ss:=[.ob a (gO CG w L p)]) (by unfold jt;rw[hi];rfl) (by simp[objs]) rfl ?_⟩;show (cN CK CG).f [some (.ob a (gO CG w L p)),none] _;unfold cN;have o0:∀{x:Option Sl},bu [some (.ob a (gO CG w L p)),x] 0 CG=some (a,gO CG w L p):=bz rfl rfl;refine sq (Ik (uv (ds:=[brd bd,iW w]) (ao ((av (ba o0 rfl) rfl).trans (fi (i:=0) (p8 h0))) (ao (ba o0 rfl) rfl)) rfl (Eb hG hw) λa'=>?_));refine sq (e8 (o:=gO CG w [bd] 0) (a:=a') (bz rfl rfl) (d:= .lst (L.map brd)) ?_ (show 3<100 by decide) ?_)
 ·have o1:∀{x:Option Sl},bu [some (.ob a (gO CG w L p)),x] 0 CG=some (a,gO CG w L p):=bz rfl rfl;have e1:eV CG 0 "stages" [some (.ob a (gO CG w L p)),some (.ob a' (gO CG w [bd] 0))]=aa (.lst (L.map brd)):=ba o1 rfl;exact(bg (xs:=[.lst (L.map brd)]) (ao e1 rfl)).trans rfl
 refine sq (e8 (o:=gO CG w L 0) (a:=a') (bz rfl rfl) (d:= .int (p:Int)) (ba (a:=a) (o:=gO CG w L p) (bz rfl rfl) rfl) (show 3<100 by decide) ?_);refine K5 ?_;show∃r ρ',OX.rt (.ob a' (gO CG w L p)) [some (.ob a (gO CG w L p)),none]= .rt r ρ'/\_;refine⟨_,_,rfl,λc z=>(by cases z),_,?_,q a'⟩;unfold gF;rw[hi];show (if a=a then gF [] 1 (ρ.set i (some (.ob a (gO CG w L p)))) _ else none)=_;rw[Zn rfl];rfl
end
section
variable{ρ ρ':aM}{Q:OX->Prop}{A B:XS}{χ:XE}
def An(h:Q (.nx ρ)):sS.f ρ Q:=h
def Qc(h:χ.f ρ λx=>x= .val (.fz (.bl true)) ρ')(q:B.f ρ' Q):(C0 (rZ (r0 χ)) A B).f ρ Q:=by
 show χ.f ρ _;refine χ.mono ρ _ _ (λx hx=>?_) h;subst hx;exact q
def Jh{δ:DT}(h:χ.f ρ λx=>x= .val (.fz (.bl true)) ρ')(h2:δ ρ'=aa false)(q:B.f ρ' Q):(C0 (Ak (rZ (r0 χ)) (Al δ)) A B).f ρ Q:=by
 show χ.f ρ _;refine χ.mono ρ _ _ (λx hx=>?_) h;subst hx;show (match δ ρ' with | none=>False | some (.ok b)=>_ | some (.ex n)=>_);rw[h2];exact q
def K4{δ:DE}{ε:DT}{d d2:D}(h:χ.f ρ λx=>x= .val (.fz d) ρ')(h1:δ ρ'=aa d2)(h2:gr d d2=aa (.bl false))(h3:ε ρ'=aa false)(q:B.f ρ' Q):(C0 (Ak (rY gr χ δ) (Al ε)) A B).f ρ Q:=by
 show χ.f ρ _;refine χ.mono ρ _ _ (λx hx=>?_) h;subst hx;show (match δ ρ' with | none=>False | some (.ok d2)=>∃b,gr d d2=aa (.bl b)/\_ | some (.ex n)=>_);rw[h1];refine⟨false,h2,?_⟩;show (match ε ρ' with | none=>False | some (.ok b)=>_ | some (.ex n)=>_);rw[h3];exact q
def KI{i:Nat}{ds:List D}{δ:DE}{d:D}(ho:i4 ρ i=some ds)(h:δ ρ=aa d)(hl:ds.length<lim):k_ i δ ρ=aa (.nx (ρ.set i (some (.ow (.lst (ds++[d])))))):=by
 unfold k_;rw[ho];show (δ ρ>>=λd=>_)=_;rw[h,ai,Zn hl]
theorem ql{f:D->D->Option Bool}:∀xs:List D,(∀x∈xs,f x x=some true)->si f xs xs=some true
 |[],_=>rfl
 |x::xs,h=>by
  show (match f x x,si f xs xs with | some b,some r=>some (b&&r) | _,_=>none)=_;rw[h x (Th ..),ql xs λy hy=>h y (Tf _ hy)];rfl
end
section
open Classical
variable{CK CG a:Addr}{bd b:List Str}{W w p:Nat}{L:List (List Str)}{ρ:aM}
def gx:gr (jo L W w p) (jo L W w p)=aa (.bl false):=ne_self (by
 unfold jo;rw[show (6:Nat)=5+1 from rfl,AF];refine ql _ λx hx=>?_;rcases Tz.mp hx with rfl | hx
 ·exact(GA 4 _ _).trans (by rw[Zq rfl])
 rcases Tz.mp hx with rfl | hx
 ·exact(uN DI 3 _ _).trans (by rw[Zq rfl])
 rcases Tz.mp hx with rfl | hx
 ·exact(fW _ _ _).trans (by simp)
 rcases Tz.mp hx with rfl | hx
 ·exact(fW _ _ _).trans (by simp)
 cases hx)
def kX{i j k l:Int}(h1:i=k)(h2:j=l):gr (.tup [.int i, .int j]) (.tup [.int k, .int l])=aa (.bl false):=by
 rw[h1,h2];refine ne_self ?_;rw[show (6:Nat)=5+1 from rfl,AF];refine ql _ λx hx=>?_;rcases Tz.mp hx with rfl | hx
 ·exact(fW _ _ _).trans (by simp)
 rcases Tz.mp hx with rfl | hx
 ·exact(fW _ _ _).trans (by simp)
 cases hx
def g8{i:Nat}(ha:∀b∈L,Brd b W)(hs:∀b∈L,b.length*W<64)(hw:Ways w)(hp:p<L.length)(hl:L.length<=60)(h:ρ[i]? =some (some (.ob a (gO CG w L p)))):aP CG i "_law_now" 0 (aE CK CG) aN ρ=aa (jo L W w p):=
 (a9 (ds:=[]) (bz h rfl) rfl rfl).trans ((eY rfl).trans (Ms ha hs hw hp hl))
def gE{i:Nat}(h:ρ[i]? =some (some (.ob a (gO CG w L p)))):aP CG i "steps" 0 (aR CK CG) aN ρ=aa (.tup [.int (p:Int), .int ((L.length:Int) - 1 - (p:Int))]):=
 (a9 (ds:=[]) (bz h rfl) rfl rfl).trans ((eY rfl).trans HZ)
structure G82 (bd:List Str) (W w:Nat) (L:List (List Str)) (p:Nat):Prop where
 len:L.length=p+1
 h0:L[0]? =some bd
 br:∀b∈L,Brd b W
 sm:∀b∈L,b.length*W<64
 tk:∀k,k<p->iH (L.getD k []) W w≠[]
def G82.snoc(h:G82 bd W w L p){n:List Str}(hb:L[p]? =some b)(hz:iH b W w≠[])(hn:Brd n W)(hl:n.length=b.length):G82 bd W w (L++[n]) (p+1):=by
 have bm:=TU hb;refine⟨by rw[Tt,h.len];rfl,?_,λx hx=>?_,λx hx=>?_,λk hk=>?_⟩
 ·rw[TF (by rw[h.len];omega)];exact h.h0
 ·rcases Ud.mp hx with hx | hx
  ·exact h.br x hx
  ·rw[TQ.mp hx];exact hn
 ·rcases Ud.mp hx with hx | hx
  ·exact h.sm x hx
  ·rw[TQ.mp hx,hl];exact h.sm b bm
 ·rw[Tw,TF (by rw[h.len];omega),<-Tw];by_cases q:k<p
  ·exact h.tk k q
  ·rw[show k=p by omega,Tw,hb];exact hz
def yR(ns:List Int)(k:Nat)(b:List Str)(w:Nat)(f:Option (List Str)):Prop:=∀(CK CG a:Addr) (L:List (List Str)) (p:Nat),L[p]? =some b->L.length<=99->
     (aV CK CG).f [fz (.scr ns),fz (.int (k:Int)),some (.ob a (gO CG w L p)),none,none] λx=>∃ρ',x= .rt (.fz (.bl true)) ρ'/\ρ'[2]? =some (some (.ob a (Nj CG w L p f)))
def vG{ns:List Int}{k i:Nat}{f:Option (List Str)}{δ1:DE}(hf:yR ns k b w f)(h0:dV 0 ρ=aa (.scr ns))(h1:δ1 ρ=aa (.int (k:Int)))(hi:ρ[i]? =some (some (.ob a (gO CG w L p))))(hb:L[p]? =some b)(hl:L.length<=99):
 (fO [.v (dV 0), .v δ1, .o i] 5 3 (aV CK CG)).f ρ λx=>x= .val (.fz (.bl true)) (ρ.set i (some (.ob a (Nj CG w L p f)))):=by
 refine m6 (ss:=[.fz (.scr ns), .fz (.int (k:Int)), .ob a (gO CG w L p)]) ?_ (by simp[objs]) rfl (XF.mono _ _ _ _ (λx hx=>?_) (hf CK CG a L p hb hl))
 ·show (dV 0 ρ>>=λd=>(δ1 ρ>>=λd'=>(match ρ[i]? with | some (some (.ob a o))=>aa []>>=λss=>aa (Sl.ob a o::ss) | _=>af)>>=λss=>aa (Sl.fz d'::ss))>>=λss=>aa (Sl.fz d::ss))=_;rw[h0,h1,hi];rfl
 ·obtain⟨ρ',rfl,h2⟩:=hx;refine⟨_,_,rfl,λc z=>(by cases z),_,?_,rfl⟩;show gF [.o i] 2 ρ ρ'=_;unfold gF;rw[hi,h2];show (if a=a then gF [] 3 (ρ.set i (some (.ob a (Nj CG w L p f)))) _ else none)=_;rw[Zn rfl];rfl
end
section
open Classical
variable{CK CG a:Addr}{bd b:List Str}{W w p:Nat}{L:List (List Str)}{ns:List Int}
abbrev jq(ns:List Int)(a:Addr)(o:Ob)(x2 x3 x4 x5 x6 x7:Option Sl):aM:=[fz (.scr ns),some (.ob a o),x2,x3,x4,x5,x6,x7]
noncomputable def dY(L:List (List Str))(W w m:Nat):List D:=(TB m).map (jo L W w)
def pW{m:Nat}:(dY L W w m).length=m:=by simp[dY]
def Fm{m k:Nat}(h:k<m):(dY L W w m)[k]? =some (jo L W w k):=by
 unfold dY;rw[Tx,Vb h];rfl
def Jk(CK CG:Addr):XS:=(bN (C0 (rZ (r0 (fO [.v (dV 0), .v (d2 dD (dC (.int 70)) (dV 3)), .o 1] 5 3 (aV CK CG)))) (cC (bc (dC (.bl false)))) sS) (cC (iN (ej (d2 kG (d2 bt (aP CG 1 "steps" 0 (aR CK CG) aN) (dC (.int 0))) (Dw 2))) (k_ 2 (aP CG 1 "_law_now" 0 (aE CK CG) aN)) dq)))
theorem u5(C7:ns.length<=63)(hw:Ways w){P:aM->Prop}{S:Sl->aM->Prop}
 (hP:∀L p x3,G82 bd W w L p->p<50->(p=0->iH bd W w=[])->P (jq ns a (gO CG w L p) (some (.ow (.lst (dY L W w (p+1))))) x3 none none none none)):
 ∀(ks:List Nat) (L:List (List Str)) (p:Nat) (x3:Option Sl),G82 bd W w L p->p+ks.length<50->(p=0->ks=[]->iH bd W w=[])->
  fF (putN 3) (Jk CK CG) (ks.map λ(k:Nat)=>D.int (k:Int)) (jq ns a (gO CG w L p) (some (.ow (.lst (dY L W w (p+1))))) x3 none none none none) λx=>match x with | .nx ρ'=>P ρ' | .rt r ρ'=>S r ρ' | .ex _ _=>False
 |[],L,p,x3,h,hl,hz=>hP L p _ h (by simp at hl;omega) λe=>hz e rfl
 |k::ks,L,p,x3,h,hl,hz=>by
  rw[Tn] at hl;rw[Ts];refine lY ?_;obtain⟨b,hb⟩:∃b,L[p]? =some b:=⟨_,Tg (by rw[h.len];omega)⟩
  have bm:=TU hb;obtain⟨f,h1,h2,h3⟩:=A_ ns C7 (70+k) (h.br b bm) (h.sm b bm) hw;have h3:yR ns (70+k) b w f:=h3;show (Jk CK CG).f (jq ns a (gO CG w L p) (some (.ow (.lst (dY L W w (p+1))))) (fz (.int (k:Int))) none none none none) _;unfold Jk;refine sq (Qc (vG (δ1:=d2 dD (dC (.int 70)) (dV 3)) h3 rfl ((av (x:= .int 70) (y:= .int (k:Int)) rfl rfl).trans (by rw[gq];congr 2)) rfl hb (by rw[h.len];omega)) ?_);have tl:L.take (p+1)=L:=YF (by rw[h.len];exact Tr _);have eqv:∀{L':List (List Str)}{q:Nat}{ds:List D},ej (d2 kG (d2 bt (aP CG 1 "steps" 0 (aR CK CG) aN) (dC (.int 0))) (Dw 2)) (jq ns a (gO CG w L' q) (some (.ow (.lst ds))) (fz (.int (k:Int))) none none none none)=aa (decide (q=ds.length)):=by
   intro L' q ds;refine fC ((av (x:= .int (q:Int)) (y:= .int (ds.length:Int)) ((av (gE rfl) rfl).trans rfl) rfl).trans ?_);rw[uP,lj];congr 2
  cases f with
  |none=>
   refine An ?_;show (cC _).f (jq ns a (gO CG w L p) (some (.ow (.lst (dY L W w (p+1))))) (fz (.int (k:Int))) none none none none) _;refine c8 (c7 (eqv.trans (by rw[pW,Zr (by omega)])) rfl) (bF _) ?_;refine u5 C7 hw hP ks L p _ h (by omega) λe _=>?_;have hz:=h1.mp rfl;subst e;rw[h.h0] at hb;cases hb;exact hz
  |some n=>
   have iM:iH b W w≠[]:=λz=>by cases h1.mpr z
   obtain⟨OV,GR⟩:=h2 n rfl;have G':=h.snoc hb iM OV GR;have xu:(L++[n]).length<=60:=by rw[G'.len];omega
   refine An ?_;show (cC _).f (jq ns a (gO CG w (L.take (p+1)++[n]) (p+1)) (some (.ow (.lst (dY L W w (p+1))))) (fz (.int (k:Int))) none none none none) _;rw[tl];have en:dY L W w (p+1)++[jo (L++[n]) W w (p+1)]=dY (L++[n]) W w (p+1+1):=by
    unfold dY;rw[Wf (n:=p+1),UR];congr 1;refine UZ λj hj=>?_;have hj:=UP.mp hj;refine xM (m:=p+1) (λi hi=>?_) hj;rw[Tw,Tw,TF (by rw[h.len];omega)]
   refine c8 (ρ':=jq ns a (gO CG w (L++[n]) (p+1)) (some (.ow (.lst (dY (L++[n]) W w (p+1+1))))) (fz (.int (k:Int))) none none none none) (fB (eqv.trans (by rw[pW,Zq rfl])) ?_) (by repeat' first | exact .nil | refine .cons (.inl rfl) ?_ | refine .cons (.inr λa o z=>by cases z) ?_) ?_
   ·refine(KI rfl (g8 G'.br G'.sm hw (by rw[G'.len];omega) xu rfl) (by rw[pW,c_];omega)).trans ?_;rw[en];rfl
   ·exact u5 C7 hw hP ks (L++[n]) (p+1) _ G' (by omega) λe=>(by omega)
end
section
open Classical
variable{CK CG a:Addr}{bd b:List Str}{W w p:Nat}{L:List (List Str)}{ns:List Int}
def Fj(j:Nat):sN (((j+1:Nat):Int) - 1) (j+1)= .int (j:Int)::sN ((j:Int) - 1) j:=by
 unfold sN;rw[Vr,Ts,T7];have e0:D.int ((((j+1:Nat):Int) - 1) - ((0:Nat):Int))=D.int (j:Int):=by congr 1;omega
 rw[e0];refine Zv (D.int (j:Int):: ·) ?_;refine UZ λi _=>?_;show D.int ((((j+1:Nat):Int) - 1) - ((i+1:Nat):Int))=D.int (((j:Int) - 1) - (i:Int));congr 1;omega
def fU(L:List (List Str))(W p m:Nat):List Int:=(TB m).map λt=>lH L W (p - 1 - t)
def wg{m:Nat}:(fU L W p m).length=m:=by simp[fU]
def FQ{m:Nat}:fU L W p (m+1)=fU L W p m++[lH L W (p - 1 - m)]:=by
 unfold fU;rw[Wf,UR];rfl
def KZ{m k:Nat}(h:k<m):((fU L W p m).map D.int)[k]? =some (.int (lH L W (p - 1 - k))):=by
 unfold fU;rw[Tx,Tx,Vb h];rfl
def Jl(CK CG:Addr):XS:=(bN (By 6 (fV CG 1 "back" 0 (aZ CK CG) aN)) (bN (cC (iN (o7 (ej (d2 gr (aP CG 1 "_law_now" 0 (aE CK CG) aN) (d2 cT (dV 2) (dV 3)))) (ej (d2 gr (aP CG 1 "steps" 0 (aR CK CG) aN) (dA di (aC (dV 3) (aC (d2 c9 (dV 4) (dV 3)) aN)))))) (bc (dC (.bl false))) dq)) (cC (iN (Jf (ej (d2 gr (d2 cT (dV 6) (d1 va (dC (.int 1)))) (d2 c9 (d2 bt (d2 cT (dV 2) (dV 3)) (dC (.int 2))) (d2 bt (d2 cT (dV 2) (d2 dD (dV 3) (dC (.int 1)))) (dC (.int 2))))))) (bc (dC (.bl false))) dq))))
def Aa{ρ:aM}{δ:DE}{m k:Nat}(h2:dV 2 ρ=aa (.lst (dY L W w m)))(hd:δ ρ=aa (.int (k:Int)))(hk:k<m):d2 cT (dV 2) δ ρ=aa (jo L W w k):=
 (av h2 hd).trans (fi (Fm hk))
def yp{ρ:aM}{δ:DE}{m k:Nat}(h2:dV 2 ρ=aa (.lst (dY L W w m)))(hd:δ ρ=aa (.int (k:Int)))(hk:k<m):d2 bt (d2 cT (dV 2) δ) (dC (.int 2)) ρ=aa (.int (lf (L.getD k []) W:Nat)):=
 (av (Aa h2 hd hk) rfl).trans rfl
theorem AN(hw:Ways w)(h:G82 bd W w L p)(hp:p<50){x5:Option Sl}{P:aM->Prop}{S:Sl->aM->Prop}
 (hP:∀x3,P (jq ns a (gO CG w L 0) (fz (.lst (dY L W w (p+1)))) x3 (fz (.int (p:Int))) x5 (some (.ow (.lst ((fU L W p p).map D.int)))) none)):
 ∀(j:Nat) (x3:Option Sl),j<=p->
  fF (putN 3) (Jl CK CG) (sN ((j:Int) - 1) j) (jq ns a (gO CG w L j) (fz (.lst (dY L W w (p+1)))) x3 (fz (.int (p:Int))) x5 (some (.ow (.lst ((fU L W p (p - j)).map D.int)))) none) λx=>match x with | .nx ρ'=>P ρ' | .rt r ρ'=>S r ρ' | .ex _ _=>False
 |0,x3,_=>hP x3
 |j+1,x3,hj=>by
  rw[Fj];refine lY ?_;have xu:L.length<=60:=by rw[h.len];omega
  have NB:j<L.length:=by rw[h.len];omega
  show (Jl CK CG).f (jq ns a (gO CG w L (j+1)) (fz (.lst (dY L W w (p+1)))) (fz (.int (j:Int))) (fz (.int (p:Int))) x5 (some (.ow (.lst ((fU L W p (p - (j+1))).map D.int)))) none) _;unfold Jl;have et:(fU L W p (p - (j+1))).map D.int++[D.int (lH L W j)]=(fU L W p (p - j)).map D.int:=by
   rw[show p - j=(p - (j+1))+1 by omega,FQ,UR,show p - 1 - (p - (j+1))=j by omega];rfl
  refine sq (Qa (ds:=(fU L W p (p - (j+1))).map D.int) (d:= .int (lH L W j)) (ρ':=jq ns a (gO CG w L j) (fz (.lst (dY L W w (p+1)))) (fz (.int (j:Int))) (fz (.int (p:Int))) x5 (some (.ow (.lst ((fU L W p (p - (j+1))).map D.int)))) none) rfl (iJ (ds:=[]) (bz rfl rfl) rfl rfl rfl (yV h.br (by rw[h.len];omega) (by omega)) rfl) rfl (by rw[Te,wg,c_];omega) ?_);rw[et];show XF.f _ (jq ns a (gO CG w L j) (fz (.lst (dY L W w (p+1)))) (fz (.int (j:Int))) (fz (.int (p:Int))) x5 (some (.ow (.lst ((fU L W p (p - j)).map D.int)))) none) _;refine sq (c8 (ρ':=jq ns a (gO CG w L j) (fz (.lst (dY L W w (p+1)))) (fz (.int (j:Int))) (fz (.int (p:Int))) x5 (some (.ow (.lst ((fU L W p (p - j)).map D.int)))) none) (c7 (Dx (p:=false) (q:=false) (fC ((av (g8 h.br h.sm hw NB xu rfl) (Aa rfl rfl (by omega))).trans gx)) (fC ((av (gE rfl) ((bg (xs:=[.int (j:Int), .int ((p:Int) - (j:Int))]) (ao rfl (ao ((av (x:= .int (p:Int)) (y:= .int (j:Int)) rfl rfl).trans rfl) rfl))).trans rfl)).trans (kX rfl (by rw[h.len];omega))))) rfl) (bF _) ?_);refine c8 (ρ':=jq ns a (gO CG w L j) (fz (.lst (dY L W w (p+1)))) (fz (.int (j:Int))) (fz (.int (p:Int))) x5 (some (.ow (.lst ((fU L W p (p - j)).map D.int)))) none) (c7 (FL (fC ((av (x:= .int (lH L W j)) (y:= .int (lH L W j)) ?_ ((av (yp rfl rfl (by omega)) (yp (k:=j+1) rfl ((av (x:= .int (j:Int)) (y:= .int 1) rfl rfl).trans rfl) (by omega))).trans rfl)).trans (QT rfl)))) rfl) (bF _) (AN hw h hp hP j _ (by omega));rw[<-et];refine(av (x:= .lst ((fU L W p (p - (j+1))).map D.int++[D.int (lH L W j)])) (y:= .int (-1)) rfl rfl).trans ?_;show (match L2.atI ((fU L W p (p - (j+1))).map D.int++[D.int (lH L W j)]) (-1) with | some d=>aa d | none=>af)=_;rw[L2.p7]
def Jm(CK CG:Addr):XS:=(bN (C0 (Ak (rY gr (fV CG 1 "forth" 0 (cp CK CG) aN) (d2 cT (dV 6) (d2 c9 (dV 4) (dV 3)))) (Al (ej (d2 gr (aP CG 1 "_law_now" 0 (aE CK CG) aN) (d2 cT (dV 2) (dV 3)))))) (cC (bc (dC (.bl false)))) sS) (cC (iN (ej (d2 gr (aP CG 1 "steps" 0 (aR CK CG) aN) (dA di (aC (dV 3) (aC (d2 c9 (dV 4) (dV 3)) aN))))) (bc (dC (.bl false))) dq)))
theorem AO(hw:Ways w)(h:G82 bd W w L p)(hp:p<50){x5:Option Sl}{P:aM->Prop}{S:Sl->aM->Prop}
 (hP:∀x3,P (jq ns a (gO CG w L p) (fz (.lst (dY L W w (p+1)))) x3 (fz (.int (p:Int))) x5 (fz (.lst ((fU L W p p).map D.int))) none)):
 ∀(m j:Nat) (x3:Option Sl),j+m=p->
  fF (putN 3) (Jm CK CG) ((Uq (j+1) m).map λ(k:Nat)=>D.int (k:Int)) (jq ns a (gO CG w L j) (fz (.lst (dY L W w (p+1)))) x3 (fz (.int (p:Int))) x5 (fz (.lst ((fU L W p p).map D.int))) none) λx=>match x with | .nx ρ'=>P ρ' | .rt r ρ'=>S r ρ' | .ex _ _=>False
 |0,j,x3,e=>by
  have e:j=p:=by omega
  subst e;exact hP x3
 |m+1,j,x3,e=>by
  rw[VG,Ts];refine lY ?_;have xu:L.length<=60:=by rw[h.len];omega
  have NB:j+1<L.length:=by rw[h.len];omega
  show (Jm CK CG).f (jq ns a (gO CG w L j) (fz (.lst (dY L W w (p+1)))) (fz (.int ((j+1:Nat):Int))) (fz (.int (p:Int))) x5 (fz (.lst ((fU L W p p).map D.int))) none) _;unfold Jm;have ed:∀{o:Ob},d2 L3.c9 (dV 4) (dV 3) (jq ns a o (fz (.lst (dY L W w (p+1)))) (fz (.int ((j+1:Nat):Int))) (fz (.int (p:Int))) x5 (fz (.lst ((fU L W p p).map D.int))) none)=aa (.int (m:Int)):=λ{o}=>by
   refine(av (x:= .int (p:Int)) (y:= .int ((j+1:Nat):Int)) rfl rfl).trans ?_;show aa (D.int ((p:Int) - ((j+1:Nat):Int)))=_;congr 2;omega
  refine sq (K4 (d:= .int (lH L W j)) (d2:= .int (lH L W j)) (ρ':=jq ns a (gO CG w L (j+1)) (fz (.lst (dY L W w (p+1)))) (fz (.int ((j+1:Nat):Int))) (fz (.int (p:Int))) x5 (fz (.lst ((fU L W p p).map D.int))) none) (iJ (ds:=[]) (bz rfl rfl) rfl rfl rfl (GI h.br NB (by omega)) rfl) ((av (x:= .lst ((fU L W p p).map D.int)) rfl ed).trans (fi ((KZ (by omega)).trans (by rw[show p - 1 - m=j by omega])))) (QT rfl) (fC ((av (g8 h.br h.sm hw NB xu rfl) (Aa rfl rfl (by omega))).trans gx)) (An ?_));exact c8 (ρ':=jq ns a (gO CG w L (j+1)) (fz (.lst (dY L W w (p+1)))) (fz (.int ((j+1:Nat):Int))) (fz (.int (p:Int))) x5 (fz (.lst ((fU L W p p).map D.int))) none) (c7 (fC ((av (gE rfl) ((bg (xs:=[.int ((j+1:Nat):Int), .int (m:Int)]) (ao rfl (ao ed rfl))).trans rfl)).trans (kX rfl (by rw[h.len];omega)))) rfl) (bF _) (AO hw h hp hP m (j+1) _ (by omega))
theorem comp_back{i:Nat}(hb:∀b∈L,Brd b W)(hl:L.length<=60){Q:List D->aM->Prop}:∀(ds:List D) (q:Nat) (M2:List D) (ρ:aM),q+ds.length<L.length->M2.length+ds.length<=60->ρ[i]? =some (some (.ob a (gO CG w L (q+ds.length))))->
 Q (M2++(fU L W (q+ds.length) ds.length).map D.int) (ρ.set i (some (.ob a (gO CG w L q))))->fP (fV CG (i+1) "back" 0 (aZ CK CG) aN) ds M2 ρ Q
 |[],q,M2,ρ,_,_,h,k=>by
  have e:ρ.set i (some (.ob a (gO CG w L q)))=ρ:=by
   refine List.ext_getElem? λj=>?_;by_cases z:j=i
   ·rw[z,TY (To.mp h).1];exact h.symm
   ·rw[T5 (Vh z)]
  rw[e] at k;simpa[fU,fP] using k
 |d::ds,q,M2,ρ,h1,h2,h,k=>by
  rw[Tn] at h1 h2 h k;refine⟨by rw[c_];omega,?_⟩;refine iJ (ds:=[]) (a:=a) (o:=gO CG w L (q+ds.length+1)) (bz (i:=i+1) (by rw[T4];exact h) rfl) rfl rfl rfl (yV hb (by omega) (by omega)) ?_;show fP _ ds (M2++[D.int (lH L W (q+ds.length))]) (ρ.set i (some (.ob a (gO CG w L (q+ds.length))))) Q;have hi:=(To.mp h).1;refine comp_back hb hl ds q _ _ (by omega) (by rw[Tt];simp;omega) (TY hi) ?_;rw[List.set_set];have e:M2++[D.int (lH L W (q+ds.length))]++(fU L W (q+ds.length) ds.length).map D.int=M2++(fU L W (q+(ds.length+1)) (ds.length+1)).map D.int:=by
   rw[WE];congr 1;unfold fU;rw[Vr,Ts,Ts,T7,T7,T7];show _::_=_::_;congr 1;show List.map _ _=_;refine UZ λt ht=>?_;show D.int (lH L W (q+ds.length - 1 - t))=D.int (lH L W (q+(ds.length+1) - 1 - (t+1)));rw[show q+(ds.length+1) - 1 - (t+1)=q+ds.length - 1 - t by omega]
  rw[e];exact k
def Am{i n q:Nat}{ρ ρ':aM}{δ:DE}(hb:∀b∈L,Brd b W)(hl:L.length<=60)(hd:δ ρ=aa (.int (n:Int)))(hn:q+n<L.length)(h:ρ[i]? =some (some (.ob a (gO CG w L (q+n)))))(e:ρ.set i (some (.ob a (gO CG w L q)))=ρ'):
 (uu (λρ=>(aC δ aN) ρ>>=ei) (fV CG (i+1) "back" 0 (aZ CK CG) aN)).f ρ λx=>x= .val (.fz (.lst ((fU L W (q+n) n).map D.int))) ρ':=by
 subst e;show (match (aC δ aN ρ>>=ei) with | none=>False | some (.ex n)=>_ | some (.ok ds)=>fP _ ds [] ρ _);rw[CL hd (by omega)];have e:=comp_back (CK:=CK) (CG:=CG) (a:=a) (w:=w) (i:=i) (ρ:=ρ) (Q:=λys ρ'=>ys.length<=lim/\OE.val (.fz (.lst ys)) ρ'= .val (.fz (.lst ((fU L W (q+n) n).map D.int))) (ρ.set i (some (.ob a (gO CG w L q))))) hb hl ((TB n).map λ(k:Nat)=>D.int (k:Int)) q [];rw[Te,U0] at e;exact e hn (by simp;omega) h ⟨by rw[UA,Te,wg,c_];omega,by rw[UA]⟩
end
section
open Classical
variable{CK CG a a2:Addr}{bd b:List Str}{W w p:Nat}{L:List (List Str)}{ns:List Int}
abbrev pz(ns:List Int)(a a2:Addr)(o o2:Ob)(R:List D)(p v:Nat)(x6:Option Sl):aM:=[fz (.scr ns),some (.ob a o),some (.ob a2 o2),fz (.lst R),fz (.int (p:Int)),fz (.int (v:Int)),x6]
def zi(C7:ns.length<=63)(hG:Good bd W)(hw:Ways w)(h:G82 bd W w L p)(hp:p<50){q v:Nat}(hq:q+v=p)(hv:0<v):
 (b9 CK CG).f (pz ns a a2 (gO CG w L q) (gO CG w L q) (dY L W w (p+1)) p v none) λx=>∃ρ' o o2,x= .rt (.fz (.bl true)) ρ'/\ρ'[1]? =some (some (.ob a o))/\ρ'[2]? =some (some (.ob a2 o2)):=by
 have xu:L.length<=60:=by rw[h.len];omega
 have NJ:q<L.length:=by rw[h.len];omega
 have hb:=getD_at (L:=L) NJ;have bm:=TU hb;obtain⟨f,h1,h2,h3⟩:=A_ ns C7 90 (h.br _ bm) (h.sm _ bm) hw;have h3:yR ns 90 (L.getD q []) w f:=h3;obtain⟨n,rfl⟩:∃n,f=some n:=by
  cases f with
  |none=>exact Zp (h1.mp rfl) (h.tk q (by omega))
  |some n=>exact⟨n,rfl⟩
 obtain⟨OV,GR⟩:=h2 n rfl;have Mm:(L.take (q+1)++[n]).length=q+2:=by rw[Tt,UU];simp;omega
 have Nk:∀b∈L.take (q+1)++[n],Brd b W:=λx hx=>by
  rcases Ud.mp hx with hx | hx
  ·exact h.br x (YU hx)
  ·rw[TQ.mp hx];exact OV
 have PH:∀b∈L.take (q+1)++[n],b.length*W<64:=λx hx=>by
  rcases Ud.mp hx with hx | hx
  ·exact h.sm x (YU hx)
  ·rw[TQ.mp hx,GR];exact h.sm _ bm
 have pre:jo (L.take (q+1)++[n]) W w q=jo L W w q:=xM (m:=q+1) (FP NJ) (by omega);generalize Qu:L.take (q+1)++[n]=L2 at*;have ed:∀{o o2:Ob}{x6:Option Sl},d2 L3.c9 (dV 4) (dV 5) (pz ns a a2 o o2 (dY L W w (p+1)) p v x6)=aa (.int (q:Int)):=λ{o o2 x6}=>by
  refine(av (x:= .int (p:Int)) (y:= .int (v:Int)) rfl rfl).trans ?_;show aa (D.int ((p:Int) - (v:Int)))=_;congr 2;omega
 have er:∀{o o2:Ob}{x6:Option Sl},d2 cT (dV 3) (d2 L3.c9 (dV 4) (dV 5)) (pz ns a a2 o o2 (dY L W w (p+1)) p v x6)=aa (jo L W w q):=λ{o o2 x6}=>(av (x:= .lst (dY L W w (p+1))) rfl ed).trans (fi (Fm (by omega)));unfold b9;refine sq (Ik (FR (i:=2) (bd:=bd) (L:=L) (p:=q) hG hw h.h0 xu (bz rfl rfl) rfl λa3=>?_));show XF.f _ (pz ns a a2 (gO CG w L q) (gO CG w L q) (dY L W w (p+1)) p v (some (.ob a3 (gO CG w L q)))) _;refine sq (Jh (ρ':=pz ns a a2 (gO CG w L2 (q+1)) (gO CG w L q) (dY L W w (p+1)) p v (some (.ob a3 (gO CG w L q)))) ?_ (fC ((av (gE (i:=1) (L:=L2) (p:=q+1) rfl) ((bg (xs:=[.int ((q:Int)+1), .int 0]) (ao ((av (x:= .int (q:Int)) (y:= .int 1) ed rfl).trans rfl) (ao rfl rfl))).trans rfl)).trans (kX (by omega) (by rw[Mm];omega)))) (An ?_))
 ·have:=vG (CK:=CK) (CG:=CG) (a:=a) (i:=1) (ρ:=pz ns a a2 (gO CG w L q) (gO CG w L q) (dY L W w (p+1)) p v (some (.ob a3 (gO CG w L q)))) (δ1:=dC (.int 90)) h3 rfl rfl rfl hb (by omega);rw[<-Qu];exact this
 refine sq (c8 (ρ':=pz ns a a2 (gO CG w L2 (q+1)) (gO CG w L q) (dY L W w (p+1)) p v (some (.ob a3 (gO CG w L q)))) (c7 (fC ((av (g8 h.br h.sm hw NJ xu rfl) er).trans gx)) rfl) (bF _) ?_);refine sq (Jh (ρ':=pz ns a a2 (gO CG w L2 (q+1)) (gO CG w L2 (q+1)) (dY L W w (p+1)) p v (some (.ob a3 (gO CG w L q)))) ?_ (fC ((av (g8 (i:=2) (L:=L2) (p:=q+1) Nk PH hw (by omega) (by omega) rfl) (g8 (i:=1) (L:=L2) (p:=q+1) Nk PH hw (by omega) (by omega) rfl)).trans gx)) (An ?_))
 ·have:=vG (CK:=CK) (CG:=CG) (a:=a2) (i:=2) (ρ:=pz ns a a2 (gO CG w L2 (q+1)) (gO CG w L q) (dY L W w (p+1)) p v (some (.ob a3 (gO CG w L q)))) (δ1:=dC (.int 90)) h3 rfl rfl rfl hb (by omega);rw[<-Qu] at this⊢;exact this
 refine sq (c8 (ρ':=pz ns a a2 (gO CG w L2 (q+1)) (gO CG w L2 (q+1)) (dY L W w (p+1)) p v (some (.ob a3 (gO CG w L q)))) (c7 (fC ((av (g8 (i:=6) h.br h.sm hw NJ xu rfl) er).trans gx)) rfl) (bF _) ?_);refine sq (Qb (iJ (ds:=[]) (bz (i:=1) (o:=gO CG w L2 (q+1)) rfl rfl) rfl rfl rfl (yV Nk (by omega) (by omega)) ?_));show XF.f _ (pz ns a a2 (gO CG w L2 q) (gO CG w L2 (q+1)) (dY L W w (p+1)) p v (some (.ob a3 (gO CG w L q)))) _;refine sq (c8 (ρ':=pz ns a a2 (gO CG w L2 q) (gO CG w L2 (q+1)) (dY L W w (p+1)) p v (some (.ob a3 (gO CG w L q)))) (c7 (Dx (p:=false) (q:=false) (fC ((av (g8 (i:=1) (L:=L2) (p:=q) Nk PH hw (by omega) (by omega) rfl) er).trans (by rw[pre];exact gx))) (fC ((av (gE (i:=1) (L:=L2) (p:=q) rfl) ((bg (xs:=[.int (q:Int), .int 1]) (ao ed (ao rfl rfl))).trans rfl)).trans (kX rfl (by rw[Mm];omega))))) rfl) (bF _) ?_);refine uw (d:= .bl true) (aL ((av (gE (i:=6) (L:=L) (p:=q) rfl) ((bg (xs:=[.int (q:Int), .int (v:Int)]) (ao ed (ao rfl rfl))).trans rfl)).trans ?_)) ⟨_,_,_,rfl,rfl,rfl⟩;rw[show (L.length:Int) - 1 - (q:Int)=(v:Int) by rw[h.len];omega];have e:=kX (i:=(q:Int)) (j:=(v:Int)) rfl rfl;unfold gr at e;unfold kG;split at e
 ·rename_i t ht;cases t
  ·cases e
  ·rfl
 ·cases e
def Ei{CK CG:Addr}(ns:List Int)(hl:ns.length<=63):(k7 CK CG).f (some (.fz (.scr ns))::TH (8 - 1) none) λx=>∃ρ,x= .rt (.fz (.bl true)) ρ:=by
 obtain⟨bd,W,hG,h5,w5,eb⟩:=yY ns hl 0 5 (by decide) (by decide);have hg:=hG.brd;have hs:=zj hG;obtain⟨v,hv,ev⟩:=e7 ns hl 60 2 (by decide);obtain⟨w,hw,ew⟩:∃w,Ways w/\cT (.lst [.int 4, .int 8]) (.int (v:Int))=aa (iW w):=by
  match v,hv with
  |0,_=>exact⟨4, .inl rfl,rfl⟩
  |1,_=>exact⟨8, .inr rfl,rfl⟩
 unfold k7;refine sq (Ik (uv (ds:=[brd bd,iW w]) (ao ((aG (ds:=[.scr ns, .int 0, .int 5]) rfl rfl).trans eb) (ao ((av (x:= .lst [.int 4, .int 8]) (y:= .int (v:Int)) rfl ((aG (ds:=[.scr ns, .int 60, .int 2]) rfl rfl).trans ev)).trans ew) rfl)) rfl (Eb hG hw) λa=>?_));have G0:G82 bd W w [bd] 0:=⟨rfl,rfl,λx hx=>by rw[TQ.mp hx];exact hg,λx hx=>by rw[TQ.mp hx];exact hs,λk hk=>by omega⟩
 show XF.f _ (jq ns a (gO CG w [bd] 0) none none none none none none) _;refine sq (c8 (ρ':=jq ns a (gO CG w [bd] 0) (some (.ow (.lst (dY [bd] W w 1)))) none none none none none) ?_ (zM (c':= .lst []) _ 2) ?_)
 ·unfold yq;show ((aC (aP CG 1 "_law_now" 0 (aE CK CG) aN) aN (jq ns a (gO CG w [bd] 0) none none none none none none)>>=NN)>>=λc=>_)=_;rw[ao (x:=jo [bd] W w 0) (xs:=[]) (g8 G0.br G0.sm hw (VI 0) (show 1<=60 by decide) rfl) rfl,ai];rfl
 refine v_ (ds:=(TB 7).map λ(k:Nat)=>D.int (k:Int)) rfl (u5 (S:=λr ρ'=>∃ρ,(OX.rt r ρ')= .rt (.fz (.bl true)) ρ) hl hw (λL p x3 h hp hz=>?_) (TB 7) [bd] 0 _ G0 (by decide) λ_ z=>Zp z (by decide));have xu:L.length<=60:=by rw[h.len];omega
 have iX:p<L.length:=by rw[h.len];omega
 refine Fw ?_;show (XF.f _ (jq ns a (gO CG w L p) (fz (.lst (dY L W w (p+1)))) x3 none none none none) _);refine sq (c8 (ρ':=jq ns a (gO CG w L p) (fz (.lst (dY L W w (p+1)))) x3 (fz (.int (p:Int))) none none none) ((a6 (d:= .int (p:Int)) ((av (x:= .int ((p+1:Nat):Int)) (y:= .int 1) ((bg (xs:=[.lst (dY L W w (p+1))]) (ao rfl rfl)).trans ?_) rfl).trans ?_)).trans rfl) (gS _ 4) ?_)
 ·show aa (D.int (((dY L W w (p+1)).length:Nat):Int))=_;rw[pW]
 ·show aa (D.int (((p+1:Nat):Int) - 1))=_;congr 2;omega
 refine sq (Ik (FR (i:=1) (bd:=bd) (L:=L) (p:=p) hG hw h.h0 xu (bz rfl rfl) rfl λa2=>?_));show XF.f _ (jq ns a (gO CG w L p) (fz (.lst (dY L W w (p+1)))) x3 (fz (.int (p:Int))) (some (.ob a2 (gO CG w L p))) none none) _;refine sq (c8 (ρ':=jq ns a (gO CG w L p) (fz (.lst (dY L W w (p+1)))) x3 (fz (.int (p:Int))) (some (.ob a2 (gO CG w L p))) (some (.ow (.lst ((fU L W p (p - p)).map D.int)))) none) (by rw[Nat.sub_self];rfl) (zM (c':= .lst []) _ 6) ?_);refine v_ (ds:=sN ((p:Int) - 1) p) ?_ (AN (S:=λr ρ'=>∃ρ,(OX.rt r ρ')= .rt (.fz (.bl true)) ρ) hw h hp (λy3=>?_) p x3 (Tr _))
 ·show (aC (d2 L3.c9 (dV 4) (dC (.int 1))) (aC (d1 va (dC (.int 1))) (aC (d1 va (dC (.int 1))) aN)) (jq ns a (gO CG w L p) (fz (.lst (dY L W w (p+1)))) x3 (fz (.int (p:Int))) (some (.ob a2 (gO CG w L p))) (some (.ow (.lst ((fU L W p (p - p)).map D.int)))) none)>>=Bj)=_;rw[ao (x:= .int ((p:Int) - 1)) (xs:=[.int (-1), .int (-1)]) ((av (x:= .int (p:Int)) (y:= .int 1) rfl rfl).trans rfl) rfl,ai];show (if (-4096<=(p:Int) - 1/\(p:Int) - 1<=4096)/\(-4096<=(-1:Int)/\(-1:Int)<=4096)/\(-1:Int)= -1 then aa (sN ((p:Int) - 1) ((p:Int) - 1 - (-1)).toNat) else af)=_;rw[Zn ⟨⟨by omega,by omega⟩,⟨by omega,by omega⟩,rfl⟩,show ((p:Int) - 1 - (-1)).toNat=p by omega]
 have Lv:d2 cT (dV 2) (d1 va (dC (.int 1))) (jq ns a (gO CG w L 0) (fz (.lst (dY L W w (p+1)))) y3 (fz (.int (p:Int))) (some (.ob a2 (gO CG w L p))) (some (.ow (.lst ((fU L W p p).map D.int)))) none)=aa (jo L W w p):=by
  refine(av (x:= .lst (dY L W w (p+1))) (y:= .int (-1)) rfl rfl).trans ?_;show (match L2.atI (dY L W w (p+1)) (-1) with | some d=>aa d | none=>af)=_;rw[show dY L W w (p+1)=dY L W w p++[jo L W w p] from by unfold dY;rw[Wf,UR];rfl,L2.p7]
 refine sq (c8 (ρ':=jq ns a (gO CG w L 0) (fz (.lst (dY L W w (p+1)))) y3 (fz (.int (p:Int))) (some (.ob a2 (gO CG w L p))) (some (.ow (.lst ((fU L W p p).map D.int)))) none) (c7 (Dx (p:=false) (q:=false) (fC ((av (g8 (i:=5) h.br h.sm hw iX xu rfl) Lv).trans gx)) (fC ((av (gE (i:=5) (L:=L) (p:=p) rfl) ((bg (xs:=[.int (p:Int), .int 0]) (ao rfl (ao rfl rfl))).trans rfl)).trans (kX rfl (by rw[h.len];omega))))) rfl) (bF _) ?_);refine Fw ?_;show (XF.f _ (jq ns a (gO CG w L 0) (fz (.lst (dY L W w (p+1)))) y3 (fz (.int (p:Int))) (some (.ob a2 (gO CG w L p))) (fz (.lst ((fU L W p p).map D.int))) none) _);refine v_ (ds:=(Uq 1 (p+1 - 1)).map λ(k:Nat)=>D.int (k:Int)) (KH (i:=1) (j:=p+1) rfl ((av (x:= .int (p:Int)) (y:= .int 1) rfl rfl).trans rfl) (by omega) (by omega)) (AO (S:=λr ρ'=>∃ρ,(OX.rt r ρ')= .rt (.fz (.bl true)) ρ) hw h hp (λz3=>?_) p 0 y3 (by omega));have Ot:=getD_at (L:=L) iX;by_cases NI:p=0
 ·have Rz:L.getD p []=bd:=by
   rw[NI,Tw,h.h0];rfl
  have hz:=hz NI;refine sq (uw (d:= .bl true) (fB (fC ((av (x:= .int (p:Int)) (y:= .int 0) rfl rfl).trans ((uP _ _).trans (by rw[NI];rfl)))) (aL ((av (x:=cL (iH (L.getD p []) W w)) (y:=cL []) ((a9 (ds:=[]) (bz (i:=1) rfl rfl) rfl rfl).trans ((eY rfl).trans (iQ (h.br _ (TU Ot)) (h.sm _ (TU Ot)) hw Ot))) rfl).trans ((DM _ _).trans (by rw[Rz,hz,Zq rfl]))))) ⟨_,rfl⟩)
 refine sq (c8 (ρ':=jq ns a (gO CG w L p) (fz (.lst (dY L W w (p+1)))) z3 (fz (.int (p:Int))) (some (.ob a2 (gO CG w L p))) (fz (.lst ((fU L W p p).map D.int))) none) (c7 (fC ((av (x:= .int (p:Int)) (y:= .int 0) rfl rfl).trans ((uP _ _).trans (by
  rw[show (0:Int)=((0:Nat):Int) from rfl,lj];congr 2;exact Zu.mpr NI)))) rfl) (bF _) ?_)
 obtain⟨u,hu,eu⟩:=e7 ns hl 61 p (by omega);obtain⟨q,hq⟩:∃q,q+(u+1)=p:=⟨p - (u+1),by omega⟩
 refine sq (c8 (ρ':=jq ns a (gO CG w L p) (fz (.lst (dY L W w (p+1)))) z3 (fz (.int (p:Int))) (some (.ob a2 (gO CG w L p))) (fz (.lst ((fU L W p p).map D.int))) (fz (.int ((u+1:Nat):Int)))) ((a6 (d:= .int ((u+1:Nat):Int)) ((av (x:= .int 1) (y:= .int (u:Int)) rfl ((aG (ds:=[.scr ns, .int 61, .int (p:Int)]) rfl rfl).trans eu)).trans (gq.trans (by congr 2;omega)))).trans rfl) (gS _ 7) ?_);have Qo:∀{o o2:Ob},Js (dV 6) oN (oS (dV 7)) (jq ns a o (fz (.lst (dY L W w (p+1)))) z3 (fz (.int (p:Int))) (some (.ob a2 o2)) (fz (.lst ((fU L W p p).map D.int))) (fz (.int ((u+1:Nat):Int))))=aa (.lst ((fU L W p (u+1)).map D.int)):=λ{o o2}=>by
  unfold Js;rw[qh (d:= .lst ((fU L W p p).map D.int)) rfl,ai,show oN _=aa none from rfl,ai,Mv (k:=(u:Int)+1) rfl,ai];rw[Bs (p:=u) (by rw[Te,wg];omega),<-Yx];unfold fU;rw[<-Yx,List.take_range,Nat.min_eq_left (by omega)]
 have IE:gr (.lst ((fU L W p (u+1)).map D.int)) (.lst ((fU L W p (u+1)).map D.int))=aa (.bl false):=(DJ (uN GC) (by decide) _ _).trans (by rw[Zq rfl];rfl);have cb:∀{i:Nat}{a:Addr}{ρ ρ':aM},dV 7 ρ=aa (.int ((u+1:Nat):Int))->ρ[i]? =some (some (.ob a (gO CG w L p)))->ρ.set i (some (.ob a (gO CG w L q)))=ρ'->(uu (λρ=>(aC (dV 7) aN) ρ>>=ei) (fV CG (i+1) "back" 0 (aZ CK CG) aN)).f ρ λx=>x= .val (.fz (.lst ((fU L W p (u+1)).map D.int))) ρ':=λ{i a ρ ρ'} h1 h2 h3=>by
  have:=Am (CK:=CK) (i:=i) (n:=u+1) (q:=q) h.br xu h1 (by omega) (by rw[hq];exact h2) h3;rw[hq] at this;exact this
 refine sq (Nb (t:=false) (ρ':=jq ns a (gO CG w L q) (fz (.lst (dY L W w (p+1)))) z3 (fz (.int (p:Int))) (some (.ob a2 (gO CG w L p))) (fz (.lst ((fU L W p p).map D.int))) (fz (.int ((u+1:Nat):Int)))) (cb (i:=1) (a:=a) rfl rfl rfl) Qo IE (An ?_));refine sq (Nb (t:=false) (ρ':=jq ns a (gO CG w L q) (fz (.lst (dY L W w (p+1)))) z3 (fz (.int (p:Int))) (some (.ob a2 (gO CG w L q))) (fz (.lst ((fU L W p p).map D.int))) (fz (.int ((u+1:Nat):Int)))) (cb (i:=5) (a:=a2) rfl rfl rfl) Qo IE (An ?_));refine K5 (m6 (ss:=[.fz (.scr ns), .ob a (gO CG w L q), .ob a2 (gO CG w L q), .fz (.lst (dY L W w (p+1))), .fz (.int (p:Int)), .fz (.int ((u+1:Nat):Int))]) rfl (by simp[objs]) rfl (XF.mono _ _ _ _ (λx hx=>?_) (zi (CK:=CK) (CG:=CG) (a:=a) (a2:=a2) hl hG hw h hp hq (by omega))));obtain⟨ρ',o,o2,rfl,k1,k2⟩:=hx;refine⟨_,_,rfl,λc z=>(by cases z),jq ns a o (fz (.lst (dY L W w (p+1)))) z3 (fz (.int (p:Int))) (some (.ob a2 o2)) (fz (.lst ((fU L W p p).map D.int))) (fz (.int ((u+1:Nat):Int))),?_,⟨_,rfl⟩⟩;show gF [.o 1, .o 5, .v (dV 2), .v (dV 4), .v (dV 7)] 1 _ ρ'=_;unfold gF;rw[k1];show (if a=a then gF [.o 5, .v (dV 2), .v (dV 4), .v (dV 7)] 2 _ ρ' else none)=_;rw[Zn rfl];unfold gF;rw[k2];show (if a2=a2 then gF [.v (dV 2), .v (dV 4), .v (dV 7)] 3 _ ρ' else none)=_;rw[Zn rfl];rfl
end
end K1
namespace K1
open PySem PySem.Spec L2 L3
open PyProof.Rows hiding St
def DF(K:Ti)(x:Str)(s:Stmt):Prop:=∃(f:Addr) (oc:Value) (od an:Option Addr) (sl:Array (Option Value)) (kV dc pm cd ct:Value),Ui K TN x=some (some (.ref f))/\K.lookup f=some ⟨oc,od, .func (Uj x x (aS s) (aB s) (ag s) .none kV dc pm an cd ct),sl⟩/\U8 K cd x=true/\Uk K (.ref f)=true
def DF.mk{K:Ti}{x:Str}{s:Stmt}{f:Addr}{oc:Value}{od an:Option Addr}{sl:Array (Option Value)}{kV dc pm cd ct:Value}(a:Ui K TN x=some (some (.ref f)))(l:K.lookup f=some ⟨oc,od, .func (Uj x x (aS s) (aB s) (ag s) .none kV dc pm an cd ct),sl⟩)(c:U8 K cd x=true)(k:Uk K (.ref f)=true):DF K x s:=⟨f,oc,od,an,sl,kV,dc,pm,cd,ct,a,l,c,k⟩
def DF.at{K:Ti}{x:Str}{s:Stmt}{h:Heap}{mg:Str->Option Value}(X:K.In h)(G:h.Ns TN mg)(d:DF K x s):∃f,bO K mg x s f:=by
 obtain⟨f,oc,od,an,sl,kV,dc,pm,cd,ct,a,l,c,k⟩:=d;exact⟨f,Vv X G a,_,uS (st:=s) l c k⟩
def MF(K:Ti)(C:Addr)(x q:Str)(s:Stmt):Prop:=∃(f:Addr) (oc:Value) (od an:Option Addr) (sl:Array (Option Value)) (kV dc pm cd ct:Value),Uo K (.ref C) x=some (some (.ref f))/\VR K (.ref f)=true/\K.lookup f=some ⟨oc,od, .func (Uj x q (aS s) (aB s) (ag s) .none kV dc pm an cd ct),sl⟩/\U8 K cd q=true/\Uk K (.ref f)=true
def MF.mk{K:Ti}{C:Addr}{x q:Str}{s:Stmt}{f:Addr}{oc:Value}{od an:Option Addr}{sl:Array (Option Value)}{kV dc pm cd ct:Value}(a:Uo K (.ref C) x=some (some (.ref f)))(i:VR K (.ref f)=true)(l:K.lookup f=some ⟨oc,od, .func (Uj x q (aS s) (aB s) (ag s) .none kV dc pm an cd ct),sl⟩)(c:U8 K cd q=true)(k:Uk K (.ref f)=true):MF K C x q s:=⟨f,oc,od,an,sl,kV,dc,pm,cd,ct,a,i,l,c,k⟩
def MF.at{K:Ti}{C:Addr}{x q:Str}{s:Stmt}(h:L2.Cls K C)(d:MF K C x q s):∃f,MethAt K C x q s f:=by
 obtain⟨f,oc,od,an,sl,kV,dc,pm,cd,ct,a,i,l,c,k⟩:=d;exact⟨f,h,⟨a,i,k⟩,_,uS (st:=s) l c k⟩
def IM(K:Ti)(C:Addr)(q:Str)(s:Stmt):Prop:=∃(f:Addr) (oc:Value) (od an:Option Addr) (sl:Array (Option Value)) (kV dc pm cd ct:Value),WN K C=true/\Uo K (.ref C) "__init__"=some (some (.ref f))/\VR K (.ref f)=true/\Uk K (.ref C)=true/\K.lookup f=some ⟨oc,od, .func (Uj "__init__" q (aS s) (aB s) (ag s) .none kV dc pm an cd ct),sl⟩/\U8 K cd q=true/\Uk K (.ref f)=true
def IM.mk{K:Ti}{C:Addr}{q:Str}{s:Stmt}{f:Addr}{oc:Value}{od an:Option Addr}{sl:Array (Option Value)}{kV dc pm cd ct:Value}(m:WN K C=true)(a:Uo K (.ref C) "__init__"=some (some (.ref f)))(i:VR K (.ref f)=true)(kc:Uk K (.ref C)=true)(l:K.lookup f=some ⟨oc,od, .func (Uj "__init__" q (aS s) (aB s) (ag s) .none kV dc pm an cd ct),sl⟩)(c:U8 K cd q=true)(k:Uk K (.ref f)=true):IM K C q s:=⟨f,oc,od,an,sl,kV,dc,pm,cd,ct,m,a,i,kc,l,c,k⟩
def IM.at{K:Ti}{C:Addr}{x q:Str}{s:Stmt}{mg:Str->Option Value}(h:mg x=some (.ref C))(d:IM K C q s):∃f,yQ K mg C x q s f:=by
 obtain⟨f,oc,od,an,sl,kV,dc,pm,cd,ct,m,a,i,kc,l,c,k⟩:=d;exact⟨f,⟨m,a,i,kc⟩,h,_,uS (st:=s) l c k⟩
def all_mk{P:T3}{w:World}{K:Ti}{h:Heap}{mg:Str->Option Value}{fa CK CG:Addr}(X:K.In h)(G:h.Ns TN mg)(RI:mg "law"=some (.ref fa))
 {lI:Addr}{zO p4:Option Addr}{Ae:Array (Option Value)}{zN qz qi rn lD qe:Value}
 {CS:Tok}
 {yC:Tok}
 {rS:Tok}
 {we:Tok}
 (e_Game:Ui K TN "Game"=some (some (.ref CG)))
 (c_Game:L2.Cls K CG)
 (n_Game_stages:Uo K (.ref CG) "stages"=some none)
 (n_Game_place:Uo K (.ref CG) "place"=some none)
 (n_Game_ways:Uo K (.ref CG) "ways"=some none)
 (d_Game_rows:MF K CG "rows" "Game.rows" j8)
 (d_Game_steps:MF K CG "steps" "Game.steps" i8)
 (d_is_whole:DF K "is_whole" lU)
 (d_is_letter:DF K "is_letter" kg)
 (d_cells_of_row:DF K "cells_of_row" eS)
 (d_letter_of:DF K "letter_of" ki)
 (d_are_next:DF K "are_next" lT)
 (d_keyed:DF K "keyed" vW)
 (d_fallen_column:DF K "fallen_column" d3)
 (d_many_letters:DF K "many_letters" eT)
 (d_law_cell:DF K "_law_cell" lV)
 (d_Game_left:MF K CG "left" "Game.left" j7)
 (d_Game_taken_behind:MF K CG "taken_behind" "Game.taken_behind" dJ)
 (d_is_row:DF K "is_row" mS)
 (d_is_cell:DF K "is_cell" nP)
 (d_need_ways:DF K "need_ways" kl)
 (d_all_cells:DF K "all_cells" ke)
 (d_next_cells:DF K "next_cells" i_)
 (d_with_letters:DF K "with_letters" eU)
 (d_can_be_taken:DF K "can_be_taken" gA)
 (d_fallen:DF K "fallen" kf)
 (d_law_drawn:DF K "_law_drawn" kh)
 (d_Game_points:MF K CG "points" "Game.points" dQ)
 (d_Game_back:MF K CG "back" "Game.back" j5)
 (d_Game_forth:MF K CG "forth" "Game.forth" i7)
 (d_is_board:DF K "is_board" gB)
 (d_need_cell:DF K "need_cell" kj)
 (d_like_cells:DF K "like_cells" f6)
 (d_law_board:DF K "_law_board" gY)
 (d_need_board:DF K "need_board" i9)
 (d_steps_back:DF K "steps_back" ja)
 (d_Game_init:IM K CG "Game.__init__" j6)
 (d_all_patches:DF K "all_patches" g_)
 (d_patch_to_take:DF K "patch_to_take" fL)
 (d_Game_take:MF K CG "take" "Game.take" j9)
 (d_Game_can_take:MF K CG "can_take" "Game.can_take" dZ)
 (d_Game_twin:MF K CG "twin" "Game.twin" j_)
 (d_law_play_k82:DF K "_law_play" gD)
 (d_law_now_k82:DF K "_law_now" hJ)
 (d_law_go_apart_k82:DF K "_law_go_apart" d7)
 (a_law_k82:Ui K TN "law"=some (some (.ref lI)))(l_law_k82:K.lookup lI=some ⟨zN,zO, .func (Uj "law" "law" (aS cH) (aB cH) (ag cH) .none qz qi rn p4 lD qe),Ae⟩)(c_law_k82:U8 K lD "law"=true)(k_law_k82:Uk K (.ref lI)=true)
 (z_len:Ui K TN "len"=some none)
 (z_isinstance:Ui K TN "isinstance"=some none)
 (z_all:Ui K TN "all"=some none)
 (z_abs:Ui K TN "abs"=some none)
 (z_max:Ui K TN "max"=some none)
 (z_min:Ui K TN "min"=some none)
 (z_sum:Ui K TN "sum"=some none)
 (z_range:Ui K TN "range"=some none)
 (z_str:Ui K TN "str"=some none)
 (z_int:Ui K TN "int"=some none)
 (z_bool:Ui K TN "bool"=some none)
 (z_tuple:Ui K TN "tuple"=some none)
 (z_list:Ui K TN "list"=some none)
 (z_sorted:Ui K TN "sorted"=some none)
 (y_LETTERS:Ui K TN "LETTERS"=some (some (.str "abcdef" CS)))
 (y_MOST_ROWS:Ui K TN "MOST_ROWS"=some (some (.int 8 yC)))
 (y_MOST_COLUMNS:Ui K TN "MOST_COLUMNS"=some (some (.int 8 rS)))
 (y_EMPTY:Ui K TN "EMPTY"=some (some (.str "." we)))
 (u_EMPTY:(WO 1 we&&WO (YE we) L2.Jg)=true):
 ∃(cv:Nat->Value) (fd:Vz),(∀(s:Tp) (u:Value),BindsTo s fd ⟨[u],[]⟩ [("_law_script",u)])/\∀base:Heap,K.In base->base.Ns TN mg->FnOk P w K mg base (f7 P w cv) 9 fa fd ["_law_script"] (KR K cv 1 BY):=by
 have ea:=RI.symm.trans (Vv X G a_law_k82);cases ea;refine⟨λ_=> .none,Uj "law" "law" (aS cH) (aB cH) (ag cH) .none qz qi rn p4 lD qe,λs v=> .of_eq rfl,λbase KB GB=>?_⟩;have B:Bl K mg base (λ_=> .none) (λ_=>TN) TN:=⟨Ug X G z_len,Ug X G z_isinstance,Ug X G z_all,Ug X G z_abs,Ug X G z_max,Ug X G z_min,Ug X G z_sum,Ug X G z_range,Ug X G z_str,Ug X G z_int,Ug X G z_bool,Ug X G z_tuple,Ug X G z_list,Ug X G z_sorted,⟨_,Vv X G y_LETTERS⟩,⟨_,Vv X G y_MOST_ROWS⟩,⟨_,Vv X G y_MOST_COLUMNS⟩,⟨_,Vv X G y_EMPTY⟩,⟨_,u_EMPTY,Vv X G y_EMPTY⟩⟩
 have O:Bo K CK CG:=⟨c_Game,n_Game_stages,n_Game_place,n_Game_ways⟩
 have gR:=(MF.at c_Game d_Game_rows).elim λ_ t=>vk (P:=P) (w:=w) B O t;have mB:=(MF.at c_Game d_Game_steps).elim λ_ t=>sH (P:=P) (w:=w) B O t;have qU:=(DF.at X G d_is_whole).elim λ_ t=>xW (P:=P) (w:=w) B t;have xP:=(DF.at X G d_is_letter).elim λ_ t=>vp (P:=P) (w:=w) B t;have jJ:=(DF.at X G d_cells_of_row).elim λ_ t=>pj (P:=P) (w:=w) B t;have jM:=(DF.at X G d_letter_of).elim λ_ t=>vv (P:=P) (w:=w) B t;have zJ:=(DF.at X G d_are_next).elim λ_ t=>xU (P:=P) (w:=w) B t;have AW:=(DF.at X G d_keyed).elim λ_ t=>EG (P:=P) (w:=w) B t;have pe:=(DF.at X G d_fallen_column).elim λ_ t=>nA (P:=P) (w:=w) B t;have jN:=(DF.at X G d_many_letters).elim λ_ t=>pq (P:=P) (w:=w) B t;have zL:=(DF.at X G d_law_cell).elim λ_ t=>xX (P:=P) (w:=w) B t;have oA:=(MF.at c_Game d_Game_left).elim λ_ t=>vj (P:=P) (w:=w) B O jN gR t;have dI:=(MF.at c_Game d_Game_taken_behind).elim λ_ t=>jP (P:=P) (w:=w) B O jN t;have EF:=(DF.at X G d_is_row).elim λ_ t=>Cq (P:=P) (w:=w) B xP t;have Ck:=(DF.at X G d_is_cell).elim λ_ t=>zP (P:=P) (w:=w) B qU t;have xS:=(DF.at X G d_need_ways).elim λ_ t=>vx (P:=P) (w:=w) B qU t;have xO:=(DF.at X G d_all_cells).elim λ_ t=>vo (P:=P) (w:=w) B jJ t;have vg:=(DF.at X G d_next_cells).elim λ_ t=>sL (P:=P) (w:=w) B zJ t;have qV:=(DF.at X G d_with_letters).elim λ_ t=>pw (P:=P) (w:=w) B AW jJ jM t;have jI:=(DF.at X G d_can_be_taken).elim λ_ t=>ph (P:=P) (w:=w) B jM t;have EE:=(DF.at X G d_fallen).elim λ_ t=>Co (P:=P) (w:=w) B pe t;have jK:=(DF.at X G d_law_drawn).elim λ_ t=>vr (P:=P) (w:=w) B zL t;have sE:=(MF.at c_Game d_Game_points).elim λ_ t=>qW (P:=P) (w:=w) B O dI t;have oy:=(MF.at c_Game d_Game_back).elim λ_ t=>vh (P:=P) (w:=w) B O dI wL t;have vc:=(MF.at c_Game d_Game_forth).elim λ_ t=>sG (P:=P) (w:=w) B O dI uE t;have zK:=(DF.at X G d_is_board).elim λ_ t=>xV (P:=P) (w:=w) B EF t;have xR:=(DF.at X G d_need_cell).elim λ_ t=>vw (P:=P) (w:=w) B Ck t;have ve:=(DF.at X G d_like_cells).elim λ_ t=>sI (P:=P) (w:=w) B jM vg t;have xQ:=(DF.at X G d_law_board).elim λ_ t=>vq (P:=P) (w:=w) B jK t;have vf:=(DF.at X G d_need_board).elim λ_ t=>sJ (P:=P) (w:=w) B zK t;have mC:=(DF.at X G d_steps_back).elim λ_ t=>sM (P:=P) (w:=w) B ve t;have oz:=(IM.at (Vv X G e_Game) d_Game_init).elim λ_ t=>vi (P:=P) (w:=w) B O vf xS wM t;have sF:=(DF.at X G d_all_patches).elim λ_ t=>qX (P:=P) (w:=w) B xO mC AW t;have pf:=(DF.at X G d_patch_to_take).elim λ_ t=>nB (P:=P) (w:=w) B xR mC jI t;have xN:=(MF.at c_Game d_Game_take).elim λ_ t=>vm (P:=P) (w:=w) B O pf EE gR qV wN t;have fK:=(MF.at c_Game d_Game_can_take).elim λ_ t=>nz (P:=P) (w:=w) B O sF gR jI t;have oB:=(MF.at c_Game d_Game_twin).elim λ_ t=>vn (P:=P) (w:=w) B O oz t;have jL:=(DF.at X G d_law_play_k82).elim λ_ t=>pk (P:=P) (w:=w) B O fK oA xN jK t;have ll:=(DF.at X G d_law_now_k82).elim λ_ t=>qY (P:=P) (w:=w) B O gR fK oA sE t;have lP:=(DF.at X G d_law_go_apart_k82).elim λ_ t=>k9 (P:=P) (w:=w) B O oB oy ll mB jL t;exact xT B O oz oB lP xQ ll jK jL oy mB fK vc (uS (st:=cH) l_law_k82 c_law_k82 k_law_k82) Ei
end K1
open PySem PySem.W PyProof.Rows
theorem PySem.Challenge.cw_cellpatches_k82_whole_back_holds : PySem.Challenge.rw_cellpatches_k82_whole_back.Holds := by
 w_on;refine holds_law (by kernel_rfl) λSw=>?_
 refine L3.xy (l:=PySem.Challenge.rw_cellpatches_k82_whole_back) (T:=L2.Jg) (n:=63) (q:=K1.oY) (loose:=[]) (Xt:=λs=>xlAt K1.oY [] s&&recOk PySem.Challenge.rw_cellpatches_k82_whole_back.row.records s) (XP:=XL K1.oY []) (Yf:=λs=>(Hook.obs (kHook K1.jE K1.jC (λ_=>by kernel_rfl)) s,WO 600 s.toks)) (Ya:=λw=>(Hook.val (kHook K1.jE K1.jC (λ_=>by kernel_rfl)) w,true)) (YP:=Hook.says (kHook K1.jE K1.jC (λ_=>by kernel_rfl))) (N:=5204) ?hl (λw s e=>Hook.of (kHook K1.jE K1.jC (λ_=>by kernel_rfl)) w s (Zv Prod.fst e)) (λw s e=>W6 (Zv Prod.snd e)) (Hook.keeps (kHook K1.jE K1.jC (λ_=>by kernel_rfl))) (λs e=>xl_of s (UC.mp e).1) XL.keeps (by rfl) (by rfl) (by rfl) (λs e=>recFacts_of (UC.mp e).2) (by rfl) (by first | assumption | decide+kernel) (by decide+kernel) ⟨rfl,rfl,rfl,rfl,rfl,by decide+kernel⟩ ?hw rfl (by rfl) ?hc
 case hl=>exact K1.LW
 (case hw=>w_witness2)
 k_fill
 refine L3.M_ (l:=PySem.Challenge.rw_cellpatches_k82_whole_back) (k:=9) (n:=63) (x:="_law_script") (g:=L3.BY) rfl (by decide) ⟨rfl,by decide,by decide⟩ (λw h Y=>PySem.W.kIn_of Y) L3.BZ ?F
 case F=>
  intro w mg fa h KX G OU;refine' K1.all_mk (CK:=TN) KX G OU ?e_Game ?c_Game ?n_Game_stages ?n_Game_place ?n_Game_ways ?d_Game_rows ?d_Game_steps ?d_is_whole ?d_is_letter ?d_cells_of_row ?d_letter_of ?d_are_next ?d_keyed ?d_fallen_column ?d_many_letters ?d_law_cell ?d_Game_left ?d_Game_taken_behind ?d_is_row ?d_is_cell ?d_need_ways ?d_all_cells ?d_next_cells ?d_with_letters ?d_can_be_taken ?d_fallen ?d_law_drawn ?d_Game_points ?d_Game_back ?d_Game_forth ?d_is_board ?d_need_cell ?d_like_cells ?d_law_board ?d_need_board ?d_steps_back ?d_Game_init ?d_all_patches ?d_patch_to_take ?d_Game_take ?d_Game_can_take ?d_Game_twin ?d_law_play_k82 ?d_law_now_k82 ?d_law_go_apart_k82 ?a_law_k82 ?l_law_k82 ?c_law_k82 ?k_law_k82 ?z_len ?z_isinstance ?z_all ?z_abs ?z_max ?z_min ?z_sum ?z_range ?z_str ?z_int ?z_bool ?z_tuple ?z_list ?z_sorted ?y_LETTERS ?y_MOST_ROWS ?y_MOST_COLUMNS ?y_EMPTY ?u_EMPTY
  (case e_Game=>k_is)
  (case c_Game=>(refine' L2.Cls.mk ?a ?b ?c ?d;(case a=>k_is);(case b=>k_is);(case c=>k_is);(case d=>k_is)))
  (case n_Game_stages=>k_is)
  (case n_Game_place=>k_is)
  (case n_Game_ways=>k_is)
  (case d_Game_rows=>(refine' K1.MF.mk ?a ?i ?l ?c ?k;(case a=>k_is);(case i=>k_is);(case l=>k_is);(case c=>k_is);(case k=>k_is)))
  (case d_Game_steps=>(refine' K1.MF.mk ?a ?i ?l ?c ?k;(case a=>k_is);(case i=>k_is);(case l=>k_is);(case c=>k_is);(case k=>k_is)))
  any_goals (refine' K1.DF.mk ?a ?l ?c ?k;(case a=>k_is);(case l=>k_is);(case c=>k_is);(case k=>k_is))
  (case d_Game_left=>(refine' K1.MF.mk ?a ?i ?l ?c ?k;(case a=>k_is);(case i=>k_is);(case l=>k_is);(case c=>k_is);(case k=>k_is)))
  (case d_Game_taken_behind=>(refine' K1.MF.mk ?a ?i ?l ?c ?k;(case a=>k_is);(case i=>k_is);(case l=>k_is);(case c=>k_is);(case k=>k_is)))
  (case d_Game_points=>(refine' K1.MF.mk ?a ?i ?l ?c ?k;(case a=>k_is);(case i=>k_is);(case l=>k_is);(case c=>k_is);(case k=>k_is)))
  (case d_Game_back=>(refine' K1.MF.mk ?a ?i ?l ?c ?k;(case a=>k_is);(case i=>k_is);(case l=>k_is);(case c=>k_is);(case k=>k_is)))
  (case d_Game_forth=>(refine' K1.MF.mk ?a ?i ?l ?c ?k;(case a=>k_is);(case i=>k_is);(case l=>k_is);(case c=>k_is);(case k=>k_is)))
  (case d_Game_init=>(refine' K1.IM.mk ?m ?a ?i ?q ?l ?c ?k;(case m=>k_is);(case a=>k_is);(case i=>k_is);(case q=>k_is);(case l=>k_is);(case c=>k_is);(case k=>k_is)))
  (case d_Game_take=>(refine' K1.MF.mk ?a ?i ?l ?c ?k;(case a=>k_is);(case i=>k_is);(case l=>k_is);(case c=>k_is);(case k=>k_is)))
  (case d_Game_can_take=>(refine' K1.MF.mk ?a ?i ?l ?c ?k;(case a=>k_is);(case i=>k_is);(case l=>k_is);(case c=>k_is);(case k=>k_is)))
  (case d_Game_twin=>(refine' K1.MF.mk ?a ?i ?l ?c ?k;(case a=>k_is);(case i=>k_is);(case l=>k_is);(case c=>k_is);(case k=>k_is)))
  any_goals first | k_is | kit_is | k_exc | rfl
