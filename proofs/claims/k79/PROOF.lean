import PyProof.Rows.All
import KE.KDictSum
import KE.KSortTup
import KE.RegKIsAll
import Lean
import PySem.Challenge.RW_cellpatches_k79_whole_games
open PySem renaming wpAny_bind->SH,wpAny_pure->SQ,Shared->SS,starEach->SX,sizeLine->S9,mainGlobals->Tb,Program->To,wpAny_newObj_type->T3,bootBuiltins->T4,behindInMarks->T7,Around->T9,keywordEach->Ub,compareOp->Uc,attributeBase->Ug,backTo->Uv,wpAny_mono->Ux,sysModules->UC,mem_of_lookup->UH,wpAny_truthy_bool->UJ,wpAny_dictEntries->UK,Keyword->UO,wpAny_call_entry->UP,backToKw->UQ,wpAny_getItem_str_slice->U3,wpAny_callSpecial?_slot->U4,wpAny_typeNameOfWhole_keyiter->U5,wpAny_passesOwn->Vc,wpAny_holding->Vg,FuncData->Vi,wpAny_typeNameOf_keyiter->Vo,tupleKind->Vu,swapsWith->Vv,typeIs_str->VE,sizeLine_eq->VF,foldedSetIterable->VG,binaryOp->VU,wpAny_dictEpoch->V3,sliceBounds->V4,importedModules->V5,wpAny_Call_Name_kw->We,NameKind->Wf,getMethod->Wo,assignEach->Wq,DictEntry->Wt,wpAny_field->Wx,swapsWithSole->Wy,storedH->Wz,wpAny_typeOf->WR,wpAny_execs_nil->WS,post_val_or_str->WT,letOwnedTupleGo->WU,getItem->WV,codeAny->Xf,tupleKind_room_in1->Xn,treeTable->Xo,dictSetHashed->Xp,callWith->Xq,bindArgs->Xr,Paired->Xx,wpAny_sequenceKey->XN,wpAny_assign_Name->XO,standAt->XQ,callerA->XR,rawInt->X0,codeAny_mono->X1,IsPart->X5,noFill_tuple_add->X9,size_of_entries->Yg,Within->Yh,PassesOwn->Yi,recursionLimit->Yn,wpAny_comprehension_free->Yx,pyNext->Yy,entryOfKey->Yz,builtinsNs->YA,Params->YC,valueAt->YI,seq_tuple_add->YL,notedBy->YM,evalPart_none->YN,OsState->YQ,wpAny_Call_method_late->YY
open List renaming length_map->SI,mem_cons_of_mem->SJ,getElem?_eq_getElem->SK,mem_cons_self->SM,length_cons->SO,map_cons->SU,size_toArray->SV,getElem?_eq_some_iff->SY,getD_eq_getElem?_getD->S0,length_append->S1,getElem?_map->S2,range->S5,mem_cons->S6,mem_map->S7,getElem?_append_left->S_,replicate->Tc,map_map->Tf,mem_singleton->Tg,mem_of_getElem?->Th,getElem?_append_right->Ti,mem_append_right->Tj,getElem?_set_self->Tu,getElem?_cons_zero->Tw,getElem?_cons_succ->Tx,getElem?_set_ne->TB,mem_append->TH,mem_range->TL,append_nil->TM,length_filter_le->TV,range'->TZ,mem_filter->T1,nodup_cons->T8,getElem?_replicate->T_,Nodup->Ua,pairwise_cons->Uh,nil_append->Ui,map_append->Uj,all_eq_true->Uk,map_congr_left->Ul,nodup_append->Um,lookup_cons->Ut,toArray->UD,length_range->UG,ext_getElem->UM,mem_append_left->UR,length_nil->US,flatMap_cons->UT,getElem_mem->UY,getElem_map->UZ,cons_append->U0,length_replicate->U7,sum_cons->Vb,pairwise_iff_getElem->Ve,length_take->Vh,filterMap_cons->Vj,map_nil->Vk,find?_cons->Vm,take_of_length_le->Vr,pairwise_map->Vt,range'_succ->VB,filter_cons->VC,countP_cons->VD,mem_iff_getElem->VH,any_cons->VL,all_cons->VM,range_succ->VO,lookup->VP,getElem?_range->VQ,zip_cons_cons->VX,set_cons_succ->VY,all_map->VZ,nodup_nil->V0,drop_eq_getElem_cons->V1,reverse_cons->Wa,length_eq_zero_iff->Wg,range_succ_eq_map->Wn,getElem?_eq_none->Wv,forIn_cons->Ww,range_eq_range'->WK,length_reverse->WO,getElem_of_mem->WQ,set_cons_zero->W6,length_range'->W7,getElem_range->W8,append_assoc->Xc,take_length->Xk,length_drop->Xl,drop_length->Xm,countP_eq_length_filter->Xy,of_mem_zip->XD,length_zip->XG,foldl_cons->XH,filter_map->XI,drop_zero->X4,length_erase_of_mem->Yc,pairwise_append->Yv,takeWhile_cons->YE,length_pos_iff->YF,length_flatMap->YG,mem_filterMap->YU,map->YV,filterMap_map->YW,take_add_one->Y3,countP_congr->Y4
open PySem.W renaming Frag->SN,nsIn->TC,mg_none_of->TF,keepIn->TJ,findIn->TK,fnOf->TR,kia_one->Uq,emptyDict->Uw,codeIn->UB,instObj->UN,mg_of->U6,isFn->Vp,plainGet->V_,methodCall_KW->Wh,makesIn->Wi,lookIn->Wu,plainGet_of->WB,callWith_K->WL,methodObj->WW,hasDictIn->WX,takerIn->Xh,kitOne->Xv,cellsFrom_some->X3,plainOver->Yq,kitx_list->Yr,kitx_dict->Ys,handedIn->YB
open PySem.Heap renaming get?_push_of_some->SR,lt_size->S8,get?_push_size->Ta,SameBut->U8,get?_update_self->VA,size_push->X6,get?_none_of_le->Yw
open Nat renaming le_refl->SW,le_trans->Tn,lt_of_lt_of_le->Tq,ne_of_lt->Tv,zero_le->TQ,lt_irrefl->Us,le_of_lt->Va,lt_trans->Vl,lt_of_le_of_lt->Vn,mul_le_mul->V8,ble->Wj,lt_succ_self->Wm,zero_add->WC,ne_of_gt->WD,le_of_ble_eq_true->WE,le_antisymm->WG,succ->Yj,div_div_eq_div_mul->Yl,sub_zero->Yt,le_of_eq->Yu,mul_le_mul_right->YD,add_mul->YT,add_right_comm->Y1
open PySem.Str renaming ofString->S3
open Array renaming length_toList->Td,getElem?_eq_getElem->Vd,getElem?_toList->Vz,append_assoc->W2,isEmpty_iff->YX
open Bool renaming false_ne_true->Te,and_eq_true->Tp,false_eq_true->Tt,and_eq_true_iff->Ue,not_false->WN,true_and->W9,and_true->Yd
open Option.some renaming inj->Tr
open PySem.Value renaming ref->Ts,none->Uy,bool->VI,int->Wr,str->Xu,type->X2,float->Yo
open PySem.Heap.SameBut renaming update->TN,refl->X7
open PySem.Builtin.Slice renaming slicePlaces->TU,sliceAdjust->UI,sliceApplied->U1,sliceFields->W0
open PySem.PassesOwn renaming never->TY
open PySem.Builtin.Tuple renaming tupleExact->T2,tupleItemsOf->Vy,tupleHashOf->WZ
open PyProof.Rows renaming slot_tuple_getitem->T5,callWith_type1->Vs,seqObj->Vw,envOfC->Vx,IntsAre->V9,kindOf->WJ,AllBare->W3,slicePart_none->Xb,entry_tuple_getitem->Xe,args_tuple_getitem->Xs,tupleItemsOf_->YJ,subscriptTail->YK,subscriptTail_builtinR->YZ
open PySem.Builtin.Str renaming occurrences->T6,strSliceIndices->UA
open ForInStep renaming yield->Ud
open PySem.FuncBody renaming stmts->Uo
open PySem.Data renaming fields->Ur,func->Vf,dict->VR
open Option renaming map_eq_some_iff->Uu,isSome_iff_exists->Uz,isSome_map->W5,getD_some->YR,getD_none->YS
open False renaming elim->UE
open True renaming intro->UL
open PySem.Paired renaming length->UU
open Ne renaming symm->UW
open PySem.F renaming plainAttrs_str->UX,slot_dict_keyiterator_next->U9,args_tuple_add_2->VW,plainAttrs_list->V6,entry_tuple_add->V7,slot_tuple_add->Wc,type_list_append->XA,slot_list_append->XB,slot_dict_update->XC,args_dict_keyiterator_next_1->XJ,slot_str_lstrip->XW,entry_dict_keyiterator_next->XZ
open PySem.Obj renaming mapSeq->U2,data_mapDictKeys->VJ,isFreed_of_dict->WY,data_mapFields->Y0
open PySem.Txt renaming lstripChars->U_,replace->VS,rjustF->Wb,slice_le->WA
open PUnit renaming unit->Vq
open PySem.Builtin.List renaming listTooLong->VN
open PySem.Calls renaming spliced_cons->VT,callWith_builtin->Wk,evalArgs_plain->WI,spliced_nil->Xa,Name_function_global->XM,Constant_str->YH
open PySem.Builtin.Dict renaming showsAll->V2,entriesForEmpty->WM,updateFrom->Xd,mergeDict->Xj
open PySem.Builtin.Dict_items renaming ownsTuple->Wl
open List.Pairwise renaming imp->Ws,nil->XX
open Int.ofNat renaming inj->WH
open Prod renaming ext->W4
open Int renaming emod_lt_of_pos->W_,toNat_natCast->Xi,emod_nonneg->XY
open Sum renaming inl->Xg,inr->XU
open PySem.Heap.IsSliceOf renaming new->Xz
open Classical renaming not_forall->X8,not_imp->Yk
open PySem.SeqAt.EqAt renaming str_int->X_,int_str->Yb
open PySem.Around renaming under->Ye
open PySem.Code renaming isFrame->Ym
open PySem.StrLaws renaming found_one->Yp,occBody->YO
open PySem.NameKind renaming free->Y2
open Function renaming comp->Y5
set_option maxHeartbeats 0
set_option compiler.extract_closed false
set_option Elab.async false
set_option linter.all false
set_option maxRecDepth 100000
abbrev Y6:=@if_pos
abbrev Y7:=@if_neg
abbrev Y8:=@decide_eq_true
abbrev Y9:=@absurd
abbrev Y_:=@decide_eq_false
abbrev Za:=@of_decide_eq_true
abbrev Zb:=@decide_eq_true_eq
abbrev Zc:=@beq_eq_false_iff_ne
abbrev Zd:=@congrArg
abbrev Ze:=@decide_eq_decide
namespace L2
open PySem
def aS(s:Stmt):Arguments:=match s with
 | .FunctionDef _ a _ _ _ _ _ _ _ _=>a
 |_=>{posonlyargs:=[],args:=[],vararg:=none,kwonlyargs:=[],kw_defaults:=[],kwarg:=none,defaults:=[]}
def aH(s:Stmt):List Stmt:=match s with
 | .FunctionDef _ _ b _ _ _ _ _ _ _=>b
 |_=>[]
def ah(s:Stmt):Scope:=match s with
 | .FunctionDef _ _ _ _ _ _ sc _ _ _=>sc
 |_=>{kind:= .function,names:=[],isGenerator:=false,isCoroutine:=false}
end L2
namespace L3
open PySem
def aG:Stmt->List Stmt
 | .ClassDef _ _ _ b _ _ _ _ _ _ _=>b
 |_=>[]
end L3
namespace K1
open PySem PySem.Spec
def top(i:Nat):Stmt:=PySem.Challenge.pw_cellpatches_k79_whole_games.main.body.getD i (.Pass ⟨0,0,0,0⟩)
abbrev hS(s:String)(t:Tok):Value:= .str (S3 s) t
abbrev hE(P:YC)(s:String)(t:Tok)(v:Value):Wt:={hash:=PyData.keyHash P (S3 s),key:=hS s t,val:=v}
abbrev hT(xs:Array Value):Obj:={cls:= .type "tuple",data:=Data.seq xs}
abbrev hF(s:String)(t:Stmt)(m:Value)(c:Addr):Obj:={cls:= .type "function",data:=Vf {name:=S3 s,qualname:=S3 s,params:=L2.aS t,body:=Uo (L2.aH t),scope:=L2.ah t,globals:=3,closure:=[],defaults:= .none,kwdefaults:= .none,pyModule:=m,code:= .ref c} }
abbrev kh(s:String)(t1 t2 t3:Tok)(l n f:Int)(a:Addr)(v:Int)(b:Addr)(x y:Value)(d:Addr)(p:Int)(t4:Tok):Obj:={cls:= .type "code",data:=Ur #[hS s t1,hS s t2,hS "/claim/cut.py" t3, .int l 0, .int n 0, .int 0 0, .int 0 0, .int f 0, .ref a, .bool true, .int v 0, .ref b, .none,x,y, .ref d, .int p 0, .int l 0,hS "/claim/cut.py" t4]}
abbrev xy:Value:=hS "cellpatches.boards" 278
abbrev IJ:Value:=hS "law_cellpatches_k79_whole_games" 595
abbrev Kk:Value:=hS "cellpatches.games" 451
abbrev K3:Value:=hS "cellpatches.errors" 194
abbrev MN:Value:=hS "cellpatches.patches" 409
abbrev ML(n:String)(b a ns r:Addr)(t1 t2:Tok):Obj:={cls:= .type "type",data:=Data.cls {name:=S3 n,bases:=[.ref b],mro:=[.ref a, .ref b, .type "ValueError", .type "Exception", .type "BaseException", .type "object"],ns:=ns,qualname:=S3 n},slots:= #[some (.ref r),none,some (hS n t1),some (hS n t2),some (.builtin "ValueError.__new__"),some (.bool true)]}
def i_:YC->SN:=λP=>(nat_lit 2,{cls:= .none,data:=VR #[]})::
 (nat_lit 3,{cls:= .type "dict",data:=VR #[hE P "__name__" 165 IJ,hE P "__doc__" 166 .none,hE P "__package__" 167 .none,hE P "__loader__" 168 (.builtin "__main__.__loader__#opaque"),hE P "__spec__" 169 .none,hE P "__annotations__" 170 (.ref 6),hE P "__builtins__" 171 (.ref 4),hE P "__file__" 173 (hS "/claim/cut.py" 172),hE P "__cached__" 174 .none,hE P "_wall" 193 (.ref 21),hE P "PatchError" 213 (.ref 31),hE P "NoBoard" 229 (.ref 44),hE P "NoWays" 245 (.ref 56),hE P "NoCell" 261 (.ref 68),hE P "Nothing" 277 (.ref 80),hE P "LETTERS" 281 (hS "abcdef" 280),hE P "MOST_ROWS" 283 (.int 8 282),hE P "MOST_COLUMNS" 285 (.int 8 284),hE P "is_whole" 292 (.ref 89),hE P "is_letter" 299 (.ref 96),hE P "is_row" 305 (.ref 101),hE P "is_board" 311 (.ref 106),hE P "is_cell" 319 (.ref 113),hE P "need_board" 326 (.ref 120),hE P "need_cell" 334 (.ref 127),hE P "need_ways" 341 (.ref 134),hE P "cells_of_row" 347 (.ref 139),hE P "all_cells" 356 (.ref 146),hE P "letter_of" 364 (.ref 153),hE P "are_next" 375 (.ref 160),hE P "next_cells" 387 (.ref 167),hE P "keyed" 396 (.ref 174),hE P "with_letters" 402 (.ref 179),hE P "mirrored" 408 (.ref 184),hE P "like_cells" 416 (.ref 189),hE P "steps_back" 430 (.ref 196),hE P "all_patches" 442 (.ref 203),hE P "patches" 450 (.ref 210),hE P "EMPTY" 454 (hS "." 453),hE P "can_be_taken" 462 (.ref 217),hE P "patch_to_take" 472 (.ref 224),hE P "fallen_column" 478 (.ref 229),hE P "fallen" 484 (.ref 234),hE P "many_letters" 490 (.ref 239),hE P "Game" 594 (.ref 322),hE P "_law_cell" 604 (.ref 333),hE P "_law_drawn" 614 (.ref 340),hE P "_law_board" 620 (.ref 345),hE P "_law_sign" 628 (.ref 352),hE P "_law_feet" 634 (.ref 357),hE P "law" 640 (.ref 362)] 51})::
 (nat_lit 15,hT #[])::
 (nat_lit 17,hT #[hS "k" 190])::
 (nat_lit 18,hT #[])::
 (nat_lit 20,kh "_wall" 187 188 189 1 1 3 15 181 16 (.ref 17) (.ref 18) 19 191 192)::
 (nat_lit 21,hF "_wall" (top 0) (hS "__main__" 164) 20)::
 (nat_lit 22,hT #[.type "ValueError"])::
 (nat_lit 29,hT #[])::
 (nat_lit 30,{cls:= .type "dict",data:=VR #[hE P "__module__" 203 K3,hE P "__firstlineno__" 207 (.int 5 206),hE P "__static_attributes__" 208 (.ref 29),hE P "__weakref__" 210 (.ref 32),hE P "__doc__" 211 .none] 3})::
 (nat_lit 31,{cls:= .type "type",data:=Data.cls {name:=S3 "PatchError",bases:=[.type "ValueError"],mro:=[.ref 31, .type "ValueError", .type "Exception", .type "BaseException", .type "object"],ns:=30,qualname:=S3 "PatchError",subclasses:=[.ref 44, .ref 56, .ref 68, .ref 80]},slots:= #[some (.ref 22),none,some (hS "PatchError" 196),some (hS "PatchError" 204),some (.builtin "ValueError.__new__"),some (.bool true)]})::
 (nat_lit 32,{cls:= .type "getset_descriptor",data:=Ur #[hS "__weakref__" 209, .ref 31, .builtin "ExceptionGroup.__weakref__", .none]})::
 (nat_lit 35,hT #[.ref 31])::
 (nat_lit 42,hT #[])::
 (nat_lit 43,{cls:= .type "dict",data:=VR #[hE P "__module__" 221 K3,hE P "__firstlineno__" 225 (.int 7 224),hE P "__static_attributes__" 226 (.ref 42),hE P "__doc__" 227 .none] 2})::
 (nat_lit 44,ML "NoBoard" 31 44 43 35 214 222)::
 (nat_lit 47,hT #[.ref 31])::
 (nat_lit 54,hT #[])::
 (nat_lit 55,{cls:= .type "dict",data:=VR #[hE P "__module__" 237 K3,hE P "__firstlineno__" 241 (.int 9 240),hE P "__static_attributes__" 242 (.ref 54),hE P "__doc__" 243 .none] 2})::
 (nat_lit 56,ML "NoWays" 31 56 55 47 230 238)::
 (nat_lit 59,hT #[.ref 31])::
 (nat_lit 66,hT #[])::
 (nat_lit 67,{cls:= .type "dict",data:=VR #[hE P "__module__" 253 K3,hE P "__firstlineno__" 257 (.int 11 256),hE P "__static_attributes__" 258 (.ref 66),hE P "__doc__" 259 .none] 2})::
 (nat_lit 68,ML "NoCell" 31 68 67 59 246 254)::
 (nat_lit 71,hT #[.ref 31])::
 (nat_lit 78,hT #[])::
 (nat_lit 79,{cls:= .type "dict",data:=VR #[hE P "__module__" 269 K3,hE P "__firstlineno__" 273 (.int 13 272),hE P "__static_attributes__" 274 (.ref 78),hE P "__doc__" 275 .none] 2})::
 (nat_lit 80,ML "Nothing" 31 80 79 71 262 270)::
 (nat_lit 83,hT #[])::
 (nat_lit 85,hT #[hS "thing" 289])::
 (nat_lit 86,hT #[])::
 (nat_lit 88,kh "is_whole" 286 287 288 19 1 3 83 181 84 (.ref 85) (.ref 86) 87 290 291)::
 (nat_lit 89,hF "is_whole" (top 11) xy 88)::
 (nat_lit 90,hT #[])::
 (nat_lit 92,hT #[hS "thing" 296])::
 (nat_lit 93,hT #[])::
 (nat_lit 95,kh "is_letter" 293 294 295 21 1 3 90 181 91 (.ref 92) (.ref 93) 94 297 298)::
 (nat_lit 96,hF "is_letter" (top 12) xy 95)::
 (nat_lit 97,hT #[])::
 (nat_lit 100,kh "is_row" 300 301 302 23 1 3 97 181 98 .none .none 99 303 304)::
 (nat_lit 101,hF "is_row" (top 13) xy 100)::
 (nat_lit 102,hT #[])::
 (nat_lit 105,kh "is_board" 306 307 308 27 1 3 102 181 103 .none .none 104 309 310)::
 (nat_lit 106,hF "is_board" (top 14) xy 105)::
 (nat_lit 107,hT #[])::
 (nat_lit 109,hT #[hS "board" 315,hS "thing" 316])::
 (nat_lit 110,hT #[])::
 (nat_lit 112,kh "is_cell" 312 313 314 33 2 3 107 181 108 (.ref 109) (.ref 110) 111 317 318)::
 (nat_lit 113,hF "is_cell" (top 15) xy 112)::
 (nat_lit 114,hT #[])::
 (nat_lit 116,hT #[hS "thing" 323])::
 (nat_lit 117,hT #[])::
 (nat_lit 119,kh "need_board" 320 321 322 39 1 3 114 181 115 (.ref 116) (.ref 117) 118 324 325)::
 (nat_lit 120,hF "need_board" (top 16) xy 119)::
 (nat_lit 121,hT #[])::
 (nat_lit 123,hT #[hS "board" 330,hS "thing" 331])::
 (nat_lit 124,hT #[])::
 (nat_lit 126,kh "need_cell" 327 328 329 42 2 3 121 181 122 (.ref 123) (.ref 124) 125 332 333)::
 (nat_lit 127,hF "need_cell" (top 17) xy 126)::
 (nat_lit 128,hT #[])::
 (nat_lit 130,hT #[hS "thing" 338])::
 (nat_lit 131,hT #[])::
 (nat_lit 133,kh "need_ways" 335 336 337 45 1 3 128 181 129 (.ref 130) (.ref 131) 132 339 340)::
 (nat_lit 134,hF "need_ways" (top 18) xy 133)::
 (nat_lit 135,hT #[])::
 (nat_lit 138,kh "cells_of_row" 342 343 344 48 2 3 135 181 136 .none .none 137 345 346)::
 (nat_lit 139,hF "cells_of_row" (top 19) xy 138)::
 (nat_lit 140,hT #[])::
 (nat_lit 142,hT #[hS "board" 351,hS "found" 352,hS "row" 353])::
 (nat_lit 143,hT #[])::
 (nat_lit 145,kh "all_cells" 348 349 350 50 1 3 140 181 141 (.ref 142) (.ref 143) 144 354 355)::
 (nat_lit 146,hF "all_cells" (top 20) xy 145)::
 (nat_lit 147,hT #[])::
 (nat_lit 149,hT #[hS "board" 360,hS "cell" 361])::
 (nat_lit 150,hT #[])::
 (nat_lit 152,kh "letter_of" 357 358 359 55 2 3 147 181 148 (.ref 149) (.ref 150) 151 362 363)::
 (nat_lit 153,hF "letter_of" (top 21) xy 152)::
 (nat_lit 154,hT #[])::
 (nat_lit 156,hT #[hS "one" 368,hS "other" 369,hS "ways" 370,hS "down" 371,hS "along" 372])::
 (nat_lit 157,hT #[])::
 (nat_lit 159,kh "are_next" 365 366 367 57 3 3 154 181 155 (.ref 156) (.ref 157) 158 373 374)::
 (nat_lit 160,hF "are_next" (top 22) xy 159)::
 (nat_lit 161,hT #[])::
 (nat_lit 163,hT #[hS "board" 379,hS "cell" 380,hS "ways" 381,hS "found" 382,hS "row" 383,hS "column" 384])::
 (nat_lit 164,hT #[])::
 (nat_lit 166,kh "next_cells" 376 377 378 63 3 3 161 181 162 (.ref 163) (.ref 164) 165 385 386)::
 (nat_lit 167,hF "next_cells" (top 23) xy 166)::
 (nat_lit 168,hT #[])::
 (nat_lit 170,hT #[hS "things" 391,hS "found" 392,hS "thing" 393])::
 (nat_lit 171,hT #[])::
 (nat_lit 173,kh "keyed" 388 389 390 70 1 3 168 181 169 (.ref 170) (.ref 171) 172 394 395)::
 (nat_lit 174,hF "keyed" (top 24) xy 173)::
 (nat_lit 175,hT #[])::
 (nat_lit 178,kh "with_letters" 397 398 399 75 3 3 175 181 176 .none .none 177 400 401)::
 (nat_lit 179,hF "with_letters" (top 25) xy 178)::
 (nat_lit 180,hT #[])::
 (nat_lit 183,kh "mirrored" 403 404 405 82 1 3 180 181 181 .none .none 182 406 407)::
 (nat_lit 184,hF "mirrored" (top 26) xy 183)::
 (nat_lit 185,hT #[])::
 (nat_lit 188,kh "like_cells" 411 412 413 86 3 3 185 181 186 .none .none 187 414 415)::
 (nat_lit 189,hF "like_cells" (top 28) MN 188)::
 (nat_lit 190,hT #[])::
 (nat_lit 192,hT #[hS "board" 420,hS "start" 421,hS "ways" 422,hS "back" 423,hS "ring" 424,hS "further" 425,hS "cell" 426,hS "near" 427])::
 (nat_lit 193,hT #[])::
 (nat_lit 195,kh "steps_back" 417 418 419 89 3 3 190 181 191 (.ref 192) (.ref 193) 194 428 429)::
 (nat_lit 196,hF "steps_back" (top 29) MN 195)::
 (nat_lit 197,hT #[])::
 (nat_lit 199,hT #[hS "board" 434,hS "ways" 435,hS "found" 436,hS "seen" 437,hS "cell" 438,hS "patch" 439])::
 (nat_lit 200,hT #[])::
 (nat_lit 202,kh "all_patches" 431 432 433 101 2 3 197 181 198 (.ref 199) (.ref 200) 201 440 441)::
 (nat_lit 203,hF "all_patches" (top 30) MN 202)::
 (nat_lit 204,hT #[])::
 (nat_lit 206,hT #[hS "board" 446,hS "ways" 447])::
 (nat_lit 207,hT #[])::
 (nat_lit 209,kh "patches" 443 444 445 110 2 3 204 181 205 (.ref 206) (.ref 207) 208 448 449)::
 (nat_lit 210,hF "patches" (top 31) MN 209)::
 (nat_lit 211,hT #[])::
 (nat_lit 213,hT #[hS "rows" 458,hS "patch" 459])::
 (nat_lit 214,hT #[])::
 (nat_lit 216,kh "can_be_taken" 455 456 457 116 2 3 211 181 212 (.ref 213) (.ref 214) 215 460 461)::
 (nat_lit 217,hF "can_be_taken" (top 34) Kk 216)::
 (nat_lit 218,hT #[])::
 (nat_lit 220,hT #[hS "rows" 466,hS "cell" 467,hS "ways" 468,hS "patch" 469])::
 (nat_lit 221,hT #[])::
 (nat_lit 223,kh "patch_to_take" 463 464 465 118 3 3 218 181 219 (.ref 220) (.ref 221) 222 470 471)::
 (nat_lit 224,hF "patch_to_take" (top 35) Kk 223)::
 (nat_lit 225,hT #[])::
 (nat_lit 228,kh "fallen_column" 473 474 475 124 2 3 225 181 226 .none .none 227 476 477)::
 (nat_lit 229,hF "fallen_column" (top 36) Kk 228)::
 (nat_lit 230,hT #[])::
 (nat_lit 233,kh "fallen" 479 480 481 127 1 3 230 181 231 .none .none 232 482 483)::
 (nat_lit 234,hF "fallen" (top 37) Kk 233)::
 (nat_lit 235,hT #[])::
 (nat_lit 238,kh "many_letters" 485 486 487 133 1 3 235 181 236 .none .none 237 488 489)::
 (nat_lit 239,hF "many_letters" (top 38) Kk 238)::
 (nat_lit 247,hT #[])::
 (nat_lit 249,hT #[hS "self" 506,hS "board" 507,hS "ways" 508])::
 (nat_lit 250,hT #[])::
 (nat_lit 252,{cls:= .type "code",data:=Ur #[hS "__init__" 503,hS "Game.__init__" 504,hS "/claim/cut.py" 505, .int 137 0, .int 3 0, .int 0 0, .int 0 0, .int 3 0, .ref 247, .bool true, .int 181 0, .ref 248, .none, .ref 249, .ref 250, .ref 251, .int 509 0, .int 137 0,hS "/claim/cut.py" 510]})::
 (nat_lit 253,{cls:= .type "function",data:=Vf {name:=S3 "__init__",qualname:=S3 "Game.__init__",params:=L2.aS ((L3.aG (top 39)).getD 0 (.Pass ⟨0,0,0,0⟩)),body:=Uo (L2.aH ((L3.aG (top 39)).getD 0 (.Pass ⟨0,0,0,0⟩))),scope:=L2.ah ((L3.aG (top 39)).getD 0 (.Pass ⟨0,0,0,0⟩)),globals:=3,closure:=[],defaults:= .none,kwdefaults:= .none,pyModule:=hS "cellpatches.games" 451,code:= .ref 252} })::
 (nat_lit 254,hT #[])::
 (nat_lit 256,hT #[hS "self" 515])::
 (nat_lit 257,hT #[])::
 (nat_lit 259,{cls:= .type "code",data:=Ur #[hS "rows" 512,hS "Game.rows" 513,hS "/claim/cut.py" 514, .int 144 0, .int 1 0, .int 0 0, .int 0 0, .int 3 0, .ref 254, .bool true, .int 181 0, .ref 255, .none, .ref 256, .ref 257, .ref 258, .int 516 0, .int 144 0,hS "/claim/cut.py" 517]})::
 (nat_lit 260,{cls:= .type "function",data:=Vf {name:=S3 "rows",qualname:=S3 "Game.rows",params:=L2.aS ((L3.aG (top 39)).getD 1 (.Pass ⟨0,0,0,0⟩)),body:=Uo (L2.aH ((L3.aG (top 39)).getD 1 (.Pass ⟨0,0,0,0⟩))),scope:=L2.ah ((L3.aG (top 39)).getD 1 (.Pass ⟨0,0,0,0⟩)),globals:=3,closure:=[],defaults:= .none,kwdefaults:= .none,pyModule:=hS "cellpatches.games" 451,code:= .ref 259} })::
 (nat_lit 261,hT #[])::
 (nat_lit 263,hT #[hS "self" 522,hS "cell" 523,hS "patch" 524,hS "then" 525])::
 (nat_lit 264,hT #[])::
 (nat_lit 266,{cls:= .type "code",data:=Ur #[hS "take" 519,hS "Game.take" 520,hS "/claim/cut.py" 521, .int 147 0, .int 2 0, .int 0 0, .int 0 0, .int 3 0, .ref 261, .bool true, .int 181 0, .ref 262, .none, .ref 263, .ref 264, .ref 265, .int 526 0, .int 147 0,hS "/claim/cut.py" 527]})::
 (nat_lit 267,{cls:= .type "function",data:=Vf {name:=S3 "take",qualname:=S3 "Game.take",params:=L2.aS ((L3.aG (top 39)).getD 2 (.Pass ⟨0,0,0,0⟩)),body:=Uo (L2.aH ((L3.aG (top 39)).getD 2 (.Pass ⟨0,0,0,0⟩))),scope:=L2.ah ((L3.aG (top 39)).getD 2 (.Pass ⟨0,0,0,0⟩)),globals:=3,closure:=[],defaults:= .none,kwdefaults:= .none,pyModule:=hS "cellpatches.games" 451,code:= .ref 266} })::
 (nat_lit 268,hT #[])::
 (nat_lit 271,{cls:= .type "code",data:=Ur #[hS "can_take" 529,hS "Game.can_take" 530,hS "/claim/cut.py" 531, .int 154 0, .int 1 0, .int 0 0, .int 0 0, .int 3 0, .ref 268, .bool true, .int 181 0, .ref 269, .none, .none, .none, .ref 270, .int 532 0, .int 154 0,hS "/claim/cut.py" 533]})::
 (nat_lit 272,{cls:= .type "function",data:=Vf {name:=S3 "can_take",qualname:=S3 "Game.can_take",params:=L2.aS ((L3.aG (top 39)).getD 3 (.Pass ⟨0,0,0,0⟩)),body:=Uo (L2.aH ((L3.aG (top 39)).getD 3 (.Pass ⟨0,0,0,0⟩))),scope:=L2.ah ((L3.aG (top 39)).getD 3 (.Pass ⟨0,0,0,0⟩)),globals:=3,closure:=[],defaults:= .none,kwdefaults:= .none,pyModule:=hS "cellpatches.games" 451,code:= .ref 271} })::
 (nat_lit 273,hT #[])::
 (nat_lit 275,hT #[hS "self" 538])::
 (nat_lit 276,hT #[])::
 (nat_lit 278,{cls:= .type "code",data:=Ur #[hS "left" 535,hS "Game.left" 536,hS "/claim/cut.py" 537, .int 158 0, .int 1 0, .int 0 0, .int 0 0, .int 3 0, .ref 273, .bool true, .int 181 0, .ref 274, .none, .ref 275, .ref 276, .ref 277, .int 539 0, .int 158 0,hS "/claim/cut.py" 540]})::
 (nat_lit 279,{cls:= .type "function",data:=Vf {name:=S3 "left",qualname:=S3 "Game.left",params:=L2.aS ((L3.aG (top 39)).getD 4 (.Pass ⟨0,0,0,0⟩)),body:=Uo (L2.aH ((L3.aG (top 39)).getD 4 (.Pass ⟨0,0,0,0⟩))),scope:=L2.ah ((L3.aG (top 39)).getD 4 (.Pass ⟨0,0,0,0⟩)),globals:=3,closure:=[],defaults:= .none,kwdefaults:= .none,pyModule:=hS "cellpatches.games" 451,code:= .ref 278} })::
 (nat_lit 280,hT #[])::
 (nat_lit 282,hT #[hS "self" 545,hS "place" 546])::
 (nat_lit 283,hT #[])::
 (nat_lit 285,{cls:= .type "code",data:=Ur #[hS "taken_behind" 542,hS "Game.taken_behind" 543,hS "/claim/cut.py" 544, .int 161 0, .int 2 0, .int 0 0, .int 0 0, .int 3 0, .ref 280, .bool true, .int 181 0, .ref 281, .none, .ref 282, .ref 283, .ref 284, .int 547 0, .int 161 0,hS "/claim/cut.py" 548]})::
 (nat_lit 286,{cls:= .type "function",data:=Vf {name:=S3 "taken_behind",qualname:=S3 "Game.taken_behind",params:=L2.aS ((L3.aG (top 39)).getD 5 (.Pass ⟨0,0,0,0⟩)),body:=Uo (L2.aH ((L3.aG (top 39)).getD 5 (.Pass ⟨0,0,0,0⟩))),scope:=L2.ah ((L3.aG (top 39)).getD 5 (.Pass ⟨0,0,0,0⟩)),globals:=3,closure:=[],defaults:= .none,kwdefaults:= .none,pyModule:=hS "cellpatches.games" 451,code:= .ref 285} })::
 (nat_lit 287,hT #[])::
 (nat_lit 290,{cls:= .type "code",data:=Ur #[hS "points" 550,hS "Game.points" 551,hS "/claim/cut.py" 552, .int 164 0, .int 1 0, .int 0 0, .int 0 0, .int 3 0, .ref 287, .bool true, .int 181 0, .ref 288, .none, .none, .none, .ref 289, .int 553 0, .int 164 0,hS "/claim/cut.py" 554]})::
 (nat_lit 291,{cls:= .type "function",data:=Vf {name:=S3 "points",qualname:=S3 "Game.points",params:=L2.aS ((L3.aG (top 39)).getD 6 (.Pass ⟨0,0,0,0⟩)),body:=Uo (L2.aH ((L3.aG (top 39)).getD 6 (.Pass ⟨0,0,0,0⟩))),scope:=L2.ah ((L3.aG (top 39)).getD 6 (.Pass ⟨0,0,0,0⟩)),globals:=3,closure:=[],defaults:= .none,kwdefaults:= .none,pyModule:=hS "cellpatches.games" 451,code:= .ref 290} })::
 (nat_lit 292,hT #[])::
 (nat_lit 294,hT #[hS "self" 559])::
 (nat_lit 295,hT #[])::
 (nat_lit 297,{cls:= .type "code",data:=Ur #[hS "back" 556,hS "Game.back" 557,hS "/claim/cut.py" 558, .int 168 0, .int 1 0, .int 0 0, .int 0 0, .int 3 0, .ref 292, .bool true, .int 181 0, .ref 293, .none, .ref 294, .ref 295, .ref 296, .int 560 0, .int 168 0,hS "/claim/cut.py" 561]})::
 (nat_lit 298,{cls:= .type "function",data:=Vf {name:=S3 "back",qualname:=S3 "Game.back",params:=L2.aS ((L3.aG (top 39)).getD 7 (.Pass ⟨0,0,0,0⟩)),body:=Uo (L2.aH ((L3.aG (top 39)).getD 7 (.Pass ⟨0,0,0,0⟩))),scope:=L2.ah ((L3.aG (top 39)).getD 7 (.Pass ⟨0,0,0,0⟩)),globals:=3,closure:=[],defaults:= .none,kwdefaults:= .none,pyModule:=hS "cellpatches.games" 451,code:= .ref 297} })::
 (nat_lit 299,hT #[])::
 (nat_lit 301,hT #[hS "self" 566])::
 (nat_lit 302,hT #[])::
 (nat_lit 304,{cls:= .type "code",data:=Ur #[hS "forth" 563,hS "Game.forth" 564,hS "/claim/cut.py" 565, .int 174 0, .int 1 0, .int 0 0, .int 0 0, .int 3 0, .ref 299, .bool true, .int 181 0, .ref 300, .none, .ref 301, .ref 302, .ref 303, .int 567 0, .int 174 0,hS "/claim/cut.py" 568]})::
 (nat_lit 305,{cls:= .type "function",data:=Vf {name:=S3 "forth",qualname:=S3 "Game.forth",params:=L2.aS ((L3.aG (top 39)).getD 8 (.Pass ⟨0,0,0,0⟩)),body:=Uo (L2.aH ((L3.aG (top 39)).getD 8 (.Pass ⟨0,0,0,0⟩))),scope:=L2.ah ((L3.aG (top 39)).getD 8 (.Pass ⟨0,0,0,0⟩)),globals:=3,closure:=[],defaults:= .none,kwdefaults:= .none,pyModule:=hS "cellpatches.games" 451,code:= .ref 304} })::
 (nat_lit 306,hT #[])::
 (nat_lit 308,hT #[hS "self" 573])::
 (nat_lit 309,hT #[])::
 (nat_lit 311,{cls:= .type "code",data:=Ur #[hS "steps" 570,hS "Game.steps" 571,hS "/claim/cut.py" 572, .int 177 0, .int 1 0, .int 0 0, .int 0 0, .int 3 0, .ref 306, .bool true, .int 181 0, .ref 307, .none, .ref 308, .ref 309, .ref 310, .int 574 0, .int 177 0,hS "/claim/cut.py" 575]})::
 (nat_lit 312,{cls:= .type "function",data:=Vf {name:=S3 "steps",qualname:=S3 "Game.steps",params:=L2.aS ((L3.aG (top 39)).getD 9 (.Pass ⟨0,0,0,0⟩)),body:=Uo (L2.aH ((L3.aG (top 39)).getD 9 (.Pass ⟨0,0,0,0⟩))),scope:=L2.ah ((L3.aG (top 39)).getD 9 (.Pass ⟨0,0,0,0⟩)),globals:=3,closure:=[],defaults:= .none,kwdefaults:= .none,pyModule:=hS "cellpatches.games" 451,code:= .ref 311} })::
 (nat_lit 313,hT #[])::
 (nat_lit 315,hT #[hS "self" 580])::
 (nat_lit 316,hT #[])::
 (nat_lit 318,{cls:= .type "code",data:=Ur #[hS "twin" 577,hS "Game.twin" 578,hS "/claim/cut.py" 579, .int 180 0, .int 1 0, .int 0 0, .int 0 0, .int 3 0, .ref 313, .bool true, .int 181 0, .ref 314, .none, .ref 315, .ref 316, .ref 317, .int 581 0, .int 180 0,hS "/claim/cut.py" 582]})::
 (nat_lit 319,{cls:= .type "function",data:=Vf {name:=S3 "twin",qualname:=S3 "Game.twin",params:=L2.aS ((L3.aG (top 39)).getD 10 (.Pass ⟨0,0,0,0⟩)),body:=Uo (L2.aH ((L3.aG (top 39)).getD 10 (.Pass ⟨0,0,0,0⟩))),scope:=L2.ah ((L3.aG (top 39)).getD 10 (.Pass ⟨0,0,0,0⟩)),globals:=3,closure:=[],defaults:= .none,kwdefaults:= .none,pyModule:=hS "cellpatches.games" 451,code:= .ref 318} })::
 (nat_lit 320,hT #[hS "place" 584,hS "stages" 585,hS "ways" 586])::
 (nat_lit 321,{cls:= .type "dict",data:=VR #[hE P "__module__" 498 Kk,hE P "__firstlineno__" 502 (.int 135 501),hE P "__init__" 511 (.ref 253),hE P "rows" 518 (.ref 260),hE P "take" 528 (.ref 267),hE P "can_take" 534 (.ref 272),hE P "left" 541 (.ref 279),hE P "taken_behind" 549 (.ref 286),hE P "points" 555 (.ref 291),hE P "back" 562 (.ref 298),hE P "forth" 569 (.ref 305),hE P "steps" 576 (.ref 312),hE P "twin" 583 (.ref 319),hE P "__static_attributes__" 587 (.ref 320),hE P "__dict__" 589 (.ref 323),hE P "__weakref__" 591 (.ref 324),hE P "__doc__" 592 .none] 4})::
 (nat_lit 322,{cls:= .type "type",data:=Data.cls {name:=S3 "Game",bases:=[.type "object"],mro:=[.ref 322, .type "object"],ns:=321,qualname:=S3 "Game"},slots:= #[none,none,some (hS "Game" 491),some (hS "Game" 499),some (.builtin "object.__new__"),some (.bool true)]})::
 (nat_lit 323,{cls:= .type "getset_descriptor",data:=Ur #[hS "__dict__" 588, .ref 322, .builtin "function.__dict__", .builtin "function.__dict__#set"]})::
 (nat_lit 324,{cls:= .type "getset_descriptor",data:=Ur #[hS "__weakref__" 590, .ref 322, .builtin "ExceptionGroup.__weakref__", .none]})::
 (nat_lit 327,hT #[])::
 (nat_lit 329,hT #[hS "_law_script" 600,hS "_law_k" 601])::
 (nat_lit 330,hT #[])::
 (nat_lit 332,kh "_law_cell" 597 598 599 183 2 3 327 181 328 (.ref 329) (.ref 330) 331 602 603)::
 (nat_lit 333,hF "_law_cell" (top 41) IJ 332)::
 (nat_lit 334,hT #[])::
 (nat_lit 336,hT #[hS "_law_script" 608,hS "_law_k" 609,hS "_law_many" 610,hS "_law_cell_here" 611])::
 (nat_lit 337,hT #[])::
 (nat_lit 339,kh "_law_drawn" 605 606 607 187 3 3 334 181 335 (.ref 336) (.ref 337) 338 612 613)::
 (nat_lit 340,hF "_law_drawn" (top 42) IJ 339)::
 (nat_lit 341,hT #[])::
 (nat_lit 344,kh "_law_board" 615 616 617 191 3 3 341 181 342 .none .none 343 618 619)::
 (nat_lit 345,hF "_law_board" (top 43) IJ 344)::
 (nat_lit 346,hT #[])::
 (nat_lit 348,hT #[hS "_law_board_here" 624,hS "_law_cell_here" 625])::
 (nat_lit 349,hT #[])::
 (nat_lit 351,kh "_law_sign" 621 622 623 200 2 3 346 181 347 (.ref 348) (.ref 349) 350 626 627)::
 (nat_lit 352,hF "_law_sign" (top 44) IJ 351)::
 (nat_lit 353,hT #[])::
 (nat_lit 356,kh "_law_feet" 629 630 631 202 1 3 353 181 354 .none .none 355 632 633)::
 (nat_lit 357,hF "_law_feet" (top 45) IJ 356)::
 (nat_lit 358,hT #[])::
 (nat_lit 361,kh "law" 635 636 637 208 1 3 358 181 359 .none .none 360 638 639)::
 (nat_lit 362,hF "law" (top 46) IJ 361)::[]
def i9:List Nat:=[2,3,15,17,18,20,21,22,29,30,31,32,35,42,43,44,47,54,55,56,59,66,67,68,71,78,79,80,83,85,86,88,89,90,92,93,95,96,97,100,101,102,105,106,107,109,110,112,113,114,116,117,119,120,121,123,124,126,127,128,130,131,133,134,135,138,139,140,142,143,145,146,147,149,150,152,153,154,156,157,159,160,161,163,164,166,167,168,170,171,173,174,175,178,179,180,183,184,185,188,189,190,192,193,195,196,197,199,200,202,203,204,206,207,209,210,211,213,214,216,217,218,220,221,223,224,225,228,229,230,233,234,235,238,239,247,249,250,252,253,254,256,257,259,260,261,263,264,266,267,268,271,272,273,275,276,278,279,280,282,283,285,286,287,290,291,292,294,295,297,298,299,301,302,304,305,306,308,309,311,312,313,315,316,318,319,320,321,322,323,324,327,329,330,332,333,334,336,337,339,340,341,344,345,346,348,349,351,352,353,356,357,358,361,362]
def nT:To:={PySem.Challenge.pw_cellpatches_k79_whole_games with main:={PySem.Challenge.pw_cellpatches_k79_whole_games.main with body:=[top 0,top 2,top 3,top 4,top 5,top 6,top 8,top 9,top 10,top 11,top 12,top 13,top 14,top 15,top 16,top 17,top 18,top 19,top 20,top 21,top 22,top 23,top 24,top 25,top 26,top 28,top 29,top 30,top 31,top 33,top 34,top 35,top 36,top 37,top 38,top 39,top 41,top 42,top 43,top 44,top 45,top 46]} }
section
open PySem PySem.W PyProof.Rows
set_option maxHeartbeats 0
def Hg(p:To)(w:World)(Zl:Nat)(ann:Option Value):Nat->SharedT->Thread->Option SharedT
 |0,_,_=>none
 |n+1,s,t=>match through t with
  |true=>some s
  |false=>match stepOk Zl ann t with
   |false=>none
   |true=>match stepT (denote Xo) p w s t with
    |some (s',t')=>Hg p w Zl ann n s' t'
    |none=>none
theorem Ax{p:To}{w:World}{Zl:Nat}{ann:Option Value}:∀{n:Nat}{s s':SharedT}{t:Thread},Hg p w Zl ann n s t=some s'->topRun Xo p w Zl ann n s.abs t=some s'.abs
 |0,_,_,_,h=>by cases h
 |n+1,s,s',t,h=>by
  unfold Hg at h;unfold topRun;cases he:through t with
  |true=>rw[he] at h;cases h;rfl
  |false=>
   rw[he] at h;cases hk:stepOk Zl ann t with
   |false=>rw[hk] at h;cases h
   |true=>
    rw[hk] at h;cases hs:stepT (denote Xo) p w s t with
    |none=>rw[hs] at h;cases h
    |some r=>obtain⟨v0,Zw⟩:=r;rw[hs] at h;rw[stepT_spec hs];exact Ax h
def treeOf(l:List Obj):BT:=(l.foldl (λ(x:BT×Nat) o=>(x.1.ins x.2 o,x.2+1)) (.nil,0)).1
noncomputable def Hx(P:YC):BT:=treeOf (boot_heap P).objs.toList
def boot_abs(P:YC):boot_heap P=absHeap (Hx P) 11 (boot_heap P).life:=by kernel_rfl
def AL(P:YC):((boot_heap P).isNs Tb,(boot_heap P).objs.size,(boot_heap P).nsMap Tb "__annotations__")=(true,11,some (.ref 6)):=by kernel_rfl
noncomputable abbrev xc(p:To)(w:World)(N:Nat)(os:YQ):Option SharedT:=Hg p w 11 (some (.ref 6)) N ⟨Hx w.params,11,(boot_heap w.params).life,#[],boot_drawn,boot_toks,os⟩ (topStub p)
def F0{p q:To}{loose:List Str}{Xt:SS->Bool}{α:Type}{Yf:SS->α}{Ya:World->α}{N:Nat}{g0:Bool}
 (e:opening p=plainProg p.main.scope.names)(hN:Wj 600 N=true)(f:∀s,fenceModules? p s=some s)
 (h1:∀w os,(xc p w N os).map (λs=>Yf s.abs)=some (Ya w))
 (h2:∀w os,(xc p w N os).map (λs=>openSeen q loose (V5 p.main.body) Xt g0 s.abs)=some (openGood q loose))
 (h3:∀w os,(xc p w N os).map (λs=>staticsOk (V5 p.main.body) (boot_heap w.params) s.abs.heap&&namesBound p s.abs.heap&&gensDone s.abs&&laidKept (boot_heap w.params) s.abs.heap)=some true):
 LeftO p q loose Xt Yf Ya N g0:=λw=>by
 obtain⟨⟨h,gs,d,k,os⟩,e,e'⟩:=Uu.mp (boot_open e hN f w);obtain⟨rfl,rfl,rfl,rfl⟩:h=boot_heap w.params/\gs=Array.mk []/\d=boot_drawn/\k=boot_toks:=by simpa using e'
 obtain⟨s,a,l3⟩:=Uu.mp (h1 w os);obtain⟨s',a',l2⟩:=Uu.mp (h2 w os);cases Tr (a.symm.trans a');obtain⟨s',a',l1⟩:=Uu.mp (h3 w os);cases Tr (a.symm.trans a');obtain⟨z1,z2,z3⟩:_/\_/\_:=by simpa only[Prod.mk.injEq] using AL w.params
 have r:=Ax a;unfold SharedT.abs at r
 dsimp only at r
 rw[<-boot_abs] at r;unfold openEnds;rw[e];show (topFrom Xo p w N _).map _=_;have t:topFrom Xo p w N ⟨boot_heap w.params,Array.mk [],boot_drawn,boot_toks,os⟩=some s.abs:=by
  unfold topFrom
  dsimp only
  rw[z1,z2,z3];show (topRun Xo p w 11 _ N _ _).bind _=_;rw[r];show (match staticsOk (V5 p.main.body) (boot_heap w.params) s.abs.heap&&namesBound p s.abs.heap&&gensDone s.abs&&laidKept (boot_heap w.params) s.abs.heap with | true=>_ | false=>_)=_;rw[l1];rfl
 rw[t];exact Zd some (W4 l2 l3)
def NS(w:World)(os:YQ):(xc PySem.Challenge.rw_cellpatches_k79_whole_games.row.prog w 5290 os).map (λs=>(kHook i_ i9 (λ_=>by kernel_rfl)).obs s.abs)=some ((kHook i_ i9 (λ_=>by kernel_rfl)).val w):=by kernel_rfl
def NT(w:World)(os:YQ):(xc PySem.Challenge.rw_cellpatches_k79_whole_games.row.prog w 5290 os).map (λs=>openSeen nT [] (V5 PySem.Challenge.rw_cellpatches_k79_whole_games.row.prog.main.body) (λs=>xlAt nT [] s&&recOk PySem.Challenge.rw_cellpatches_k79_whole_games.row.records s) true s.abs)=some (openGood nT []):=by kernel_rfl
def NU(w:World)(os:YQ):(xc PySem.Challenge.rw_cellpatches_k79_whole_games.row.prog w 5290 os).map (λs=>staticsOk (V5 PySem.Challenge.rw_cellpatches_k79_whole_games.row.prog.main.body) (boot_heap w.params) s.abs.heap&&namesBound PySem.Challenge.rw_cellpatches_k79_whole_games.row.prog s.abs.heap&&gensDone s.abs&&laidKept (boot_heap w.params) s.abs.heap)=some true:=by kernel_rfl
def NV(w:World)(os:YQ):(xc PySem.Challenge.rw_cellpatches_k79_whole_games.row.prog w 5290 os).map (λs=>Wj 600 s.toks)=some true:=by kernel_rfl
def NW(w:World)(os:YQ):(xc PySem.Challenge.rw_cellpatches_k79_whole_games.row.prog w 5290 os).map (λs=>((kHook i_ i9 (λ_=>by kernel_rfl)).obs s.abs,Wj 600 s.abs.toks))=some ((kHook i_ i9 (λ_=>by kernel_rfl)).val w,true):=by
 obtain⟨s,a,e⟩:=Uu.mp (NS w os);obtain⟨s',a',e'⟩:=Uu.mp (NV w os);cases Tr (a.symm.trans a');exact Uu.mpr ⟨s,a,W4 e e'⟩
def Lf:LeftO PySem.Challenge.rw_cellpatches_k79_whole_games.row.prog nT [] (λs=>xlAt nT [] s&&recOk PySem.Challenge.rw_cellpatches_k79_whole_games.row.records s) (λs=>((kHook i_ i9 (λ_=>by kernel_rfl)).obs s,Wj 600 s.toks)) (λw=>((kHook i_ i9 (λ_=>by kernel_rfl)).val w,true)) 5290:=F0 (by kernel_rfl) (by decide) (λ_=>by kernel_rfl) NW NT NU
end
end K1
namespace L2
open PySem PySem.Spec PyProof.Rows
abbrev Key:=Sum Int Str
def pE:Key->Value->Bool
 | .inl k,v=>Value.isInt k v
 | .inr x,v=>Value.isStrOf x v
def LH(w:World):Key->Int
 | .inl k=>hashInt k
 | .inr x=>hashStr w x
def bQ:∀{k:Key}{v:Value},pE k v=true->(∃i t,k=Xg i/\v=Wr i t)\/(∃x t,k=XU x/\v=Xu x t)
 | .inl i,v,h=>by
   obtain⟨t,e⟩:=Value.isInt_shape (k:=i) (v:=v) h;exact .inl ⟨i,t,rfl,e⟩
 | .inr x,v,h=>by
   obtain⟨t,e⟩:=Value.isStrOf_shape (x:=x) (v:=v) h;exact .inr ⟨x,t,rfl,e⟩
def Bd(i:Int)(t:Tok):pE (.inl i) (.int i t)=true:=by simp[pE,Value.isInt]
def Be(x:Str)(t:Tok):pE (.inr x) (.str x t)=true:=by simp[pE,Value.isStrOf]
def Jj(a b:Int):decide ((Xg a:Key)=Xg b)=(a==b):=by
 by_cases e:a=b
 ·subst e;simp
 ·have h:¬(Xg a:Key)=Xg b:=λq=>e (Sum.inl.inj q);rw[Y_ h];exact(Zc.mpr e).symm
def Jm(a b:Str):decide ((XU a:Key)=XU b)=decide (a=b):=by
 by_cases e:a=b
 ·subst e;simp
 ·have h:¬(XU a:Key)=XU b:=λq=>e (Sum.inr.inj q);rw[Y_ h,Y_ e]
def Jk(a:Int)(b:Str):decide ((Xg a:Key)=XU b)=false:=Y_ (λq=>nomatch q)
def Jl(a:Str)(b:Int):decide ((XU a:Key)=Xg b)=false:=Y_ (λq=>nomatch q)
def bF(prog:To)(w:World):PySem.KeyKind prog w Key where
 is:=pE
 hash:=LH w
 inj:=λv a b ha hb=>by
  rcases bQ ha with⟨i,t,rfl,rfl⟩ | ⟨x,t,rfl,rfl⟩
  ·rcases bQ hb with⟨j,u,rfl,e⟩ | ⟨y,u,rfl,e⟩
   ·injection e with e1 _;rw[e1]
   ·exact nomatch e
  ·rcases bQ hb with⟨j,u,rfl,e⟩ | ⟨y,u,rfl,e⟩
   ·exact nomatch e
   ·injection e with e1 _;rw[e1]
 byValue:=λk v h=>by
  rcases bQ h with⟨i,t,rfl,rfl⟩ | ⟨x,t,rfl,rfl⟩<;>rfl
 pyHash:=λhv h=>by
  rcases bQ hv with⟨i,t,rfl,rfl⟩ | ⟨x,t,rfl,rfl⟩
  ·exact wpAny_pyHash_int h
  ·exact wpAny_pyHash_str h
 eqBool:=λhu hv h=>by
  rcases bQ hu with⟨i,t,rfl,rfl⟩ | ⟨x,t,rfl,rfl⟩
  ·rcases bQ hv with⟨j,u,rfl,rfl⟩ | ⟨y,u,rfl,rfl⟩
   ·rw[Jj] at h;exact wpAny_eqBool_int h
   ·rw[Jk] at h;exact Yb i t y u _ _ _ _ h
  ·rcases bQ hv with⟨j,u,rfl,rfl⟩ | ⟨y,u,rfl,rfl⟩
   ·rw[Jl] at h;exact X_ x t j u _ _ _ _ h
   ·rw[Jm] at h;exact wpAny_eqBool_str h
 «strs» :=λk x t v h=>by
  rcases bQ h with⟨i,u,rfl,e⟩ | ⟨y,u,rfl,e⟩
  ·exact nomatch e
  ·injection e with e1 _
   subst e1;cases v<;>rfl
def vX(prog:To)(w:World)(i:Int)(t:Tok):(bF prog w).is (.inl i) (.int i t)=true:=Bd i t
def vY(prog:To)(w:World)(x:Str)(t:Tok):(bF prog w).is (.inr x) (.str x t)=true:=Be x t
inductive V where
 |non | bl (b:Bool) | int (i:Int) | str (x:Str) | byt (b:Array UInt8) | flt (b:UInt64) | ref (a:Addr) | ty (n:String)
 deriving DecidableEq
def RelV:V->Value->Prop
 | .non,u=>u=Uy
 | .bl b,u=>u=VI b
 | .int i,u=>∃t,u=Wr i t
 | .str x,u=>∃t,u=Xu x t
 | .byt b,u=>∃t,u=Value.bytes b t
 | .flt b,u=>∃t,u=Yo b t
 | .ref a,u=>u=Ts a
 | .ty n,u=>u=X2 n
abbrev Vals:List V->List Value->Prop:=Xx RelV
theorem Vals.length{xs:List V}{us:List Value}(r:Vals xs us):xs.length=us.length:=UU r
theorem Vals.get:∀{xs:List V}{us:List Value}{i:Nat}{x:V},Vals xs us->xs[i]? =some x->∃u,us[i]? =some u/\RelV x u
 |_,_,_,_, .nil,e=>by simp at e
 |_,_,0,_, .cons r _,e=>by simp at e;subst e;exact⟨_,rfl,r⟩
 |_,_,i+1,x, .cons _ t,e=>by
  obtain⟨u,h1,h2⟩:=Vals.get (i:=i) (x:=x) t (by simpa using e);exact⟨u,by simpa using h1,h2⟩
theorem Vals.set{x:V}{u:Value}(r:RelV x u):∀{xs:List V}{us:List Value}(i:Nat),Vals xs us->Vals (xs.set i x) (us.set i u)
 |_,_,_, .nil=> .nil
 |_,_,0, .cons _ t=> .cons r t
 |_,_,i+1, .cons q t=> .cons q (Vals.set r i t)
theorem Vals.append:∀{xs ys:List V}{us ws:List Value},Vals xs us->Vals ys ws->Vals (xs++ys) (us++ws)
 |_,_,_,_, .nil,s=>s
 |_,_,_,_, .cons r t,s=> .cons r (Vals.append t s)
theorem Vals.take:∀{xs:List V}{us:List Value}(n:Nat),Vals xs us->Vals (xs.take n) (us.take n)
 |_,_,0,_=> .nil
 |_,_,_+1, .nil=> .nil
 |_,_,n+1, .cons r t=> .cons r (Vals.take n t)
theorem Vals.drop:∀{xs:List V}{us:List Value}(n:Nat),Vals xs us->Vals (xs.drop n) (us.drop n)
 |_,_,0,r=>r
 |_,_,_+1, .nil=> .nil
 |_,_,n+1, .cons _ t=>Vals.drop n t
def RelO:Option V->Option Value->Prop
 |some v,some u=>RelV v u
 |none,none=>True
 |_,_=>False
def KV{κ:Type}:List (κ×V)->List (κ×Value)->Prop:=Xx λ(p:κ×V) (q:κ×Value)=>p.1=q.1/\RelV p.2 q.2
def kV:Key->V
 | .inl i=> .int i
 | .inr x=> .str x
inductive HO where
 |lst (xs:List V)
 |tup (xs:List V)
 |dK (az:List (Key×V)) | dT (az:List (List Key×V))
 |set (S:Int->Bool) (n:Nat)
 |ins (C dx:Addr) (fs:List (Str×V))
 |own (x:Addr)
 |xd (fs:List (Str×V))
 |met (f x:Addr)
 |rng (lo hi:Int)
 |frz (o:Obj) (u:HO)
 |tbl (ps:Array Value)
 |ext (φ:Heap->Prop)
abbrev Hp:=Addr->Option HO
def upd(H:Hp)(a:Addr)(o:HO):Hp:=λb=>if b=a then some o else H b
def aE{H:Hp}{a:Addr}{o:HO}:upd H a o a=some o:=by unfold upd;rw[Y6 rfl]
def au{H:Hp}{a b:Addr}{o:HO}(h:b≠a):upd H a o b=H b:=by unfold upd;rw[Y7 h]
def Dv{H:Hp}{a b:Addr}{o u:HO}(h:H a=some o)(h':H b=some u)(d:o≠u):a≠b:=by
 intro e;subst e;rw[h] at h';exact d (Tr h')
def b_{H:Hp}{a b:Addr}{o:HO}(h:H a=some o)(h':H b=none):a≠b:=by
 intro e;subst e;rw[h] at h';cases h'
section
variable(P:To)(w:World)
def ObjOk(H:Hp)(h:Heap)(a:Addr):HO->Prop
 | .lst xs=>xs.length<=S9/\∃(aM:List Value) (n:Nat),Vals xs aM/\h.get? a=some {cls:= .type "list",data:= .seq aM.toArray n}
 | .tup xs=>xs.length<=S9/\∃aM:List Value,Vals xs aM/\IsTup h a aM.toArray
 | .dK az=>az.length<=S9/\(a==UC)=false/\∃vs,KV az vs/\h.DictOf (bF P w) a vs
 | .dT az=>az.length<=S9/\(a==UC)=false/\∃xs:List (List Key×Addr×Value),
    Xx (λ(p:List Key×V) (q:List Key×Addr×Value)=>p.1=q.1/\H q.2.1=some (.tup (p.1.map kV))/\RelV p.2 q.2.2) az xs/\
    ∃o es ep,h.get? a=some o/\o.ExactDict/\o.data= .dict es ep/\es.toList=xs.map (Yz (Vu (bF P w)))/\(xs.map (·.1)).Nodup
 | .set S n=>h.SetOf (intKind P w) a S n
 | .ins C dx fs=>H dx=some (.own a)/\fs.length<=1000/\dx≠a/\h.get? a=some (UN C dx)/\
    ∃mA,h.Ns1 dx mA/\(∀f,RelO (fs.lookup f) (mA f))/\Yh mA (fs.map (·.1))
 | .own _=>∃o,h.get? a=some o
 | .xd fs=>∃mA,h.Ns1 a mA/\∀f,RelO (fs.lookup f) (mA f)
 | .rng lo hi=>∃t u v,h.get? a=some {cls:= .type "range",data:= .fields #[.int lo t, .int hi u, .int 1 v]}
 | .frz o u=>h.get? a=some o/\ObjOk H h a u
 | .tbl ps=>h.get? a=some {cls:= .none,data:= .fields ps}
 | .met f x=>h.get? a=some (WW (.ref f) (.ref x))
 | .ext φ=>φ h/\(∃o,h.get? a=some o)/\∀h1 h2:Heap,φ h1->(∀o,h1.get? a=some o->h2.get? a=some o)->φ h2
def HOk(H:Hp)(h:Heap):Prop:=∀a o,H a=some o->ObjOk P w H h a o
end
section
variable{P:To}{w:World}{H H':Hp}{h h':Heap}{a:Addr}{o:HO}
theorem ObjOk.lt(x:ObjOk P w H h a o):a<h.objs.size:=by
 cases o with
 |lst xs=>obtain⟨_,_,_,_,e⟩:=x;exact S8 e
 |tup xs=>obtain⟨_,_,_,p⟩:=x;exact p.lt
 |dK az=>obtain⟨_,_,_,_,o,_,_,e,_⟩:=x;exact S8 e
 |dT az=>obtain⟨_,_,_,_,o,_,_,e,_⟩:=x;exact S8 e
 |set S n=>obtain⟨o,_,_,_,e,_⟩:=x;exact S8 e
 |ins C dx fs=>obtain⟨_,_,_,e,_⟩:=x;exact S8 e
 |own y=>obtain⟨_,e⟩:=x;exact S8 e
 |xd fs=>obtain⟨_,⟨_,_,_,e,_⟩,_⟩:=x;exact S8 e
 |rng lo hi=>obtain⟨_,_,_,e⟩:=x;exact S8 e
 |frz ob u=>obtain⟨e,_⟩:=x;exact S8 e
 |tbl ps=>exact S8 (show h.get? a=some _ from x)
 |met f y=>exact S8 (show h.get? a=some _ from x)
 |ext φ=>obtain⟨_,⟨_,e⟩,_⟩:=x;exact S8 e
theorem Paired.mapP{α β:Type}{F G:α->β->Prop}:∀{Zp:List α}{Zq:List β},Xx F Zp Zq->(∀a b,F a b->G a b)->Xx G Zp Zq
 |_,_, .nil,_=> .nil
 |_,_, .cons r t,f=> .cons (f _ _ r) (Paired.mapP t f)
def ObjOk.stay(x:ObjOk P w H h a o)(k:∀b u,(b=a\/H b=some (.own a))->h.get? b=some u->h'.get? b=some u)
 (ho:∀b,H b=some (.own a)->H' b=some (.own a))(ht:∀b xs,H b=some (.tup xs)->H' b=some (.tup xs)):ObjOk P w H' h' a o:=by
 induction o with
 |lst xs=>obtain⟨z,aM,n,r,e⟩:=x;exact⟨z,aM,n,r,k _ _ (.inl rfl) e⟩
 |tup xs=>obtain⟨z,aM,r,ob,e,c⟩:=x;exact⟨z,aM,r,ob,k _ _ (.inl rfl) e,c⟩
 |dK az=>obtain⟨z,y,vs,r,ob,es,ep,e,c⟩:=x;exact⟨z,y,vs,r,ob,es,ep,k _ _ (.inl rfl) e,c⟩
 |dT az=>
  obtain⟨z,y,xs,r,ob,es,ep,e,c⟩:=x;exact⟨z,y,xs,Paired.mapP r λp q z=>⟨z.1,ht _ _ z.2.1,z.2.2⟩,ob,es,ep,k _ _ (.inl rfl) e,c⟩
 |set S n=>obtain⟨ob,es,ep,t,e,c⟩:=x;exact⟨ob,es,ep,t,k _ _ (.inl rfl) e,c⟩
 |ins C dx fs=>
  obtain⟨d,z,ne,e,mA,⟨od,es,ep,e2,c⟩,r⟩:=x;exact⟨ho _ d,z,ne,k _ _ (.inl rfl) e,mA,⟨od,es,ep,k _ _ (.inr d) e2,c⟩,r⟩
 |own y=>obtain⟨ob,e⟩:=x;exact⟨ob,k _ _ (.inl rfl) e⟩
 |xd fs=>obtain⟨mA,⟨od,es,ep,e,c⟩,r⟩:=x;exact⟨mA,⟨od,es,ep,k _ _ (.inl rfl) e,c⟩,r⟩
 |rng lo hi=>obtain⟨t,u,v,e⟩:=x;exact⟨t,u,v,k _ _ (.inl rfl) e⟩
 |frz ob u ih=>obtain⟨e,q⟩:=x;exact⟨k _ _ (.inl rfl) e,ih q⟩
 |tbl ps=>
  have e:h.get? a=some {cls:= .none,data:= .fields ps}:=x;show h'.get? a=some {cls:= .none,data:= .fields ps};exact k a _ (.inl rfl) e
 |met f y=>
  have e:h.get? a=some (WW (.ref f) (.ref y)):=x;show h'.get? a=some (WW (.ref f) (.ref y));exact k a _ (.inl rfl) e
 |ext φ=>obtain⟨p,⟨o,e⟩,st⟩:=x;exact⟨st _ _ p λo q=>k _ _ (.inl rfl) q,⟨o,k _ _ (.inl rfl) e⟩,st⟩
theorem HOk.lt(x:HOk P w H h)(e:H a=some o):a<h.objs.size:=(x a o e).lt
def HOk.fresh(x:HOk P w H h)(e:h.objs.size<=a):H a=none:=by
 cases q:H a with
 |none=>rfl
 |some u=>exact Y9 (Tq (x.lt q) e) (Us _)
def HOk.kept(x:HOk P w H h)(k:∀b u,h.get? b=some u->h'.get? b=some u):HOk P w H h':=λa o e=>
 (x a o e).stay (λb u _ q=>k b u q) (λ_ q=>q) λ_ _ q=>q
def HOk.laid(x:HOk P w H h)(k:∀b u,h.get? b=some u->h'.get? b=some u)(hp:h.objs.size<=a)(new:ObjOk P w (upd H a o) h' a o):HOk P w (upd H a o) h':=λb u e=>by
 have hn:=x.fresh hp;by_cases hb:b=a
 ·subst hb;rw[aE] at e;cases e;exact new
 ·rw[au hb] at e;exact(x b u e).stay (λc v _ q=>k c v q) (λc q=>by rw[au (b_ q hn)];exact q) λc xs q=>by rw[au (b_ q hn)];exact q
end
def Rd(H:Hp)(a:Addr)(u:HO):Prop:=H a=some u\/∃o,H a=some (.frz o u)
def Rd.ok{P:To}{w:World}{H:Hp}{h:Heap}{a:Addr}{u:HO}(r:Rd H a u)(x:HOk P w H h):ObjOk P w H h a u:=by
 rcases r with r | ⟨o,r⟩
 ·exact x a u r
 ·obtain⟨_,q⟩:=x a _ r;exact q
def Kx:Option HO->Prop
 |some (.lst _)=>True
 |some (.dK _)=>True
 |some (.dT _)=>True
 |some (.set _ _)=>True
 |some (.ins _ _ _)=>True
 |some (.ext _)=>True
 |_=>False
section
variable{P:To}{w:World}{H:Hp}{h h':Heap}{x e:Addr}{o':HO}
def HOk.write(ok:HOk P w H h)(mu:Kx (H x))(he:e=x\/H e=some (.own x))(k:∀b u,b≠e->h.get? b=some u->h'.get? b=some u)(B6:∃u,h'.get? e=some u)
 (new:ObjOk P w (upd H x o') h' x o'):HOk P w (upd H x o') h':=λb u q=>by
 have LP:∀c y,H c=some (.own y)->c≠x:=λc y r z=>by subst z;rw[r] at mu;exact mu
 have Om:∀c xs,H c=some (.tup xs)->c≠x:=λc xs r z=>by subst z;rw[r] at mu;exact mu
 by_cases hb:b=x
 ·subst hb;rw[aE] at q;cases q;exact new
 ·rw[au hb] at q;by_cases IQ:b=e
  ·have q':H b=some (.own x):=by
    rcases he with z | z
    ·exact Y9 (IQ.trans z) hb
    ·rw[IQ];exact z
   rw[q] at q';cases q';obtain⟨v,hv⟩:=B6;exact⟨v,by rw[IQ];exact hv⟩
  ·refine(ok b u q).stay (λc v hc r=>k c v ?_ r) (λc r=>by rw[au (LP c b r)];exact r) λc xs r=>by rw[au (Om c xs r)];exact r
   rcases hc with rfl | hc
   ·exact IQ
   ·rintro rfl;rcases he with z | z
    ·exact LP c b hc z
    ·rw[hc] at z;cases z;exact hb rfl
end
structure Un (fs ex:List Addr) (H H':Hp) (h h':Heap):Prop where
 keep:∀b o,h.get? b=some o->H b=none->b∉fs->b∉ex->h'.get? b=some o
 slot:∀b o,h.get? b=some o->H b=none->b∈fs->b∉ex->∃sl,h'.get? b=some {o with slots:=sl}
 free:∀b o,h.get? b=some o->H b=none->b∉ex->H' b=none
 there:∀b o,h.get? b=some o->b∉ex->∃o',h'.get? b=some o'
 tups:∀b xs,H b=some (.tup xs)->H' b=some (.tup xs)
 frzs:∀b o u,H b=some (.frz o u)->H' b=some (.frz o u)
 tbls:∀b ps,H b=some (.tbl ps)->∃more,H' b=some (.tbl (ps++more))
section
variable{fs IH ex xY:List Addr}{H H1 H2:Hp}{h h1 h2 h':Heap}{a x e:Addr}{o:HO}
def Un.any(u:Un fs ex H H1 h h1){b:Addr}{ob:Obj}(q:h.get? b=some ob)(n:H b=none)(hx:b∉ex):∃sl,h1.get? b=some {ob with slots:=sl}:=by
 by_cases hb:b∈fs
 ·exact u.slot b ob q n hb hx
 ·exact⟨ob.slots,u.keep b ob q n hb hx⟩
def Un.trans(a:Un fs ex H H1 h h1)(b:Un fs ex H1 H2 h1 h2):Un fs ex H H2 h h2 where
 keep:=λc ob q n hc hx=>b.keep c ob (a.keep c ob q n hc hx) (a.free c ob q n hx) hc hx
 slot:=λc ob q n hc hx=>by
  obtain⟨sl,e1⟩:=a.slot c ob q n hc hx;obtain⟨kN,e2⟩:=b.slot c _ e1 (a.free c ob q n hx) hc hx;exact⟨kN,e2⟩
 free:=λc ob q n hx=>by
  obtain⟨o',e1⟩:=a.there c ob q hx;exact b.free c o' e1 (a.free c ob q n hx) hx
 there:=λc ob q hx=>by
  obtain⟨o',e1⟩:=a.there c ob q hx;exact b.there c o' e1 hx
 tups:=λc xs q=>b.tups c xs (a.tups c xs q)
 frzs:=λc ob xs q=>b.frzs c ob xs (a.frzs c ob xs q)
 tbls:=λc ps q=>by
  obtain⟨m1,e1⟩:=a.tbls c ps q;obtain⟨m2,e2⟩:=b.tbls c _ e1;exact⟨m1++m2,by rw[e2,W2]⟩
def Un.kept(k:∀b u,h.get? b=some u->h'.get? b=some u):Un fs ex H H h h':=
 ⟨λb ob q _ _ _=>k b ob q,λb ob q _ _ _=>⟨ob.slots,k b ob q⟩,λ_ _ _ n _=>n,λb ob q _=>⟨ob,k b ob q⟩,λ_ _ q=>q,λ_ _ _ q=>q,λ_ ps q=>⟨#[],by rw[q];simp⟩⟩
def Un.refl:Un fs ex H H h h:=Un.kept λ_ _ q=>q
def Un.laid(k:∀b u,h.get? b=some u->h'.get? b=some u)(hp:h.objs.size<=a)(hn:H a=none):Un fs ex H (upd H a o) h h' where
 keep:=λb u q _ _ _=>k b u q
 slot:=λb u q _ _ _=>⟨u.slots,k b u q⟩
 free:=λb u q n _=>by rw[au (Tv (Tq (S8 q) hp))];exact n
 there:=λb u q _=>⟨u,k b u q⟩
 tups:=λb xs q=>by rw[au (b_ q hn)];exact q
 frzs:=λb u xs q=>by rw[au (b_ q hn)];exact q
 tbls:=λb ps q=>⟨#[],by rw[au (b_ q hn),q];simp⟩
def Un.write(mu:Kx (H x))(he:e=x\/H e=some (.own x))(k:∀b u,b≠e->h.get? b=some u->h'.get? b=some u)(B6:∃u,h'.get? e=some u):Un fs ex H (upd H x o) h h':=by
 have hx:∀b,H b=none->b≠x:=λb n z=>by subst z;rw[n] at mu;exact mu
 have hb:∀b,H b=none->b≠e:=λb n z=>by
  subst z;rcases he with r | r
  ·exact hx b n r
  ·rw[n] at r;cases r
 have hm:∀b u,H b=some u->¬Kx (some u)->b≠x:=λb u q nm z=>by subst z;rw[q] at mu;exact nm mu
 refine⟨λb u q n _ _=>k b u (hb b n) q,λb u q n _ _=>⟨u.slots,k b u (hb b n) q⟩,λb u q n _=>by rw[au (hx b n)];exact n,λb u q _=>?_,
  λb xs q=>by rw[au (hm b _ q λz=>z)];exact q,λb u xs q=>by rw[au (hm b _ q λz=>z)];exact q,λb ps q=>⟨#[],by rw[au (hm b _ q λz=>z),q];simp⟩⟩
 by_cases IQ:b=e
 ·subst IQ;exact B6
 ·exact⟨u,k b u IQ q⟩
def Un.mono(u:Un fs ex H H1 h h1)(hs:∀b∈fs,b∈IH)(hx:∀b∈ex,b∈xY):Un IH xY H H1 h h1:=
 ⟨λb ob q n hb he=>u.keep b ob q n (λz=>hb (hs b z)) λz=>he (hx b z),λ_ _ q n _ he=>u.any q n λz=>he (hx _ z),λb ob q n he=>u.free b ob q n λz=>he (hx b z),λb ob q he=>u.there b ob q λz=>he (hx b z),u.tups,u.frzs,u.tbls⟩
end
def Na(h:Heap)(H:Hp):List Addr:=(S5 h.objs.size).filter λa=>(H a).isSome
def tT(h:Heap)(H:Hp):Heap:=PySem.W.hideAll h (Na h H)
def A9(h:Heap)(H:Hp):(tT h H).objs.size=h.objs.size:=PySem.W.hideAll_size _ _
def CV{h:Heap}{H:Hp}{b:Addr}{o:Obj}(e:h.get? b=some o)(n:H b=none):(tT h H).get? b=some o:=
 PySem.W.hideAll_get _ e λhm=>by
  have q:(H b).isSome=true:=(T1.mp hm).2;rw[n] at q;simp at q
def Ge{h:Heap}{H:Hp}{b:Addr}{o:Obj}(e:(tT h H).get? b=some o):h.get? b=some o/\H b=none:=by
 have e':h.get? b=some o:=PySem.W.of_hideAll (Na h H) e;refine⟨e',?_⟩;cases q:H b with
 |none=>rfl
 |some x=>
  have hm:b∈Na h H:=T1.mpr ⟨TL.mpr (S8 e'),by simp[q]⟩;have z:(tT h H).get? b=none:=PySem.W.hideAll_none (Na h H) hm;rw[z] at e;cases e
def Fg(g h:Heap)(L:Addr):List (Addr×Obj):=(S5 h.objs.size).filterMap λa=>if a=L\/(g.get? a).isSome=true then none else(h.get? a).map λo=>(a,o)
def W1(g h:Heap)(L d:Addr):List (Addr×Obj):=(Fg g h L).filter λp=>decide (p.1≠d)
structure Mod (K:SN) (mg:Str->Option Value) (base:Heap):Prop where
 kin:K.In base
 glob:base.Ns Tb mg
 blt:∃mb,base.Ns YA mb/\∀x:Str,x≠"__name__"->mb x=T4 x
 nolimit:base.NoLimit
structure Cx where
 prog:To
 w:World
 K:SN
 mg:Str->Option Value
 base:Heap
 A:T9
 N:List Str
 Zy:SS
 Zx:Hp
 env:Env
 outer:List Env
 stack:List Env
 ex:List Addr
 fn:Str->Bool
 calm:Bool
 pn:List (Addr×Obj)
 xe:Value->SS->Prop
def oE(l:List Env):List Addr:=l.filterMap (·.frame)
abbrev Cx.fs(X:Cx):List Addr:=oE X.outer
def Nn(sc:Scope)(x:Str):Prop:=sc.names.lookup x=some .local\/sc.names.lookup x=some .cell\/sc.names.lookup x=some .free
def Loc(sc:Scope)(x:Str):Prop:=sc.names.lookup x=some .local\/sc.names.lookup x=some .cell
def Look(env:Env)(h:Heap)(m:Str->Option Value)(x:Str)(u:Value):Prop:=
 (env.kindOf x=some .local/\m x=some u)\/((env.kindOf x=some .cell\/env.kindOf x=some .free)/\∃c,env.cells.lookup x=some c/\h.IsCell c (some u))
structure Cx.Ok (X:Cx):Prop where
 mod:Mod X.K X.mg X.base
 kind:X.env.scope.kind= .function
 glob:X.env.globals=Tb
 blt:X.env.builtins=YA
 above:X.Zy.heap.objs.size<=X.env.locals
 inj:∀x y c,X.env.cells.lookup x=some c->X.env.cells.lookup y=some c->x=y
 has:∀x,(X.env.kindOf x=some .cell\/X.env.kindOf x=some .free)->∃c,X.env.cells.lookup x=some c
 cab:∀x c,X.fn x=true->X.env.cells.lookup x=some c->X.Zy.heap.objs.size<=c
 hd:X.calm=true->X.A.handled=none
 frames:X.A.frames=some X.stack
 stk:X.stack=X.outer\/(X.stack=X.env::X.outer/\X.env.frame=some X.env.locals)
 exf:∀b∈X.ex,b≠X.env.locals/\∀x c,X.env.cells.lookup x=some c->c≠b
 bs:∀b o,X.base.get? b=some o->X.Zy.heap.get? b=some o/\X.Zx b=none
 bsz:X.base.objs.size<=X.Zy.heap.objs.size
 noex:∀b o,X.base.get? b=some o->b∉X.ex
 exfs:∀b∈X.ex,b∉X.fs
 funs:X.Zy.heap.FunFrames X.base X.outer
 frf:∀b∈X.fs,X.Zx b=none
structure Inv (X:Cx) (f8:List (Addr×Obj)) (σ:List (Option V)) (H:Hp) (s:SS):Prop where
 ok:X.Ok
 os:s.os=X.Zy.os
 bare:W3 s.gens
 base:Un X.fs X.ex X.Zx H X.Zy.heap s.heap
 loc:∃m,s.heap.Ns X.env.locals m/\∀(i:Nat) (x:Str) (v:V),X.N[i]? =some x->σ[i]? =some (some v)->Nn X.env.scope x->∃u,RelV v u/\Look X.env s.heap m x u
 cell:∀x c,X.env.cells.lookup x=some c->∃v,s.heap.IsCell c v
 free:H X.env.locals=none
 freeC:∀x c,X.env.cells.lookup x=some c->H c=none
 pin:∀p∈X.pn++f8,s.heap.get? p.1=some p.2/\H p.1=none/\p.1≠X.env.locals/\p.1∉X.fs/\∀v,p.2.data≠ .cell v
 hok:HOk X.prog X.w H s.heap
 len:σ.length=X.N.length
section
variable{X:Cx}{f8:List (Addr×Obj)}{σ:List (Option V)}{H H':Hp}{s:SS}{h':Heap}
def Cx.Ok.nofr(ok:X.Ok){b:Addr}{o:Obj}(e:X.base.get? b=some o):b∉X.fs:=λhb=>by
 have:=(ok.funs.mem hb).1;rw[e] at this;cases this
theorem Inv.bs(I:Inv X f8 σ H s):∀b o,X.base.get? b=some o->s.heap.get? b=some o/\H b=none:=λb o e=>
 ⟨I.base.keep b o (I.ok.bs b o e).1 (I.ok.bs b o e).2 (I.ok.nofr e) (I.ok.noex b o e),I.base.free b o (I.ok.bs b o e).1 (I.ok.bs b o e).2 (I.ok.noex b o e)⟩
def Inv.bk(I:Inv X f8 σ H s):∀b o,X.base.get? b=some o->s.heap.get? b=some o:=λb o e=>(I.bs b o e).1
theorem Inv.mod(I:Inv X f8 σ H s):Mod X.K X.mg X.base:=I.ok.mod
def Inv.kIn(I:Inv X f8 σ H s):X.K.In s.heap:=I.ok.mod.kin.keeps I.bk
theorem Inv.lt(I:Inv X f8 σ H s):X.env.locals<s.heap.objs.size:=let ⟨_,hn,_⟩:=I.loc;hn.lt
def Inv.sz(I:Inv X f8 σ H s):X.Zy.heap.objs.size<=s.heap.objs.size:=Tn I.ok.above (Va I.lt)
def Inv.nofs(I:Inv X f8 σ H s){a:Addr}(h:s.heap.objs.size<=a):a∉X.fs:=λhb=>by
 obtain⟨_,o,ho,_⟩:=I.ok.funs.mem hb;exact Y9 (Tq (S8 ho) (Tn I.sz h)) (Us _)
def Inv.cne(I:Inv X f8 σ H s):∀x c,X.env.cells.lookup x=some c->c≠X.env.locals:=λx c e z=>by
 obtain⟨v,o,ho,hd⟩:=I.cell x c e;obtain⟨m,⟨o',es,ep,rT,u6,_⟩,_⟩:=I.loc;rw[z,rT] at ho;cases ho;rw[u6] at hd;cases hd
theorem Inv.funs(I:Inv X f8 σ H s):s.heap.FunFrames X.base X.outer:=by
 have all:∀(l:List Env),(∀b∈oE l,b∈X.fs)->X.Zy.heap.FunFrames X.base l->s.heap.FunFrames X.base l:=by
  intro l;induction l with
  |nil=>intro _ _;trivial
  |cons env r ih=>
   intro hs hl;obtain⟨hk,⟨L,o,hf,hn,ho,hd⟩,hr⟩:=hl;have hL:L∈X.fs:=hs L (by unfold oE;rw[Vj,hf];exact SM);obtain⟨sl,e⟩:=I.base.slot L o ho (I.ok.frf L hL) hL λz=>I.ok.exfs L z hL;exact⟨hk,⟨L,_,hf,hn,e,hd⟩,ih (λb hb=>hs b (by unfold oE;rw[Vj,hf];exact SJ _ hb)) hr⟩
 exact all X.outer (λ_ hb=>hb) I.ok.funs
theorem Inv.stack(I:Inv X f8 σ H s):s.heap.FunFrames X.base X.stack:=by
 rcases I.ok.stk with e | ⟨e,hf⟩
 ·rw[e];exact I.funs
 ·rw[e];obtain⟨m,hn,_⟩:=I.loc;refine .cons (by rw[I.ok.kind];decide) hf hn ?_ I.funs;exact Yw (Tn I.ok.bsz I.ok.above)
def Inv.stkSub(I:Inv X f8 σ H s):∀b∈oE X.stack,b∈X.env.locals::X.fs:=λb hb=>by
 rcases I.ok.stk with e | ⟨e,hf⟩
 ·rw[e] at hb;exact SJ _ hb
 ·rw[e] at hb;unfold oE at hb;rw[Vj,hf] at hb;exact hb
def Inv.stkFree(I:Inv X f8 σ H s):∀b∈oE X.stack,H b=none:=λb hb=>by
 rcases S6.mp (I.stkSub b hb) with e | hb
 ·rw[e];exact I.free
 ·obtain⟨_,o,ho,_⟩:=I.ok.funs.mem hb;exact I.base.free b o ho (I.ok.frf b hb) λz=>I.ok.exfs b z hb
def Inv.step{g':Array GenState}{t':Nat}{d':Drawn}{ch:List Addr}(I:Inv X f8 σ H s)
 (A6:∀b∈ch,(b∈X.ex\/X.Zy.heap.objs.size<=b)/\b≠X.env.locals/\(∀x c,X.env.cells.lookup x=some c->c≠b)/\∀p∈X.pn++f8,p.1≠b)
 (keep:∀b o,b≠X.env.locals->b∉X.fs->b∉ch->s.heap.get? b=some o->H b=none->h'.get? b=some o)
 (slot:∀b o,b≠X.env.locals->b∈X.fs->b∉ch->s.heap.get? b=some o->H b=none->∃sl,h'.get? b=some {o with slots:=sl})(free:∀b o,b∉ch->s.heap.get? b=some o->H b=none->H' b=none)
 (there:∀b o,b∉ch->s.heap.get? b=some o->∃o',h'.get? b=some o')
 (tups:∀b xs,H b=some (.tup xs)->H' b=some (.tup xs))(frzs:∀b o u,H b=some (.frz o u)->H' b=some (.frz o u))(tbls:∀b ps,H b=some (.tbl ps)->∃more,H' b=some (.tbl (ps++more)))
 (ns:∀m,s.heap.Ns X.env.locals m->h'.Ns X.env.locals m)(hok:HOk X.prog X.w H' h')(hg:W3 g'):
 Inv X f8 σ H' {s with heap:=h',gens:=g',drawn:=d',toks:=t'}:=by
 have P_:∀b o,X.Zy.heap.get? b=some o->b≠X.env.locals:=λb o e=>Tv (Tq (S8 e) I.ok.above);have M3:∀b o,X.Zy.heap.get? b=some o->b∉X.ex->b∉ch:=λb o e hx hb=>by
  rcases(A6 b hb).1 with z | z
  ·exact hx z
  ·exact Y9 (Tq (S8 e) z) (Us _)
 have cellK:∀x c,X.env.cells.lookup x=some c->∀v,s.heap.IsCell c v->h'.IsCell c v:=λx c e v ⟨o,ho,hd⟩=>by
  have LM:c∉ch:=λz=>(A6 c z).2.2.1 x c e rfl;by_cases hc:c∈X.fs
  ·obtain⟨sl,q⟩:=slot c o (I.cne x c e) hc LM ho (I.freeC x c e);exact⟨_,q,hd⟩
  ·exact⟨o,keep c o (I.cne x c e) hc LM ho (I.freeC x c e),hd⟩
 refine⟨I.ok,I.os,hg,⟨λb o e n hb hx=>?_,λb o e n hb hx=>?_,λb o e n hx=>?_,λb o e hx=>?_,λb xs e=>tups b xs (I.base.tups b xs e),λb o xs e=>frzs b o xs (I.base.frzs b o xs e),λb ps e=>?_⟩,?_,λx c e=>?_,?_,λx c e=>?_,λp hp=>?_,hok,I.len⟩
 ·exact keep b o (P_ b o e) hb (M3 b o e hx) (I.base.keep b o e n hb hx) (I.base.free b o e n hx)
 ·obtain⟨sl,e1⟩:=I.base.slot b o e n hb hx;obtain⟨kN,e2⟩:=slot b _ (P_ b o e) hb (M3 b o e hx) e1 (I.base.free b o e n hx);exact⟨kN,e2⟩
 ·obtain⟨o',e1⟩:=I.base.there b o e hx;exact free b o' (M3 b o e hx) e1 (I.base.free b o e n hx)
 ·obtain⟨o',e1⟩:=I.base.there b o e hx;exact there b o' (M3 b o e hx) e1
 ·obtain⟨m1,e1⟩:=I.base.tbls b ps e;obtain⟨m2,e2⟩:=tbls b _ e1;exact⟨m1++m2,by rw[e2,W2]⟩
 ·obtain⟨m,hn,hl⟩:=I.loc;refine⟨m,ns m hn,λi x v e1 e2 e3=>?_⟩;obtain⟨u,r,l⟩:=hl i x v e1 e2 e3;refine⟨u,r,?_⟩;rcases l with l | ⟨k,c,e,z⟩
  ·exact .inl l
  ·exact .inr ⟨k,c,e,cellK x c e _ z⟩
 ·obtain⟨v,z⟩:=I.cell x c e;exact⟨v,cellK x c e v z⟩
 ·obtain⟨m,⟨o,_,_,ho,_⟩,_⟩:=I.loc;exact free _ o (λz=>(A6 _ z).2.1 rfl) ho I.free
 ·obtain⟨v,o,ho,hd⟩:=I.cell x c e;exact free c o (λz=>(A6 c z).2.2.1 x c e rfl) ho (I.freeC x c e)
 ·obtain⟨e,n,ne,nf,d⟩:=I.pin p hp;have LM:p.1∉ch:=λz=>(A6 p.1 z).2.2.2 p hp rfl;exact⟨keep p.1 p.2 ne nf LM e n,free p.1 p.2 LM e n,ne,nf,d⟩
def Inv.un{t':Nat}(I:Inv X f8 σ H s)(u:Un X.fs [] H H' s.heap h')(hok:HOk X.prog X.w H' h'):Inv X f8 σ H' {s with heap:=h',toks:=t'}:=by
 obtain⟨m,⟨o,es,ep,ho,r⟩,_⟩:=id I.loc;obtain⟨sl,hL⟩:=u.any ho I.free (by simp);exact I.step (g':=s.gens) (d':=s.drawn) (ch:=[]) (λ_ z=>nomatch z) (λb o _ hb _ e n=>u.keep b o e n hb (by simp)) (λb o _ hb _ e n=>u.slot b o e n hb (by simp)) (λb o _ e n=>u.free b o e n (by simp)) (λb o _ e=>u.there b o e (by simp)) u.tups u.frzs u.tbls (λm' hm=>by
  obtain⟨o',Ki,Fy,rT,r'⟩:=hm;rw[ho] at rT;cases rT;exact⟨_,Ki,Fy,hL,r'⟩) hok I.bare
def Inv.call{g':Array GenState}{t':Nat}{d':Drawn}{ch:List Addr}(I:Inv X f8 σ H s)(u:Un (oE X.stack) ch H H' s.heap h')(hok:HOk X.prog X.w H' h')(hg:W3 g')
 (A6:∀b∈ch,(b∈X.ex\/X.Zy.heap.objs.size<=b)/\b≠X.env.locals/\(∀x c,X.env.cells.lookup x=some c->c≠b)/\∀p∈X.pn++f8,p.1≠b):
 Inv X f8 σ H' {s with heap:=h',gens:=g',drawn:=d',toks:=t'}:=by
 obtain⟨m,⟨o,es,ep,ho,r⟩,_⟩:=id I.loc;obtain⟨sl,hL⟩:=u.any ho I.free λz=>(A6 _ z).2.1 rfl;exact I.step (ch:=ch) A6 (λb o hL hb hc e n=>u.keep b o e n (λz=>(S6.mp (I.stkSub b z)).elim hL hb) hc) (λb o _ _ hc e n=>u.any e n hc) (λb o hc e n=>u.free b o e n hc) (λb o hc e=>u.there b o e hc) u.tups u.frzs u.tbls (λm' hm=>by
  obtain⟨o',Ki,Fy,rT,r'⟩:=hm;rw[ho] at rT;cases rT;exact⟨_,Ki,Fy,hL,r'⟩) hok hg
def Inv.turned{t':Nat}{it:Addr}(I:Inv X f8 σ H s)(k:∀b o,b≠it->s.heap.get? b=some o->h'.get? b=some o)(hn:H it=none)(hL:it≠X.env.locals)
 (h1:it∈X.ex\/X.Zy.heap.objs.size<=it)(h2:∀x c,X.env.cells.lookup x=some c->c≠it)(h3:∀p∈X.pn++f8,p.1≠it):Inv X f8 σ H {s with heap:=h',toks:=t'}:=by
 have Qa:∀b u,H b=some u->b≠it:=λb u e z=>by rw[z,hn] at e;cases e
 refine I.step (g':=s.gens) (d':=s.drawn) (ch:=[it]) (λb hb=>?_) (λb o _ _ hc e _=>k b o (λz=>hc (by simp[z])) e) (λb o _ _ hc e _=>⟨o.slots,k b o (λz=>hc (by simp[z])) e⟩) (λ_ _ _ _ n=>n)
  (λb o hc e=>⟨o,k b o (λz=>hc (by simp[z])) e⟩) (λ_ _ e=>e) (λ_ _ _ e=>e) (λb ps e=>⟨#[],by rw[e];simp⟩) (λm hm=>?_) (λb u e=>?_) I.bare
 ·have e:b=it:=by simpa using hb
  subst e;exact⟨h1,hL,h2,h3⟩
 ·obtain⟨o,es,ep,ho,r⟩:=hm;exact⟨o,es,ep,k _ o (UW hL) ho,r⟩
 ·refine(I.hok b u e).stay (λc v hc q=>k c v ?_ q) (λ_ q=>q) λ_ _ q=>q;rcases hc with z | z
  ·rw[z];exact Qa b u e
  ·exact Qa c _ z
def Inv.tok(I:Inv X f8 σ H s)(t:Nat):Inv X f8 σ H {s with toks:=t}:=I.un (h':=s.heap) (t':=t) Un.refl I.hok
theorem Inv.kept{t':Nat}(I:Inv X f8 σ H s)(k:∀b u,s.heap.get? b=some u->h'.get? b=some u):Inv X f8 σ H {s with heap:=h',toks:=t'}:=I.un (Un.kept k) (I.hok.kept k)
theorem Inv.laid{a:Addr}{o:HO}{t':Nat}(I:Inv X f8 σ H s)(k:∀b u,s.heap.get? b=some u->h'.get? b=some u)(hp:s.heap.objs.size<=a)(new:ObjOk X.prog X.w (upd H a o) h' a o):
 Inv X f8 σ (upd H a o) {s with heap:=h',toks:=t'}:=I.un (Un.laid k hp (I.hok.fresh hp)) (I.hok.laid k hp new)
theorem Inv.write{x e:Addr}{o:HO}{t':Nat}(I:Inv X f8 σ H s)(mu:Kx (H x))(he:e=x\/H e=some (.own x))(k:∀b u,b≠e->s.heap.get? b=some u->h'.get? b=some u)(B6:∃u,h'.get? e=some u)
 (new:ObjOk X.prog X.w (upd H x o) h' x o):Inv X f8 σ (upd H x o) {s with heap:=h',toks:=t'}:=I.un (Un.write mu he k B6) (I.hok.write mu he k B6 new)
def Inv.pins_of{H9:List (Addr×Obj)}(I:Inv X f8 σ H s)(h:∀p∈H9,s.heap.get? p.1=some p.2/\H p.1=none/\p.1≠X.env.locals/\p.1∉X.fs/\∀v,p.2.data≠ .cell v):Inv X H9 σ H s:=
 ⟨I.ok,I.os,I.bare,I.base,I.loc,I.cell,I.free,I.freeC,λp hp=>(TH.mp hp).elim (λz=>I.pin p (UR _ z)) (h p),I.hok,I.len⟩
def v5{N:List Str}(hN:N.Nodup){i j:Nat}{x:Str}(a:N[i]? =some x)(b:N[j]? =some x):i=j:=by
 obtain⟨h1,e1⟩:=SY.mp a;obtain⟨h2,e2⟩:=SY.mp b;exact(List.getElem_inj hN).mp (e1.trans e2.symm)
def sU{M:Model}{A:T9}{E:Value->SS->Prop}{i:Nat}{x:Str}{v:V}{u:Value}{Q:Unit->SS->Prop}(I:Inv X f8 σ H s)(hN:X.N.Nodup)(hi:X.N[i]? =some x)(hx:Loc X.env.scope x)(r:RelV v u)
 (h:∀s',Inv X f8 (σ.set i (some v)) H s'->(∃a,U8 a s.heap s'.heap/\(a=X.env.locals\/X.env.cells.lookup x=some a))->Q () s')(hf:X.fn x=true\/X.env.scope.names.lookup x=some .local:=by first | exact .inl rfl | exact .inr rfl | assumption):wpAny M A (storeName X.env x u) Q E s:=by
 obtain⟨m,hn,hl⟩:=id I.loc;have NJ:(X.env.scope.kind== .class||(X.env.scope.kind== .module&&X.env.locals !=X.env.globals))=false:=by rw[I.ok.kind];rfl
 have PH:i<σ.length:=by rw[I.len];exact(SY.mp hi).1
 have cne:=I.cne;have tracked:∀{a:Addr}{h':Heap},(∃o,s.heap.get? a=some o/\H a=none)->U8 a s.heap h'->HOk X.prog X.w H h':=λ{a h'} ha hs b ob e=>by
  obtain⟨_,_,HK⟩:=ha;refine(I.hok b ob e).stay (λc w' hc q=>(hs.2 c ?_).trans q) (λ_ q=>q) λ_ _ q=>q;rintro rfl;rcases hc with rfl | hc
  ·rw[HK] at e;cases e
  ·rw[HK] at hc;cases hc
 rcases hx with hk | hk
 ·refine wpAny_storeName_local hk hn (λh' Rp hs=>?_) NJ;obtain⟨oL,_,_,MT,_⟩:=id hn;refine h _ ⟨I.ok,I.os,I.bare,⟨λb o e n hb hx=>?_,λb o e n hb hx=>?_,I.base.free,λb o e hx=>?_,I.base.tups,I.base.frzs,I.base.tbls⟩,⟨_,Rp,λj y v' e1 e2 e3=>?_⟩,λy c e=>?_,I.free,I.freeC,λp hp=>?_,tracked ⟨oL,MT,I.free⟩ hs,by simpa using I.len⟩ ⟨_,hs, .inl rfl⟩
  ·exact(hs.2 b (Tv (Tq (S8 e) I.ok.above))).trans (I.base.keep b o e n hb hx)
  ·obtain⟨sl,e1⟩:=I.base.slot b o e n hb hx;exact⟨sl,(hs.2 b (Tv (Tq (S8 e) I.ok.above))).trans e1⟩
  ·obtain⟨o',e1⟩:=I.base.there b o e hx;exact⟨o',(hs.2 b (Tv (Tq (S8 e) I.ok.above))).trans e1⟩
  ·by_cases hj:j=i
   ·subst hj;rw[hi] at e1;cases e1;rw[Tu PH] at e2;cases e2;exact⟨u,r, .inl ⟨hk,by simp⟩⟩
   ·rw[TB (UW hj)] at e2;obtain⟨u',r',q⟩:=hl j y v' e1 e2 e3;refine⟨u',r',?_⟩;rcases q with⟨k,e⟩ | ⟨k,c,e,z⟩
    ·refine .inl ⟨k,?_⟩;have:y≠x:=λe=>hj (v5 hN e1 (e▸hi));simp[this,e]
    ·exact .inr ⟨k,c,e,z.sameBut hs (cne y c e)⟩
  ·obtain⟨w',z⟩:=I.cell y c e;exact⟨w',z.sameBut hs (cne y c e)⟩
  ·obtain⟨e,n,ne,nf,d⟩:=I.pin p hp;exact⟨(hs.2 p.1 ne).trans e,n,ne,nf,d⟩
 ·have NN:X.fn x=true:=by
   rcases hf with z | z
   ·exact z
   ·rw[z] at hk;cases hk
  obtain⟨c,hc⟩:=I.ok.has x (.inl hk);obtain⟨w',z⟩:=I.cell x c hc;refine wpAny_storeName_cell I.ok.kind hk hc z (λh' E8 hs=>?_);obtain⟨oc,MU,N1⟩:=id z;refine h {s with heap:=h'} ⟨I.ok,I.os,I.bare,⟨λb o e n hb hx=>?_,λb o e n hb hx=>?_,I.base.free,λb o e hx=>?_,I.base.tups,I.base.frzs,I.base.tbls⟩,⟨m,hn.sameBut hs (UW (cne x c hc)),λj y v' e1 e2 e3=>?_⟩,λy c' e=>?_,I.free,I.freeC,λp hp=>?_,tracked ⟨oc,MU,I.freeC x c hc⟩ hs,by simpa using I.len⟩ ⟨c,hs, .inr hc⟩
  ·exact(hs.2 b (Tv (Tq (S8 e) (I.ok.cab x c NN hc)))).trans (I.base.keep b o e n hb hx)
  ·obtain⟨sl,e1⟩:=I.base.slot b o e n hb hx;exact⟨sl,(hs.2 b (Tv (Tq (S8 e) (I.ok.cab x c NN hc)))).trans e1⟩
  ·obtain⟨o',e1⟩:=I.base.there b o e hx;exact⟨o',(hs.2 b (Tv (Tq (S8 e) (I.ok.cab x c NN hc)))).trans e1⟩
  ·by_cases hj:j=i
   ·subst hj;rw[hi] at e1;cases e1;rw[Tu PH] at e2;cases e2;exact⟨u,r, .inr ⟨.inl hk,c,hc,E8⟩⟩
   ·rw[TB (UW hj)] at e2;obtain⟨u',r',q⟩:=hl j y v' e1 e2 e3;refine⟨u',r',?_⟩;rcases q with q | ⟨k,c',e,z'⟩
    ·exact .inl q
    ·refine .inr ⟨k,c',e,z'.sameBut hs ?_⟩;rintro rfl;exact hj (v5 hN e1 (I.ok.inj _ _ _ e hc▸hi))
  ·by_cases MO:c'=c
   ·subst MO;exact⟨_,E8⟩
   ·obtain⟨w2,z2⟩:=I.cell y c' e;exact⟨w2,z2.sameBut hs MO⟩
  ·obtain⟨e,n,ne,nf,d⟩:=I.pin p hp;refine⟨(hs.2 p.1 ?_).trans e,n,ne,nf,d⟩;intro q;rw[q,MU] at e;have q':oc=p.2:=Tr e;exact d w' (by rw[<-q'];exact N1)
def w_{M:Model}{A:T9}{E:Value->SS->Prop}{i:Nat}{x:Str}{v:V}{u:Value}{Q:Unit->SS->Prop}(I:Inv X f8 σ H s)(hN:X.N.Nodup)(hi:X.N[i]? =some x)(hx:Loc X.env.scope x)(r:RelV v u)
 (h:∀s',Inv X f8 (σ.set i (some v)) H s'->Q () s')(hf:X.fn x=true\/X.env.scope.names.lookup x=some .local:=by first | exact .inl rfl | exact .inr rfl | assumption):wpAny M A (storeName X.env x u) Q E s:=
 sU I hN hi hx r (λs' I' _=>h s' I') hf
def Inv.call'{s':SS}{ch:List Addr}(I:Inv X f8 σ H s)(ho:s'.os=s.os)(u:Un (oE X.stack) ch H H' s.heap s'.heap)(hok:HOk X.prog X.w H' s'.heap)(hg:W3 s'.gens)
 (A6:∀b∈ch,(b∈X.ex\/X.Zy.heap.objs.size<=b)/\b≠X.env.locals/\(∀x c,X.env.cells.lookup x=some c->c≠b)/\∀p∈X.pn++f8,p.1≠b):Inv X f8 σ H' s':=by
 obtain⟨h',g',d',t',o'⟩:=s';have e:o'=s.os:=ho;subst e;exact I.call (g':=g') (t':=t') (d':=d') u hok hg A6
end
abbrev XK:=Value->Option Addr->Hp->Prop
abbrev St:=List (Option V)
abbrev VK:=V->Hp->Prop
abbrev TE:=St->Hp->VK->Prop
abbrev TT:=St->Hp->(Bool->Hp->Prop)->Prop
abbrev TA:=St->Hp->(List V->Hp->Prop)->Prop
structure Ends where
 nx:St->Hp->Prop
 rt:VK
 bk:St->Hp->Prop:=λ_ _=>False
 ct:St->Hp->Prop:=λ_ _=>False
abbrev TS:=Ends->St->Hp->Prop
def Ig:Nat:=600
class Tk (s:SS):Prop where
 le:Ig<=s.toks
class Up (s:outParam SS) (s':SS):Prop where
 le:s.toks<=s'.toks
instance tkUp {s s':SS} [u:Up s s'] [k:Tk s]:Tk s':=⟨Tn k.le u.le⟩
instance tkHeap {s:SS}{h:Heap} [k:Tk s]:Tk ⟨h,s.gens,s.drawn,s.toks,s.os⟩:=⟨k.le⟩
def EP(X:Cx)(f8:List (Addr×Obj))(σ:St)(Q:VK)(u:Value)(s':SS):Prop:=∃v H',Inv X f8 σ H' s'/\RelV v u/\Q v H'
def TP(X:Cx)(f8:List (Addr×Obj))(σ:St)(Q:Bool->Hp->Prop)(b:Bool)(s':SS):Prop:=∃H',Inv X f8 σ H' s'/\Q b H'
def AP(X:Cx)(f8:List (Addr×Obj))(σ:St)(Q:List V->Hp->Prop)(us:List Value)(s':SS):Prop:=∃vs H',Inv X f8 σ H' s'/\Vals vs us/\Q vs H'
def SP(X:Cx)(f8:List (Addr×Obj))(D:Ends)(f:Flow)(s':SS):Prop:=
 match f with
 | .next=>∃σ' H',Inv X f8 σ' H' s'/\D.nx σ' H'
 | .brk=>∃σ' H',Inv X f8 σ' H' s'/\D.bk σ' H'
 | .cont=>∃σ' H',Inv X f8 σ' H' s'/\D.ct σ' H'
 | .ret u=>∃v σ' H',Inv X f8 σ' H' s'/\RelV v u/\D.rt v H'
def PE(X:Cx)(e:Expr)(t:TE):Prop:=
 ∀(f8:List (Addr×Obj)) (s:SS) (σ:St) (H:Hp) (Q:VK),Inv X f8 σ H s->t σ H Q->∀[Tk s],wpAny (model X.prog X.w) X.A (eval e X.env) (EP X f8 σ Q) X.xe s
def PT(X:Cx)(e:Expr)(t:TT):Prop:=
 ∀(f8:List (Addr×Obj)) (s:SS) (σ:St) (H:Hp) (Q:Bool->Hp->Prop),Inv X f8 σ H s->t σ H Q->∀[Tk s],wpAny (model X.prog X.w) X.A (isTrue e X.env (eval e X.env)) (TP X f8 σ Q) X.xe s
def PW(X:Cx)(e:Expr)(t:TT):Prop:=
 ∀(whole:Sem Value) (f8:List (Addr×Obj)) (s:SS) (σ:St) (H:Hp) (Q:Bool->Hp->Prop),Inv X f8 σ H s->t σ H Q->∀[Tk s],wpAny (model X.prog X.w) X.A (isTrue e X.env whole) (TP X f8 σ Q) X.xe s
def PW.pt{X:Cx}{e:Expr}{t:TT}(h:PW X e t):PT X e t:=h _
def PA(X:Cx)(es:List Expr)(t:TA):Prop:=
 ∀(pos:Pos) (f8:List (Addr×Obj)) (s:SS) (σ:St) (H:Hp) (Q:List V->Hp->Prop),Inv X f8 σ H s->t σ H Q->∀[Tk s],wpAny (model X.prog X.w) X.A (spliced (Uv pos (SX es X.env))) (AP X f8 σ Q) X.xe s
def PS(X:Cx)(st:Stmt)(t:TS):Prop:=
 ∀(f8:List (Addr×Obj)) (s:SS) (σ:St) (H:Hp) (D:Ends),Inv X f8 σ H s->t D σ H->∀[Tk s],wpAny (model X.prog X.w) X.A (exec st X.env) (SP X f8 D) X.xe s
def PSs(X:Cx)(st:List Stmt)(t:TS):Prop:=
 ∀(f8:List (Addr×Obj)) (s:SS) (σ:St) (H:Hp) (D:Ends),Inv X f8 σ H s->t D σ H->∀[Tk s],wpAny (model X.prog X.w) X.A (execs st X.env) (SP X f8 D) X.xe s
def bY{α:Type}{t:Sem α}{Q Q':α->SS->Prop}{M:Model}{A:T9}{E:Value->SS->Prop}{s:SS}(h:wpAny M A t Q E s)(hQ:∀a s',Q a s'->∀[Up s s'],Q' a s'):wpAny M A t Q' E s:=Ux (wpAny_toks h) (λa s' x=>@hQ a s' x.2 ⟨x.1⟩) λ_ _ x=>x.2
section
variable{X:Cx}
def bin{a b:Expr}{ta tb:TE}(ha:PE X a ta)(hb:PE X b tb){f8:List (Addr×Obj)}{s:SS}[Tk s]{σ:St}{H:Hp}{R:V->V->Hp->Prop}(I:Inv X f8 σ H s)(h:ta σ H λx H1=>tb σ H1 λy H2=>R x y H2)
 {α:Type}{Q:α->SS->Prop}{f:Value->Value->Sem α}
 (hf:∀v u s2 x y H2,Inv X f8 σ H2 s2->RelV x v->RelV y u->R x y H2->wpAny (model X.prog X.w) X.A (f v u) Q X.xe s2):
 wpAny (model X.prog X.w) X.A (eval a X.env) (λv T0=>wpAny (model X.prog X.w) X.A (eval b X.env) (λu v0=>wpAny (model X.prog X.w) X.A (f v u) Q X.xe v0) X.xe T0) X.xe s:=by
 refine bY (ha f8 s σ H _ I h) λv s1 ⟨x,H1,I1,r1,q1⟩=>?_;refine bY (hb f8 s1 σ H1 _ I1 q1) λu s2 ⟨y,H2,I2,r2,q2⟩=>?_;exact hf v u s2 x y H2 I2 r1 r2 q2
def gY(i:Nat):TE:=λσ H Q=>∃v,σ[i]? =some (some v)/\Q v H
def tC(v:V):TE:=λ_ H Q=>Q v H
def JN{i:Nat}{x:Str}{pos:Pos}(hN:X.N[i]? =some x)(hv:Nn X.env.scope x)(hd:(x==("__debug__":Str))=false:=by decide)(rS:(x==("__classdict__":Str))=false:=by decide):PE X (.Name x pos) (gY i):=by
 intro f8 s σ H Q I h _;obtain⟨v,e,h⟩:=h;obtain⟨m,hn,hl⟩:=I.loc;obtain⟨u,r,l⟩:=hl i x v hN e hv;have fin:EP X f8 σ Q u s:=⟨v,H,I,r,h⟩
 rcases l with⟨hk,hm⟩ | ⟨hk,c,hc,HI⟩
 ·exact wpAny_Name (wpAny_loadName_local I.ok.kind hk hn hm fin) hd
 ·rcases hk with hk | hk
  ·exact wpAny_Name (wpAny_loadName_cell I.ok.kind hk hc HI fin) hd
  ·exact wpAny_Name (wpAny_loadName_free I.ok.kind hk hc HI fin rS) hd
def D6{i j pos}:PE X (.Constant (.int i) j pos) (tC (.int i)):=λ_ _ _ H _ I h=>wpAny_Constant_int ⟨.int i,H,I.tok _,⟨_,rfl⟩,h⟩
def L1{b j pos}:PE X (.Constant (.bool b) j pos) (tC (.bl b)):=λ_ _ _ H _ I h=>Constant_bool ⟨.bl b,H,I,rfl,h⟩
def JG{j pos}:PE X (.Constant .none j pos) (tC .non):=λ_ _ _ H _ I h=>Constant_none ⟨.non,H,I,rfl,h⟩
def JK{x j pos}:PE X (.Constant (.str x) j pos) (tC (.str x)):=λ_ _ _ H _ I h=>YH ⟨.str x,H,I.tok _,⟨_,rfl⟩,h⟩
def Gl(X:Cx)(x:Str):Prop:=X.env.kindOf x=some .globalImplicit
def oH{E:Value->SS->Prop}{f8:List (Addr×Obj)}{s:SS}{σ:St}{H:Hp}{x:Str}{u:Value}{pos:Pos}{Q:Value->SS->Prop}(I:Inv X f8 σ H s)(hg:Gl X x)(hm:X.mg x=some u)(h:Q u s)
 (hd:(x==("__debug__":Str))=false:=by decide):wpAny (model X.prog X.w) X.A (eval (.Name x pos) X.env) Q E s:=
 XM I.ok.kind hg (Calls.loadGlobal_global (by rw[I.ok.glob];exact I.mod.glob.keeps I.bk) hm h) hd
def pH{E:Value->SS->Prop}{f8:List (Addr×Obj)}{s:SS}{σ:St}{H:Hp}{x:Str}{u:Value}{pos:Pos}{Q:Value->SS->Prop}(I:Inv X f8 σ H s)(hg:Gl X x)(hm:X.mg x=none)(hv:T4 x=some u)(h:Q u s)
 (hn:x≠"__name__":=by decide)(hd:(x==("__debug__":Str))=false:=by decide):wpAny (model X.prog X.w) X.A (eval (.Name x pos) X.env) Q E s:=by
 obtain⟨mb,h1,h2⟩:=I.mod.blt;exact XM I.ok.kind hg (Calls.loadGlobal_builtin (by rw[I.ok.glob];exact I.mod.glob.keeps I.bk) hm (by rw[I.ok.blt];exact h1.keeps I.bk) ((h2 x hn).trans hv) h) hd
def GA{x:Str}{v:V}{u:Value}{pos:Pos}(hg:Gl X x)(hm:X.mg x=some u)(r:RelV v u)(hd:(x==("__debug__":Str))=false:=by decide):PE X (.Name x pos) (tC v):=
 λ_ _ _ H _ I h=>oH I hg hm ⟨v,H,I,r,h⟩ hd
def Gx{x:Str}{v:V}{u:Value}{pos:Pos}(hg:Gl X x)(hm:X.mg x=none)(hv:T4 x=some u)(r:RelV v u)(hn:x≠"__name__":=by decide)(hd:(x==("__debug__":Str))=false:=by decide):PE X (.Name x pos) (tC v):=
 λ_ _ _ H _ I h=>pH I hg hm hv ⟨v,H,I,r,h⟩ hn hd
variable{a b:Expr}{ta tb:TE}{pos:Pos}
def PC(X:Cx)(op:CmpOp)(a b:Expr)(t:TE):Prop:=
 ∀(f8:List (Addr×Obj)) (s:SS) (σ:St) (H:Hp) (Q:VK),Inv X f8 σ H s->t σ H Q->
  ∀[Tk s],wpAny (model X.prog X.w) X.A (eval a X.env) (λv T0=>wpAny (model X.prog X.w) X.A (eval b X.env) (λu v0=>wpAny (model X.prog X.w) X.A (Uc op v u) (EP X f8 σ Q) X.xe v0) X.xe T0) X.xe s
def Dw(b:Expr){op:CmpOp}(h:op≠ .In)(h2:op≠ .NotIn):T7 op b=false:=by
 have e1:(op==CmpOp.In)=false:=by cases op<;>first | rfl | exact Y9 rfl h
 have e2:(op==CmpOp.NotIn)=false:=by cases op<;>first | rfl | exact Y9 rfl h2
 cases b<;>simp[T7,e1,e2]
def JE{op:CmpOp}{t:TE}(h:PC X op a b t)(h1:T7 op b=false:=by first | exact Dw _ (by decide) (by decide) | rfl):PE X (.Compare a [op] [b] pos) t:=λf8 s σ H Q I hw=>wpAny_Compare1 (h f8 s σ H Q I hw) h1
variable{tA eA:TT}{W1:List Expr}
def R8(t u:TT):TT:=λσ H Q=>t σ H λc H1=>if c=true then Q true H1 else u σ H1 Q
def OQ(t:TT):TT:=λσ H Q=>t σ H λc H1=>Q (!c) H1
def JW(ha:PT X a tA):PW X (.BoolOp .Or [a] pos) tA:=by
 intro wh f8 s σ H Q I h;refine isTrue_or (bY (ha f8 s σ H Q I h) λc s1 e=>?_);cases c with
 |false=>exact isTrue_or_nil e
 |true=>exact e
def L7(ha:PT X a tA)(hb:PW X (.BoolOp .Or (b::W1) pos) eA):PW X (.BoolOp .Or (a::b::W1) pos) (R8 tA eA):=by
 intro wh f8 s σ H Q I h;refine isTrue_or (bY (ha f8 s σ H _ I h) λc s1 ⟨H1,I1,q1⟩=>?_);cases c with
 |true=>exact⟨H1,I1,q1⟩
 |false=>exact hb wh f8 s1 σ H1 Q I1 q1
def JU(ha:PT X a tA):PT X (.UnaryOp .Not a pos) (OQ tA):=by
 intro f8 s σ H Q I h;exact isTrue_not (ha f8 s σ H (λc H1=>Q (!c) H1) I h)
def Mp(ta tb:TE):TE:=λσ H Q=>ta σ H λx H1=>∃c,x= .bl c/\if c=true then tb σ H1 Q else Q (.bl false) H1
def Mt(ta:TE):TE:=λσ H Q=>ta σ H λx H1=>∃c,x= .bl c/\Q (.bl (!c)) H1
def JI{op}{t:TE}(h:PE X a t):PE X (.BoolOp op [a] pos) t:=λf8 s σ H Q I hw=>BoolOp_one (h f8 s σ H Q I hw)
def JD(ha:PE X a ta)(hb:PE X (.BoolOp .And (b::W1) pos) tb):PE X (.BoolOp .And (a::b::W1) pos) (Mp ta tb):=by
 intro f8 s σ H Q I h;refine BoolOp_and (bY (ha f8 s σ H _ I h) λv s1 ⟨x,H1,I1,r1,q1⟩=>?_);obtain⟨c,rfl,q1⟩:=q1;cases r1;refine UJ ?_;cases c with
 |true=>exact hb f8 s1 σ H1 Q I1 q1
 |false=>exact⟨.bl false,H1,I1,rfl,q1⟩
def JH(ha:PE X a ta):PE X (.UnaryOp .Not a pos) (Mt ta):=by
 intro f8 s σ H Q I h;refine UnaryOp_ (bY (ha f8 s σ H _ I h) λv s1 ⟨x,H1,I1,r1,q1⟩=>?_);obtain⟨c,rfl,q1⟩:=q1;cases r1;exact not_of (UJ ⟨.bl (!c),H1,I1,rfl,q1⟩)
def R7(t:TT)(ta tb:TE):TE:=λσ H Q=>t σ H λc H1=>if c=true then ta σ H1 Q else tb σ H1 Q
def D5{c:Expr}(hc:PT X c tA)(ha:PE X a ta)(hb:PE X b tb):PE X (.IfExp c a b pos) (R7 tA ta tb):=by
 intro f8 s σ H Q I h;refine wpAny_IfExp (bY (hc f8 s σ H _ I h) λd s1 ⟨H1,I1,q1⟩=>?_);cases d with
 |true=>exact ha f8 s1 σ H1 Q I1 q1
 |false=>exact hb f8 s1 σ H1 Q I1 q1
end
def SqL(K:SN)(H:Hp)(a:Addr)(xs:List V):Prop:=
 Rd H a (.lst xs)\/
  ∃(o:Obj) (aM:Array Value) (n:Nat),K.lookup a=some o/\o.cls= .type "list"/\o.dict=none/\o.data= .seq aM n/\aM.size<=S9/\Vals xs aM.toList
def SqT(K:SN)(H:Hp)(a:Addr)(xs:List V):Prop:=
 Rd H a (.tup xs)\/
  ∃(o:Obj) (aM:Array Value) (n:Nat),K.lookup a=some o/\o.cls= .type "tuple"/\o.data= .seq aM n/\aM.size<=S9/\Vals xs aM.toList
def Np:Value->Option V
 | .none=>some .non
 | .bool b=>some (.bl b)
 | .int i _=>some (.int i)
 | .str x _=>some (.str x)
 | .bytes b _=>some (.byt b)
 | .float b _=>some (.flt b)
 | .ref a=>some (.ref a)
 | .type n=>some (.ty n)
 |_=>none
def RelV.abs{x:V}{u:Value}(r:RelV x u):Np u=some x:=by
 cases x with
 |non=>cases r;rfl
 |bl _=>cases r;rfl
 |int _=>obtain⟨t,rfl⟩:=r;rfl
 |str _=>obtain⟨t,rfl⟩:=r;rfl
 |byt _=>obtain⟨t,rfl⟩:=r;rfl
 |flt _=>obtain⟨t,rfl⟩:=r;rfl
 |ref _=>cases r;rfl
 |ty _=>cases r;rfl
def RelV.inj{x y:V}{u:Value}(r:RelV x u)(q:RelV y u):x=y:=Tr (r.abs.symm.trans q.abs)
theorem Vals.inj:∀{xs ys:List V}{us:List Value},Vals xs us->Vals ys us->xs=ys
 |_,_,_, .nil, .nil=>rfl
 |_,_,_, .cons r t, .cons r' t'=>by rw[r.inj r',Vals.inj t t']
section
variable{X:Cx}{f8:List (Addr×Obj)}{σ:St}{H:Hp}{s:SS}{a:Addr}{xs ys:List V}
def SqL.of{K:SN}(h:H a=some (.lst xs)):SqL K H a xs:= .inl (.inl h)
def SqT.of{K:SN}(h:H a=some (.tup xs)):SqT K H a xs:= .inl (.inl h)
def Inv.list(I:Inv X f8 σ H s)(h:SqL X.K H a xs):∃aM:List Value,Vals xs aM/\PlainL s.heap a aM.toArray/\xs.length<=S9:=by
 rcases h with h | ⟨o,aM,n,hk,hc,hd,hs,hz,r⟩
 ·obtain⟨z,aM,n,r,e⟩:=h.ok I.hok;exact⟨aM,r,⟨_,n,e,rfl,rfl,rfl⟩,z⟩
 ·refine⟨aM.toList,r,⟨o,n,I.kIn a o hk,hc,hd,by simpa using hs⟩,?_⟩;have e:=r.length;simp only[Td] at e;omega
def Inv.tuple(I:Inv X f8 σ H s)(h:SqT X.K H a xs):∃aM:List Value,Vals xs aM/\IsTup s.heap a aM.toArray/\xs.length<=S9:=by
 rcases h with h | ⟨o,aM,n,hk,hc,hs,hz,r⟩
 ·obtain⟨z,aM,r,p⟩:=h.ok I.hok;exact⟨aM,r,p,z⟩
 ·refine⟨aM.toList,r,⟨o,I.kIn a o hk,hc,n,by simpa using hs⟩,?_⟩;have e:=r.length;simp only[Td] at e;omega
def Inv.list_inj(I:Inv X f8 σ H s)(h:SqL X.K H a xs)(h':SqL X.K H a ys):xs=ys:=by
 obtain⟨aM,r,⟨o,n,e,_,_,d⟩,_⟩:=I.list h;obtain⟨its',r',⟨o',n',e',_,_,d'⟩,_⟩:=I.list h';rw[e] at e';cases e';rw[d] at d';injection d' with d1 _
 have:aM=its':=by simpa using Zd Array.toList d1
 subst this;exact r.inj r'
def Inv.tuple_inj(I:Inv X f8 σ H s)(h:SqT X.K H a xs)(h':SqT X.K H a ys):xs=ys:=by
 obtain⟨aM,r,⟨o,e,_,n,d⟩,_⟩:=I.tuple h;obtain⟨its',r',⟨o',e',_,n',d'⟩,_⟩:=I.tuple h';rw[e] at e';cases e';rw[d] at d';injection d' with d1 _
 have:aM=its':=by simpa using Zd Array.toList d1
 subst this;exact r.inj r'
end
abbrev Cx.wish(X:Cx)(E:Value->SS->Prop):Cx:={X with xe:=E}
abbrev Cx.nox(X:Cx):Cx:=X.wish λ_ _=>False
theorem Cx.Ok.wish{X:Cx}(ok:X.Ok)(E:Value->SS->Prop):(X.wish E).Ok:=
 ⟨ok.mod,ok.kind,ok.glob,ok.blt,ok.above,ok.inj,ok.has,ok.cab,ok.hd,ok.frames,ok.stk,ok.exf,ok.bs,ok.bsz,ok.noex,ok.exfs,ok.funs,ok.frf⟩
def Cx.Ok.unwish{X:Cx}{E:Value->SS->Prop}(ok:(X.wish E).Ok):X.Ok:=
 ⟨ok.mod,ok.kind,ok.glob,ok.blt,ok.above,ok.inj,ok.has,ok.cab,ok.hd,ok.frames,ok.stk,ok.exf,ok.bs,ok.bsz,ok.noex,ok.exfs,ok.funs,ok.frf⟩
section
variable{X:Cx}{f8:List (Addr×Obj)}{σ:St}{H:Hp}{s:SS}{E:Value->SS->Prop}
theorem Inv.wish(I:Inv X f8 σ H s)(E:Value->SS->Prop):Inv (X.wish E) f8 σ H s:=⟨I.ok.wish E,I.os,I.bare,I.base,I.loc,I.cell,I.free,I.freeC,I.pin,I.hok,I.len⟩
theorem Inv.unwish(I:Inv (X.wish E) f8 σ H s):Inv X f8 σ H s:=⟨I.ok.unwish,I.os,I.bare,I.base,I.loc,I.cell,I.free,I.freeC,I.pin,I.hok,I.len⟩
theorem SP.unwish{D:Ends}{f:Flow}{s':SS}(h:SP (X.wish E) f8 D f s'):SP X f8 D f s':=by
 cases f with
 |next=>obtain⟨σ',H',I,q⟩:=h;exact⟨σ',H',I.unwish,q⟩
 |brk=>obtain⟨σ',H',I,q⟩:=h;exact⟨σ',H',I.unwish,q⟩
 |cont=>obtain⟨σ',H',I,q⟩:=h;exact⟨σ',H',I.unwish,q⟩
 |ret u=>obtain⟨v,σ',H',I,r,q⟩:=h;exact⟨v,σ',H',I.unwish,r,q⟩
theorem PE.nox{e:Expr}{t:TE}(h:PE X.nox e t):PE X e t:=λf8 s σ H Q I hw=>
 Ux (h f8 s σ H Q (I.wish _) hw) (λ_ _ ⟨v,H',I',r,q⟩=>⟨v,H',I'.unwish,r,q⟩) λ_ _ z=>UE z
theorem PT.nox{e:Expr}{t:TT}(h:PT X.nox e t):PT X e t:=λf8 s σ H Q I hw=>
 Ux (h f8 s σ H Q (I.wish _) hw) (λ_ _ ⟨H',I',q⟩=>⟨H',I'.unwish,q⟩) λ_ _ z=>UE z
theorem PSs.nox{st:List Stmt}{t:TS}(h:PSs X.nox st t):PSs X st t:=λf8 s σ H D I hw=>
 Ux (h f8 s σ H D (I.wish _) hw) (λ_ _ q=>q.unwish) λ_ _ z=>UE z
end
section
variable{X:Cx}{st:Stmt}{W1:List Stmt}{t u:TS}{e:Expr}{te:TE}{pos:Pos}
def Ms:TS:=λD σ H=>D.nx σ H
def OS(t u:TS):TS:=λD σ H=>t {D with nx:=u D} σ H
def Ae:PSs X [] Ms:=λ_ _ σ H _ I h=>WS ⟨σ,H,I,h⟩
def qq(h1:PS X st t)(h2:PSs X W1 u):PSs X (st::W1) (OS t u):=by
 intro f8 s σ H D I h;refine wpAny_execs_cons (bY (h1 f8 s σ H {D with nx:=u D} I h) λf s1 q=>?_);cases f with
 |next=>
  obtain⟨σ',H',I',q⟩:=q;exact h2 f8 s1 σ' H' D I' q
 |ret v=>exact q
 |brk=>exact q
 |cont=>exact q
def oM(h1:PS X st t):PSs X [st] t:=by
 intro f8 s σ H D I h;refine wpAny_execs_cons (bY (h1 f8 s σ H D I h) λf s1 q=>?_);cases f with
 |next=>exact WS q
 |ret v=>exact q
 |brk=>exact q
 |cont=>exact q
def Inv.quiet{f8:List (Addr×Obj)}{σ:St}{H:Hp}{s:SS}(I:Inv X f8 σ H s):interactive X.env=false:=by simp[interactive,I.ok.kind]
def EO(te:TE):TS:=λD σ H=>te σ H λ_ H1=>D.nx σ H1
def lM(he:PE X e te)(hs:Vv e none pos.line X.env=pure false:=by rfl):PS X (.Expr e pos) (EO te):=by
 intro f8 s σ H D I h;exact wpAny_Expr_any (bY (he f8 s σ H _ I h) λv s1 ⟨x,H1,I1,r1,q1⟩=>⟨σ,H1,I1,q1⟩) I.quiet hs
def OR(te:TE):TS:=λD σ H=>te σ H D.rt
def yN(he:PE X e te):PS X (.Return (some e) pos) (OR te):=by
 intro f8 s σ H D I h;exact wpAny_Return_some (bY (he f8 s σ H _ I h) λv s1 ⟨x,H1,I1,r1,q1⟩=>⟨x,σ,H1,I1,r1,q1⟩)
def OO(c:TT)(t u:TS):TS:=λD σ H=>c σ H λb H1=>if b=true then t D σ H1 else u D σ H1
def H_{c:Expr}{a b:List Stmt}{tc:TT}(hc:PT X c tc)(ha:PSs X a t)(hb:PSs X b u):PS X (.If c a b pos) (OO tc t u):=by
 intro f8 s σ H D I h;refine wpAny_If (bY (hc f8 s σ H _ I h) λd s1 ⟨H1,I1,q1⟩=>?_);cases d with
 |true=>exact ha f8 s1 σ H1 D I1 q1
 |false=>exact hb f8 s1 σ H1 D I1 q1
end
abbrev TG:=V->St->Hp->(St->Hp->Prop)->Prop
abbrev Hs:=List V->St->Hp->(St->Hp->Prop)->Prop
def PG(X:Cx)(target:Expr)(t:TG):Prop:=
 ∀(f8:List (Addr×Obj)) (s:SS) (σ:St) (H:Hp) (v:V) (u:Value) (Q:St->Hp->Prop),Inv X f8 σ H s->RelV v u->t v σ H Q->
  ∀[Tk s],wpAny (model X.prog X.w) X.A (assign target X.env u) (λ_ s'=>∃σ' H',Inv X f8 σ' H' s'/\Q σ' H') X.xe s
def MD(X:Cx)(ts:List Expr)(t:Hs):Prop:=
 ∀(f8:List (Addr×Obj)) (s:SS) (σ:St) (H:Hp) (vs:List V) (us:List Value) (Q:St->Hp->Prop),Inv X f8 σ H s->Vals vs us->t vs σ H Q->
  ∀[Tk s],wpAny (model X.prog X.w) X.A (assignInOrder ((Wq ts X.env).map (·.2)) us) (λ_ s'=>∃σ' H',Inv X f8 σ' H' s'/\Q σ' H') X.xe s
abbrev Nj:=V->V->V->Hp->(Hp->Prop)->Prop
section
variable{X:Cx}{pos:Pos}
def zL(i:Nat):TG:=λv σ H Q=>Q (σ.set i (some v)) H
def bH{i:Nat}{x:Str}(hN:X.N.Nodup)(hi:X.N[i]? =some x)(hx:Loc X.env.scope x)(hf:X.fn x=true\/X.env.scope.names.lookup x=some .local:=by first | exact .inl rfl | exact .inr rfl | assumption):PG X (.Name x pos) (zL i):=by
 intro f8 s σ H v u Q I r h;exact XO (w_ I hN hi hx r (λs' I'=>⟨_,H,I',h⟩) hf)
def K0:Hs:=λvs σ H Q=>vs=[]/\Q σ H
def HE(t:TG)(u:Hs):Hs:=λvs σ H Q=>∃v r,vs=v::r/\t v σ H λσ' H'=>u r σ' H' Q
def GD:MD X [] K0:=by
 intro f8 s σ H vs us Q I r h;obtain⟨e,h⟩:=h;subst e;cases r;exact assignInOrder_nil ⟨σ,H,I,h⟩
def wB{e:Expr}{es:List Expr}{t:TG}{u:Hs}(h1:PG X e t)(h2:MD X es u)
 (hs:(Wq (e::es) X.env).map (·.2)=assign e X.env::(Wq es X.env).map (·.2):=by rfl):MD X (e::es) (HE t u):=by
 intro f8 s σ H vs us Q I r h;obtain⟨v,vr,e1,h⟩:=h;subst e1;cases r with
 |cons r rr=>
  rw[hs];refine assignInOrder_cons (bY (h1 f8 s σ H _ _ _ I r h) λ_ s1 ⟨σ1,H1,I1,q1⟩=>?_);exact h2 f8 s1 σ1 H1 _ _ Q I1 rr q1
def K2(K:SN)(n:Nat)(t:Hs):TG:=λv σ H Q=>∃a xs,v= .ref a/\SqT K H a xs/\xs.length=n/\t xs σ H Q
def JO{es:List Expr}{k:Nat}{t:Hs}{n:Nat}(hc:X.calm=true)(h:MD X es t)
 (hn:(Wq es X.env).length=n:=by rfl)(lY:(Wq es X.env).findIdx? (·.1)=none:=by rfl):PG X (.Tuple es k pos) (K2 X.K n t):=by
 intro f8 s σ H v u Q I r hw _;obtain⟨a,xs,e1,hq,hl,hw⟩:=hw;subst e1;cases r;obtain⟨aM,rv,ht,hz⟩:=I.tuple hq;refine assign_Tuple_tuple (I.ok.hd hc) ht (by simp[hn,<-hl,rv.length]) lY λh' hx=>?_;have I1:Inv X f8 σ H {s with heap:=h'}:=I.kept (t':=s.toks) λb o e=>hx b o (Tv (S8 e)) e;exact h f8 _ σ H xs _ Q I1 (by simpa using rv) hw
def fV(to ti:TE)(t:Nj):TG:=λv σ H Q=>to σ H λo H1=>ti σ H1 λi H2=>t o i v H2 λH3=>Q σ H3
def OH(te:TE)(g:TG):TS:=λD σ H=>te σ H λx H1=>g x σ H1 D.nx
def mC{tg e:Expr}{te:TE}{g:TG}(he:PE X e te)(hg:PG X tg g)(hs:Wy [tg] e pos.line X.env=pure false:=by rfl)(hw:swappedStores [tg] e X.env=pure none:=by rfl)
 (h1:(Wq [tg] X.env).map (·.2)=[assign tg X.env]:=by rfl):PS X (.Assign [tg] e pos) (OH te g):=by
 intro f8 s σ H D I h;refine wpAny_Assign_stores (bY (he f8 s σ H _ I h) λv s1 ⟨x,H1,I1,r1,q1⟩=>?_) hs hw;rw[h1];exact bY (hg f8 s1 σ H1 x v _ I1 r1 q1) λ_ s2 q=>q
end
section
variable{X:Cx}{pos:Pos}
def Ka(c:TT)(tb:TS):TS:=λD σ H=>∃W:Nat->St->Hp->Prop,(∃m,W m σ H)/\∀m σ H,W m σ H->
 c σ H λb H1=>if b=true then∃N:St->Hp->Prop,(∀σ' H',N σ' H'->∃m',m'<m/\W m' σ' H')/\tb {D with nx:=N,ct:=N,bk:=D.nx} σ H1 else D.nx σ H1
def Eb{c:Expr}{body:List Stmt}{tc:TT}{tb:TS}(hp:Yi (model X.prog X.w) X.A X.env X.xe)(hc:PT X c tc)(hb:PSs X body tb):PS X (.While c body [] pos) (Ka tc tb):=by
 intro f8 s σ H D I h _;obtain⟨W,⟨m0,w0⟩,turn⟩:=h;refine wpAny_While (codeAny_whileLoop (λn s'=>Tk s'/\∃σ' H',Inv X f8 σ' H' s'/\W n σ' H') ?_ m0 ⟨inferInstance,σ,H,I,w0⟩);rintro n s1 ⟨Qi,σ1,H1,I1,w1⟩;refine Vc hp (bY (hc f8 s1 σ1 H1 _ I1 (turn n σ1 H1 w1)) λb s2 ⟨H2,I2,q2⟩=>?_);cases b with
 |true=>
  obtain⟨N,hN,q2⟩:=q2;rw[Y6 rfl];refine Vc hp (bY (hb f8 s2 σ1 H2 _ I2 q2) λf s3 q3=>?_);cases f with
  |next=>
   obtain⟨σ3,H3,I3,n3⟩:=q3;obtain⟨m',hm,w3⟩:=hN σ3 H3 n3;exact⟨m',hm,inferInstance,σ3,H3,I3,w3⟩
  |cont=>
   obtain⟨σ3,H3,I3,n3⟩:=q3;obtain⟨m',hm,w3⟩:=hN σ3 H3 n3;exact⟨m',hm,inferInstance,σ3,H3,I3,w3⟩
  |brk=>exact q3
  |ret v=>exact q3
 |false=>
  rw[Y7 Te];exact WS ⟨σ1,H2,I2,q2⟩
end
structure It where
 go:Nat->Hp->Prop
 yld:Nat->Hp->V->Hp->Prop
 stop:Nat->Hp->Prop
def u_(X:Cx)(f8:List (Addr×Obj))(H:Hp)(b:Addr):Prop:=
 H b=none/\b≠X.env.locals/\b∉X.fs/\(b∈X.ex\/X.Zy.heap.objs.size<=b)/\(∀x c,X.env.cells.lookup x=some c->c≠b)/\∀p∈X.pn++f8,p.1≠b
def Inv.fpOk{X:Cx}{f8:List (Addr×Obj)}{σ:St}{H H':Hp}{s:SS}{b:Addr}(I:Inv X f8 σ H s)(hb:s.heap.objs.size<=b)(hn:H' b=none):u_ X f8 H' b:=by
 refine⟨hn,WD (Tq I.lt hb),I.nofs hb, .inr (Tn I.sz hb),λx c e z=>?_,λp hp z=>?_⟩
 ·obtain⟨v,q⟩:=I.cell x c e;exact Y9 (Tq q.lt (by rw[z];exact hb)) (Us _)
 ·exact Y9 (Tq (S8 (I.pin p hp).1) (by rw[z];exact hb)) (Us _)
structure Turn (P:To) (w:World) (K:SN) (tg:Expr) (J:It) (fp:List Addr) (it:Addr) (tn:Nat->Heap->Prop):Prop where
 mem:it∈fp
 obj:∀i h,tn i h->∀b∈fp,∃o,h.get? b=some o/\∀v,o.data≠ .cell v
 keep:∀i h h',tn i h->(∀b∈fp,∀o,h.get? b=some o->h'.get? b=some o)->tn i h'
 item:∀(X:Cx),X.prog=P->X.w=w->X.K=K->X.calm=true->∀(i:Nat) (f8:List (Addr×Obj)) (s:SS) (σ:St) (H:Hp) (E:Value->SS->Prop),Inv X f8 σ H s->(∀b∈fp,u_ X f8 H b)->tn i s.heap->J.go i H->
  wpAny (model P w) X.A (Yy (.ref it)) (λr s1=>∃u,r=some u/\
   wpAny (model P w) X.A (WU tg (.ref it) u) (λ_ s2=>∃x H',Inv X f8 σ H' s2/\RelV x u/\J.yld i H x H'/\tn (i+1) s2.heap/\∀b∈fp,H' b=none) E s1) E s
 done:∀(X:Cx),X.prog=P->X.w=w->X.K=K->X.calm=true->∀(i:Nat) (f8:List (Addr×Obj)) (s:SS) (σ:St) (H:Hp) (E:Value->SS->Prop),Inv X f8 σ H s->(∀b∈fp,u_ X f8 H b)->tn i s.heap->J.stop i H->
  wpAny (model P w) X.A (Yy (.ref it)) (λr s1=>r=none/\Inv X f8 σ H s1) E s
 self:∀(A:T9) (i:Nat) (s:SS) (Q:Value->SS->Prop) (E:Value->SS->Prop),tn i s.heap->Q (.ref it) s->wpAny (model P w) A (pyIter (.ref it)) Q E s
abbrev TI:=St->Hp->(It->Hp->Prop)->Prop
def O_(X:Cx)(f8:List (Addr×Obj))(σ:St)(tg:Expr)(R:It->Hp->Prop)(P7:Value)(s2:SS):Prop:=
 ∃(it:Addr) (fp:List Addr) (tn:Nat->Heap->Prop) (J:It) (H':Hp),P7= .ref it/\Inv X f8 σ H' s2/\Turn X.prog X.w X.K tg J fp it tn/\tn 0 s2.heap/\(∀b∈fp,u_ X f8 H' b)/\R J H'
def PI(X:Cx)(tg iter:Expr)(wi:TI):Prop:=
 ∀(f8:List (Addr×Obj)) (s:SS) (σ:St) (H:Hp) (R:It->Hp->Prop),Inv X f8 σ H s->wi σ H R->
  ∀[Tk s],wpAny (model X.prog X.w) X.A (eval iter X.env) (λv s1=>wpAny (model X.prog X.w) X.A (pyIter v) (O_ X f8 σ tg R) X.xe s1) X.xe s
def rR{M:Model}{A:T9}{E:Value->SS->Prop}{s:SS}{tg:Expr}{it:Addr}{u:Value}{o:Obj}{n:String}{vs:Array Value}{Q:Unit->SS->Prop}(ho:s.heap.get? it=some o)(hc:o.cls= .type n)(hd:o.data= .fields vs)
 (hn:["enumerate","zip","dict_itemiterator","dict_reverseitemiterator","odict_iterator","itertools.zip_longest","itertools.pairwise"].contains n=false)(hQ:Q () s):wpAny M A (WU tg (.ref it) u) Q E s:=by
 unfold WU;cases tg<;>first
  |exact SQ hQ
  |(cases u<;>first
    |exact SQ hQ
    |(refine SH (wpAny_load ho ?_)
      rw[hc,hd];show wpAny M A (if (["enumerate","zip","dict_itemiterator","dict_reverseitemiterator","odict_iterator","itertools.zip_longest","itertools.pairwise"].contains n&&vs[0]? ==some (X0 _))=true then _ else _) Q E s;rw[Y7 (by intro h;rw[hn,Bool.false_and] at h;cases h)];exact SQ hQ))
def Nc(K:SN)(a:Addr):It:=
 ⟨λi H=>∃xs x,SqL K H a xs/\xs[i]? =some x,λi H x H'=>H'=H/\∀xs,SqL K H a xs->xs[i]? =some x,λi H=>∃xs,SqL K H a xs/\xs.length<=i⟩
def Nd(K:SN)(a:Addr):It:=
 ⟨λi H=>∃xs x,SqT K H a xs/\xs[i]? =some x,λi H x H'=>H'=H/\∀xs,SqT K H a xs->xs[i]? =some x,λi H=>∃xs,SqT K H a xs/\xs.length<=i⟩
def Kv(lo:Int)(n:Nat):It:=⟨λi _=>i<n,λi H x H'=>H'=H/\x= .int (lo+i),λi _=>n<=i⟩
def BY{P:To}{w:World}{K:SN}{tg:Expr}(a it:Addr):Turn P w K tg (Nc K a) [it] it (λi h=>h.IsListIter it a i) where
 mem:=by simp
 obj:=λi h st b hb=>by
  have e:b=it:=by simpa using hb
  subst e;obtain⟨o,e,c,d⟩:=st;exact⟨o,e,λv z=>by rw[d] at z;cases z⟩
 keep:=λi h h' st k=>st.at λo e=>k it (by simp) o e
 item:=by
  intro X hP hw hK hc i f8 s σ H E I hf st hg;subst hP hw hK;obtain⟨xs,x,hq,hx⟩:=hg;obtain⟨aM,rv,p,hz⟩:=I.list hq;obtain⟨u,hu,ru⟩:=rv.get hx;obtain⟨f0,f1,f2,f3,f4,f5⟩:=hf it (by simp);refine wpAny_pyNext_list_item st p.isList (x:=u) (by simpa using hu) λh' qE sb=>?_;have I1:Inv X f8 σ H {s with heap:=h'}:=I.turned (t':=s.toks) (λb o hb e=>(sb.2 b hb).trans e) f0 f1 f3 f4 f5;obtain⟨o,e,c,d⟩:=id qE;exact⟨u,rfl,rR (s:={s with heap:=h'}) e c d (by decide) ⟨x,H,I1,ru,⟨rfl,λys hy=>by rw[I.list_inj hy hq];exact hx⟩,qE,λb hb=>(hf b hb).1⟩⟩
 done:=by
  intro X hP hw hK hc i f8 s σ H E I hf st hg;subst hP hw hK;obtain⟨xs,hq,hx⟩:=hg;obtain⟨aM,rv,p,hz⟩:=I.list hq;obtain⟨f0,f1,f2,f3,f4,f5⟩:=hf it (by simp);have hl:=rv.length;exact wpAny_pyNext_list_end (I.ok.hd hc) st p.isList (by simp;omega) λh' eb=>⟨rfl,I.turned (t':=s.toks) (λb o hb e=>eb b o hb e) f0 f1 f3 f4 f5⟩
 self:=λ_ _ _ _ _ st h=>wpAny_pyIter_listiter st h
def y7{P:To}{w:World}{K:SN}{tg:Expr}(a it:Addr):Turn P w K tg (Nd K a) [it] it (λi h=>h.IsTupleIter it a i) where
 mem:=by simp
 obj:=λi h st b hb=>by
  have e:b=it:=by simpa using hb
  subst e;obtain⟨o,e,c,d⟩:=st;exact⟨o,e,λv z=>by rw[d] at z;cases z⟩
 keep:=λi h h' st k=>st.at λo e=>k it (by simp) o e
 item:=by
  intro X hP hw hK hc i f8 s σ H E I hf st hg;subst hP hw hK;obtain⟨xs,x,hq,hx⟩:=hg;obtain⟨aM,rv,p,hz⟩:=I.tuple hq;obtain⟨u,hu,ru⟩:=rv.get hx;obtain⟨f0,f1,f2,f3,f4,f5⟩:=hf it (by simp);refine wpAny_pyNext_tuple_item st (show s.heap.IsTuple a aM.toArray from p) (x:=u) (by simpa using hu) λh' qE sb=>?_;have I1:Inv X f8 σ H {s with heap:=h'}:=I.turned (t':=s.toks) (λb o hb e=>(sb.2 b hb).trans e) f0 f1 f3 f4 f5;obtain⟨o,e,c,d⟩:=id qE;exact⟨u,rfl,rR (s:={s with heap:=h'}) e c d (by decide) ⟨x,H,I1,ru,⟨rfl,λys hy=>by rw[I.tuple_inj hy hq];exact hx⟩,qE,λb hb=>(hf b hb).1⟩⟩
 done:=by
  intro X hP hw hK hc i f8 s σ H E I hf st hg;subst hP hw hK;obtain⟨xs,hq,hx⟩:=hg;obtain⟨aM,rv,p,hz⟩:=I.tuple hq;obtain⟨f0,f1,f2,f3,f4,f5⟩:=hf it (by simp);have hl:=rv.length;exact wpAny_pyNext_tuple_end (I.ok.hd hc) st (show s.heap.IsTuple a aM.toArray from p) (by simp;omega) λh' eb=>⟨rfl,I.turned (t':=s.toks) (λb o hb e=>eb b o hb e) f0 f1 f3 f4 f5⟩
 self:=λ_ _ _ _ _ st h=>wpAny_pyIter_tupleiter st h
def y6{P:To}{w:World}{K:SN}{tg:Expr}(it:Addr)(lo:Int)(n:Nat):Turn P w K tg (Kv lo n) [it] it (λi h=>IsRangeIter h it (lo+(i:Nat)*1) ((n:Int) - (i:Nat)) 1) where
 mem:=by simp
 obj:=λi h st b hb=>by
  have e:b=it:=by simpa using hb
  subst e;exact⟨_,st,λv z=>by
   have z':Ur _=Data.cell v:=z;cases z'⟩
 keep:=λi h h' st k=>k it (by simp) _ st
 item:=by
  intro X hP hw hK hc i f8 s σ H E I hf st hg;subst hP hw hK;obtain⟨f0,f1,f2,f3,f4,f5⟩:=hf it (by simp);have W:=Walks.range (prog:=X.prog) (w:=X.w) (I.ok.hd hc) it lo 1 n;refine W.item i s _ _ hg st λv h' tk hv qE kk=>?_;obtain⟨t,rfl⟩:=hv;have I1:Inv X f8 σ H {s with heap:=h',toks:=tk}:=I.turned (λb o hb e=>kk b o (by simpa using hb) e) f0 f1 f3 f4 f5;refine⟨_,rfl,rR (s:={s with heap:=h',toks:=tk}) (n:="range_iterator") qE rfl rfl (by decide) ⟨.int (lo+i),H,I1,⟨t,?_⟩,⟨rfl,rfl⟩,qE,λb hb=>(hf b hb).1⟩⟩;rw[Int.mul_one]
 done:=by
  intro X hP hw hK hc i f8 s σ H E I hf st hg;subst hP hw hK;obtain⟨f0,f1,f2,f3,f4,f5⟩:=hf it (by simp);exact wpAny_pyNext_range_end (I.ok.hd hc) st (by have:n<=i:=hg;omega) λh' eb=>⟨rfl,I.turned (t':=s.toks) (λb o hb e=>eb b o hb e) f0 f1 f3 f4 f5⟩
 self:=λ_ _ _ _ _ st h=>wpAny_pyIter_rangeiter st h
section
variable{X:Cx}{tg:Expr}
def Lz(K:SN)(tl:TE):TI:=λσ H R=>tl σ H λx H1=>∃a,x= .ref a/\(∃xs,SqL K H1 a xs)/\R (Nc K a) H1
def Oe(K:SN)(tl:TE):TI:=λσ H R=>tl σ H λx H1=>∃a,x= .ref a/\(∃xs,SqT K H1 a xs)/\R (Nd K a) H1
def GF{l:Expr}{tl:TE}(hl:PE X l tl):PI X tg l (Lz X.K tl):=by
 intro f8 s σ H R I h;refine bY (hl f8 s σ H _ I h) λv s1 ⟨x,H1,I1,r1,q1⟩=>?_;obtain⟨a,e,⟨xs,hq⟩,q⟩:=q1;subst e;cases r1;obtain⟨aM,rv,p,hz⟩:=I1.list hq;refine wpAny_pyIter_list p.isList ?_;refine⟨s1.heap.objs.size,[s1.heap.objs.size],_,_,H1,rfl,I1.kept (t':=s1.toks) λb o e=>SR _ e,BY a _,⟨_,Ta _ rfl,rfl,rfl⟩,λb hb=>?_,q⟩;have e:b=s1.heap.objs.size:=by simpa using hb
 subst e;exact I1.fpOk (SW _) (I1.hok.fresh (SW _))
def JQ{l:Expr}{tl:TE}(hl:PE X l tl):PI X tg l (Oe X.K tl):=by
 intro f8 s σ H R I h;refine bY (hl f8 s σ H _ I h) λv s1 ⟨x,H1,I1,r1,q1⟩=>?_;obtain⟨a,e,⟨xs,hq⟩,q⟩:=q1;subst e;cases r1;obtain⟨aM,rv,p,hz⟩:=I1.tuple hq;refine wpAny_pyIter_tuple (show s1.heap.IsTuple a aM.toArray from p) ?_;refine⟨s1.heap.objs.size,[s1.heap.objs.size],_,_,H1,rfl,I1.kept (t':=s1.toks) λb o e=>SR _ e,y7 a _,⟨_,Ta _ rfl,rfl,rfl⟩,λb hb=>?_,q⟩;have e:b=s1.heap.objs.size:=by simpa using hb
 subst e;exact I1.fpOk (SW _) (I1.hok.fresh (SW _))
def wJ{f8:List (Addr×Obj)}{σ:St}{H:Hp}{s:SS}{R:It->Hp->Prop}{E:Value->SS->Prop}{lo hi:Int}{t u v:Tok}{tk:Nat}(I:Inv X f8 σ H s)(h1: -(2 ^ 62)<=lo)(h2:lo<2 ^ 62)(h3: -(2 ^ 62)<=hi)(h4:hi<2 ^ 62)
 (q:R (Kv lo (hi - lo).toNat) H):wpAny (model X.prog X.w) X.A (pyIter (.ref s.heap.objs.size)) (O_ X f8 σ tg R) E {s with heap:=s.heap.push {cls:= .type "range",data:= .fields #[.int lo t, .int hi u, .int 1 v]},toks:=tk}:=by
 refine wpAny_pyIter_range (IsRange.new ..) (small_one h1 h2 h3 h4) ?_;have I1:Inv X f8 σ H {s with heap:=s.heap.push {cls:= .type "range",data:= .fields #[.int lo t, .int hi u, .int 1 v]},toks:=tk}:=I.kept λb o e=>SR _ e;refine⟨(s.heap.push {cls:= .type "range",data:= .fields #[.int lo t, .int hi u, .int 1 v]}).objs.size,[(s.heap.push {cls:= .type "range",data:= .fields #[.int lo t, .int hi u, .int 1 v]}).objs.size],_,_,H,rfl,
  I1.kept (t':=tk) λb o e=>SR _ e,y6 _ lo (hi - lo).toNat,?_,λb hb=>?_,q⟩
 ·have e1:lo+((0:Nat):Int)*1=lo:=by simp
  have e2:(((hi - lo).toNat:Nat):Int) - ((0:Nat):Int)=Builtin.Range.rangeSize lo hi 1:=by rw[rangeSize_one];split<;>omega
  show IsRangeIter _ _ (lo+((0:Nat):Int)*1) ((((hi - lo).toNat:Nat):Int) - ((0:Nat):Int)) 1;rw[e1,e2];exact Ta _ rfl
 ·have e:b=(s.heap.push {cls:= .type "range",data:= .fields #[.int lo t, .int hi u, .int 1 v]}).objs.size:=by simpa using hb
  subst e;exact I1.fpOk (SW _) (I1.hok.fresh (SW _))
def LA(ta:TA):TI:=λσ H R=>ta σ H λvs H1=>∃j:Int,vs=[.int j]/\ -(2 ^ 62)<=j/\j<2 ^ 62/\R (Kv 0 j.toNat) H1
def LB(ta:TA):TI:=λσ H R=>ta σ H λvs H1=>∃i j:Int,vs=[.int i, .int j]/\(-(2 ^ 62)<=i/\i<2 ^ 62/\ -(2 ^ 62)<=j/\j<2 ^ 62)/\R (Kv i (j - i).toNat) H1
def BI{a:Expr}{ta:TA}{p pos:Pos}(hg:Gl X "range")(hm:X.mg "range"=none)(ha:PA X [a] ta)(hs:SX [a] X.env=[(false,eval a X.env)]:=by rfl):PI X tg (.Call (.Name "range" p) [a] [] pos) (LA ta):=by
 intro f8 s σ H R I h;refine Call_ (pH I hg hm boot_range (Vs (bY (ha pos f8 s σ H _ I h) λus s1 ⟨vs,H1,I1,r1,q1⟩=>?_) hs rfl));obtain⟨j,e,q1,q2,q⟩:=q1;subst e;cases r1 with
 |cons r rr=>
  cases rr;obtain⟨t,rfl⟩:=r;exact call_range_1 (wJ I1 (by omega) (by omega) q1 q2 (by simpa using q))
def BJ{a b:Expr}{ta:TA}{p pos:Pos}(hg:Gl X "range")(hm:X.mg "range"=none)(ha:PA X [a,b] ta)(hs:SX [a,b] X.env=[(false,eval a X.env),(false,eval b X.env)]:=by rfl)(I9:SX [b] X.env=[(false,eval b X.env)]:=by rfl):
 PI X tg (.Call (.Name "range" p) [a,b] [] pos) (LB ta):=by
 intro f8 s σ H R I h;refine Call_ (pH I hg hm boot_range (Vs (bY (ha pos f8 s σ H _ I h) λus s1 ⟨vs,H1,I1,r1,q1⟩=>?_) (by rw[hs,I9]) (by rw[I9];rfl)));obtain⟨i,j,e,⟨q1,q2,q3,q4⟩,q⟩:=q1;subst e;cases r1 with
 |cons r rr=>
  cases rr with
  |cons r' rr=>
   cases rr;obtain⟨t,rfl⟩:=r;obtain⟨t',rfl⟩:=r';exact call_range_2 (wJ I1 q1 q2 q3 q4 q)
def ON(wi:TI)(g:TG)(tb:TS):TS:=λD σ H=>wi σ H λJ H1=>∃W:Nat->Nat->St->Hp->Prop,(∃m,W 0 m σ H1)/\∀i m σ H,W i m σ H->
 (J.stop i H/\D.nx σ H)\/(J.go i H/\∃N:St->Hp->Prop,(∀σ' H',N σ' H'->∃m',m'<m/\W (i+1) m' σ' H')/\∀x H',J.yld i H x H'->g x σ H' λσ2 H2=>tb {D with nx:=N,ct:=N,bk:=D.nx} σ2 H2)
def qo(fp:List Addr)(h:Heap):List (Addr×Obj):=fp.filterMap λb=>(h.get? b).map λo=>(b,o)
def ij{fp:List Addr}{h:Heap}{b:Addr}{o:Obj}(hb:b∈fp)(e:h.get? b=some o):(b,o)∈qo fp h:=YU.mpr ⟨b,hb,by rw[e];rfl⟩
def Bw{fp:List Addr}{h:Heap}{p:Addr×Obj}(hp:p∈qo fp h):p.1∈fp/\h.get? p.1=some p.2:=by
 obtain⟨b,hb,e⟩:=YU.mp hp;cases q:h.get? b with
 |none=>rw[q] at e;cases e
 |some o=>
  rw[q] at e;have e':(b,o)=p:=Tr e;subst e';exact⟨hb,q⟩
def Inv.pinned{f8:List (Addr×Obj)}{σ:St}{H:Hp}{s:SS}{fp:List Addr}(I:Inv X f8 σ H s)(hf:∀b∈fp,u_ X f8 H b)(ho:∀b∈fp,∃o,s.heap.get? b=some o/\∀v,o.data≠ .cell v):Inv X (f8++qo fp s.heap) σ H s:=
 I.pins_of λp hp=>(TH.mp hp).elim (λz=>I.pin p (Tj _ z)) λz=>by
  obtain⟨hb,e⟩:=Bw z;obtain⟨f0,f1,f2,_⟩:=hf p.1 hb;obtain⟨o,e',d⟩:=ho p.1 hb;rw[e] at e';cases e';exact⟨e,f0,f1,f2,d⟩
def Inv.unpinned{f8 pl:List (Addr×Obj)}{σ:St}{H:Hp}{s:SS}(I:Inv X (f8++pl) σ H s):Inv X f8 σ H s:=I.pins_of λp hp=>I.pin p (Tj _ (UR _ hp))
def Ea{iter:Expr}{body:List Stmt}{wi:TI}{g:TG}{tb:TS}{pos:Pos}(hp:Yi (model X.prog X.w) X.A X.env X.xe)(hc:X.calm=true)(hi:PI X tg iter wi)(hg:PG X tg g)(hb:PSs X body tb)
 (hs:∀x,VG iter X.env x=pure x:=by intro _;rfl):PS X (.For tg iter body [] pos) (ON wi g tb):=by
 intro f8 s σ H D I h;refine wpAny_For (bY (hi f8 s σ H _ I h) λv s1 h1=>bY h1 λP7 s2 h2=>?_) hs;obtain⟨it,fp,tn,J,H2,e,I2,T,Mo,f2,W,⟨m0,w0⟩,turn⟩:=h2;subst e;have J9:∀{H':Hp},(∀b∈fp,H' b=none)->∀b∈fp,u_ X f8 H' b:=λhn b hb=>⟨hn b hb,(f2 b hb).2⟩
 intro u2;refine codeAny_forLoop_any (λn s'=>Tk s'/\∃i σ' H',Inv X f8 σ' H' s'/\tn i s'.heap/\(∀b∈fp,H' b=none)/\W i n σ' H') ?_ m0 ⟨inferInstance,0,σ,H2,I2,Mo,λb hb=>(f2 b hb).1,w0⟩;rintro n s3 ⟨Sx,i,σ3,H3,I3,Kq,MK,w3⟩;rcases turn i n σ3 H3 w3 with⟨stop,qn⟩ | ⟨go,N,hN,step⟩
 ·refine Vc hp (bY (T.done X rfl rfl rfl hc i f8 s3 σ3 H3 X.xe I3 (J9 MK) Kq stop) λr s4 ⟨hr,I4⟩=>?_);subst hr;exact WS ⟨σ3,H3,I4,qn⟩
 ·refine Vc hp (bY (T.item X rfl rfl rfl hc i f8 s3 σ3 H3 X.xe I3 (J9 MK) Kq go) λr s4 ⟨u,hr,h4⟩=>?_);subst hr;refine Vc hp (bY h4 λ_ s5 ⟨x,H5,I5,r5,y5,OG,Qy⟩=>?_);have I5':=I5.pinned (J9 Qy) (T.obj _ _ OG);refine Vc hp (bY (hg _ s5 σ3 H5 x u _ I5' r5 (step x H5 y5)) λ_ s6 ⟨σ6,H6,I6,q6⟩=>?_);refine Vc hp (bY (hb _ s6 σ6 H6 _ I6 q6) λf s7 q7=>?_);intro u7;have again:∀{σ7:St}{H7:Hp},Inv X (f8++qo fp s5.heap) σ7 H7 s7->N σ7 H7->∃m,m<n/\Tk s7/\∃i σ' H',Inv X f8 σ' H' s7/\tn i s7.heap/\(∀b∈fp,H' b=none)/\W i m σ' H':=λ{σ7 H7} I7 n7=>by
   obtain⟨m',hm,w7⟩:=hN σ7 H7 n7;refine⟨m',hm,inferInstance,i+1,σ7,H7,I7.unpinned,T.keep _ _ _ OG λb hb o e=>(I7.pin (b,o) (Tj _ (Tj _ (ij hb e)))).1,λb hb=>?_,w7⟩;obtain⟨o,e,d⟩:=T.obj _ _ OG b hb;exact(I7.pin (b,o) (Tj _ (Tj _ (ij hb e)))).2.1
  cases f with
  |next=>obtain⟨σ7,H7,I7,n7⟩:=q7;exact again I7 n7
  |cont=>obtain⟨σ7,H7,I7,n7⟩:=q7;exact again I7 n7
  |brk=>obtain⟨σ7,H7,I7,q7⟩:=q7;exact⟨σ7,H7,I7.unpinned,q7⟩
  |ret v=>obtain⟨x7,σ7,H7,I7,r7,q7⟩:=q7;exact⟨x7,σ7,H7,I7.unpinned,r7,q7⟩
end
abbrev R2:=V->V->Hp->VK->Prop
def OpR(X:Cx)(f:Value->Value->Sem Value)(r:R2):Prop:=
 ∀(f8:List (Addr×Obj)) (s:SS) (σ:St) (H:Hp) (x y:V) (v u:Value) (Q:VK),Inv X f8 σ H s->RelV x v->RelV y u->r x y H Q->
  wpAny (model X.prog X.w) X.A (f v u) (EP X f8 σ Q) X.xe s
def Nm(X:Cx)(f:Value->Sem Value)(r:V->Hp->VK->Prop):Prop:=
 ∀(f8:List (Addr×Obj)) (s:SS) (σ:St) (H:Hp) (x:V) (v:Value) (Q:VK),Inv X f8 σ H s->RelV x v->r x H Q->
  wpAny (model X.prog X.w) X.A (f v) (EP X f8 σ Q) X.xe s
def CallR(X:Cx)(f:Value)(r:List V->Hp->VK->Prop):Prop:=
 ∀(f8:List (Addr×Obj)) (s:SS) (σ:St) (H:Hp) (xs:List V) (us:List Value) (Q:VK),Inv X f8 σ H s->Vals xs us->r xs H Q->
  wpAny (model X.prog X.w) X.A (call f us) (EP X f8 σ Q) X.xe s
def Nk(X:Cx)(r:V->Hp->(Bool->Hp->Prop)->Prop):Prop:=
 ∀(f8:List (Addr×Obj)) (s:SS) (σ:St) (H:Hp) (x:V) (v:Value) (Q:Bool->Hp->Prop),Inv X f8 σ H s->RelV x v->r x H Q->
  wpAny (model X.prog X.w) X.A (truthy v) (TP X f8 σ Q) X.xe s
def Mu(r:R2)(ta tb:TE):TE:=λσ H Q=>ta σ H λx H1=>tb σ H1 λy H2=>r x y H2 Q
def Sa(r:V->Hp->VK->Prop)(ta:TE):TE:=λσ H Q=>ta σ H λx H1=>r x H1 Q
def rI(C:Int->Int->Prop)(g:Int->Int->V):R2:=λx y H Q=>∃i j,x= .int i/\y= .int j/\C i j/\Q (g i j) H
def An(g:Int->Int->V):R2:=λx y H Q=>∃i j,x= .int i/\y= .int j/\Q (g i j) H
def rU(g:Int->V):V->Hp->VK->Prop:=λx H Q=>∃i,x= .int i/\Q (g i) H
section
variable{X:Cx}{a b:Expr}{ta tb:TE}{pos:Pos}
def Ip(ha:PE X a ta)(hb:PE X b tb){f8:List (Addr×Obj)}{s:SS}[Tk s]{σ:St}{H:Hp}{R:V->V->Hp->Prop}(I:Inv X f8 σ H s)
 (h:ta σ H λx H1=>tb σ H1 λy H2=>R x y H2){Q:Value->SS->Prop}{f:Value->Value->Sem Value}
 (hf:∀v u s2 x y H2,Inv X f8 σ H2 s2->RelV x v->RelV y u->R x y H2->wpAny (model X.prog X.w) X.A (f v u) Q X.xe s2):
 wpAny (model X.prog X.w) X.A (eval a X.env) (λv T0=>wpAny (model X.prog X.w) X.A (eval b X.env) (λu v0=>wpAny (model X.prog X.w) X.A (f v u) Q X.xe v0) X.xe T0) X.xe s:=by
 refine bY (ha f8 s σ H _ I h) λv s1 ⟨x,H1,I1,r1,q1⟩=>?_;refine bY (hb f8 s1 σ H1 _ I1 q1) λu s2 ⟨y,H2,I2,r2,q2⟩=>?_;exact hf v u s2 x y H2 I2 r1 r2 q2
def L4{op:Operator}{r:R2}(ho:OpR X (VU op) r)(ha:PE X a ta)(hb:PE X b tb):PE X (.BinOp a op b pos) (Mu r ta tb):=by
 intro f8 s σ H Q I h;exact wpAny_BinOp (Ip ha hb I h λv u s2 x y H2 I2 rx ry q=>ho f8 s2 σ H2 x y v u Q I2 rx ry q)
def L5{op:UnaryOp}{r:V->Hp->VK->Prop}(ho:Nm X (unaryOp op) r)(ha:PE X a ta):PE X (.UnaryOp op a pos) (Sa r ta):=by
 intro f8 s σ H Q I h;exact UnaryOp_ (bY (ha f8 s σ H _ I h) λv s1 ⟨x,H1,I1,r1,q1⟩=>ho f8 s1 σ H1 x v Q I1 r1 q1)
def Ot{f:Value->Value->Sem Value}{C:Int->Int->Prop}{g:Int->Int->Int}
 (rule:∀(i j:Int) (t u:Tok) (s:SS) (Q:Value->SS->Prop) (E:Value->SS->Prop),C i j->Q (.int (g i j) s.toks) {s with toks:=s.toks+1}->wpAny (model X.prog X.w) X.A (f (.int i t) (.int j u)) Q E s):
 OpR X f (rI C λi j=> .int (g i j)):=by
 intro f8 s σ H x y v u Q I rx ry h;obtain⟨i,j,rfl,rfl,hc,q⟩:=h;obtain⟨t,rfl⟩:=rx;obtain⟨t',rfl⟩:=ry;exact rule i j t t' s _ _ hc ⟨.int (g i j),H,I.tok _,⟨_,rfl⟩,q⟩
def LS{f:Value->Value->Sem Value}{g:Int->Int->Int}
 (rule:∀(i j:Int) (t u:Tok) (s:SS) (Q:Value->SS->Prop) (E:Value->SS->Prop),Q (.int (g i j) s.toks) {s with toks:=s.toks+1}->wpAny (model X.prog X.w) X.A (f (.int i t) (.int j u)) Q E s):
 OpR X f (An λi j=> .int (g i j)):=by
 intro f8 s σ H x y v u Q I rx ry h;obtain⟨i,j,rfl,rfl,q⟩:=h;obtain⟨t,rfl⟩:=rx;obtain⟨t',rfl⟩:=ry;exact rule i j t t' s _ _ ⟨.int (g i j),H,I.tok _,⟨_,rfl⟩,q⟩
def Jr{f:Value->Value->Sem Value}{g:Int->Int->Bool}
 (rule:∀(i j:Int) (t u:Tok) (s:SS) (Q:Value->SS->Prop) (E:Value->SS->Prop),Q (.bool (g i j)) s->wpAny (model X.prog X.w) X.A (f (.int i t) (.int j u)) Q E s):
 OpR X f (An λi j=> .bl (g i j)):=by
 intro f8 s σ H x y v u Q I rx ry h;obtain⟨i,j,rfl,rfl,q⟩:=h;obtain⟨t,rfl⟩:=rx;obtain⟨t',rfl⟩:=ry;exact rule i j t t' s _ _ ⟨.bl (g i j),H,I,rfl,q⟩
def Kt(i j:Int):Prop:=0<j/\j<1073741824
def CMul(i j:Int):Prop:=(-(2 ^ 64)<i/\i<2 ^ 64)\/(-(2 ^ 64)<j/\j<2 ^ 64)
def CMul.ok{i j:Int}(h:CMul i j):IntMulOk i j:=by
 rcases h with⟨h1,h2⟩ | ⟨h1,h2⟩
 ·exact .of_left (intBits_le_64 h1 h2)
 ·exact .of_right (intBits_le_64 h1 h2)
def Js:OpR X (VU .Add) (An λi j=> .int (i+j)):=LS λ_ _ _ _ _ _ _ q=>add_int q
def Jx:OpR X (VU .Sub) (An λi j=> .int (i - j)):=LS λ_ _ _ _ _ _ _ q=>sub_int q
def Jw:OpR X (VU .Mult) (rI CMul λi j=> .int (i*j)):=Ot λ_ _ _ _ _ _ _ hc q=>mul_int q hc.ok
def Gg:OpR X (VU .FloorDiv) (rI Kt λi j=> .int (i / j)):=Ot λi j _ _ _ _ _ hc q=>by
 have h1:(0:Int)<j:=hc.1;have h2:j<1073741824:=hc.2;exact floordiv_int (by omega) (by rw[Int.fdiv_eq_ediv_of_nonneg i (by omega)];exact q) (.inl (PyProof.noPylong_small (by omega)))
def Jv:OpR X (VU .Mod) (rI (λ_ j=>0<j) λi j=> .int (i % j)):=Ot λi j _ _ _ _ _ hc q=>by
 have h1:(0:Int)<j:=hc;exact mod_int' (by omega) (by rw[Int.fmod_eq_emod_of_nonneg i (by omega)];exact q)
def Se{f:Value->Sem Value}{g:Int->Int}
 (rule:∀(i:Int) (t:Tok) (s:SS) (Q:Value->SS->Prop) (E:Value->SS->Prop),Q (.int (g i) s.toks) {s with toks:=s.toks+1}->wpAny (model X.prog X.w) X.A (f (.int i t)) Q E s):
 Nm X f (rU λi=> .int (g i)):=by
 intro f8 s σ H x v Q I rx h;obtain⟨i,rfl,q⟩:=h;obtain⟨t,rfl⟩:=rx;exact rule i t s _ _ ⟨.int (g i),H,I.tok _,⟨_,rfl⟩,q⟩
def Kc:Nm X (unaryOp .USub) (rU λi=> .int (-i)):=Se λ_ _ _ _ _ q=>neg_int q
end
section
variable{X:Cx}{a b c:Expr}{ta tb tc:TE}{pos:Pos}
def IC{f8:List (Addr×Obj)}{σ:St}{H:Hp}{s:SS}{Q:VK}{k k':Bool}(I:Inv X f8 σ H s)(q:Q (.bl k) H)(e:k=k'):EP X f8 σ Q (.bool k') s:=by
 subst e;exact⟨.bl k,H,I,rfl,q⟩
def H0:OpR X (Uc .Lt) (An λi j=> .bl (decide (i<j))):=Jr λ_ _ _ _ _ _ _ q=>lt_int q
def sy:OpR X (Uc .LtE) (An λi j=> .bl (decide (i<=j))):=Jr λ_ _ _ _ _ _ _ q=>le_int q
def HZ:OpR X (Uc .Gt) (An λi j=> .bl (decide (j<i))):=Jr λ_ _ _ _ _ _ _ q=>gt_int q
def sx:OpR X (Uc .In) (λx y H Q=>∃i j,x= .str i/\y= .str j/\Q (.bl (!(T6 j i 0 j.length 1).isEmpty)) H):=by
 intro f8 s σ H x y v u Q I rx ry h;obtain⟨i,j,rfl,rfl,q⟩:=h;obtain⟨t,rfl⟩:=rx;obtain⟨t',rfl⟩:=ry;exact in_str (IC I q rfl)
def OpR.or{f:Value->Value->Sem Value}{r r':R2}(h:OpR X f r)(h':OpR X f r'):OpR X f (λx y H Q=>r x y H Q\/r' x y H Q):=by
 intro f8 s σ H x y v u Q I rx ry q;rcases q with q | q
 ·exact h f8 s σ H x y v u Q I rx ry q
 ·exact h' f8 s σ H x y v u Q I rx ry q
def yt(b:Expr){op:CmpOp}(h:op≠ .In:=by decide)(h2:op≠ .NotIn:=by decide):T7 op b=false:=by
 have e1:(op==CmpOp.In)=false:=by cases op<;>first | rfl | exact Y9 rfl h
 have e2:(op==CmpOp.NotIn)=false:=by cases op<;>first | rfl | exact Y9 rfl h2
 cases b<;>simp[T7,e1,e2]
def Gz{op:CmpOp}{r:R2}(ho:OpR X (Uc op) r)(ha:PE X a ta)(hb:PE X b tb)(hm:T7 op b=false):PE X (.Compare a [op] [b] pos) (Mu r ta tb):=by
 intro f8 s σ H Q I h;exact wpAny_Compare1 (Ip ha hb I h λv u s2 x y H2 I2 rx ry q=>ho f8 s2 σ H2 x y v u Q I2 rx ry q) hm
def Ic(t:TE):TT:=λσ H Q=>t σ H λx H'=>∃k,x= .bl k/\Q k H'
def Af{op:CmpOp}{r:R2}(ho:OpR X (Uc op) r)(ha:PE X a ta)(hb:PE X b tb)(hm:T7 op b=false):PT X (.Compare a [op] [b] pos) (Ic (Mu r ta tb)):=by
 intro f8 s σ H Q I h;refine wpAny_isTrue_Compare1 (bY (ha f8 s σ H _ I h) λv s1 ⟨x,H1,I1,r1,q1⟩=>bY (hb f8 s1 σ H1 _ I1 q1) λu s2 ⟨y,H2,I2,r2,q2⟩=>
  bY (ho f8 s2 σ H2 x y v u _ I2 r1 r2 q2) λc s3 ⟨z,H3,I3,r3,k,e,q3⟩=>?_) hm
 subst e;cases r3;exact UJ ⟨H3,I3,q3⟩
def yZ(r r':R2)(ta tb tc:TE):TE:=λσ H Q=>ta σ H λx H1=>tb σ H1 λy H2=>r x y H2 λz H3=>∃k,z= .bl k/\
 (if k=true then tc σ H3 λw' H4=>r' y w' H4 Q else Q (.bl false) H3)
def D3{op Bz:CmpOp}{r r':R2}(ho:OpR X (Uc op) r)(rT:OpR X (Uc Bz) r')(ha:PE X a ta)(hb:PE X b tb)(hc:PE X c tc)
 (hm:lastMarks [op,Bz] [b,c]=false:=by with_unfolding_all rfl):PE X (.Compare a [op,Bz] [b,c] pos) (yZ r r' ta tb tc):=by
 intro f8 s σ H Q I h;refine Compare_chain (bY (ha f8 s σ H _ I h) λv s1 ⟨x,H1,I1,r1,q1⟩=>chain_link (bY (hb f8 s1 σ H1 _ I1 q1) λu s2 ⟨y,H2,I2,r2,q2⟩=>
  bY (ho f8 s2 σ H2 x y v u _ I2 r1 r2 q2) λd s3 ⟨z,H3,I3,r3,k,e,q3⟩=>?_)) hm
 subst e;cases r3;refine UJ ?_;cases k with
 |false=>exact ite_ff ⟨.bl false,H3,I3,rfl,q3⟩
 |true=>exact ite_tt (chain_last (bY (hc f8 s3 σ H3 _ I3 q3) λw' s4 ⟨z',H4,I4,r4,q4⟩=>rT f8 s4 σ H4 y z' u w' Q I4 r2 r4 q4))
def Ee{op Bz:CmpOp}{r r':R2}(ho:OpR X (Uc op) r)(rT:OpR X (Uc Bz) r')(ha:PE X a ta)(hb:PE X b tb)(hc:PE X c tc)
 (hm:lastMarks [op,Bz] [b,c]=false:=by with_unfolding_all rfl):PT X (.Compare a [op,Bz] [b,c] pos) (Ic (yZ r r' ta tb tc)):=by
 intro f8 s σ H Q I h;refine isTrue_chain (bY (ha f8 s σ H _ I h) λv s1 ⟨x,H1,I1,r1,q1⟩=>test_link (bY (hb f8 s1 σ H1 _ I1 q1) λu s2 ⟨y,H2,I2,r2,q2⟩=>
  bY (ho f8 s2 σ H2 x y v u _ I2 r1 r2 q2) λd s3 ⟨z,H3,I3,r3,k,e,q3⟩=>?_)) hm
 subst e;cases r3;refine UJ ?_;cases k with
 |false=>
  obtain⟨k',e',q'⟩:=q3;cases e';exact ite_ff ⟨H3,I3,q'⟩
 |true=>
  refine ite_tt (test_last (bY (hc f8 s3 σ H3 _ I3 q3) λw' s4 ⟨z',H4,I4,r4,q4⟩=>bY (rT f8 s4 σ H4 y z' u w' _ I4 r2 r4 q4) λd' s5 ⟨z2,H5,I5,r5,k2,e2,q5⟩=>?_));subst e2;cases r5;exact UJ ⟨H5,I5,q5⟩
def KA(K:SN)(x:V)(H:Hp)(k:Bool):Prop:=
 match x with
 | .non=>k=false
 | .bl b=>k=b
 | .int i=>k=(i !=0)
 | .str y=>y.length<=S9/\k=((y.length:Int) !=0)
 | .byt y=>y.size<=S9/\k=((y.size:Int) !=0)
 | .ref p=>(∃xs,SqL K H p xs/\k=!xs.isEmpty)\/(∃xs,SqT K H p xs/\k=!xs.isEmpty)\/∃az,H p=some (.dK az)/\k=!az.isEmpty
 |_=>False
def ye{κ:Type}{az:List (κ×V)}{vs:List (κ×Value)}(r:KV az vs):(!vs.isEmpty)=!az.isEmpty:=by
 cases r<;>rfl
def pA{xs:List V}{aM:List Value}(r:Vals xs aM):(!aM.toArray.isEmpty)=!xs.isEmpty:=by
 cases r<;>simp
def mi:(S9:Nat)<2 ^ 63:=by rw[VF];decide
def Kb:Nk X (λx H Q=>∃k,KA X.K x H k/\Q k H):=by
 intro f8 s σ H x v Q I rx h;obtain⟨k,e,q⟩:=h;have hl:=mi;have hs:S9=16777216:=VF;cases x with
 |non=>
  cases rx;have e':k=false:=e;subst e';exact truthy_none ⟨H,I,q⟩
 |bl b=>
  cases rx;have e':k=b:=e;subst e';exact UJ ⟨H,I,q⟩
 |int i=>
  obtain⟨t,rfl⟩:=rx;have e':k=(i !=0):=e;subst e';exact PySem.P.truthy_int ⟨H,I,q⟩
 |str y=>
  obtain⟨t,rfl⟩:=rx;obtain⟨hy,e'⟩:y.length<=S9/\k=((y.length:Int) !=0):=e;subst e';exact PySem.P.truthy_str (by omega) ⟨H,I.tok _,q⟩
 |byt y=>
  obtain⟨t,rfl⟩:=rx;obtain⟨hy,e'⟩:y.size<=S9/\k=((y.size:Int) !=0):=e;subst e';exact PySem.W.truthy_bytes (by omega) ⟨H,I.tok _,q⟩
 |ref p=>
  cases rx;have e':(∃xs,SqL X.K H p xs/\k=!xs.isEmpty)\/(∃xs,SqT X.K H p xs/\k=!xs.isEmpty)\/∃az,H p=some (.dK az)/\k=!az.isEmpty:=e;rcases e' with⟨xs,hx,e'⟩ | ⟨xs,hx,e'⟩ | ⟨az,hx,e'⟩
  ·subst e';obtain⟨aM,r,pl,hz⟩:=I.list hx;have M2:=r.length;exact wpAny_truthy_list pl.isList (by simp only[SV];omega) ⟨H,I.tok _,by rw[pA r];exact q⟩
  ·subst e';obtain⟨aM,r,pl,hz⟩:=I.tuple hx;have M2:=r.length;exact truthy_tuple pl (by simp only[SV];omega) ⟨H,I.tok _,by rw[pA r];exact q⟩
  ·subst e';obtain⟨hz,hS,vs,r,m⟩:az.length<=S9/\(p==UC)=false/\∃vs,KV az vs/\s.heap.DictOf (bF X.prog X.w) p vs:=I.hok p _ hx;have M2:az.length=vs.length:=UU r;exact wpAny_truthy_dict hS m (by omega) ⟨H,I.tok _,by rw[ye r];exact q⟩
 |_=>exact(show False from e).elim
def Eg(ha:PE X a ta)(he:∀whole,isTrue a X.env whole=(do let v<-whole;XQ a.pos;holding [v] (truthy v))):
 PT X a (λσ H Q=>ta σ H λx H'=>∃k,KA X.K x H' k/\Q k H'):=by
 intro f8 s σ H Q I h;exact isTrue_plain (bY (ha f8 s σ H _ I h) λv s1 ⟨x,H1,I1,r1,q1⟩=>Kb f8 s1 σ H1 x v Q I1 r1 q1) (he _)
def vals1{x:V}{us:List Value}(r:Vals [x] us):∃u,us=[u]/\RelV x u:=by
 cases r with
 |cons r1 r2=>cases r2;exact⟨_,rfl,r1⟩
def vals2{x y:V}{us:List Value}(r:Vals [x,y] us):∃u w',us=[u,w']/\RelV x u/\RelV y w':=by
 cases r with
 |cons r1 r2=>
  cases r2 with
  |cons r3 r4=>cases r4;exact⟨_,_,rfl,r1,r3⟩
def Ci:CallR X (.builtin "abs") (λxs H Q=>∃i,xs=[.int i]/\Q (.int (if i<0 then -i else i)) H):=by
 intro f8 s σ H xs us Q I r h;obtain⟨i,rfl,q⟩:=h;obtain⟨u,rfl,t,rfl⟩:=vals1 r;exact call_abs_int λu tk=>⟨.int (if i<0 then -i else i),H,I.tok _,⟨_,rfl⟩,q⟩
def AR(hc:X.calm=true):CallR X (.builtin "max") (λxs H Q=>∃i j,xs=[.int i, .int j]/\Q (.int (if j>i then j else i)) H):=by
 intro f8 s σ H xs us Q I r h;obtain⟨i,j,rfl,q⟩:=h;obtain⟨u,w',rfl,⟨t,rfl⟩,⟨t',rfl⟩⟩:=vals2 r;refine max_two_ints (I.ok.hd hc) λh' tk k=>⟨_,H,I.kept k,?_,q⟩
 by_cases hj:j>i
 ·rw[Y6 hj,Y6 hj];exact⟨_,rfl⟩
 ·rw[Y7 hj,Y7 hj];exact⟨_,rfl⟩
def AS(hc:X.calm=true):CallR X (.builtin "min") (λxs H Q=>∃i j,xs=[.int i, .int j]/\Q (.int (if j<i then j else i)) H):=by
 intro f8 s σ H xs us Q I r h;obtain⟨i,j,rfl,q⟩:=h;obtain⟨u,w',rfl,⟨t,rfl⟩,⟨t',rfl⟩⟩:=vals2 r;refine min_two_ints (I.ok.hd hc) λh' tk k=>⟨_,H,I.kept k,?_,q⟩
 by_cases hj:j<i
 ·rw[Y6 hj,Y6 hj];exact⟨_,rfl⟩
 ·rw[Y7 hj,Y7 hj];exact⟨_,rfl⟩
def rD:CallR X (.type "int") (λxs H Q=>(∃i,xs=[.int i]/\Q (.int i) H)\/∃k,xs=[.bl k]/\Q (.int (if k then 1 else 0)) H):=by
 intro f8 s σ H xs us Q I r h;rcases h with⟨i,rfl,q⟩ | ⟨k,rfl,q⟩
 ·obtain⟨u,rfl,t,rfl⟩:=vals1 r;exact call_int_int ⟨.int i,H,I,⟨_,rfl⟩,q⟩
 ·obtain⟨u,rfl,r1⟩:=vals1 r;cases r1;exact call_int_bool ⟨.int (if k then 1 else 0),H,I.tok _,⟨_,rfl⟩,q⟩
end
structure ObjM (h:Heap) (x dx C:Addr) (mA:Str->Option Value):Prop where
 obj:h.get? x=some (UN C dx)
 ns:h.Ns1 dx mA
 ne:dx≠x
def Bj{h:Heap}{dx:Addr}{mA:Str->Option Value}(n:h.Ns1 dx mA):∃od,h.get? dx=some od/\∀name,Wu name od=some (mA name):=by
 obtain⟨o,es,ep,ho,hd,hk,_,hm⟩:=n;refine⟨o,ho,λname=>?_⟩;have e:=hm name;unfold nsFind findBy at e;rw[<-Array.find?_toList] at e;unfold Wu;rw[hd]
 dsimp only
 split
 ·rename_i y q;rw[q] at e;exact Zd some e
 ·rename_i q;rw[q] at e;have a:es.toList.any (·.refKey)=false:=by
   rw[List.any_eq_false];intro y hy;obtain⟨z,t,FJ⟩:=hk y (Array.mem_toList_iff.mp hy);simp[DictEntry.refKey,FJ]
  have a':¬es.toList.any (·.refKey)=true:=by rw[a];exact Te
  rw[Y7 a'];exact Zd some e
def ObjM.look{h:Heap}{x dx C:Addr}{mA:Str->Option Value}(I:ObjM h x dx C mA):∃od,PySem.W.InstAt h x (UN C dx) C (some od)/\∀name,Wu name od=some (mA name):=
 let ⟨od,ho,hl⟩:=Bj I.ns
 ⟨od,⟨I.obj,rfl,rfl,ho⟩,hl⟩
section
variable{prog:To}{w:World}{A:T9}{E:Value->SS->Prop}{s:SS}{K:SN}{x dx C f:Addr}{mA:Str->Option Value}{name:Str}{v:Value}
def get_map{expr:Bool}{Q:Value->SS->Prop}(X:K.In s.heap)(I:ObjM s.heap x dx C mA)(hg:V_ K C name=true)(hh:WX K C=true)
 (ha:TK K (.ref C) name=some none)(hv:mA name=some v)(FP:YB v=true)(h:Q v {s with toks:=s.toks+1}):
 wpAny (model prog w) A (getAttr (.ref x) name expr) Q E s:=by
 obtain⟨od,J,hl⟩:=I.look;exact PySem.W.get_value X J (WB hg).1 (PySem.W.findObj_own hh ha rfl (by rw[hl,hv])) FP h
def CQ{pl:Sem Bool}{Q:Value×List Value->SS->Prop}(X:K.In s.heap)(I:ObjM s.heap x dx C mA)(hg:V_ K C name=true)
 (hf:TK K (.ref C) name=some (some (.ref f)))(ht:Vp K (.ref f)=true)(hv:mA name=none)(h:Q (.ref f,[.ref x]) s):
 wpAny (model prog w) A (Wo (.ref x) name pl) Q E s:=by
 obtain⟨od,J,hl⟩:=I.look;exact PySem.W.method_fn X J (WB hg).1 (WB hg).2 hf (beq_iff_eq.mp ht) (by show (Wu name od).map (·.isSome)=some false;rw[hl,hv];rfl) h
def G4{ns:List Str}{Q:Unit->SS->Prop}(X:K.In s.heap)(I:ObjM s.heap x dx C mA)
 (hs:TK K (.ref C) "__setattr__"=some (some (.builtin "object.__setattr__")))(hp:Yq K C=true)(ht:Xh K C name=some none)(hh:WX K C=true)
 (hw:Yh mA ns)(hsz:ns.length<=S9)
 (h:∀h',ObjM h' x dx C (λy=>if y=name then some v else mA y)->U8 dx s.heap h'->Q () {s with heap:=h',toks:=s.toks+2}):
 wpAny (model prog w) A (setAttr (.ref x) name v) Q E s:=by
 obtain⟨od,J,hl⟩:=I.look;refine PySem.W.set_plain X J hs (PySem.W.osa_open (s:={s with toks:=s.toks+1}) (r:=none) X J hp ht λb=>?_);obtain⟨cd,hc,u6⟩:=PySem.W.any_some hh;have hx:s.heap.get? x=some ⟨.ref C,some dx, .plain,#[]⟩:=I.obj;refine SH (SQ (SH (SH (wpAny_loadPart hx (SH (PySem.W.Looks.here (s:={s with toks:=s.toks+1}) (PySem.W.looks_clsIn X hc) ?_))))));rw[u6];refine SQ (a:=some dx) (SH (SQ (SH ?_)));refine wpAny_nsSet1 (s:={s with toks:=s.toks+1}) I.ns λh' Lm I9=>?_;obtain⟨oD,Sm,Sk,Ru,QY,QX⟩:=Lm.count (PySem.Within.cons name v hw);refine SH (wpAny_lookBehind Ru (by rw[QY];exact pastItsLine_dict (Tn QX (by rw[SO];omega))) ?_);exact SQ (h _ ⟨(I9.2 _ (UW I.ne)).trans I.obj,Lm,I.ne⟩ I9)
def Di{R:Result->SS->Prop}{vs:List Value}{kw:List (Str×Value)}(X:K.In s.heap)(hm:Wi K C=true)
 (hi:TK K (.ref C) "__init__"=some (some (.ref f)))(hf:PySem.W.typeIn K (.ref f)=some (.type "function"))
 (h:Xf (model prog w) (A.under (.builtin "type.__call__" ⟨.ref C::vs,kw⟩)) (.call (.ref f) ⟨.ref (s.heap.objs.size+1)::vs,kw⟩) (PySem.W.InitBack (s.heap.objs.size+1) R)
  {s with heap:=(s.heap.push Uw).push (UN C s.heap.objs.size)}):
 Xf (model prog w) A (.call (.ref C) ⟨vs,kw⟩) R s:=by
 obtain⟨hh,g,d,t,os⟩:=s;exact PySem.W.make_core (PySem.W.makes_of X hm) (PySem.W.looks_findIn X hi) (λself=>PySem.W.bind_fn X self hf) (.inl rfl) h
end
def dY(f:Str)(v:V):List (Str×V)->List (Str×V)
 |[]=>[(f,v)]
 |(g,x)::r=>if g=f then(g,v)::r else(g,x)::dY f v r
theorem mX(f g:Str)(v:V):∀fs:List (Str×V),(dY f v fs).lookup g=if g=f then some v else fs.lookup g
 |[]=>by
  show VP g [(f,v)]=_;by_cases h:g=f
  ·have hb:(g==f)=true:=beq_iff_eq.mpr h;simp only[VP,hb,Y6 h]
  ·have hb:(g==f)=false:=Zc.mpr h;simp only[VP,hb,Y7 h]
 |(k,x)::r=>by
  have ih:=mX f g v r;rw[show dY f v ((k,x)::r)=(if k=f then(k,v)::r else(k,x)::dY f v r) from rfl];by_cases hk:k=f
  ·rw[Y6 hk];by_cases h:g=k
   ·have hb:(g==k)=true:=beq_iff_eq.mpr h;simp only[VP,hb,Y6 (h.trans hk)]
   ·have hb:(g==k)=false:=Zc.mpr h;simp only[VP,hb,Y7 (λe:g=f=>h (e.trans hk.symm))]
  ·rw[Y7 hk];by_cases h:g=k
   ·have hb:(g==k)=true:=beq_iff_eq.mpr h;simp only[VP,hb,Y7 (λe:g=f=>hk (h.symm.trans e))]
   ·have hb:(g==k)=false:=Zc.mpr h;simp only[VP,hb];exact ih
theorem mh(f:Str)(v:V):∀fs:List (Str×V),f∈(dY f v fs).map (·.1)/\∀g,g∈fs.map (·.1)->g∈(dY f v fs).map (·.1)
 |[]=>⟨by simp[dY],λg h=>by simp at h⟩
 |(k,x)::r=>by
  obtain⟨i1,i2⟩:=mh f v r;rw[show dY f v ((k,x)::r)=(if k=f then(k,v)::r else(k,x)::dY f v r) from rfl];by_cases hk:k=f
  ·rw[Y6 hk];subst hk;exact⟨by simp,λg h=>by simpa using h⟩
  ·rw[Y7 hk];refine⟨?_,λg h=>?_⟩
   ·rw[SU];exact SJ _ i1
   ·rw[SU] at h⊢;rcases S6.mp h with e | e
    ·exact S6.mpr (.inl e)
    ·exact SJ _ (i2 g e)
theorem mW(f:Str)(v:V):∀fs:List (Str×V),(dY f v fs).length<=fs.length+1
 |[]=>by simp[dY]
 |(k,x)::r=>by
  have ih:=mW f v r;rw[show dY f v ((k,x)::r)=(if k=f then(k,v)::r else(k,x)::dY f v r) from rfl];by_cases hk:k=f
  ·rw[Y6 hk,SO,SO];omega
  ·rw[Y7 hk,SO,SO];omega
def RelO.some_of{v:V}{o:Option Value}(r:RelO (some v) o):∃u,o=some u/\RelV v u:=by
 cases o with
 |none=>exact(show False from r).elim
 |some u=>exact⟨u,rfl,r⟩
def RelO.none_of{o:Option Value}(r:RelO none o):o=none:=by
 cases o with
 |none=>rfl
 |some u=>exact(show False from r).elim
def A5{v:V}{u:Value}(r:RelV v u):YB u=true:=by
 cases v with
 |non=>cases (show u=Uy from r);rfl
 |bl b=>cases (show u=VI b from r);rfl
 |int i=>obtain⟨t,e⟩:=(show∃t,u=Wr i t from r);cases e;rfl
 |str x=>obtain⟨t,e⟩:=(show∃t,u=Xu x t from r);cases e;rfl
 |byt b=>obtain⟨t,e⟩:=(show∃t,u=Value.bytes b t from r);cases e;rfl
 |flt b=>obtain⟨t,e⟩:=(show∃t,u=Yo b t from r);cases e;rfl
 |ref a=>cases (show u=Ts a from r);rfl
 |ty n=>cases (show u=X2 n from r);rfl
section
variable{P:To}{w:World}{H:Hp}{h:Heap}{a C dx:Addr}{fs:List (Str×V)}
def oF(hok:HOk P w H h)(e:H a=some (.ins C dx fs)):∃mA,ObjM h a dx C mA/\(∀f,RelO (fs.lookup f) (mA f))/\Yh mA (fs.map (·.1))/\fs.length<=1000/\H dx=some (.own a):=by
 obtain⟨d,z,ne,ob,mA,n,r,q⟩:=(show ObjOk P w H h a (.ins C dx fs) from hok a _ e)
 exact⟨mA,⟨ob,n,ne⟩,r,q,z,d⟩
end
structure Cls (K:SN) (C:Addr):Prop where
 pg:V_ K C Str.empty=true
 hd:WX K C=true
 po:Yq K C=true
 sa:TK K (.ref C) "__setattr__"=some (some (.builtin "object.__setattr__"))
def Cls.get{K:SN}{C:Addr}(c:Cls K C)(f:Str):V_ K C f=true:=c.pg
def NoAttr(K:SN)(C:Addr)(f:Str):Prop:=TK K (.ref C) f=some none
def NoAttr.taker{K:SN}{C:Addr}{f:Str}(n:NoAttr K C f):Xh K C f=some none:=by
 unfold Xh;rw[show TK K (.ref C) f=some none from n];rfl
structure Meth (K:SN) (C:Addr) (m:Str) (f:Addr):Prop where
 at_:TK K (.ref C) m=some (some (.ref f))
 fn:Vp K (.ref f)=true
 kp:TJ K (.ref f)=true
section
variable{X:Cx}{f8:List (Addr×Obj)}{σ:St}{H:Hp}{s:SS}{a C dx:Addr}{fs:List (Str×V)}{f:Str}{v:V}{A:T9}{E:Value->SS->Prop}
def pk{b:Bool}{Q:Value->SS->Prop}(I:Inv X f8 σ H s)(e:H a=some (.ins C dx fs))(c:Cls X.K C)(n:NoAttr X.K C f)(l:fs.lookup f=some v)
 (h:∀u s',Inv X f8 σ H s'->RelV v u->Q u s'):wpAny (model X.prog X.w) A (getAttr (.ref a) f b) Q E s:=by
 obtain⟨mA,O,r,_,_,_⟩:=oF I.hok e;obtain⟨u,hu,ru⟩:=RelO.some_of (v:=v) (o:=mA f) (by rw[<-l];exact r f);exact get_map I.kIn O (c.get f) c.hd n hu (A5 ru) (h u _ (I.tok _) ru)
def kF{m:Str}{g:Addr}{pl:Sem Bool}{Q:Value×List Value->SS->Prop}(I:Inv X f8 σ H s)(e:H a=some (.ins C dx fs))(c:Cls X.K C)(k:Meth X.K C m g)(l:fs.lookup m=none)
 (h:Q (.ref g,[.ref a]) s):wpAny (model X.prog X.w) A (Wo (.ref a) m pl) Q E s:=by
 obtain⟨mA,O,r,_,_,_⟩:=oF I.hok e;have hn:mA m=none:=RelO.none_of (by rw[<-l];exact r m);exact CQ I.kIn O (c.get m) k.at_ k.fn hn h
def qA{y:V}{u:Value}{Q:Unit->SS->Prop}(I:Inv X f8 σ H s)(e:H a=some (.ins C dx fs))(c:Cls X.K C)(n:NoAttr X.K C f)(hl:fs.length<1000)(ry:RelV y u)
 (h:∀s',Inv X f8 σ (upd H a (.ins C dx (dY f y fs))) s'->Q () s'):wpAny (model X.prog X.w) A (setAttr (.ref a) f u) Q E s:=by
 obtain⟨mA,O,r,wi,_,ho⟩:=oF I.hok e;have hz:(fs.map (·.1)).length<=S9:=by rw[SI,VF];omega
 refine G4 I.kIn O c.sa c.po n.taker c.hd wi hz λh' O' sb=>h _ ?_;have hd:∃o,h'.get? dx=some o:=let ⟨o,_,_,e',_⟩:=O'.ns;⟨o,e'⟩
 refine I.write (x:=a) (e:=dx) (by rw[e];exact UL) (.inr ho) (λb q hb z=>(sb.2 b hb).trans z) hd ?_;refine⟨by rw[au O.ne];exact ho,?_,O.ne,O'.obj,_,O'.ns,λg=>?_,λg hg=>?_⟩
 ·have:=mW f y fs;omega
 ·show RelO ((dY f y fs).lookup g) (if g=f then some u else mA g);rw[mX];by_cases q:g=f
  ·rw[Y6 q,Y6 q];exact ry
  ·rw[Y7 q,Y7 q];exact r g
 ·by_cases q:g=f
  ·rw[q];exact(mh f y fs).1
  ·refine(mh f y fs).2 g (wi g λz=>hg ?_);show (if g=f then some u else mA g)=none;rw[Y7 q];exact z
def Inv.made(I:Inv X f8 σ H s):Inv X f8 σ (upd (upd H s.heap.objs.size (.own (s.heap.objs.size+1))) (s.heap.objs.size+1) (.ins C s.heap.objs.size []))
 {s with heap:=(s.heap.push Uw).push (UN C s.heap.objs.size)}:=by
 have e1:(s.heap.push Uw).get? s.heap.objs.size=some Uw:=Ta s.heap rfl;have e2:((s.heap.push Uw).push (UN C s.heap.objs.size)).get? (s.heap.objs.size+1)=some (UN C s.heap.objs.size):=by
  have:=Ta (s.heap.push Uw) (o:=UN C s.heap.objs.size) rfl
  rwa [X6] at this
 have e3:(s.heap.push Uw).Ns s.heap.objs.size (λ_=>none):=⟨Uw,#[],_,e1,rfl,(λe he=>Y9 he (by simp)),λ_=>rfl⟩
 have I1:=I.laid (a:=s.heap.objs.size) (o:= .own (s.heap.objs.size+1)) (h':=s.heap.push Uw) (t':=s.toks) (λb u q=>SR _ q) (SW _) ⟨_,e1⟩;refine I1.laid (a:=s.heap.objs.size+1) (o:= .ins C s.heap.objs.size []) (t':=s.toks) (λb u q=>SR _ q) (Yu (X6 _ _)) ?_;have ne:s.heap.objs.size≠s.heap.objs.size+1:=Tv (Wm _);refine⟨by rw[au ne,aE],TQ _,ne,e2,λ_=>none,(Heap.Ns1.of_empty e3).at λo q=>SR _ q,λ_=>UL,λy hy=>Y9 rfl hy⟩
def Fj{prog:To}{w:World}{env:Env}{e:Expr}{f:Str}{pos:Pos}{s:SS}{Q:Value->SS->Prop}(hb:Ug e f env (eval e env)=eval e env)
 (h:wpAny (model prog w) A (eval e env) (λo T0=>wpAny (model prog w) A (getAttr o f true) Q E T0) E s):wpAny (model prog w) A (eval (.Attribute e f pos) env) Q E s:=
 Attribute_any_ h (by rw[arm_eval_Attribute,hb])
end
def OM(K:SN)(ta:TE)(f:Str):TE:=λσ H Q=>ta σ H λx H1=>∃a C dx fs v,x= .ref a/\H1 a=some (.ins C dx fs)/\Cls K C/\NoAttr K C f/\fs.lookup f=some v/\Q v H1
def OD(K:SN)(ta tv:TE)(f:Str):TS:=λD σ H=>tv σ H λy H1=>ta σ H1 λx H2=>∃a C dx fs,x= .ref a/\H2 a=some (.ins C dx fs)/\Cls K C/\NoAttr K C f/\fs.length<1000/\
 D.nx σ (upd H2 a (.ins C dx (dY f y fs)))
def Ii(X:Cx)(op:Operator)(rd:V->V->Hp->VK->Prop):Prop:=
 ∀(f8:List (Addr×Obj)) (s:SS) (σ:St) (H:Hp) (x y:V) (u v:Value) (Q:VK),Inv X f8 σ H s->RelV x u->RelV y v->rd x y H Q->wpAny (model X.prog X.w) X.A (inplaceOp op u v) (EP X f8 σ Q) X.xe s
def GY(K:SN)(ta tv:TE)(rd:V->V->Hp->VK->Prop)(f:Str):TS:=λD σ H=>ta σ H λx H1=>∃a C dx fs v,x= .ref a/\H1 a=some (.ins C dx fs)/\Cls K C/\NoAttr K C f/\fs.lookup f=some v/\
 tv σ H1 λy H2=>rd v y H2 λz H3=>∃MG IH,H3 a=some (.ins C MG IH)/\IH.length<1000/\D.nx σ (upd H3 a (.ins C MG (dY f z IH)))
section
variable{X:Cx}{o e value:Expr}{f:Str}{pos pos' OW:Pos}{ta tv:TE}
def JF(he:PE X e ta)(hb:Ug e f X.env (eval e X.env)=eval e X.env):PE X (.Attribute e f pos) (OM X.K ta f):=by
 intro f8 s σ H Q I h;refine Fj hb (bY (he f8 s σ H _ I h) λu s1 ⟨x,H1,I1,rx,a,C,dx,fs,v,ex,ea,c,n,l,q⟩=>?_);subst ex;obtain rfl:u=Ts a:=rx;exact pk I1 ea c n l λu' s2 I2 ru=>⟨v,H1,I2,ru,q⟩
def JR(ha:PE X o ta)(hv:PE X value tv)(hs:Vv value (some (.Attribute o f pos')) pos.line X.env=pure false):PS X (.Assign [.Attribute o f pos'] value pos) (OD X.K ta tv f):=by
 intro f8 s σ H D I h;refine plainObj_wpAny_Assign_Attribute (bY (hv f8 s σ H _ I h) λu s1 ⟨y,H1,I1,ry,q⟩=>bY (ha f8 s1 σ H1 _ I1 q) λov s2 ⟨x,H2,I2,rx,a,C,dx,fs,ex,ea,c,n,l,q2⟩=>?_) hs;subst ex;obtain rfl:ov=Ts a:=rx;exact qA I2 ea c n l ry λs3 I3=>⟨σ,_,I3,q2⟩
def BK{op:Operator}{rd:V->V->Hp->VK->Prop}(ha:PE X o ta)(hv:PE X value tv)(N4:Ii X op rd):PS X (.AugAssign (.Attribute o f OW) op value pos) (GY X.K ta tv rd f):=by
 intro f8 s σ H D I h;refine wpAny_AugAssign_AttributeAny (bY (ha f8 s σ H _ I h) λov s1 ⟨x,H1,I1,rx,a,C,dx,fs,v,ex,ea,c,n,l,q⟩=>?_);subst ex;obtain rfl:ov=Ts a:=rx;refine wpAny_with_toks (SW s1.toks) (pk I1 ea c n l λu s2 I2 ru hk=>?_)
 haveI:Up s1 s2:=⟨hk⟩
 refine bY (hv f8 s2 σ H1 _ I2 q) λw3 s3 ⟨y,H2,I3,ry,q3⟩=>bY (N4 f8 s3 σ H2 v y u w3 _ I3 ru ry q3) λw4 s4 ⟨z,H3,I4,rz,MG,IH,Qq,l',q4⟩=>?_;exact qA I4 Qq c n l' rz λs5 I5=>⟨σ,_,I5,q4⟩
def Ow:V->V->Hp->VK->Prop:=λx y H Q=>∃i j,x= .int i/\y= .int j/\Q (.int (i+j)) H
def Jc:Ii X .Add Ow:=by
 rintro f8 s σ H x y u v Q I rx ry ⟨i,j,rfl,rfl,q⟩;obtain⟨t,rfl⟩:=(show∃t,u=Wr i t from rx)
 obtain⟨t',rfl⟩:=(show∃t',v=Wr j t' from ry)
 exact PyProof.Rows.iadd_int ⟨.int (i+j),H,I.tok _,⟨_,rfl⟩,q⟩
def HX{pl:Sem Bool}{m:Str}{v4:Pos}{args:List Expr}{f8:List (Addr×Obj)}{s:SS}[Tk s]{σ:St}{H:Hp}{Q:Value->SS->Prop}{te:TE}(he:PE X e te)(I:Inv X f8 σ H s)
 (h:te σ H λx H1=>∃a C dx fs g,x= .ref a/\H1 a=some (.ins C dx fs)/\Cls X.K C/\Meth X.K C m g/\fs.lookup m=none/\
  ∀s1,Inv X f8 σ H1 s1->wpAny (model X.prog X.w) X.A (Xq pos (.ref g) [.ref a] (Uv pos (SX args X.env)) (UQ pos (Ub [] X.env))) Q X.xe s1)
 (ht:eval (.Call (.Attribute e m v4) args [] pos) X.env=(do
  let ov<-eval e X.env
  XQ v4.atName
  let (f,first)<-holding [ov] (Wo ov m pl)
  Xq pos f first (Uv pos (SX args X.env)) (UQ pos (Ub [] X.env)))):
 wpAny (model X.prog X.w) X.A (eval (.Call (.Attribute e m v4) args [] pos) X.env) Q X.xe s:=by
 refine Wh (pl:=pl) (bY (he f8 s σ H _ I h) λu s1 ⟨x,H1,I1,rx,a,C,dx,fs,g,ex,ea,c,k,l,q⟩=>?_) ht;subst ex;obtain rfl:u=Ts a:=rx;exact kF I1 ea c k l (q s1 I1)
end
section
variable{X:Cx}{f8:List (Addr×Obj)}{σ:St}{H:Hp}{s:SS}{A:T9}{E:Value->SS->Prop}{Q:Value->SS->Prop}{c:Value}{b:Bool}
inductive TyOf (K:SN) (H:Hp):V->Value->Prop where
 |non:TyOf K H .non (.type "NoneType")
 |bl (x:Bool):TyOf K H (.bl x) (.type "bool")
 |int (i:Int):TyOf K H (.int i) (.type "int")
 |str (x:Str):TyOf K H (.str x) (.type "str")
 |flt (x:UInt64):TyOf K H (.flt x) (.type "float")
 |lst {a:Addr}{xs:List V}(e:H a=some (.lst xs)):TyOf K H (.ref a) (.type "list")
 |frz {a:Addr}{o:Obj}{xs:List V}(e:H a=some (.frz o (.lst xs))):TyOf K H (.ref a) (.type "list")
 |tup {a:Addr}{xs:List V}(e:H a=some (.tup xs)):TyOf K H (.ref a) (.type "tuple")
 |dK {a:Addr}{az:List (Key×V)}(e:H a=some (.dK az)):TyOf K H (.ref a) (.type "dict")
 |dT {a:Addr}{az:List (List Key×V)}(e:H a=some (.dT az)):TyOf K H (.ref a) (.type "dict")
 |ins {a C dx:Addr}{fs:List (Str×V)}(e:H a=some (.ins C dx fs)) (cl:Cls K C) (ha:TK K (.ref C) "__class__"=some (some (.builtin "object.__class__")))
   (hn:PySem.W.specialIn K (.builtin "object.__class__") "__get__"=some (some (.builtin "getset_descriptor.__get__"))) (PU:PySem.W.takesIn K (.builtin "object.__class__")=some true)
   (hm:PySem.W.mroIn K C (.type "object")=some true):TyOf K H (.ref a) (.ref C)
def Bc{x:V}{u t:Value}(I:Inv X f8 σ H s)(rx:RelV x u)(ty:TyOf X.K H x t)(e:Xv X.K t c=some b)(h:∀tk,Q (.bool b) {s with toks:=tk}):
 wpAny (model X.prog X.w) A (call (.builtin "isinstance") [u,c]) Q E s:=by
 cases ty with
 |non=>cases (show u=Uy from rx);exact Uq PySem.W.kitx_none I.kIn UL e (λz=>nomatch z) h
 |bl y=>cases (show u=VI y from rx);exact Uq PySem.W.kitx_bool I.kIn UL e (λz=>nomatch z) h
 |int i=>obtain⟨t,q⟩:=(show∃t,u=Wr i t from rx);cases q;exact Uq PySem.W.kitx_int I.kIn UL e (λz=>nomatch z) h
 |str y=>obtain⟨t,q⟩:=(show∃t,u=Xu y t from rx);cases q;exact Uq PySem.W.kitx_str I.kIn UL e (λz=>nomatch z) h
 |flt y=>obtain⟨t,q⟩:=(show∃t,u=Yo y t from rx);cases q;exact Uq PySem.W.kitx_float I.kIn UL e (λz=>nomatch z) h
 | @lst a xs ea=>
   cases (show u=Ts a from rx);obtain⟨_,_,n,_,h1⟩:=(show ObjOk X.prog X.w H s.heap a (.lst xs) from I.hok a _ ea)
   exact Uq Yr I.kIn ⟨_,h1,rfl⟩ e (λz=>nomatch z) h
 | @frz a ob xs ea=>
   cases (show u=Ts a from rx);obtain⟨_,_,_,n,_,h1⟩:=(show ObjOk X.prog X.w H s.heap a (.frz ob (.lst xs)) from I.hok a _ ea)
   exact Uq Yr I.kIn ⟨_,h1,rfl⟩ e (λz=>nomatch z) h
 | @tup a xs ea=>
   cases (show u=Ts a from rx);obtain⟨_,_,_,p⟩:=(show ObjOk X.prog X.w H s.heap a (.tup xs) from I.hok a _ ea)
   obtain⟨o,h1,h2,_⟩:=p;exact Uq PySem.W.kitx_tuple I.kIn ⟨o,h1,h2⟩ e (λz=>nomatch z) h
 | @dK a az ea=>
   cases (show u=Ts a from rx);obtain⟨_,_,vs,_,p⟩:=(show ObjOk X.prog X.w H s.heap a (.dK az) from I.hok a _ ea)
   obtain⟨o,es,ep,h1,h2,_⟩:=p;exact Uq Ys I.kIn ⟨o,h1,h2.1⟩ e (λz=>nomatch z) h
 | @dT a az ea=>
   cases (show u=Ts a from rx);obtain⟨_,_,xs,_,o,es,ep,h1,h2,_⟩:=(show ObjOk X.prog X.w H s.heap a (.dT az) from I.hok a _ ea)
   exact Uq Ys I.kIn ⟨o,h1,h2.1⟩ e (λz=>nomatch z) h
 | @ins a C dx fs ea cl ha hn PU hm=>
   cases (show u=Ts a from rx);obtain⟨mA,O,_⟩:=oF I.hok ea;obtain⟨od,J,_⟩:=O.look;exact Uq (PySem.W.kitx_own (cl.get _) cl.hd ha hn PU hm) I.kIn J e (λz=>nomatch z) h
end
structure Room (k:Nat) (A:T9):Prop where
 hd:A.handled=none
 dp:A.depth+3*k+5<Yn
 un:A.units+16*k+200<cLine
def Room.mono{j k:Nat}{A:T9}(r:Room k A)(h:j<=k):Room j A:=⟨r.hd,by have:=r.dp;omega,by have:=r.un;omega⟩
theorem Room.deeper{k:Nat}{A:T9}(r:Room (k+1) A)(env:Env):Room k (A.deeper env):=
 ⟨r.hd,by have:=r.dp;show A.depth+1+3*k+5<_;omega,by have:=r.un;show A.units+3+16*k+200<_;omega⟩
def ym{A:T9}{C:Addr}{us:List Value}{kw:List (Str×Value)}:(A.under (.builtin "type.__call__" ⟨.ref C::us,kw⟩)).depth=A.depth+1:=by
 first | rfl | simp[Ye,Code.weight,Code.isCreation,Code.isGuard,Code.isCaller,Code.frames,Ym,guardIds]
def yn{A:T9}{C:Addr}{us:List Value}{kw:List (Str×Value)}:(A.under (.builtin "type.__call__" ⟨.ref C::us,kw⟩)).units=A.units+1:=by
 first | rfl | simp[Ye,Code.cUnits,Code.frames,Ym]
def Room.make{k:Nat}{A:T9}(r:Room (k+1) A)(C:Addr)(us:List Value)(kw:List (Str×Value)):Room k (A.under (.builtin "type.__call__" ⟨.ref C::us,kw⟩)):=
 ⟨r.hd,by have:=r.dp;rw[ym];omega,by have:=r.un;rw[yn];omega⟩
theorem Room.depth{k:Nat}{A:T9}(r:Room k A):A.depth<Yn:=by have:=r.dp;omega
theorem Room.units{k:Nat}{A:T9}(r:Room k A):A.units+64<cLine:=by have:=r.un;omega
def Hc:TA:=λ_ H Q=>Q [] H
def EN(ta:TE)(tr:TA):TA:=λσ H Q=>ta σ H λx H1=>tr σ H1 λxs H2=>Q (x::xs) H2
section
variable{X:Cx}{e:Expr}{es:List Expr}{te:TE}{t:TA}{pos:Pos}
def qe:PA X [] Hc:=λ_ _ _ _ H Q I h=>Xa ⟨[],H,I, .nil,h⟩
def oJ(ha:PE X e te)(hr:PA X es t)(hs:SX (e::es) X.env=(false,eval e X.env)::SX es X.env:=by rfl):PA X (e::es) (EN te t):=by
 intro pos f8 s σ H Q I h _;rw[hs];show wpAny _ _ (spliced ((false,eval e X.env)::Uv pos (SX es X.env))) _ _ s;refine VT (bY (ha f8 s σ H _ I h) λu s1 ⟨x,H1,I1,r1,q1⟩=>?_);exact bY (hr pos f8 s1 σ H1 _ I1 q1) λus s2 ⟨xs,H2,I2,r2,q2⟩=>⟨x::xs,H2,I2, .cons r1 r2,q2⟩
def OT(t:TA):TE:=λσ H Q=>t σ H λxs H1=>xs.length<=S9/\∀p,H1 p=none->Q (.ref p) (upd H1 p (.tup xs))
def OP(t:TA):TE:=λσ H Q=>t σ H λxs H1=>xs.length<=S9/\∀p,H1 p=none->Q (.ref p) (upd H1 p (.lst xs))
def JL{x1}(h:PA X es t):PE X (.Tuple es x1 pos) (OT t):=by
 intro f8 s σ H Q I hq;refine wpAny_Tuple_spliced (bY (h pos f8 s σ H _ I hq) λus s1 ⟨xs,H1,I1,r,z,q⟩=>⟨by rw[<-r.length];exact z,?_⟩);have hf:H1 s1.heap.objs.size=none:=I1.hok.fresh (SW _);refine⟨.ref s1.heap.objs.size,upd H1 s1.heap.objs.size (.tup xs),I1.laid (t':=s1.toks) (λb u e=>SR _ e) (SW _) ?_,rfl,q _ hf⟩;exact⟨z,us,r,⟨_,Ta _ rfl,rfl,_,rfl⟩⟩
def D7(h:PA X es t):PE X (.List es pos) (OP t):=by
 intro f8 s σ H Q I hq;refine wpAny_List_spliced (bY (h pos f8 s σ H _ I hq) λus s1 ⟨xs,H1,I1,r,z,q⟩=>⟨by rw[<-r.length];exact z,?_⟩);have hf:H1 s1.heap.objs.size=none:=I1.hok.fresh (SW _);refine⟨.ref s1.heap.objs.size,upd H1 s1.heap.objs.size (.lst xs),I1.laid (t':=s1.toks) (λb u e=>SR _ e) (SW _) ?_,rfl,q _ hf⟩;exact⟨z,us,0,r,Ta _ rfl⟩
end
abbrev Sp:=List V->Hp->VK->XK->Prop
abbrev AG:=List Env->Hp->SS->XK->Value->SS->Prop
structure Env0 (P:To) (w:World) (K:SN) (mg:Str->Option Value) (base:Heap) (A:T9) (outer:List Env) (s:SS) (H:Hp):Prop where
 frames:A.frames=some outer
 mod:Mod K mg base
 bs:∀b o,base.get? b=some o->s.heap.get? b=some o/\H b=none
 bsz:base.objs.size<=s.heap.objs.size
 funs:s.heap.FunFrames base outer
 frf:∀b∈oE outer,H b=none
 hok:HOk P w H s.heap
 bare:W3 s.gens
def CE(outer:List Env)(P:To)(w:World)(H:Hp)(s:SS)(Q:VK)(u:Value)(s':SS):Prop:=
 ∃v H',s'.os=s.os/\W3 s'.gens/\Un (oE outer) [] H H' s.heap s'.heap/\HOk P w H' s'.heap/\RelV v u/\Q v H'
def CR(CX:AG)(outer:List Env)(P:To)(w:World)(H:Hp)(s:SS)(Q:VK)(E:XK)(r:Result)(s':SS):Prop:=
 match r with
 | .ok (.ret u)=>CE outer P w H s Q u s'
 | .ok _=>False
 | .error e=>CX outer H s E e s'
structure FnOk (P:To) (w:World) (K:SN) (mg:Str->Option Value) (base:Heap) (CX:AG) (k:Nat) (f:Addr) (fd:Vi) (ps:List Str) (sp:Sp):Prop where
 len:∀vs H Q E,sp vs H Q E->vs.length=ps.length
 run:∀(A:T9) (outer:List Env) (s:SS) (H:Hp) (args:Args) (us:List Value) (vs:List V) (Q:VK) (E:XK),Room k A->Env0 P w K mg base A outer s H->BindsTo s fd args (ps.zip us)->Vals vs us->sp vs H Q E->∀[Tk s],
  Xf (model P w) A (.call (.ref f) args) (CR CX outer P w H s Q E) s
theorem FnOk.mono{P:To}{w:World}{K:SN}{mg:Str->Option Value}{base:Heap}{CX:AG}{j k:Nat}{f:Addr}{fd:Vi}{ps:List Str}{sp:Sp}(F:FnOk P w K mg base CX j f fd ps sp)(h:j<=k):
 FnOk P w K mg base CX k f fd ps sp:=⟨F.len,λA outer s H args us vs Q E hr=>F.run A outer s H args us vs Q E (hr.mono h)⟩
def Env0.make{P:To}{w:World}{K:SN}{mg:Str->Option Value}{base:Heap}{A:T9}{outer:List Env}{s:SS}{H:Hp}(e:Env0 P w K mg base A outer s H)(C:Addr)(us:List Value)(kw:List (Str×Value)):
 Env0 P w K mg base (A.under (.builtin "type.__call__" ⟨.ref C::us,kw⟩)) outer s H:=⟨by first | exact e.frames | (simpa [Ye,Code.envs,Ym,pushEnvs] using e.frames),e.mod,e.bs,e.bsz,e.funs,e.frf,e.hok,e.bare⟩
section
variable{X:Cx}{f8:List (Addr×Obj)}{σ:St}{H:Hp}{s s':SS}
def Inv.env0(I:Inv X f8 σ H s):Env0 X.prog X.w X.K X.mg X.base X.A X.stack s H:=
 ⟨I.ok.frames,I.ok.mod,I.bs,Tn I.ok.bsz I.sz,I.stack,I.stkFree,I.hok,I.bare⟩
def Inv.after{Q:VK}{u:Value}(I:Inv X f8 σ H s)(h:CE X.stack X.prog X.w H s Q u s'):EP X f8 σ Q u s':=by
 obtain⟨v,H',os,bare,un,hok,r,q⟩:=h;obtain⟨hh,g,d,t,R0⟩:=s';obtain rfl:R0=s.os:=os;exact⟨v,H',I.call (h':=hh) (g':=g) (d':=d) (t':=t) (ch:=[]) un hok bare (λb z=>Y9 z (by simp)),r,q⟩
end
def Mq(sp:Sp)(qX:List V)(E:XK)(t:TA):TE:=λσ H Q=>t σ H λvs H1=>sp (vs++qX) H1 Q E
def Ib(C:Addr)(m:Str)(sp:Sp)(qX:List V)(E:XK)(ta:TE)(t:TA):TE:=λσ H Q=>ta σ H λx H1=>∃a dx fs,x= .ref a/\H1 a=some (.ins C dx fs)/\fs.lookup m=none/\
 t σ H1 λvs H2=>sp (x::(vs++qX)) H2 Q E
def Mr(C:Addr)(sp:Sp)(qX:List V)(E:XK)(t:TA):TE:=λσ H Q=>t σ H λvs H1=>∀x dx,H1 x=none->H1 dx=none->dx≠x->
 sp (.ref x::(vs++qX)) (upd (upd H1 dx (.own x)) x (.ins C dx [])) (λv H2=>v= .non/\Q (.ref x) H2) E
def Binds(K:SN)(fd:Vi)(ps:List Str)(ds:List Value):Prop:=
 ∀(s:SS) (us:List Value),K.In s.heap->(us++ds).length=ps.length->BindsTo s fd ⟨us,[]⟩ (ps.zip (us++ds))
def Binds.all{K:SN}{fd:Vi}{ps:List Str}(h:∀us:List Value,us.length=ps.length->Xr fd ⟨us,[]⟩=pure (ps.zip us)):Binds K fd ps []:=λs us _ hl=>by
 rw[TM] at hl⊢;exact .of_eq (h us hl)
def Passes(CX:AG)(X:Cx)(E:XK):Prop:=∀(f8:List (Addr×Obj)) (σ:St) (H:Hp) (s:SS) (e:Value) (s':SS),Inv X f8 σ H s->CX X.stack H s E e s'->X.xe e s'
section
variable{X:Cx}{CX:AG}{k:Nat}{f C:Addr}{fd:Vi}{ps:List Str}{sp:Sp}{qX:List V}{ds:List Value}{E:XK}{x m:Str}{p pos v4:Pos}{e o:Expr}{es:List Expr}{ta:TE}{t:TA}
def yS{f8:List (Addr×Obj)}{σ:St}{H:Hp}{s:SS}[Tk s]{Q:VK}{us:List Value}{vs:List V}(F:FnOk X.prog X.w X.K X.mg X.base CX k f fd ps sp)(hr:Room k X.A)(hb:Binds X.K fd ps ds)(hd:Vals qX ds)(hx:Passes CX X E)
 (I:Inv X f8 σ H s)(r:Vals vs us)(h:sp (vs++qX) H Q E):wpAny (model X.prog X.w) X.A (call (.ref f) us) (EP X f8 σ Q) X.xe s:=by
 have r2:Vals (vs++qX) (us++ds):=r.append hd;have hl:(us++ds).length=ps.length:=by rw[<-r2.length];exact F.len _ _ _ _ h
 refine wpAny_call (X1 (F.run X.A X.stack s H ⟨us,[]⟩ (us++ds) (vs++qX) Q E hr I.env0 (hb s us I.kIn hl) r2 h) λr s' hq=>?_);cases r with
 |error e=>exact hx f8 σ H s e s' I hq
 |ok fl=>
  cases fl with
  |ret u=>exact I.after hq
  |next=>exact UE hq
  |brk=>exact UE hq
  |cont=>exact UE hq
def Gy(F:FnOk X.prog X.w X.K X.mg X.base CX k f fd ps sp)(hr:Room k X.A)(hg:Gl X x)(hm:X.mg x=some (.ref f))(hk:TJ X.K (.ref f)=true)(hb:Binds X.K fd ps ds)(hd:Vals qX ds)(hx:Passes CX X E)
 (ha:PA X (e::es) t)(ma:(x==("__debug__":Str))=false:=by decide)(he:SX (e::es) X.env=(false,eval e X.env)::SX es X.env:=by rfl)(iY:(Uv pos (SX es X.env)).any (·.1)=false:=by rfl):
 PE X (.Call (.Name x p) (e::es) [] pos) (Mq sp qX E t):=by
 intro f8 s σ H Q I h;refine We (oH I hg hm ?_ ma);refine WL (h₀:=X.base) I.ok.mod.kin hk (bY (ha pos f8 s σ H _ I h) λus s1 ⟨vs,H1,I1,r,q⟩=>⟨I1.kIn,?_⟩) he iY;exact yS F hr hb hd hx I1 r q
def Ad{pl:Sem Bool}(he:PE X o ta)(c:Cls X.K C)(hm:Meth X.K C m f)(F:FnOk X.prog X.w X.K X.mg X.base CX k f fd ps sp)(hr:Room k X.A)(hb:Binds X.K fd ps ds)(hd:Vals qX ds)(hx:Passes CX X E)(ha:PA X (e::es) t)
 (lY:SX (e::es) X.env=(false,eval e X.env)::SX es X.env:=by rfl)(iY:(Uv pos (SX es X.env)).any (·.1)=false:=by rfl)
 (ht:eval (.Call (.Attribute o m v4) (e::es) [] pos) X.env=(do
  let ov<-eval o X.env
  XQ v4.atName
  let (f,first)<-holding [ov] (Wo ov m pl)
  Xq pos f first (Uv pos (SX (e::es) X.env)) (UQ pos (Ub [] X.env))):=by rfl):
 PE X (.Call (.Attribute o m v4) (e::es) [] pos) (Ib C m sp qX E ta t):=by
 intro f8 s σ H Q I h;refine Wh (pl:=pl) (bY (he f8 s σ H _ I h) λu s1 ⟨x,H1,I1,rx,a,dx,fs,ex,ea,l,q⟩=>?_) ht;subst ex;obtain rfl:u=Ts a:=rx;refine kF I1 ea c hm l ?_;refine WL (first:=[.ref a]) (h₀:=X.base) I.ok.mod.kin hm.kp (bY (ha pos f8 s1 σ H1 _ I1 q) λus s2 ⟨vs,H2,I2,r,q2⟩=>⟨I2.kIn,?_⟩) lY iY;exact yS (us:= .ref a::us) (vs:= .ref a::vs) F hr hb hd hx I2 (.cons rfl r) q2
def D8{pl:Sem Bool}(he:PE X o ta)(c:Cls X.K C)(hm:Meth X.K C m f)(F:FnOk X.prog X.w X.K X.mg X.base CX k f fd ps sp)(hr:Room k X.A)(hb:Binds X.K fd ps ds)(hd:Vals qX ds)(hx:Passes CX X E)
 (ht:eval (.Call (.Attribute o m v4) [] [] pos) X.env=(do
  let ov<-eval o X.env
  XQ v4.atName
  let (f,first)<-holding [ov] (Wo ov m pl)
  Xq pos f first (Uv pos (SX [] X.env)) (UQ pos (Ub [] X.env))):=by rfl):
 PE X (.Call (.Attribute o m v4) [] [] pos) (Ib C m sp qX E ta Hc):=by
 intro f8 s σ H Q I h;refine Wh (pl:=pl) (bY (he f8 s σ H _ I h) λu s1 ⟨x,H1,I1,rx,a,dx,fs,ex,ea,l,q⟩=>?_) ht;subst ex;obtain rfl:u=Ts a:=rx;refine kF I1 ea c hm l ?_;exact PySem.W.callWith_K0 (first:=[.ref a]) I1.kIn hm.kp (yS (us:=[.ref a]) (vs:=[.ref a]) F hr hb hd hx I1 (.cons rfl .nil) q)
structure Mk (K:SN) (C f:Addr):Prop where
 makes:Wi K C=true
 init:TK K (.ref C) "__init__"=some (some (.ref f))
 fn:Vp K (.ref f)=true
 kp:TJ K (.ref C)=true
def Ew{f8:List (Addr×Obj)}{σ:St}{H:Hp}{s:SS}[tk:Tk s]{Q:VK}{us:List Value}{vs:List V}(M:Mk X.K C f)(F:FnOk X.prog X.w X.K X.mg X.base CX k f fd ps sp)(hr:Room (k+1) X.A)(hb:Binds X.K fd ps ds)(hd:Vals qX ds)
 (hx:Passes CX X E)(I:Inv X f8 σ H s)(r:Vals vs us)
 (h:∀x dx,H x=none->H dx=none->dx≠x->sp (.ref x::(vs++qX)) (upd (upd H dx (.own x)) x (.ins C dx [])) (λv H2=>v= .non/\Q (.ref x) H2) E):
 wpAny (model X.prog X.w) X.A (call (.ref C) us) (EP X f8 σ Q) X.xe s:=by
 have hq:=h (s.heap.objs.size+1) s.heap.objs.size (I.hok.fresh (Nat.le_succ _)) (I.hok.fresh (SW _)) (Tv (Wm _));have I2:=Inv.made (C:=C) I;have r2:Vals (V.ref (s.heap.objs.size+1)::(vs++qX)) (Ts (s.heap.objs.size+1)::(us++ds)):= .cons rfl (r.append hd);have hl:(Ts (s.heap.objs.size+1)::us++ds).length=ps.length:=by
  have e:=r2.length;rw[F.len _ _ _ _ hq] at e;exact e.symm
 refine wpAny_call (Di (f:=f) I.kIn M.makes M.init (beq_iff_eq.mp M.fn) (X1 (@FnOk.run _ _ _ _ _ _ _ _ _ _ _ F _ X.stack _ _ ⟨Ts (s.heap.objs.size+1)::us,[]⟩ (Ts (s.heap.objs.size+1)::(us++ds)) _ _ E (hr.make C us [])
  (I2.env0.make C us []) (hb _ (Ts (s.heap.objs.size+1)::us) I2.kIn hl) r2 hq ⟨tk.le⟩) λr s' Lr=>?_))
 cases r with
 |error e=>exact hx f8 σ _ _ e s' I2 Lr
 |ok fl=>
  cases fl with
  |ret u=>
   obtain⟨v,H',I3,rv,ev,q3⟩:=I2.after Lr;subst ev;exact⟨rv,⟨V.ref (s.heap.objs.size+1),H',I3,rfl,q3⟩⟩
  |next=>exact UE Lr
  |brk=>exact UE Lr
  |cont=>exact UE Lr
def GC(M:Mk X.K C f)(F:FnOk X.prog X.w X.K X.mg X.base CX k f fd ps sp)(hr:Room (k+1) X.A)(hg:Gl X x)(hm:X.mg x=some (.ref C))(hb:Binds X.K fd ps ds)(hd:Vals qX ds)(hx:Passes CX X E)
 (ha:PA X (e::es) t)(ma:(x==("__debug__":Str))=false:=by decide)(he:SX (e::es) X.env=(false,eval e X.env)::SX es X.env:=by rfl)(iY:(Uv pos (SX es X.env)).any (·.1)=false:=by rfl):
 PE X (.Call (.Name x p) (e::es) [] pos) (Mr C sp qX E t):=by
 intro f8 s σ H Q I h;refine We (oH I hg hm ?_ ma);refine WL (h₀:=X.base) I.ok.mod.kin M.kp (bY (ha pos f8 s σ H _ I h) λus s1 ⟨vs,H1,I1,r,q⟩=>⟨I1.kIn,?_⟩) he iY;exact Ew M F hr hb hd hx I1 r q
end
section
variable{ks:List Str}
end
structure FnScope (N P:List Str) (sc:Scope):Prop where
 kind:sc.kind= .function
 co:sc.isCoroutine=false
 gen:sc.isGenerator=false
 nd:N.Nodup
 pre:N.take P.length=P
 par:∀x∈P,sc.names.lookup x=some .local\/sc.names.lookup x=some .cell
 nofree:∀y∈sc.names,y.2≠ .free
theorem rB{WJ:Str->Option Wf}{x:Str}:∀{binds:List (Str×Value)}{m:Str->Option Value},(∀v,(x,v)∉binds)->bindL WJ binds m x=m x
 |[],_,_=>rfl
 |(n,v)::r,m,h=>by
  unfold bindL;rw[rB λw hw=>h w (SJ _ hw)];split
  ·have:x≠n:=by rintro rfl;exact h v SM
   simp[this]
  ·rfl
theorem rq{WJ:Str->Option Wf}{x:Str}:∀{binds:List (Str×Value)}{m:Str->Option Value},(∀v,(x,v)∉binds)->bindC WJ binds m x=m x
 |[],_,_=>rfl
 |(n,v)::r,m,h=>by
  unfold bindC;rw[rq λw hw=>h w (SJ _ hw)];split
  ·rfl
  ·have:x≠n:=by rintro rfl;exact h v SM
   simp[this]
theorem rA{WJ:Str->Option Wf}{x:Str}{v:Value}:∀{P:List Str}{vs:List Value}{i:Nat}{m:Str->Option Value},P.Nodup->P[i]? =some x->vs[i]? =some v->WJ x=some .local->
 bindL WJ (P.zip vs) m x=some v
 |[],_,_,_,_,h,_,_=>by simp at h
 |_::_,[],_,_,_,_,h,_=>by simp at h
 |p::P,w::vs,0,m,nd,h1,h2,hk=>by
  simp at h1 h2;subst h1;subst h2;show bindL WJ ((p,w)::P.zip vs) m p=_;unfold bindL;rw[rB λv hv=>(T8.mp nd).1 (XD hv).1,Y6 hk];simp
 |p::P,w::vs,i+1,m,nd,h1,h2,hk=>by
  show bindL WJ ((p,w)::P.zip vs) m x=_;unfold bindL;exact rA (i:=i) (T8.mp nd).2 (by simpa using h1) (by simpa using h2) hk
theorem rp{WJ:Str->Option Wf}{x:Str}{v:Value}:∀{P:List Str}{vs:List Value}{i:Nat}{m:Str->Option Value},P.Nodup->P[i]? =some x->vs[i]? =some v->WJ x≠some .local->
 bindC WJ (P.zip vs) m x=some v
 |[],_,_,_,_,h,_,_=>by simp at h
 |_::_,[],_,_,_,_,h,_=>by simp at h
 |p::P,w::vs,0,m,nd,h1,h2,hk=>by
  simp at h1 h2;subst h1;subst h2;show bindC WJ ((p,w)::P.zip vs) m p=_;unfold bindC;rw[rq λv hv=>(T8.mp nd).1 (XD hv).1,Y7 hk];simp
 |p::P,w::vs,i+1,m,nd,h1,h2,hk=>by
  show bindC WJ ((p,w)::P.zip vs) m x=_;unfold bindC;exact rp (i:=i) (T8.mp nd).2 (by simpa using h1) (by simpa using h2) hk
def start(N:List Str)(vs:List V):St:=vs.map some++Tc (N.length - vs.length) none
def eT(CX:AG)(P:To)(w:World)(K:SN)(mg:Str->Option Value)(base:Heap)(N:List Str)(qual:Str)(scope:Scope)(f:Addr)(cd:Value)(A:T9)(outer:List Env)(s:SS)(H:Hp)(E:XK):Cx where
 prog:=P
 w:=w
 K:=K
 mg:=mg
 base:=base
 A:=A.deeper (Vx qual scope s.heap.objs.size f cd)
 N:=N
 Zy:=s
 Zx:=H
 env:=Vx qual scope s.heap.objs.size f cd
 outer:=outer
 stack:=Vx qual scope s.heap.objs.size f cd::outer
 ex:=[]
 calm:=true
 fn:=λ_=>true
 pn:=[]
 xe:=λe s'=>wpAny (model P w) (A.deeper (Vx qual scope s.heap.objs.size f cd)) (leaving (Vx qual scope s.heap.objs.size f cd) e) (λ_ OC=>CX outer H s E e OC) (λe' OC=>CX outer H s E e' OC) s'
def vn{sc:Scope}{n:Nat}{x:Str}(h:sc.names.lookup x=some .cell):∃c,(cellsFrom n sc.names []).lookup x=some c:=by
 have q:=X3 sc.names n [] (.inl h);exact Uz.mp q
def Ba{CX:AG}{P:To}{w:World}{K:SN}{mg:Str->Option Value}{base:Heap}{N ps:List Str}{qual:Str}{scope:Scope}{f:Addr}{cd:Value}{A:T9}{outer:List Env}{s s1:SS}{H:Hp}{E:XK}{us:List Value}{vs:List V}
 (S:FnScope N ps scope)(hd:A.handled=none)(e0:Env0 P w K mg base A outer s H)(hl:vs.length=ps.length)(r:Vals vs us)
 (x:InCallC s s.heap.objs.size (bindL (Vx qual scope s.heap.objs.size f cd).kindOf (ps.zip us) λ_=>none) (cellsFrom (s.heap.objs.size+1) scope.names []) (bindC (Vx qual scope s.heap.objs.size f cd).kindOf (ps.zip us) λ_=>none) s1):
 Inv (eT CX P w K mg base N qual scope f cd A outer s H E) [] (start N vs) H s1:=by
 have iY:ps.length<=N.length:=by have:=Zd List.length S.pre;rw[Vh] at this;omega
 obtain⟨h1,tk,rfl,hk⟩:=x.done;have LO:∀b:Addr,b∉(eT CX P w K mg base N qual scope f cd A outer s H E).ex:=λb z=>Y9 (show b∈([]:List Addr) from z) (by simp);refine⟨⟨e0.mod,S.kind,rfl,rfl,SW _,λy z c h1 h2=>?_,λy hy=>?_,λy c _ h=>?_,λ_=>hd,Around.frames_deeper e0.frames, .inr ⟨rfl,rfl⟩,λb z=>Y9 z (LO b),e0.bs,e0.bsz,λb _ _=>LO b,λb z=>Y9 z (LO b),e0.funs,e0.frf⟩,
  rfl,e0.bare,Un.kept hk,⟨_,x.toInCall.ns,λi y v h1 h2 h3=>?_⟩,λy c h=>⟨_,x.cell y c h⟩,e0.hok.fresh (SW _),λy c h=>?_,λp hp=>Y9 (show p∈([]:List (Addr×Obj)) from hp) (by simp),e0.hok.kept hk,?_⟩
 ·exact name_of_addr x.apart (UH h1) (UH h2)
 ·have hy:scope.names.lookup y=some .cell\/scope.names.lookup y=some .free:=hy;rcases hy with hy | hy
  ·exact vn hy
  ·exact Y9 rfl (S.nofree _ (UH hy))
 ·exact Va (x.above y c (UH h))
 ·have hi:i<vs.length:=by
   unfold start at h2;by_cases hi:i<vs.length
   ·exact hi
   ·rw[Ti (by simpa using hi)] at h2;rw[T_] at h2;split at h2<;>cases h2
  have ha:vs[i]? =some v:=by
   unfold start at h2;rw[S_ (by simpa using hi),S2] at h2;cases e:vs[i]? with
   |none=>rw[e] at h2;cases h2
   |some a=>rw[e] at h2;cases h2;rfl
  obtain⟨u,hu,rv⟩:=r.get ha;have hp:ps[i]? =some y:=by
   rw[<-S.pre,List.getElem?_take_of_lt (by omega)];exact h1
  have MZ:ps.Nodup:=by rw[<-S.pre];exact S.nd.sublist (List.take_sublist _ _)
  refine⟨u,rv,?_⟩;rcases S.par y (Th hp) with k | k
  ·exact .inl ⟨k,rA MZ hp hu k⟩
  ·obtain⟨c,e⟩:=vn (n:=s.heap.objs.size+1) k;refine .inr ⟨.inl k,c,e,?_⟩;have q:=x.cell y c e;rw[rp MZ hp hu (by show scope.names.lookup y≠_;rw[k];decide)] at q;exact q
 ·exact e0.hok.fresh (Va (x.above y c (UH h)))
 ·unfold start;show _=N.length;rw[S1,SI,U7];omega
def rQ{CX:AG}{P:To}{w:World}{K:SN}{mg:Str->Option Value}{base:Heap}{k:Nat}{f:Addr}{name qual:Str}{params:Arguments}{body:List Stmt}{scope:Scope}{dV kV doc pm cP ct oc:Value}{an od:Option Addr}
 {BB:Array (Option Value)}{N ps:List Str}{sp:Sp}(lk:K.lookup f=some ⟨oc,od, .func (TR name qual params body scope dV kV doc pm an cP ct),BB⟩)(rS:UB K cP qual=true)(S:FnScope N ps scope)
 (len:∀vs H Q E,sp vs H Q E->vs.length=ps.length)
 (c6:∀(A:T9) (outer:List Env) (s:SS) (H:Hp) (vs:List V) (Q:VK) (E:XK),Room k (A.deeper (Vx qual scope s.heap.objs.size f cP))->sp vs H Q E->
  ∃t,PSs (eT CX P w K mg base N qual scope f cP A outer s H E) body t/\t {nx:=λ_ H'=>Q .non H',rt:=Q} (start N vs) H):
 FnOk P w K mg base CX (k+1) f (TR name qual params body scope dV kV doc pm an cP ct) ps sp:=by
 refine⟨len,λA outer s H args us vs Q E hr e0 hb r xA=>?_⟩;intro tk;have hl:=len _ _ _ _ xA;have KX:K.In s.heap:=e0.mod.kin.keeps λb o e=>(e0.bs b o e).1;have lim:s.heap.NoLimit:=e0.mod.nolimit.keeps λb o e=>(e0.bs b o e).1;have Ld:∀y∈ps.zip us,scope.names.lookup y.1=some .local\/(scope.names.lookup y.1=some .cell/\((cellsFrom (s.heap.objs.size+1) scope.names []).lookup y.1).isSome=true):=λ⟨n,v⟩ hy=>by
  rcases S.par n (XD hy).1 with q | q
  ·exact .inl q
  ·exact .inr ⟨q,X3 _ _ _ (.inl q)⟩
 refine codeAny_call_function hr.depth (KX _ _ lk) rfl S.co S.gen rfl (PySem.W.codeRec_of KX rS) (hb _ _ _ _ ?_);refine wpAny_with_toks (SW s.toks) (wpAny_newFunctionEnv_cells S.kind Ld λenv he s1 x hk=>?_);subst he
 haveI:Up s s1:=⟨hk⟩
 refine⟨lim.keeps x.toInCall.keep,codeAny_func ?_⟩;obtain⟨t,ht,hq⟩:=c6 A outer s H vs Q E (hr.deeper _) xA;have I:Inv (eT CX P w K mg base N qual scope f cP A outer s H E) [] (start N vs) H s1:=Ba S hr.hd e0 hl r x;refine Ux (ht [] s1 (start N vs) H _ I hq) (λfl s' hs=>?_) λe s' hs=>hs;have fin:∀{σ':St}{H':Hp}{v:V}{u:Value},Inv (eT CX P w K mg base N qual scope f cP A outer s H E) [] σ' H' s'->RelV v u->Q v H'->CE outer P w H s Q u s':=
  λ{σ' H' v u} J rv q=>⟨v,H',J.os,J.bare,J.base,J.hok,rv,q⟩
 cases fl with
 |ret u=>
  obtain⟨v,σ',H',J,rv,q⟩:=hs;exact fin J rv q
 |next=>
  obtain⟨σ',H',J,q⟩:=hs;exact fin (v:=V.non) (u:=Uy) J rfl q
 |brk=>
  obtain⟨_,_,_,q⟩:=hs;exact UE q
 |cont=>
  obtain⟨_,_,_,q⟩:=hs;exact UE q
section
variable{X:Cx}{x:Str}{p pos:Pos}{e:Expr}{es:List Expr}{t:TA}{id T:String}{r:List V->Hp->VK->Prop}
def OJ(r:List V->Hp->VK->Prop)(t:TA):TE:=λσ H Q=>t σ H λvs H1=>r vs H1 Q
def D2(hc:CallR X (.builtin id) r)(hg:Gl X x)(hm:X.mg x=none)(hv:T4 x=some (.builtin id))(ha:PA X (e::es) t)(hn:x≠"__name__":=by decide)(ma:(x==("__debug__":Str))=false:=by decide)
 (he:SX (e::es) X.env=(false,eval e X.env)::SX es X.env:=by rfl)(iY:(Uv pos (SX es X.env)).any (·.1)=false:=by rfl):PE X (.Call (.Name x p) (e::es) [] pos) (OJ r t):=by
 intro f8 s σ H Q I h;refine We (pH I hg hm hv ?_ hn ma);exact PyProof.Rows.callWith_builtin1 (bY (ha pos f8 s σ H _ I h) λus s1 ⟨vs,H1,I1,r1,q1⟩=>hc f8 s1 σ H1 vs us Q I1 r1 q1) he iY
def BH(hc:CallR X (.type T) r)(hg:Gl X x)(hm:X.mg x=none)(hv:T4 x=some (.type T))(ha:PA X (e::es) t)(hn:x≠"__name__":=by decide)(ma:(x==("__debug__":Str))=false:=by decide)
 (he:SX (e::es) X.env=(false,eval e X.env)::SX es X.env:=by rfl)(iY:(Uv pos (SX es X.env)).any (·.1)=false:=by rfl):PE X (.Call (.Name x p) (e::es) [] pos) (OJ r t):=by
 intro f8 s σ H Q I h;refine We (pH I hg hm hv ?_ hn ma);exact Vs (bY (ha pos f8 s σ H _ I h) λus s1 ⟨vs,H1,I1,r1,q1⟩=>hc f8 s1 σ H1 vs us Q I1 r1 q1) he iY
end
end L2
namespace HT
open PySem PyProof.Rows
section
variable{prog:To}{w:World}{A:T9}{E:Value->SS->Prop}{s:SS}
def cat_tup{t b:Addr}{vs ws:List Value}{Q:Value->SS->Prop}(ht:IsTup s.heap t vs.toArray)(hb:IsTup s.heap b ws.toArray)(hv:vs≠[])
 (h1:ws=[]->Q (.ref t) s)(h2:ws≠[]->Q (.ref s.heap.objs.size) {s with heap:=s.heap.push {cls:= .type "tuple",data:= .seq (vs++ws).toArray} })
 (hsz:vs.length+ws.length<=S9):wpAny (model prog w) A (VU .Add (.ref t) (.ref b)) Q E s:=by
 obtain⟨⟨cls,dd,data,sl⟩,ho,hc,n,hd⟩:=id ht;obtain⟨⟨Nu,Ft,data2,M9⟩,FK,HG,n2,hd2⟩:=id hb;simp only at hc hd HG hd2;subst hc hd HG hd2;have e:vs.toArray++ws.toArray=(vs++ws).toArray:=by simp
 by_cases hw:ws=[]
 ·exact concat_meets ⟨_,ho,rfl⟩ ⟨_,FK,rfl⟩ X9 YL Wc V7 (VW _ _)
   (tuple_addW1 t b vs.toArray ws.toArray n n2 dd Ft sl M9 (by simpa using hv) (by simp[hw])) ⟨ho,FK,h1 hw⟩
 ·refine concat_meets ⟨_,ho,rfl⟩ ⟨_,FK,rfl⟩ X9 YL Wc V7 (VW _ _)
   (tuple_addW2 t b vs.toArray ws.toArray n n2 dd Ft sl M9 (by simpa using hv) (by simpa using hw) (by rw[SV,SV];exact hsz)) ⟨ho,FK,?_⟩
  rw[e];exact h2 hw
def sIx(n d:Nat):Option Int->Nat
 |none=>d
 |some v=>if v<0 then(v+(n:Int)).toNat else min v.toNat n
def sIx_nat(n d k:Nat):sIx n d (some (k:Int))=min k n:=by
 show (if (k:Int)<0 then((k:Int)+(n:Int)).toNat else min (k:Int).toNat n)=min k n;rw[Y7 (by omega),Xi]
def sIx_le(n d:Nat)(hd:d<=n)(o:Option Int):sIx n d o<=n:=by
 cases o with
 |none=>exact hd
 |some v=>
  show (if v<0 then(v+(n:Int)).toNat else min v.toNat n)<=n;by_cases hv:v<0
  ·rw[Y6 hv];omega
  ·rw[Y7 hv];exact Nat.min_le_right _ _
def clip_eq(v:Int)(n d:Nat):(if v<0 then max (v+(n:Int)) 0 else min v (n:Int))=((sIx n d (some v):Nat):Int):=by
 show (if v<0 then max (v+(n:Int)) 0 else min v (n:Int))=(((if v<0 then(v+(n:Int)).toNat else min v.toNat n):Nat):Int)
 by_cases hv:v<0
 ·simp only[Y6 hv];omega
 ·simp only[Y7 hv];omega
def adjust_gen(lo hi:Option Int)(n:Nat):UI lo hi 1 (n:Int)=(((sIx n 0 lo:Nat):Int),((sIx n n hi:Nat):Int)):=by
 have h1:¬((1:Int)<0):=by omega
 unfold UI;simp only[h1,if_false];refine W4 ?_ ?_
 ·cases lo with
  |none=>rfl
  |some v=>exact clip_eq v n 0
 ·cases hi with
  |none=>rfl
  |some v=>exact clip_eq v n n
def places_gen(i j:Nat):TU (i:Int) (j:Int) 1=j - i:=by
 unfold TU;have h1:(1:Int)>0:=by omega
 simp only[h1,if_true,Int.ediv_one];split<;>omega
def slicePart_{v:Value}{o:Option Int}{Q:Option Int->SS->Prop}(p:X5 v o)(h:Q o s):wpAny (model prog w) A (Builtin.Slice.slicePartIndex v) Q E s:=by
 cases p with
 |none=>exact Xb h
 |int i t=>exact slicePart_int h
def sliceApplied_gen{sl:Addr}{vl vu:Value}{lo hi:Option Int}{n:Nat}{Q:Int×Int×Nat->SS->Prop}(hs:s.heap.IsSliceOf sl vl vu .none)(pl:X5 vl lo)(pu:X5 vu hi)
 (h:Q (((sIx n 0 lo:Nat):Int),1,sIx n n hi - sIx n 0 lo) s):wpAny (model prog w) A (U1 (.ref sl) (pure (n:Int))) Q E s:=by
 obtain⟨os,vM,E9,A8⟩:=id hs;unfold U1 W0;refine SH (SH (Wx vM A8 (x:=vl) rfl (SH (Wx vM A8 (x:=vu) rfl (SH (Wx vM A8 (x:= .none) rfl (SQ ?_)))))));refine SH (Xb ?_);show wpAny _ _ (if ((1:Int)==0)=true then _ else _) _ _ s;rw[Y7 (by decide)];refine SH (slicePart_ pl (SH (slicePart_ pu (SH (SQ ?_)))));show wpAny _ _ (match UI lo hi 1 (n:Int) with | (lo,hi)=>pure (lo,(1:Int),TU lo hi 1)) _ _ s;rw[adjust_gen lo hi n];show wpAny _ _ (pure (((sIx n 0 lo:Nat):Int),(1:Int),TU ((sIx n 0 lo:Nat):Int) ((sIx n n hi:Nat):Int) 1)) _ _ s;rw[places_gen];exact SQ h
def pick_gen(xs:Array Value)(i k:Nat):((S5 k).filterMap λ(m:Nat)=>xs[((i:Int)+(m:Int)*1).toNat]?).toArray=((xs.toList.drop i).take k).toArray:=by
 have e:(λ(m:Nat)=>xs[((i:Int)+(m:Int)*1).toNat]?)=λm=>xs[i+m]? :=by
  funext m;have:((i:Int)+(m:Int)*1).toNat=i+m:=by omega
  rw[this]
 rw[e];have:=pick_run xs i k;rw[YW] at this;have e2:((λx=>xs[x]?)∘λx=>i+x)=λm=>xs[i+m]? :=rfl;rw[e2] at this;rw[this]
def getItem_tuple_cut{t sl:Addr}{items:Array Value}{vl vu:Value}{lo hi:Option Int}{Q:Value->SS->Prop}(ht:IsTup s.heap t items)(hs:s.heap.IsSliceOf sl vl vu .none)(pl:X5 vl lo)(pu:X5 vu hi)
 (hw:¬(sIx items.size 0 lo=0/\sIx items.size items.size hi=items.size))
 (h:Q (.ref s.heap.objs.size) {s with heap:=s.heap.push {cls:= .type "tuple",data:= .seq ((items.toList.drop (sIx items.size 0 lo)).take (sIx items.size items.size hi - sIx items.size 0 lo)).toArray} })
 (hsz:items.size<=S9):wpAny (model prog w) A (WV (.ref t) (.ref sl)) Q E s:=by
 have zO:sizeOk (.seq ((items.toList.drop (sIx items.size 0 lo)).take (sIx items.size items.size hi - sIx items.size 0 lo)).toArray):=by
  show ((items.toList.drop (sIx items.size 0 lo)).take (sIx items.size items.size hi - sIx items.size 0 lo)).toArray.size<=S9;rw[SV,Vh,Xl,Td];omega
 have hj:sIx items.size items.size hi<=items.size:=sIx_le _ _ (SW _) hi;obtain⟨os,vM,E9,A8⟩:=id hs;have K4:s.TypeIs (.ref sl) "slice":=⟨os,vM,E9⟩
 unfold WV
 try with_reducible refine Vg ?_
 first | refine SH (SQ ?_) | skip
 refine SH (XN ht.typeIs (by decide) ?_);refine SH (U4 (name:=S3 "__getitem__") ht.typeIs T5
  (UP T5 ht.typeIs Xe ?_ (Xs _ _)))
 show wpAny _ _ (Vy (.ref t)>>=_) _ _ s;refine SH (YJ ht ?_);refine SH (WR K4 ?_);rw[Y6 (by decide)];refine SH (sliceApplied_gen hs pl pu ?_);have qZ:¬((((sIx items.size 0 lo:Nat):Int)==0&&(1:Int)==1&&(sIx items.size items.size hi - sIx items.size 0 lo)==items.size)=true):=by
  intro q;rw[Tp,Tp] at q;have q1:((sIx items.size 0 lo:Nat):Int)=0:=eq_of_beq q.1.1;have q2:sIx items.size items.size hi - sIx items.size 0 lo=items.size:=eq_of_beq q.2;exact hw ⟨by omega,by omega⟩
 show wpAny _ _ (if (((sIx items.size 0 lo:Nat):Int)==0&&(1:Int)==1&&(sIx items.size items.size hi - sIx items.size 0 lo)==items.size)=true then _ else _) _ _ s;rw[Y7 qZ,pick_gen]
 first
  |exact SH (m:=T2 _) (T3 (SQ ⟨_,rfl,SQ h⟩) zO)
  |exact SH (m:=T2 _) (T3 (SH (SQ (SQ ⟨_,rfl,SQ h⟩))) zO)
  |exact SH (SH (m:=T2 _) (T3 (SQ (SQ ⟨_,rfl,SQ h⟩)) zO))
  |exact SH (SH (m:=T2 _) (T3 (SQ ⟨_,rfl,SQ h⟩) zO))
end
end HT
namespace L2
open PySem PySem.Spec PyProof.Rows
abbrev TO:=St->Hp->(Option Int->Hp->Prop)->Prop
def PO(X:Cx)(e:Option Expr)(t:TO):Prop:=
 ∀(f8:List (Addr×Obj)) (s:SS) (σ:St) (H:Hp) (Q:Option Int->Hp->Prop),Inv X f8 σ H s->t σ H Q->
  ∀[Tk s],wpAny (model X.prog X.w) X.A (evalPart e X.env) (λu s'=>∃o H',Inv X f8 σ H' s'/\X5 u o/\Q o H') X.xe s
def Hd:TO:=λ_ H Q=>Q none H
def Mv(t:TE):TO:=λσ H Q=>t σ H λx H1=>∃i,x= .int i/\Q (some i) H1
def intsAre_of{ns:List Int}:∀{us:List Value},Vals (ns.map V.int) us->V9 us ns:=by
 induction ns with
 |nil=>intro us r;rw[Vk] at r;cases r;exact .nil
 |cons n ns ih=>
  intro us r;rw[SU] at r;cases r with
  |cons r1 r2=>
   obtain⟨t,e⟩:=r1;subst e;exact .cons n t (ih r2)
section
variable{X:Cx}{e:Expr}{te:TE}{lo hi:Option Expr}{tl th:TO}{pos p2:Pos}
def GG:PO X none Hd:=by
 intro f8 s σ H Q I h;rw[YN];exact SQ ⟨none,H,I, .none,h⟩
def GH(h:PE X e te):PO X (some e) (Mv te):=by
 intro f8 s σ H Q I hw;rw[evalPart_some];refine bY (h f8 s σ H _ I hw) λu s1 ⟨x,H1,I1,r1,q1⟩=>?_;obtain⟨i,rfl,q⟩:=q1;obtain⟨t,rfl⟩:=r1;exact⟨some i,H1,I1, .int i t,q⟩
def SlR(X:Cx)(r:V->Option Int->Option Int->Hp->VK->Prop):Prop:=
 ∀(f8:List (Addr×Obj)) (s:SS) (σ:St) (H:Hp) (x:V) (v vl vu:Value) (lo hi:Option Int) (sl:Addr) (Q:VK),Inv X f8 σ H s->RelV x v->s.heap.IsSliceOf sl vl vu .none->X5 vl lo->X5 vu hi->r x lo hi H Q->
  ∃T id,typeLookup (.type T) "__getitem__"=pure (some (.builtin id))/\s.TypeIs v T/\wpAny (model X.prog X.w) X.A (WV v (.ref sl)) (EP X f8 σ Q) X.xe s
def SlR.or{r r':V->Option Int->Option Int->Hp->VK->Prop}(h:SlR X r)(h':SlR X r'):SlR X (λx lo hi H Q=>r x lo hi H Q\/r' x lo hi H Q):=by
 intro f8 s σ H x v vl vu lo hi sl Q I rx hs pl pu q;rcases q with q | q
 ·exact h f8 s σ H x v vl vu lo hi sl Q I rx hs pl pu q
 ·exact h' f8 s σ H x v vl vu lo hi sl Q I rx hs pl pu q
def R9(r:V->Option Int->Option Int->Hp->VK->Prop)(te:TE)(tl th:TO):TE:=λσ H Q=>te σ H λx H1=>tl σ H1 λl H2=>th σ H2 λu H3=>r x l u H3 Q
def D9{r:V->Option Int->Option Int->Hp->VK->Prop}(hr:SlR X r)(he:PE X e te)(hl:PO X lo tl)(hu:PO X hi th):PE X (.Subscript e (.Slice lo hi none p2) pos) (R9 r te tl th):=by
 intro f8 s σ H Q I h;refine Subscript_ (bY (he f8 s σ H _ I h) λv s1 ⟨x,H1,I1,r1,q1⟩=>?_);refine wpAny_Slice (bY (hl f8 s1 σ H1 _ I1 q1) λvl s2 ⟨l,H2,I2,pl,q2⟩=>bY (hu f8 s2 σ H2 _ I2 q2) λvu s3 ⟨u,H3,I3,pu,q3⟩=>?_);rw[YN];refine SQ ?_;have I4:Inv X f8 σ H3 {s3 with heap:=s3.heap.push {cls:= .type "slice",data:= .fields #[vl,vu, .none]} }:=I3.kept (t':=s3.toks) λb ob q=>SR _ q;obtain⟨T,id,hT,ht,hg⟩:=hr f8 {s3 with heap:=s3.heap.push {cls:= .type "slice",data:= .fields #[vl,vu, .none]} } σ H3 x v vl vu l u s3.heap.objs.size Q I4 r1 (Xz ..) pl pu q3;show wpAny (model X.prog X.w) X.A (YK e (.Slice lo hi none p2) v (.ref s3.heap.objs.size)) (EP X f8 σ Q) X.xe {s3 with heap:=s3.heap.push {cls:= .type "slice",data:= .fields #[vl,vu, .none]} };exact tail_any (ops:=[.ref s3.heap.objs.size,v]) ht hT hg (by with_unfolding_all rfl)
def vw(xs:List V)(lo hi:Option Int):List V:=(xs.drop (HT.sIx xs.length 0 lo)).take (HT.sIx xs.length xs.length hi - HT.sIx xs.length 0 lo)
def mS(xs:List V)(lo hi:Option Int):(vw xs lo hi).length<=xs.length:=by
 unfold vw;rw[Vh,Xl];omega
def OB(K:SN):V->Option Int->Option Int->Hp->VK->Prop:=λx lo hi H Q=>∃a xs,x= .ref a/\SqT K H a xs/\
 ¬(HT.sIx xs.length 0 lo=0/\HT.sIx xs.length xs.length hi=xs.length)/\∀p,H p=none->Q (.ref p) (upd H p (.tup (vw xs lo hi)))
def J6:SlR X (OB X.K):=by
 intro f8 s σ H x v vl vu lo hi sl Q I rx hs pl pu h;obtain⟨a,xs,rfl,hx,hw,q⟩:=h;cases rx;obtain⟨aM,r,ht,hz⟩:=I.tuple hx;have M2:aM.toArray.size=xs.length:=by rw[SV];exact r.length.symm
 refine⟨"tuple",_,PyProof.Rows.slot_tuple_getitem.lookup,ht.typeIs,?_⟩;refine HT.getItem_tuple_cut ht hs pl pu (by rw[M2];exact hw) ?_ (by rw[M2];exact hz);rw[M2];refine⟨.ref s.heap.objs.size,_,I.laid (t':=s.toks) (o:= .tup (vw xs lo hi)) (λb ob q=>SR _ q) (SW _) ?_,rfl,q _ (I.hok.fresh (SW _))⟩;exact⟨Tn (mS xs lo hi) hz,_,(r.drop (HT.sIx xs.length 0 lo)).take (HT.sIx xs.length xs.length hi - HT.sIx xs.length 0 lo),IsTup.new _ _⟩
def L9(K:SN):R2:=λx y H Q=>∃a b xs ys,x= .ref a/\y= .ref b/\SqT K H a xs/\SqT K H b ys/\xs≠[]/\xs.length+ys.length<=S9/\
 (ys=[]->Q (.ref a) H)/\(ys≠[]->∀p,H p=none->Q (.ref p) (upd H p (.tup (xs++ys))))
def Vals.nil_iff{xs:List V}{us:List Value}(r:Vals xs us):us=[]↔xs=[]:=by
 cases r with
 |nil=>simp
 |cons _ _=>simp
def Gf:OpR X (VU .Add) (L9 X.K):=by
 intro f8 s σ H x y v u Q I rx ry h;obtain⟨a,b,xs,ys,rfl,rfl,ha,hb,hx,hz,q1,q2⟩:=h;cases rx;cases ry;obtain⟨aM,r1,p1,_⟩:=I.tuple ha;obtain⟨gK,r2,p2,_⟩:=I.tuple hb;refine HT.cat_tup p1 p2 (λz=>hx (r1.nil_iff.mp z)) (λz=>⟨.ref a,H,I,rfl,q1 (r2.nil_iff.mp z)⟩) (λz=>?_) (by rw[<-r1.length,<-r2.length];exact hz);refine⟨.ref s.heap.objs.size,_,I.laid (t':=s.toks) (o:= .tup (xs++ys)) (λb ob q=>SR _ q) (SW _) ?_,rfl,q2 (λw=>z (r2.nil_iff.mpr w)) _ (I.hok.fresh (SW _))⟩;exact⟨by rw[S1];exact hz,_,r1.append r2,IsTup.new _ _⟩
end
def Fc(n:Nat)(i:Int):Option Nat:=if 0<=i then(if i<n then some i.toNat else none) else if -(n:Int)<=i then some (i+n).toNat else none
def atI{α:Type}(xs:List α)(i:Int):Option α:=(Fc xs.length i).bind λj=>xs[j]?
def FW{n:Nat}{i:Int}{j:Nat}(h:Fc n i=some j):seqIndex? i n=some j/\j<n/\ -(n:Int)<=i/\i<n:=by
 unfold Fc at h;by_cases h0:0<=i
 ·rw[Y6 h0] at h;by_cases h1:i<n
  ·rw[Y6 h1] at h;have e:i.toNat=j:=Tr h;exact⟨by rw[seqIndex_of h0 h1,e],by omega,by omega,h1⟩
  ·rw[Y7 h1] at h;cases h
 ·rw[Y7 h0] at h;by_cases h1: -(n:Int)<=i
  ·rw[Y6 h1] at h;have e:(i+n).toNat=j:=Tr h;exact⟨by rw[seqIndex_neg (by omega) h1,e],by omega,h1,by omega⟩
  ·rw[Y7 h1] at h;cases h
def tp{α:Type}{xs:List α}{i:Int}{v:α}(h:atI xs i=some v):∃j,seqIndex? i xs.length=some j/\xs[j]? =some v/\j<xs.length/\ -(xs.length:Int)<=i/\i<xs.length:=by
 unfold atI at h;cases e:Fc xs.length i with
 |none=>rw[e] at h;cases h
 |some j=>
  rw[e] at h;obtain⟨h1,h2,h3,h4⟩:=FW e;exact⟨j,h1,h,h2,h3,h4⟩
def vc{α:Type}(xs:List α)(v:α):atI (xs++[v]) (-1)=some v:=by
 have hl:(xs++[v]).length=xs.length+1:=by simp
 have e:Fc (xs++[v]).length (-1)=some xs.length:=by
  unfold Fc;rw[hl,Y7 (by decide),Y6 (by omega)];congr 1;omega
 unfold atI;rw[e];show (xs++[v])[xs.length]? =some v;simp
def g6(b:Expr):Prop:=∀o i,subscripted b false o i=operate [o,i] (WV o i)
def Kw(X:Cx)(r:R2):Prop:=
 ∀(value slice:Expr) (f8:List (Addr×Obj)) (s:SS) (σ:St) (H:Hp) (x y:V) (v u:Value) (Q:VK),Inv X f8 σ H s->RelV x v->RelV y u->r x y H Q->
  subscripted slice false v u=operate [v,u] (WV v u)->wpAny (model X.prog X.w) X.A (YK value slice v u) (EP X f8 σ Q) X.xe s
def Ke(X:Cx)(id:String)(r:V->List V->Hp->VK->Prop):Prop:=
 ∀(f8:List (Addr×Obj)) (s:SS) (σ:St) (H:Hp) (x:V) (xs:List V) (v:Value) (us:List Value) (Q:VK),Inv X f8 σ H s->RelV x v->Vals xs us->r x xs H Q->
  wpAny (model X.prog X.w) X.A (call (.builtin id) (v::us)) (EP X f8 σ Q) X.xe s
section
variable{X:Cx}{a b:Expr}{ta tb:TE}{pos:Pos}
def H8{r:R2}(hr:Kw X r)(ha:PE X a ta)(hb:PE X b tb)(hs:g6 b):PE X (.Subscript a b pos) (Mu r ta tb):=by
 intro f8 s σ H Q I h;exact Subscript_ (Ip ha hb I h λv u s2 x y H2 I2 rx ry q=>hr a b f8 s2 σ H2 x y v u Q I2 rx ry q (hs _ _))
def JY(K:SN):R2:=λx y H Q=>∃p xs i v,x= .ref p/\y= .int i/\SqL K H p xs/\atI xs i=some v/\Q v H
def Mc(K:SN):R2:=λx y H Q=>∃p xs i v,x= .ref p/\y= .int i/\SqT K H p xs/\atI xs i=some v/\Q v H
def Mb:R2:=λx y H Q=>∃z i c,x= .str z/\y= .int i/\z.length<=S9/\atI z.cps.toList i=some c/\Q (.str ⟨#[c]⟩) H
def tZ:Kw X (JY X.K):=by
 intro value slice f8 s σ H x y v u Q I rx ry h hs;obtain⟨p,xs,i,z,rfl,rfl,hq,he,q⟩:=h;cases rx;obtain⟨t,rfl⟩:=ry;obtain⟨aM,r,pl,hz⟩:=I.list hq;obtain⟨j,h1,h2,h3,h4,h5⟩:=tp he;obtain⟨w,ew,Kp⟩:=r.get h2;have hl:=r.length;have hn:=mi;have fin:EP X f8 σ Q w s:=⟨z,H,I,Kp,q⟩
 by_cases h0:0<=i
 ·have hj:i.toNat=j:=by
   rw[seqIndex_of h0 h5] at h1;exact Tr h1
  exact item_listR pl.isList h0 (by omega) (by rw[hj];simpa using ew) fin hs
 ·have hj:(i+(aM.toArray.size:Int)).toNat=j:=by
   rw[seqIndex_neg (by omega) h4] at h1;rw[SV,<-hl];exact Tr h1
  exact YZ (x:=w) pl.isList.typeIs slot_list_getitem.lookup
   (wpAny_getItem_list_neg (Q:=λr s'=>r=w/\EP X f8 σ Q r s') pl.isList (by omega) (by rw[SV]<;>omega) (by omega) (by rw[hj];simpa using ew) ⟨rfl,fin⟩) hs
def Jh:Kw X (Mc X.K):=by
 intro value slice f8 s σ H x y v u Q I rx ry h hs;obtain⟨p,xs,i,z,rfl,rfl,hq,he,q⟩:=h;cases rx;obtain⟨t,rfl⟩:=ry;obtain⟨aM,r,pl,hz⟩:=I.tuple hq;obtain⟨j,h1,h2,h3,h4,h5⟩:=tp he;obtain⟨w,ew,Kp⟩:=r.get h2;have hl:=r.length;have hn:=mi;have fin:EP X f8 σ Q w s:=⟨z,H,I,Kp,q⟩
 exact YZ (x:=w) pl.typeIs slot_tuple_getitem.lookup
  (getItem_tuple (j:=j) (Q:=λr s'=>r=w/\EP X f8 σ Q r s') pl (by omega) (by omega) (by rw[SV,<-hl];exact h1) (by simpa using ew) ⟨rfl,fin⟩) hs
def Jg:Kw X Mb:=by
 intro value slice f8 s σ H x y v u Q I rx ry h hs;obtain⟨z,i,c,rfl,rfl,hz,he,q⟩:=h;obtain⟨t,rfl⟩:=rx;obtain⟨t',rfl⟩:=ry;obtain⟨j,h1,h2,h3,h4,h5⟩:=tp he;have hl:z.cps.toList.length=z.length:=by simp[Str.length]
 rw[hl] at h1 h4 h5;have hn:=mi;exact tail_any (VE s z t) slot_str_getitem.lookup (getItem_str (c:=c) (by
  have e1:decide (i< -(2 ^ 63:Int))=false:=Y_ (by omega);have e2:decide (i>=2 ^ 63)=false:=Y_ (by omega);rw[e1,e2,Bool.or_false]) (by rw[h1];simpa using h2) ⟨.str ⟨#[c]⟩,H,I.tok _,⟨_,rfl⟩,q⟩) hs
theorem Inv.lst{f8:List (Addr×Obj)}{σ:St}{H:Hp}{s:SS}{p:Addr}{xs:List V}(I:Inv X f8 σ H s)(h:H p=some (.lst xs)):
 ∃(aM:List Value) (n:Nat),Vals xs aM/\s.heap.get? p=some {cls:= .type "list",data:= .seq aM.toArray n}/\xs.length<=S9:=by
 obtain⟨z,aM,n,r,e⟩:=I.hok p _ h;exact⟨aM,n,r,e,z⟩
def uU(lo hi:Option Int)(n:Nat):(V4 lo hi none n).1=((HT.sIx n 0 lo:Nat):Int)/\(V4 lo hi none n).2.1=((HT.sIx n n hi:Nat):Int)/\(V4 lo hi none n).2.2=1:=by
 refine⟨?_,?_,rfl⟩
 ·cases lo with
  |none=>simp[V4,HT.sIx]
  |some i=>
   simp only[V4,HT.sIx,YS,show (1:Int)>0 by decide,if_true];by_cases h:i<0
   ·simp only[h,if_true]<;>omega
   ·simp only[h,if_false]<;>omega
 ·cases hi with
  |none=>simp[V4,HT.sIx]
  |some i=>
   simp only[V4,HT.sIx,YS,show (1:Int)>0 by decide,if_true];by_cases h:i<0
   ·simp only[h,if_true]<;>omega
   ·simp only[h,if_false]<;>omega
def rm(aM:List Value)(lo hi:Option Int):slicePick aM.toArray lo hi none=((aM.drop (HT.sIx aM.length 0 lo)).take (HT.sIx aM.length aM.length hi - HT.sIx aM.length 0 lo)).toArray:=by
 obtain⟨h1,h2,h3⟩:=uU lo hi aM.toArray.size;unfold slicePick;rw[h1,h2,h3];simp only[sliceRange_one,pick_run,SV]<;>rfl
def OA(K:SN):V->Option Int->Option Int->Hp->VK->Prop:=λx lo hi H Q=>∃a xs,x= .ref a/\SqL K H a xs/\∀p,H p=none->Q (.ref p) (upd H p (.lst (vw xs lo hi)))
def G6:SlR X (OA X.K):=by
 intro f8 s σ H x v vl vu lo hi sl Q I rx hs pl pu h;obtain⟨a,xs,rfl,hx,q⟩:=h;cases rx;obtain⟨aM,r,ht,hz⟩:=I.list hx;have M2:=r.length;refine⟨"list",_,slot_list_getitem.lookup,ht.isList.typeIs,?_⟩;refine wpAny_getItem_list_slice ht.isList hs pl pu .none (by simp) ?_ (by rw[SV]<;>omega);rw[rm,<-M2];refine⟨.ref s.heap.objs.size,_,I.laid (t':=s.toks) (o:= .lst (vw xs lo hi)) (λb ob q=>SR _ q) (SW _) ?_,rfl,q _ (I.hok.fresh (SW _))⟩;exact⟨Tn (mS xs lo hi) hz,_,0,(r.drop (HT.sIx xs.length 0 lo)).take (HT.sIx xs.length xs.length hi - HT.sIx xs.length 0 lo),Ta _ rfl⟩
def mT:V->Bool
 | .non=>true
 | .bl _=>true
 | .int _=>true
 | .str _=>true
 |_=>false
def E6:V->V->Bool
 | .non, .non=>true
 | .bl a, .bl b=>a==b
 | .bl a, .int b=>(if a then 1 else 0)==b
 | .int a, .bl b=>a==(if b then 1 else 0)
 | .int a, .int b=>a==b
 | .str a, .str b=>a==b
 |_,_=>false
def Iz{A:T9}{s:SS}{y x:V}{u v:Value}(ry:RelV y u)(rx:RelV x v)(fy:mT y=true)(fx:mT x=true):SeqAt.EqAt A s u v (E6 y x):=by
 cases y with
 |non=>
  cases ry;cases x with
  |non=>cases rx;exact SeqAt.EqAt.same _
  |bl b=>cases rx;exact SeqAt.EqAt.none_bool b
  |int b=>obtain⟨t,rfl⟩:=rx;exact SeqAt.EqAt.none_int b t
  |str b=>obtain⟨t,rfl⟩:=rx;exact SeqAt.EqAt.none_str b t
  |_=>exact Y9 (show false=true from fx) Te
 |bl a=>
  cases ry;cases x with
  |non=>cases rx;exact SeqAt.EqAt.bool_none a
  |bl b=>cases rx;exact SeqAt.EqAt.bool_bool a b
  |int b=>obtain⟨t,rfl⟩:=rx;exact SeqAt.EqAt.bool_int a b t
  |str b=>obtain⟨t,rfl⟩:=rx;exact SeqAt.EqAt.bool_str a b t
  |_=>exact Y9 (show false=true from fx) Te
 |int a=>
  obtain⟨t',rfl⟩:=ry;cases x with
  |non=>cases rx;exact SeqAt.EqAt.int_none a t'
  |bl b=>cases rx;exact SeqAt.EqAt.int_bool a t' b
  |int b=>obtain⟨t,rfl⟩:=rx;exact SeqAt.EqAt.int_int a t' b t
  |str b=>obtain⟨t,rfl⟩:=rx;exact Yb a t' b t
  |_=>exact Y9 (show false=true from fx) Te
 |str a=>
  obtain⟨t',rfl⟩:=ry;cases x with
  |non=>cases rx;exact SeqAt.EqAt.str_none a t'
  |bl b=>cases rx;exact SeqAt.EqAt.str_bool a t' b
  |int b=>obtain⟨t,rfl⟩:=rx;exact X_ a t' b t
  |str b=>obtain⟨t,rfl⟩:=rx;exact SeqAt.EqAt.str_str a t' b t
  |_=>exact Y9 (show false=true from fx) Te
 |_=>exact Y9 (show false=true from fy) Te
def FA(x:V)(u:Value):Bool:=match u with
 | .none=>E6 .non x
 | .bool b=>E6 (.bl b) x
 | .int i _=>E6 (.int i) x
 | .str z _=>E6 (.str z) x
 |_=>false
def CH{x y:V}{u:Value}(r:RelV y u)(f:mT y=true):FA x u=E6 y x:=by
 cases y with
 |non=>cases r;rfl
 |bl b=>cases r;rfl
 |int i=>obtain⟨t,rfl⟩:=r;rfl
 |str z=>obtain⟨t,rfl⟩:=r;rfl
 |_=>exact Y9 (show false=true from f) Te
theorem tf{x:V}:∀{xs:List V}{us:List Value},Vals xs us->xs.all mT=true->us.any (FA x)=xs.any λy=>E6 y x
 |_,_, .nil,_=>rfl
 |y::xs,u::us, .cons r t,f=>by
  rw[VM,Tp] at f;rw[VL,VL,CH r f.1,tf t f.2]
theorem pN{A:T9}{s:SS}{x:V}{v:Value}(rx:RelV x v)(fx:mT x=true):∀{xs:List V}{us:List Value},Vals xs us->xs.all mT=true->∀u∈us,SeqAt.EqAt A s u v (FA x u)
 |_,_, .nil,_=>λu hu=>by cases hu
 |y::xs,u::us, .cons r t,f=>λu' hu=>by
  rw[VM,Tp] at f;rcases S6.mp hu with rfl | hu
  ·rw[CH r f.1];exact Iz r rx f.1 fx
  ·exact pN rx fx t f.2 u' hu
def MY(x:V)(xs:List V):Bool:=xs.any λy=>E6 y x
def Qc(K:SN)(neg:Bool):R2:=λx y H Q=>∃p xs,y= .ref p/\(SqL K H p xs\/SqT K H p xs)/\mT x=true/\xs.all mT=true/\Q (.bl (if neg then !MY x xs else MY x xs)) H
def uz:OpR X (Uc .NotIn) (Qc X.K true):=by
 intro f8 s σ H x y v u Q I rx ry h;obtain⟨p,xs,rfl,hq,fx,fs,q⟩:=h;cases ry;rcases hq with hq | hq
 ·obtain⟨aM,r,pl,hz⟩:=I.list hq;refine SeqAt.notIn_listAt (FA x) pl.isList (λw hw=>pN rx fx r fs w (by simpa using hw)) ⟨.bl _,H,I,rfl,?_⟩;rw[show aM.toArray.any (FA x)=aM.any (FA x) by simp,tf r fs];exact q
 ·obtain⟨aM,r,pl,hz⟩:=I.tuple hq;refine SeqAt.notIn_tupleAt (FA x) pl (λw hw=>pN rx fx r fs w (by simpa using hw)) ⟨.bl _,H,I,rfl,?_⟩;rw[show aM.toArray.any (FA x)=aM.any (FA x) by simp,tf r fs];exact q
def tE:CallR X (.builtin "len") (λxs H Q=>∃p ys,xs=[.ref p]/\(SqL X.K H p ys\/SqT X.K H p ys)/\Q (.int ys.length) H):=by
 intro f8 s σ H xs us Q I r h;obtain⟨p,ys,rfl,hq,q⟩:=h;obtain⟨u,rfl,rx⟩:=vals1 r;cases rx;have hn:=mi;rcases hq with hq | hq
 ·obtain⟨aM,r',pl,hz⟩:=I.list hq;have M2:=r'.length;exact Calls.call_len_list pl.isList (by simp only[SV]<;>omega) ⟨.int ys.length,H,I.tok _,⟨s.toks+1,by rw[SV,M2]⟩,q⟩
 ·obtain⟨aM,r',pl,hz⟩:=I.tuple hq;have M2:=r'.length;exact len_tuple pl (by simp only[SV]<;>omega) ⟨.int ys.length,H,I.tok _,⟨s.toks+1,by rw[SV,M2]⟩,q⟩
def tF:CallR X (.builtin "len") (λxs H Q=>∃z,xs=[.str z]/\z.length<=S9/\Q (.int z.length) H):=by
 intro f8 s σ H xs us Q I r h;obtain⟨z,rfl,hz,q⟩:=h;obtain⟨u,rfl,t,rfl⟩:=vals1 r;have hn:=mi;exact len_str (by omega) ⟨.int z.length,H,I.tok _,⟨_,rfl⟩,q⟩
def CallR.or{f:Value}{r r':List V->Hp->VK->Prop}(h:CallR X f r)(h':CallR X f r'):CallR X f (λxs H Q=>r xs H Q\/r' xs H Q):=by
 intro f8 s σ H xs us Q I rs q;rcases q with q | q
 ·exact h f8 s σ H xs us Q I rs q
 ·exact h' f8 s σ H xs us Q I rs q
def qW:CallR X (.type "tuple") (λxs H Q=>∃p ys,xs=[.ref p]/\((SqL X.K H p ys/\∀l,H l=none->Q (.ref l) (upd H l (.tup ys)))\/(SqT X.K H p ys/\Q (.ref p) H))):=by
 intro f8 s σ H xs us Q I r h;obtain⟨p,ys,rfl,h⟩:=h;obtain⟨u,rfl,rx⟩:=vals1 r;cases rx;rcases h with⟨hq,q⟩ | ⟨hq,q⟩
 ·obtain⟨aM,r',pl,hz⟩:=I.list hq;have M2:=r'.length;refine call_tuple_list pl.isList (λh' kp=>?_) (by simp only[SV]<;>omega);have I1:Inv X f8 σ H {s with heap:=h'}:=I.kept (t':=s.toks) kp;have I2:Inv X f8 σ (upd H h'.objs.size (.tup ys)) {s with heap:=h'.push {cls:= .type "tuple",data:= .seq aM.toArray} }:=
   I1.laid (t':=s.toks) (λb o e=>SR _ e) (SW _) (show ObjOk X.prog X.w _ _ _ (.tup ys) from⟨hz,aM,r',IsTup.new _ _⟩)
  exact⟨.ref h'.objs.size,_,I2,rfl,q _ (I1.hok.fresh (SW _))⟩
 ·obtain⟨aM,r',pl,hz⟩:=I.tuple hq;exact call_tuple_same pl ⟨.ref p,H,I,rfl,q⟩
def Mw(K:SN)(T:String)(x:V)(H:Hp):Prop:=match x with
 | .str _=>T="str"
 | .int _=>T="int"
 | .ref p=>(T="list"/\∃xs,SqL K H p xs)\/(T="tuple"/\∃o,K.lookup p=some o/\o.cls= .type "tuple"/\o.dict=none)\/
    (T="dict"/\((∃az,H p=some (.dK az))\/∃az,H p=some (.dT az)))\/(T="set"/\∃S n,H p=some (.set S n))
 |_=>False
def EW{f8:List (Addr×Obj)}{σ:St}{H:Hp}{s:SS}{T:String}{x:V}{v:Value}(I:Inv X f8 σ H s)(r:RelV x v)(ty:Mw X.K T x H):
 s.TypeIs v T/\∀a,v= .ref a->∃ob,s.heap.get? a=some ob/\ob.dict=none:=by
 cases x with
 |str z=>
  obtain⟨t,rfl⟩:=r;cases (show T="str" from ty);exact⟨VE s z t,λ_ e=>nomatch e⟩
 |int i=>
  obtain⟨t,rfl⟩:=r;cases (show T="int" from ty);exact⟨typeIs_int s i t,λ_ e=>nomatch e⟩
 |ref p=>
  cases r;rcases ty with⟨rfl,xs,hq⟩ | ⟨rfl,o,hk,hc,hd⟩ | ⟨rfl,hk⟩ | ⟨rfl,S,n,hk⟩
  ·obtain⟨aM,_,pl,_⟩:=I.list hq;refine⟨pl.isList.typeIs,λa e=>?_⟩;cases e;obtain⟨o,n,e,c,hd,_⟩:=pl;exact⟨o,e,hd⟩
  ·refine⟨⟨o,I.kIn p o hk,hc⟩,λa e=>?_⟩;cases e;exact⟨o,I.kIn _ o hk,hd⟩
  ·have z:∃o,s.heap.get? p=some o/\o.ExactDict:=by
    rcases hk with⟨az,hk⟩ | ⟨az,hk⟩
    ·obtain⟨_,_,_,_,o,_,_,e,ex,_⟩:=I.hok p _ hk;exact⟨o,e,ex⟩
    ·obtain⟨_,_,_,_,o,_,_,e,ex,_⟩:=I.hok p _ hk;exact⟨o,e,ex⟩
   obtain⟨o,e,ex⟩:=z;refine⟨⟨o,e,ex.1⟩,λa e2=>?_⟩;cases e2;exact⟨o,e,ex.2.1⟩
  ·obtain⟨o,_,_,_,e,ex,_⟩:=I.hok p _ hk;refine⟨⟨o,e,ex.1⟩,λa e2=>?_⟩;cases e2;exact⟨o,e,ex.2.1⟩
 |_=>exact UE ty
def OI(K:SN)(T:String)(r:V->List V->Hp->VK->Prop)(to:TE)(t:TA):TE:=λσ H Q=>to σ H λx H1=>Mw K T x H1/\t σ H1 λxs H2=>r x xs H2 Q
variable{o e:Expr}{es:List Expr}{to:TE}{t:TA}{name:Str}{v4 aU:Pos}{T id:String}{r:V->List V->Hp->VK->Prop}
def Ac(pa:PlainAttrs T)(slot:Slot T name id)(N9:typeOf (.builtin id)=pure (.type "method_descriptor"))(hm:Ke X id r)(ho:PE X o to)(ha:PA X (e::es) t)
 (dw:Ug o name X.env (eval o X.env)=eval o X.env:=by rfl)
 (gk:((Uv aU (SX (e::es) X.env)).all (λx=>!x.1)&&(UQ aU (Ub [] X.env)).all (λx=>x.1.isSome)
  &&decide ((e::es).length+([]:List UO).length+(if ([]:List UO).isEmpty then 0 else 1)<30))=true:=by rfl)
 (dz:(v4.endLine==aU.line)=true:=by rfl) (hs:SX (e::es) X.env=(false,eval e X.env)::SX es X.env:=by rfl) (yd:(Uv aU (SX es X.env)).any (·.1)=false:=by rfl):
 PE X (.Call (.Attribute o name v4) (e::es) [] aU) (OI X.K T r to t):=by
 intro f8 s σ H Q I h;refine YY dw gk dz rfl (bY (ho f8 s σ H _ I h) λv s1 ⟨x,H1,I1,r1,ty,q1⟩=>?_);obtain⟨h1,h2⟩:=EW I1 r1 ty;refine⟨T,id,pa,slot,N9,h1,h2,?_⟩;have hA:=ha aU f8 s1 σ H1 _ I1 q1;rw[hs] at hA⊢;refine Wk (by show (false||(Uv aU (SX es X.env)).any (·.1))=false;rw[yd]<;>rfl) (WI ?_);exact bY hA λus s2 ⟨vs,H2,I2,r2,q2⟩=>hm f8 s2 σ H2 x vs v us Q I2 r1 r2 q2
end
def O8(X:Cx)(id:String)(r:V->List V->Hp->VK->Prop):Prop:=
 ∀(f8:List (Addr×Obj)) (s:SS) (σ:St) (H:Hp) (x:V) (xs:List V) (v:Value) (us:List Value) (Q:VK),Inv X f8 σ H s->RelV x v->Vals xs us->r x xs H Q->
  wpAny (model X.prog X.w) X.A (call (.builtin id) (v::us)) (EP X f8 σ Q) X.xe s
def Vals.one:∀{x:V}{us:List Value},Vals [x] us->∃u,us=[u]/\RelV x u
 |_,_, .cons r .nil=>⟨_,rfl,r⟩
theorem Vals.reverse{xs:List V}{us:List Value}(h:Vals xs us):Vals xs.reverse us.reverse:=by
 induction h with
 |nil=>exact .nil
 |cons r t ih=>rw[Wa,Wa];exact Vals.append ih (.cons r .nil)
section
variable{X:Cx}{f8:List (Addr×Obj)}{σ:St}{H:Hp}{s:SS}{l:Addr}{xs ys:List V}
def Inv.lset{aM its':List Value}{n:Nat}{f:Array Value->Array Value}{t':Nat}(I:Inv X f8 σ H s)(hH:H l=some (.lst xs))
 (e:s.heap.get? l=some {cls:= .type "list",data:= .seq aM.toArray n})(hf:f aM.toArray=its'.toArray)(hv:Vals ys its')(hz:ys.length<=S9):
 Inv X f8 σ (upd H l (.lst ys)) {s with heap:=s.heap.update l (U2 f),toks:=t'}:=by
 have q:=PySem.IsL.update e f;rw[hf] at q;refine I.write (x:=l) (e:=l) (by rw[hH];exact trivial) (.inl rfl) (λb' u hb hu=>(Heap.get?_update_other s.heap (U2 f) (UW hb)).trans hu) ⟨_,q⟩ ?_;exact⟨hz,its',_,hv,q⟩
def Inv.lnew{aM:List Value}{t':Nat}(I:Inv X f8 σ H s)(hv:Vals ys aM)(hz:ys.length<=S9):
 Inv X f8 σ (upd H s.heap.objs.size (.lst ys)) {s with heap:=s.heap.push {cls:= .type "list",data:= .seq aM.toArray},toks:=t'}:=
 I.laid (λ_ _ q=>SR _ q) (SW _) ⟨hz,aM,0,hv,Ta _ rfl⟩
theorem Inv.fresh(I:Inv X f8 σ H s):H s.heap.objs.size=none:=I.hok.fresh (SW _)
def Inv.lstM(I:Inv X f8 σ H s)(hH:H l=some (.lst xs)):xs.length<=S9/\∃(aM:List Value) (n:Nat),Vals xs aM/\xs.length=aM.length/\s.heap.get? l=some {cls:= .type "list",data:= .seq aM.toArray n}:=by
 obtain⟨z,aM,n,r,e⟩:=I.hok l _ hH;exact⟨z,aM,n,r,r.length,e⟩
def Dy{n:Nat}(h:n<=S9):VN n=false:=by
 unfold VN;exact Y_ (by omega)
end
section
variable{X:Cx}
def Al:V->List V->Hp->VK->Prop:=λx vs H Q=>∃l xs y,x= .ref l/\vs=[y]/\H l=some (.lst xs)/\xs.length<S9/\Q .non (upd H l (.lst (xs++[y])))
def mj:O8 X "list.append" Al:=by
 intro f8 s σ H x vs v us Q I rx rv h;obtain⟨l,xs,y,rfl,rfl,hH,hz,q⟩:=h;cases rx;obtain⟨u,rfl,ru⟩:=rv.one;obtain⟨z,aM,n,r,hl,e⟩:=I.lstM hH;refine call_meets F.slot_list_append ⟨_,e,rfl⟩ F.entry_list_append (F.args_list_append_2 _ _) (PySem.list_append l aM.toArray n u (by rw[SV];omega)) ⟨e,?_⟩;refine⟨.non,_,I.lset (its':=aM++[u]) hH e (by simp) (r.append (.cons ru .nil)) ?_,rfl,q⟩;rw[S1,List.length_singleton];omega
def Am:V->List V->Hp->VK->Prop:=λx vs H Q=>∃l b xs zs,x= .ref l/\vs=[.ref b]/\H l=some (.lst xs)/\H b=some (.lst zs)/\xs.length+zs.length<=S9/\Q .non (upd H l (.lst (xs++zs)))
def Bs:O8 X "list.extend" Am:=by
 intro f8 s σ H x vs v us Q I rx rv h;obtain⟨l,b,xs,zs,rfl,rfl,hH,hB,hz,q⟩:=h;cases rx;obtain⟨u,rfl,ru⟩:=rv.one;cases ru;obtain⟨z,aM,n,r,hl,e⟩:=I.lstM hH;obtain⟨z2,gK,n2,r2,HP,e2⟩:=I.lstM hB;have hsz:aM.toArray.size+gK.toArray.size<=S9:=by rw[SV,SV];omega
 have Lh:¬(!aM.toArray.isEmpty&&VN (aM.toArray.size+gK.toArray.size))=true:=by
  rw[Dy hsz,Bool.and_false];exact Te
 refine call_meets F.slot_list_extend ⟨_,e,rfl⟩ F.entry_list_extend (F.args_list_extend_2 _ _)
  (AutoSeq1.list_extend_list_list_0 l aM.toArray n b gK.toArray n2 Lh (by rw[SV];omega) (by omega)) ⟨e,e2,?_⟩
 refine⟨.non,_,I.lset (its':=aM++gK) hH e (by simp) (r.append r2) ?_,rfl,q⟩;rw[S1];omega
def Oy:R2:=λx y H Q=>∃l b xs zs,x= .ref l/\y= .ref b/\H l=some (.lst xs)/\H b=some (.lst zs)/\xs.length+zs.length<=S9/\∀p,H p=none->Q (.ref p) (upd H p (.lst (xs++zs)))
def Jt:OpR X (VU .Add) Oy:=by
 intro f8 s σ H x y v u Q I rx ry h;obtain⟨l,b,xs,zs,rfl,rfl,hH,hB,hz,q⟩:=h;cases rx;cases ry;obtain⟨z,aM,n,r,hl,e⟩:=I.lstM hH;obtain⟨z2,gK,n2,r2,HP,e2⟩:=I.lstM hB;refine PySem.P.add_list e e2 ?_ (by rw[SV,SV];omega);have ea:aM.toArray++gK.toArray=(aM++gK).toArray:=by simp
 rw[ea];exact⟨.ref _,_,I.lnew (t':=s.toks) (r.append r2) (by rw[S1];omega),rfl,q _ I.fresh⟩
end
end L2
namespace Att
open PySem PySem.W PySem.Calls PyProof.Rows
def ints_of_wellAll{P:YC}{h:Heap}:∀(ns:List Int) (vs:List Value),WellAll P h vs (ns.map WData.int)->V9 vs ns:=by
 intro ns;induction ns with
 |nil=>
  intro vs w;rw[Vk] at w;cases w;exact .nil
 |cons n ns ih=>
  intro vs w;rw[SU] at w;cases w with
  |cons a b=>
   cases a;exact .cons _ _ (ih _ b)
def script_of{l:OpenLaw}{n:Nat}(hn:l.most=some n){P:YC}{h:Heap}{args:List WData}{vals:List Value}
 (CY:l.row.toRowW.claim.pre args=true)(RH:WellAll P h vals args):
 ∃a vs ns,vals=[Ts a]/\args=[WData.list (ns.map WData.int)]/\h.get? a=some {cls:= .type "list",data:= .seq vs.toArray}/\V9 vs ns/\ns.length<=n:=by
 have Ry:WShape.hasAll [] args [.list .int]=true:=(pre_splitW CY).1;have hc:l.pre.holds [] {args:=args}=true:=(pre_splitW CY).2;obtain⟨d,r,rfl,h1,h2⟩:=hasAllW_cons Ry;obtain rfl:=hasAllW_nil h2;obtain⟨xs,rfl,h3⟩:=hasW_list h1;obtain⟨ns,rfl⟩:=items_int h3;have M2:ns.length<=n:=by
  unfold OpenLaw.pre at hc;have h4:(WTm.not (.lt (.lit (.int (n:Int))) (.len (.arg 0)))).holds [] {args:=[.list (ns.map .int)]}=true:=by
   have h4:=(holds_andW hc).1;rw[hn] at h4;exact h4
  have h5:=condW_of h4 (w_not (w_lt w_lit (w_len_list (w_arg rfl))));rw[SI] at h5;refine Nat.le_of_not_lt λq=>?_;have q':(n:Int)<((ns.length:Nat):Int):=by omega
  first
   |(rw [Y8 q'] at h5;exact Y9 h5 (by decide))
   |(simp at h5;omega)
 cases RH with
 |cons w1 w2=>
  cases w2;cases w1 with
  |list ho IP=>exact⟨_,_,ns,rfl,rfl,ho,ints_of_wellAll ns _ IP,M2⟩
def post_true(l:OpenLaw)(args:List WData):l.row.toRowW.claim.post args (.bool true) args=true:=
 postW_of (r:=l.row.toRowW) (X:=(true==true))
  (show WShape.has [] (.bool true) .bool=true by first | rfl | decide | simp[WShape.has,WShape.arms,WShape.armsAll])
  (show (WTm.eq .res (.lit (.bool true))).value [] {args:=args,res:=some (.bool true),after:=args}=some (.bool (true==true)) from w_eq_bool (w_res rfl) w_lit) rfl
def ledger(h:Heap)(L d:Addr):List (Addr×Obj):=(S5 h.objs.size).filterMap λa=>if a=L\/a=d then none else(h.get? a).map λo=>(a,o)
end Att
namespace L2
open PySem PySem.Spec PyProof.Rows
theorem sX:∀{vs:List Value}{ns:List Int},V9 vs ns->Vals (ns.map V.int) vs
 |_,_, .nil=> .nil
 |_,_, .cons n t h=> .cons ⟨t,rfl⟩ (sX h)
def Ky(H:Hp):Prop:=∀b,H b=none\/∃o xs,H b=some (.frz o (.lst xs))
def Dc{P:To}{w:World}{K:SN}{mg mb:Str->Option Value}{CX:AG}{k:Nat}{fa a:Addr}{fd:Vi}{x:Str}{sp:Sp}{T0:SS}{vs:List Value}{ns:List Int}
 (KX:K.In T0.heap)(Fb:T0.heap.Ns Tb mg)(hb:T0.heap.Ns YA mb)(QT:∀x:Str,x≠"__name__"->mb x=T4 x)(Lg:T0.heap.NoLimit)(hg:T0.gens= #[])[Tk T0]
 (ha:T0.heap.get? a=some {cls:= .type "list",data:= .seq vs.toArray})(hi:V9 vs ns)(hl:ns.length<=S9)(hr:Room k XR)
 (F:∀base:Heap,K.In base->base.Ns Tb mg->FnOk P w K mg base CX k fa fd [x] sp)(K7:∀(s:SS) (u:Value),BindsTo s fd ⟨[u],[]⟩ [(x,u)])
 (xA:∀H:Hp,Ky H->SqL K H a (ns.map V.int)->sp [.ref a] H (λv _=>v= .bl true) λ_ _ _=>False)
 (QB:∀H e s',CX [] H T0 (λ_ _ _=>False) e s'->False):
 Xf (model P w) XR (.call (.ref fa) ⟨[.ref a],[]⟩) (λr s'=>r= .ok (.ret (.bool true))/\OldK T0.heap s'.heap/\s'.os=T0.os/\W3 s'.gens) T0:=by
 have rv:=sX hi;have Oh:=hi.length;have core:∀H:Hp,Ky H->SqL K H a (ns.map V.int)->HOk P w H T0.heap->(∀b,H b≠none->b=a)->(H a≠none->K.lookup a=none)->
  Xf (model P w) XR (.call (.ref fa) ⟨[.ref a],[]⟩) (λr s'=>r= .ok (.ret (.bool true))/\OldK T0.heap s'.heap/\s'.os=T0.os/\W3 s'.gens) T0:=by
  intro H hO hS hok hA hK;have zp:∀{b:Addr}{o:Obj},T0.heap.get? b=some o->H b=none->(tT T0.heap H).get? b=some o:=λe n=>CV e n;have LO:∀{b:Addr}{o:Obj}{es:Array Wt}{ep:Nat},T0.heap.get? b=some o->o.data= .dict es ep->H b=none:=λ{b o es ep} e d=>by
   cases q:H b with
   |none=>rfl
   |some u=>
    have e':b=a:=hA b (by rw[q];simp);subst e';rw[ha] at e;cases e;have d':Data.seq vs.toArray _=VR es ep:=d;cases d'
  have M5:∀{b:Addr}{m:Str->Option Value},T0.heap.Ns b m->(tT T0.heap H).Ns b m:=λ{b m} ⟨o,es,ep,e,d,r⟩=>⟨o,es,ep,zp e (LO e d),d,r⟩
  have Pq:K.In (tT T0.heap H):=λb o e=>zp (KX b o e) (by
   cases q:H b with
   |none=>rfl
   |some u=>
    have e':b=a:=hA b (by rw[q];simp);subst e';rw[hK (by rw[q];simp)] at e;cases e)
  have hM:Mod K mg (tT T0.heap H):=⟨Pq,M5 Fb,⟨mb,M5 hb,QT⟩,let ⟨mc,h1,h2⟩:=Lg;⟨mc,M5 h1,h2⟩⟩
  have e0:Env0 P w K mg (tT T0.heap H) XR [] T0 H:=⟨rfl,hM,λb o e=>Ge e,Yu (A9 _ _),trivial,λb hb=>Y9 (show b∈([]:List Addr) from hb) (by simp),hok, .of_eq hg⟩
  refine X1 ((F _ Pq (M5 Fb)).run XR [] T0 H ⟨[.ref a],[]⟩ [.ref a] [.ref a] _ _ hr e0 (K7 T0 (.ref a)) (.cons rfl .nil) (xA H hO hS)) λr s' h=>?_;cases r with
  |error e=>exact(QB H e s' h).elim
  |ok fl=>
   cases fl with
   |next=>exact UE h
   |brk=>exact UE h
   |cont=>exact UE h
   |ret u=>
    obtain⟨v,H',os,bare,un,N2,r',q⟩:=h;have q':v= .bl true:=q;subst q';obtain rfl:u=VI true:=r';refine⟨rfl,OldK.of_keep λb o e=>?_,os,bare⟩;cases q:H b with
    |none=>exact un.keep b o e q (by intro z;exact Y9 (show b∈([]:List Addr) from z) (by simp)) (by simp)
    |some u=>
     rcases hO b with z | ⟨ob,xs,z⟩
     ·rw[q] at z;cases z
     ·have z2:=un.frzs b ob _ z;obtain⟨e1,_⟩:=hok b _ z;obtain⟨e2,_⟩:=N2 b _ z2;rw[e] at e1;cases e1;exact e2
 cases hk:K.lookup a with
 |some o=>
  have e:=KX a o hk;rw[ha] at e;cases e;refine core (λ_=>none) (λ_=> .inl rfl) (.inr ⟨_,vs.toArray,_,hk,rfl,rfl,rfl,by rw[SV,Oh];exact hl,by simpa using rv⟩) (λb u z=>by have z':(none:Option HO)=some u:=z;cases z') (λb z=>Y9 rfl z) λz=>Y9 rfl z
 |none=>
  refine core (λb=>if b=a then some (.frz {cls:= .type "list",data:= .seq vs.toArray} (.lst (ns.map V.int))) else none) (λb=>?_) (.inl (.inr ⟨{cls:= .type "list",data:= .seq vs.toArray},Y6 rfl⟩)) (λb u z=>?_) (λb z=>?_) λ_=>hk
  ·by_cases hb:b=a
   ·exact .inr ⟨_,_,Y6 hb⟩
   ·exact .inl (Y7 hb)
  ·by_cases hb:b=a
   ·have z':=(Y6 hb).symm.trans z;cases z';subst hb;exact⟨ha,by rw[SI];exact hl,vs,_,rv,ha⟩
   ·have z':=(Y7 hb).symm.trans z;cases z'
  ·by_cases hb:b=a
   ·exact hb
   ·exact Y9 (Y7 hb) z
abbrev Sg{K:SN}{h:Heap}(_:K.In h):SN:=K
abbrev O5:AG:=λ_ _ _ _ _ _=>False
structure Fun (K:SN) (x qual:Str) (st:Stmt) (f:Addr) (fd:Vi):Prop where
 ex:∃(oc:Value) (od:Option Addr) (kV doc pm:Value) (an:Option Addr) (cP ct:Value) (BB:Array (Option Value)),
  fd=TR x qual (aS st) (aH st) (ah st) .none kV doc pm an cP ct/\K.lookup f=some ⟨oc,od, .func fd,BB⟩/\UB K cP qual=true
 kp:TJ K (.ref f)=true
section
variable{P:To}{w:World}{K:SN}{mg:Str->Option Value}{base:Heap}
def Fun.ok{x qual:Str}{st:Stmt}{f:Addr}{fd:Vi}{N ps:List Str}{k:Nat}{sp:Sp}(F:Fun K x qual st f fd)(S:FnScope N ps (ah st))(len:∀vs H Q E,sp vs H Q E->vs.length=ps.length)
 (c6:∀(cP:Value) (A:T9) (outer:List Env) (s:SS) (H:Hp) (vs:List V) (Q:VK) (E:XK),Room k (A.deeper (Vx qual (ah st) s.heap.objs.size f cP))->sp vs H Q E->
  ∃t,PSs (eT O5 P w K mg base N qual (ah st) f cP A outer s H E).nox (aH st) t/\t {nx:=λ_ H'=>Q .non H',rt:=Q} (start N vs) H):FnOk P w K mg base O5 (k+1) f fd ps sp:=by
 obtain⟨oc,od,kV,doc,pm,an,cP,ct,BB,rfl,lk,rS⟩:=F.ex;refine rQ lk rS S len λA outer s H vs Q E hr xA=>?_;obtain⟨t,h,q⟩:=c6 cP A outer s H vs Q E hr xA;exact⟨t,h.nox,q⟩
def Fun.binds{x qual:Str}{st:Stmt}{f:Addr}{fd:Vi}{ps:List Str}(F:Fun K x qual st f fd)
 (h:∀(kV doc pm:Value) (an:Option Addr) (cP ct:Value) (us:List Value),us.length=ps.length->Xr (TR x qual (aS st) (aH st) (ah st) .none kV doc pm an cP ct) ⟨us,[]⟩=pure (ps.zip us)):Binds K fd ps []:=by
 obtain⟨oc,od,kV,doc,pm,an,cP,ct,BB,rfl,lk,rS⟩:=F.ex;exact .all (h kV doc pm an cP ct)
def tQ{x qual:Str}{st:Stmt}{f:Addr}{oc:Value}{od an:Option Addr}{BB:Array (Option Value)}{kV doc pm cP ct:Value}(l:K.lookup f=some ⟨oc,od, .func (TR x qual (aS st) (aH st) (ah st) .none kV doc pm an cP ct),BB⟩)
 (c:UB K cP qual=true)(k:TJ K (.ref f)=true):Fun K x qual st f (TR x qual (aS st) (aH st) (ah st) .none kV doc pm an cP ct):=⟨⟨oc,od,kV,doc,pm,an,cP,ct,BB,rfl,l,c⟩,k⟩
end
section
variable{X:Cx}
def pv(i:Nat){x:Str}{pos:Pos}(hN:X.N[i]? =some x:=by rfl)(hv:Nn X.env.scope x:=by first | exact Or.inl rfl | exact Or.inr (Or.inl rfl) | exact Or.inr (Or.inr rfl))(hd:(x==("__debug__":Str))=false:=by decide)
 (rS:(x==("__classdict__":Str))=false:=by decide):PE X (.Name x pos) (gY i):=JN hN hv hd rS
end
def Same(H H':Hp):Prop:=∀b o,H b=some o->H' b=some o
def Same.refl(H:Hp):Same H H:=λ_ _ h=>h
def Same.trans{H H1 H2:Hp}(a:Same H H1)(b:Same H1 H2):Same H H2:=λc o h=>b c o (a c o h)
def Same.free{H H':Hp}(e:Same H H'){l:Addr}(h:H' l=Option.none):H l=Option.none:=by
 cases q:H l with
 |none=>rfl
 |some o=>
  rw[e l o q] at h;cases h
def Same.seq{K:SN}{H H':Hp}{a:Addr}{xs:List V}(e:Same H H')(h:SqL K H a xs):SqL K H' a xs:=by
 rcases h with(h | ⟨o,h⟩) | h
 ·exact .inl (.inl (e _ _ h))
 ·exact .inl (.inr ⟨o,e _ _ h⟩)
 ·exact .inr h
section
variable{κ:Type}[DecidableEq κ]
def lU(az:List (κ×V))(k:κ):Option V:=(az.find? λkv=>decide (kv.1=k)).map (·.2)
def putK(az:List (κ×V))(k:κ)(v:V):List (κ×V):=
 if (az.any λkv=>decide (kv.1=k))=true then az.map (λkv=>if kv.1=k then(kv.1,v) else kv) else az++[(k,v)]
def lW{p:κ×V}{r:List (κ×V)}{k:κ}(e:p.1=k):lU (p::r) k=some p.2:=by simp[lU,Vm,e]
def lV{p:κ×V}{r:List (κ×V)}{k:κ}(e:¬p.1=k):lU (p::r) k=lU r k:=by simp[lU,Vm,e]
theorem qJ(k:κ):∀az:List (κ×V),(az.any λkv=>decide (kv.1=k))=(lU az k).isSome
 |[]=>rfl
 |p::r=>by
  rw[VL];by_cases e:p.1=k
  ·simp only[lW e,Y8 e,Bool.true_or,Option.isSome_some]
  ·rw[lV e,Y_ e,Bool.false_or];exact qJ k r
def eO(az:List (κ×V))(k:κ)(v:V):(putK az k v).length<=az.length+1:=by
 unfold putK;split
 ·rw[SI];omega
 ·rw[S1,SO,US];omega
def RelO.isSome_eq{o:Option V}{u:Option Value}(r:RelO o u):o.isSome=u.isSome:=by
 cases o with
 |none=>cases u with
  |none=>rfl
  |some _=>exact(show False from r).elim
 |some _=>cases u with
  |none=>exact(show False from r).elim
  |some _=>rfl
theorem RelO.getD{o:Option V}{u:Option Value}{d:V}{d':Value}(r:RelO o u)(rd:RelV d d'):RelV (o.getD d) (u.getD d'):=by
 cases o with
 |none=>cases u with
  |none=>exact rd
  |some _=>exact(show False from r).elim
 |some _=>cases u with
  |none=>exact(show False from r).elim
  |some _=>exact r
def KV.val{az:List (κ×V)}{vs:List (κ×Value)}(r:KV az vs)(k:κ):RelO (lU az k) (YI vs k):=by
 unfold KV at r;induction r with
 |nil=>exact UL
 | @cons p q ps qs h t ih=>
   obtain⟨h1,h2⟩:=h;by_cases e:p.1=k
   ·have e':q.1=k:=h1.symm.trans e;have b:YI (q::qs) k=some q.2:=by simp[YI,Vm,e']
    rw[lW e,b];exact h2
   ·have e':¬q.1=k:=λz=>e (h1.trans z);have b:YI (q::qs) k=YI qs k:=by simp[YI,Vm,e']
    rw[lV e,b];exact ih
theorem KV.any{az:List (κ×V)}{vs:List (κ×Value)}(r:KV az vs)(k:κ):(az.any λkv=>decide (kv.1=k))=vs.any λkv=>decide (kv.1=k):=by
 unfold KV at r;induction r with
 |nil=>rfl
 |cons h t ih=>rw[VL,VL,ih,h.1]
def KV.repl{az:List (κ×V)}{vs:List (κ×Value)}(r:KV az vs)(k:κ){y:V}{u:Value}(ry:RelV y u):
 KV (az.map λkv=>if kv.1=k then(kv.1,y) else kv) (vs.map λkv=>if kv.1=k then(kv.1,u) else kv):=by
 unfold KV at r⊢;induction r with
 |nil=>exact .nil
 | @cons p q ps qs h t ih=>
   rw[SU,SU];refine .cons ?_ ih;obtain⟨h1,h2⟩:=h;by_cases e:p.1=k
   ·rw[Y6 e,Y6 (h1.symm.trans e)];exact⟨h1,ry⟩
   ·rw[Y7 e,Y7 (λz=>e (h1.trans z))];exact⟨h1,h2⟩
def KV.put{az:List (κ×V)}{vs:List (κ×Value)}(r:KV az vs)(k:κ){y:V}{u:Value}(ry:RelV y u):KV (putK az k y) (stored vs k u):=by
 unfold putK stored;rw[r.any k];by_cases e:(vs.any λkv=>decide (kv.1=k))=true
 ·rw[Y6 e,Y6 e];exact r.repl k ry
 ·rw[Y7 e,Y7 e];exact Paired.snoc r ⟨rfl,ry⟩
theorem KV.length{az:List (κ×V)}{vs:List (κ×Value)}(r:KV az vs):az.length=vs.length:=UU r
end
def vQ{P:To}{w:World}{k:Key}{u:Value}(r:RelV (kV k) u):(bF P w).is k u=true:=by
 cases k with
 |inl i=>obtain⟨t,e⟩:=(show∃t,u=Wr i t from r);subst e;exact vX P w i t
 |inr x=>obtain⟨t,e⟩:=(show∃t,u=Xu x t from r);subst e;exact vY P w x t
theorem rY{P:To}{w:World}:∀{ks:List Key}{us:List Value},Vals (ks.map kV) us->ItemsAre (bF P w) ks us
 |[],_,r=>by rw[Vk] at r;cases r;exact .nil
 |k::ks,_,r=>by
  rw[SU] at r;cases r with
  |cons h t=>exact .cons (vQ h) (rY t)
abbrev KT(H:Hp):List (List Key×V)->List (List Key×Addr×Value)->Prop:=Xx λp q=>p.1=q.1/\H q.2.1=some (.tup (p.1.map kV))/\RelV p.2 q.2.2
def KT.val{H:Hp}{az:List (List Key×V)}{xs:List (List Key×Addr×Value)}(r:KT H az xs)(k:List Key):RelO (lU az k) ((atKey xs k).map (·.2)):=by
 induction r with
 |nil=>exact UL
 | @cons p q ps qs h t ih=>
   obtain⟨h1,_,h2⟩:=h;by_cases e:p.1=k
   ·have e':q.1=k:=h1.symm.trans e;have b:atKey (q::qs) k=some q.2:=by simp[atKey,Vm,e']
    rw[lW e,b];exact h2
   ·have e':¬q.1=k:=λz=>e (h1.trans z);have b:atKey (q::qs) k=atKey qs k:=by simp[atKey,Vm,e']
    rw[lV e,b];exact ih
def KT.repl{H:Hp}{az:List (List Key×V)}{xs:List (List Key×Addr×Value)}(r:KT H az xs)(k:List Key){y:V}{u:Value}(ry:RelV y u):
 KT H (az.map λkv=>if kv.1=k then(kv.1,y) else kv) (xs.map (putAt k u)):=by
 induction r with
 |nil=>exact .nil
 | @cons p q ps qs h t ih=>
   rw[SU,SU];refine .cons ?_ ih;obtain⟨h1,h2,h3⟩:=h;unfold putAt;by_cases e:p.1=k
   ·rw[Y6 e,Y6 (h1.symm.trans e)];exact⟨h1,h2,ry⟩
   ·rw[Y7 e,Y7 (λz=>e (h1.trans z))];exact⟨h1,h2,h3⟩
def KT.put{H:Hp}{az:List (List Key×V)}{xs:List (List Key×Addr×Value)}(r:KT H az xs)(k:List Key){b:Addr}{y:V}{u:Value}(hb:H b=some (.tup (k.map kV)))(ry:RelV y u):
 KT H (putK az k y) (Wz xs k b u):=by
 have e:(az.any λkv=>decide (kv.1=k))=(atKey xs k).isSome:=by
  rw[qJ,(r.val k).isSome_eq,W5]
 unfold putK Wz;rw[e];by_cases q:(atKey xs k).isSome=true
 ·rw[Y6 q,Y6 q];exact r.repl k ry
 ·rw[Y7 q,Y7 q];exact Paired.snoc r ⟨rfl,hb,ry⟩
def KT.keeps{H H':Hp}{az:List (List Key×V)}{xs:List (List Key×Addr×Value)}(r:KT H az xs)(ht:∀b ys,H b=some (.tup ys)->H' b=some (.tup ys)):KT H' az xs:=
 Paired.mapP r λ_ _ z=>⟨z.1,ht _ _ z.2.1,z.2.2⟩
section
variable{P:To}{w:World}{H:Hp}{h:Heap}{a:Addr}
def Ia{u:HO}(ok:HOk P w H h)(e:Rd H a u):ObjOk P w H h a u:=e.ok ok
def zC{az:List (Key×V)}(ok:HOk P w H h)(e:Rd H a (.dK az)):az.length<=S9/\(a==UC)=false/\∃vs,KV az vs/\h.DictOf (bF P w) a vs:=
 show ObjOk P w H h a (.dK az) from Ia ok e
def HC{az:List (Key×V)}(ok:HOk P w H h)(e:H a=some (.dK az)):az.length<=S9/\(a==UC)=false/\∃vs,KV az vs/\h.DictOf (bF P w) a vs:=zC ok (.inl e)
def pG{ks:List Key}(ok:HOk P w H h)(e:H a=some (.tup (ks.map kV))):(Vu (bF P w)).is h ks a:=by
 obtain⟨_,aM,r,o,h1,h2,n,h3⟩:=(show ObjOk P w H h a (.tup (ks.map kV)) from ok a _ e)
 exact⟨o,aM.toArray,n,h1,h2,h3,by simpa using rY r⟩
def vB{az:List (List Key×V)}(ok:HOk P w H h)(e:Rd H a (.dT az)):az.length<=S9/\(a==UC)=false/\
 ∃xs,KT H az xs/\h.DictOfH (Vu (bF P w)) a xs:=by
 obtain⟨z,y,xs,r,o,es,ep,h1,h2,h3,h4,h5⟩:=(show ObjOk P w H h a (.dT az) from Ia ok e)
 refine⟨z,y,xs,r,o,es,ep,h1,h2,h3,h4,λx hx=>?_,h5⟩;have all:∀{l:List (List Key×V)}{m:List (List Key×Addr×Value)},KT H l m->∀x∈m,(Vu (bF P w)).is h x.1 x.2.1:=by
  intro l m q;induction q with
  |nil=>intro x hx;exact nomatch hx
  | @cons p q ps qs hq t ih=>
    intro x hx;rcases S6.mp hx with e | hx
    ·subst e;exact pG ok (by rw[<-hq.1];exact hq.2.1)
    ·exact ih x hx
 exact all r x hx
def CC{az:List (List Key×V)}(ok:HOk P w H h)(e:H a=some (.dT az)):az.length<=S9/\(a==UC)=false/\
 ∃xs,KT H az xs/\h.DictOfH (Vu (bF P w)) a xs:=vB ok (.inl e)
end
def xB(H:Hp)(a:Addr)(y:V)(r:Option V):Prop:=
 (∃az k,Rd H a (.dK az)/\y=kV k/\r=lU az k)\/∃az k b,Rd H a (.dT az)/\y= .ref b/\H b=some (.tup (k.map kV))/\r=lU az k
def DPut(H:Hp)(a:Addr)(y v:V)(H':Hp):Prop:=
 (∃az k,H a=some (.dK az)/\y=kV k/\az.length<S9/\H'=upd H a (.dK (putK az k v)))\/
 ∃az k b,H a=some (.dT az)/\y= .ref b/\H b=some (.tup (k.map kV))/\az.length<S9/\H'=upd H a (.dT (putK az k v))
theorem DPut.k{H:Hp}{a:Addr}{az:List (Key×V)}{k:Key}{v:V}(e:H a=some (.dK az))(hl:az.length<S9):DPut H a (kV k) v (upd H a (.dK (putK az k v))):= .inl ⟨az,k,e,rfl,hl,rfl⟩
def DPut.t{H:Hp}{a b:Addr}{az:List (List Key×V)}{k:List Key}{v:V}(e:H a=some (.dT az))(eb:H b=some (.tup (k.map kV)))(hl:az.length<S9):
 DPut H a (.ref b) v (upd H a (.dT (putK az k v))):= .inr ⟨az,k,b,e,rfl,eb,hl,rfl⟩
section
variable{X:Cx}{f8:List (Addr×Obj)}{σ:St}{H:Hp}{s:SS}{a:Addr}{y v:V}{u r:Value}{o:Option V}{A:T9}{E:Value->SS->Prop}
def Inv.big(I:Inv X f8 σ H s):UC<s.heap.objs.size:=by
 have h:Tb<s.heap.objs.size:=(I.mod.glob.keeps I.bk).lt;exact Vl (by decide) h
def KN{Q:Value->SS->Prop}(hu:A.units+1<cLine)(I:Inv X f8 σ H s)(g:xB H a y o)(ry:RelV y u)(h:∀s',Inv X f8 σ H s'->Q (.bool o.isSome) s'):
 wpAny (model X.prog X.w) A (Uc .In u (.ref a)) Q E s:=by
 rcases g with⟨az,k,e,ey,l⟩ | ⟨az,k,b,e,ey,eb,l⟩
 ·subst ey;obtain⟨z,hd,vs,rel,dd⟩:=zC I.hok e;refine wpAny_in_of (vQ ry) hd dd.mapOf ?_;rw[<-(rel.val k).isSome_eq,<-l];exact h _ (I.tok _)
 ·subst ey;cases (show u=Ts b from ry);obtain⟨z,hd,xs,rel,dd⟩:=vB I.hok e;refine wpAny_in_heap (Xn hu) (pG I.hok eb) hd dd ?_;have q:=(rel.val k).isSome_eq;rw[W5] at q;rw[<-q,<-l];exact h _ (I.tok _)
def Fs{Q:Value->SS->Prop}(hu:A.units+1<cLine)(I:Inv X f8 σ H s)(g:xB H a y o)(ry:RelV y u)(h:∀s',Inv X f8 σ H s'->Q (.bool (!o.isSome)) s'):
 wpAny (model X.prog X.w) A (Uc .NotIn u (.ref a)) Q E s:=by
 rcases g with⟨az,k,e,ey,l⟩ | ⟨az,k,b,e,ey,eb,l⟩
 ·subst ey;obtain⟨z,hd,vs,rel,dd⟩:=zC I.hok e;refine wpAny_notIn_of (vQ ry) hd dd.mapOf ?_;rw[<-(rel.val k).isSome_eq,<-l];exact h _ (I.tok _)
 ·subst ey;cases (show u=Ts b from ry);obtain⟨z,hd,xs,rel,dd⟩:=vB I.hok e;refine wpAny_notIn_heap (Xn hu) (pG I.hok eb) hd dd ?_;have q:=(rel.val k).isSome_eq;rw[W5] at q;rw[<-q,<-l];exact h _ (I.tok _)
def k0{h':Heap}{t':Nat}{ob:HO}(I:Inv X f8 σ H s)(mu:Kx (H a))(hs:U8 a s.heap h')(he:∃q,h'.get? a=some q)(new:ObjOk X.prog X.w (upd H a ob) h' a ob):
 Inv X f8 σ (upd H a ob) {s with heap:=h',toks:=t'}:=
 I.write (x:=a) (e:=a) mu (.inl rfl) (λb q hb z=>(hs.2 b hb).trans z) he new
def CB{P:To}{w:World}{H':Hp}{h':Heap}{az:List (Key×V)}{vs:List (Key×Value)}(z:az.length<=S9)(hd:(a==UC)=false)(rel:KV az vs)(dd:h'.DictOf (bF P w) a vs):
 ObjOk P w H' h' a (.dK az):=⟨z,hd,vs,rel,dd⟩
def A0{H':Hp}{Q:Unit->SS->Prop}(hu:A.units+1<cLine)(I:Inv X f8 σ H s)(g:DPut H a y v H')(ry:RelV y u)(rv:RelV v r)(h:∀s',Inv X f8 σ H' s'->Q () s'):
 wpAny (model X.prog X.w) A (setItem (.ref a) u r) Q E s:=by
 rcases g with⟨az,k,e,ey,l,eH⟩ | ⟨az,k,b,e,ey,eb,l,eH⟩
 ·subst ey eH;obtain⟨z,hd,vs,rel,dd⟩:=HC I.hok e;have hz:vs.length<=S9:=by rw[<-rel.length];exact z
  have hl:(putK az k v).length<=S9:=by have:=eO az k v;omega
  refine wpAny_setItem_pairs (hsz:=hz) (vQ ry) dd λh' Cu hs=>h _ ?_;have he:∃q,h'.get? a=some q:=let ⟨q,_,_,hq,_⟩:=Cu;⟨q,hq⟩
  exact k0 I (by rw[e];exact UL) hs he (CB hl hd (rel.put k rv) Cu)
 ·subst ey eH;cases (show u=Ts b from ry);obtain⟨z,hd,xs,rel,dd⟩:=CC I.hok e;have hz:xs.length<=S9:=by rw[<-UU rel];exact z
  have hl:(putK az k v).length<=S9:=by have:=eO az k v;omega
  refine wpAny_setItem_heap (hsz:=hz) (Xn hu) (pG I.hok eb) dd λh' Cu hs=>h _ ?_;obtain⟨q,es,ep,hq,h2,h3,h4,_,h5⟩:=Cu;refine k0 I (by rw[e];exact UL) hs ⟨q,hq⟩ ⟨hl,hd,_,(rel.put k eb rv).keeps λc ys ec=>?_,q,es,ep,hq,h2,h3,h4,h5⟩;rw[au (Dv ec e (λz=>nomatch z))];exact ec
end
def OK(ty td:TE):TE:=λσ H Q=>ty σ H λy H1=>td σ H1 λx H2=>∃a o,x= .ref a/\xB H2 a y o/\Q (.bl o.isSome) H2
def Mj(td ty tv:TE):TS:=λD σ H=>tv σ H λv H1=>td σ H1 λx H2=>ty σ H2 λy H3=>∃a H4,x= .ref a/\DPut H3 a y v H4/\D.nx σ H4
section
variable{X:Cx}{o i value:Expr}{pos pos':Pos}{td ty tv:TE}
def Jy(hu:X.A.units+1<cLine)(hi:PE X i ty)(ho:PE X o td):PC X .In i o (OK ty td):=by
 intro f8 s σ H Q I h _;refine bY (hi f8 s σ H _ I h) λiv s1 ⟨y,H1,I1,ry,q1⟩=>bY (ho f8 s1 σ H1 _ I1 q1) λu s2 ⟨x,H2,I2,rx,a,ov,ex,g,q2⟩=>?_;subst ex;obtain rfl:u=Ts a:=rx;exact KN hu I2 g ry λs3 I3=>⟨.bl ov.isSome,H2,I3,rfl,q2⟩
def GJ(hu:X.A.units+1<cLine)(ho:PE X o td)(hi:PE X i ty)(hv:PE X value tv)(hs:Vv value (some (.Subscript o i pos')) pos.line X.env=pure false):
 PS X (.Assign [.Subscript o i pos'] value pos) (Mj td ty tv):=by
 intro f8 s σ H D I h _;refine wpAny_Assign_Subscript (bY (hv f8 s σ H _ I h) λr s1 ⟨v,H1,I1,rv,q1⟩=>bY (ho f8 s1 σ H1 _ I1 q1) λu s2 ⟨x,H2,I2,rx,q2⟩=>bY (hi f8 s2 σ H2 _ I2 q2) λiv s3 ⟨y,H3,I3,ry,a,H4,ex,g,q3⟩=>?_) hs;subst ex;obtain rfl:u=Ts a:=rx;exact A0 hu I3 g ry rv λs4 I4=>⟨σ,H4,I4,q3⟩
end
def vA{P:To}{w:World}{H:Hp}(h:Heap)(hb:UC<h.objs.size):ObjOk P w H (h.push {cls:= .type "dict",data:= .dict #[]}) h.objs.size (.dT []):=
 ⟨TQ _,Zc.mpr (UW (Tv hb)),[], .nil,_,#[],0,Ta _ rfl,⟨rfl,rfl,rfl⟩,rfl,rfl,V0⟩
def J_:TE:=λ_ H Q=>∀p,H p=none->Q (.ref p) (upd H p (.dT []))
section
variable{X:Cx}{pos:Pos}
def D4:PE X (.Dict [] [] pos) J_:=λf8 s σ H Q I h=>
 wpAny_Dict_empty ⟨.ref s.heap.objs.size,_,I.laid (a:=s.heap.objs.size) (o:= .dT []) (t':=s.toks) (λ_ _ q=>SR _ q) (SW _) (vA s.heap I.big),rfl,h _ (I.hok.fresh (SW _))⟩
end
def ER:List (TE×TE)->St->Hp->(List (V×V)->Hp->Prop)->Prop
 |[],_,H,Q=>Q [] H
 |(tk,tv)::r,σ,H,Q=>tk σ H λx H1=>tv σ H1 λy H2=>ER r σ H2 λps H3=>Q ((x,y)::ps) H3
abbrev VV:List (V×V)->List (Value×Value)->Prop:=Xx λp q=>RelV p.1 q.1/\RelV p.2 q.2
def Nf(X:Cx)(pos:Pos)(keys:List (Option Expr))(values:List Expr)(Nb:List (TE×TE)):Prop:=
 ∀(f8:List (Addr×Obj)) (s:SS) (σ:St) (H:Hp) (Q:List (V×V)->Hp->Prop),Inv X f8 σ H s->ER Nb σ H Q->
  ∀[Tk s],wpAny (model X.prog X.w) X.A (evalPairs (pairTrees keys values X.env pos)) (λvs s'=>∃ps H',Inv X f8 σ H' s'/\VV ps vs/\Q ps H') X.xe s
def GI{X:Cx}{pos:Pos}:Nf X pos [] [] []:=λf8 s σ H Q I h=>pairTrees_nil_walk ⟨[],H,I, .nil,h⟩
def D_{X:Cx}{pos:Pos}{k v:Expr}{ks:List (Option Expr)}{vs:List Expr}{tk tv:TE}{Nb:List (TE×TE)}(hk:PE X k tk)(hv:PE X v tv)(hr:Nf X pos ks vs Nb):
 Nf X pos (some k::ks) (v::vs) ((tk,tv)::Nb):=λf8 s σ H Q I h=>
 pairTrees_cons_walk (bY (hk f8 s σ H _ I h) λu s1 ⟨x,H1,I1,rx,q1⟩=>bY (hv f8 s1 σ H1 _ I1 q1) λw2 s2 ⟨y,H2,I2,ry,q2⟩=>
  bY (hr f8 s2 σ H2 _ I2 q2) λws s3 ⟨ps,H3,I3,rel,q3⟩=>⟨(x,y)::ps,H3,I3, .cons ⟨rx,ry⟩ rel,q3⟩)
structure M1 (X:Cx) (o:Expr) (m:Str) (v4:Pos) (e:Expr) (aU:Pos):Prop where
 base:Ug o m X.env (eval o X.env)=eval o X.env
 few:((Uv aU (SX [e] X.env)).all (λx=>!x.1)&&(UQ aU (Ub [] X.env)).all (λx=>x.1.isSome)
  &&decide (([e]:List Expr).length+([]:List UO).length+(if ([]:List UO).isEmpty then 0 else 1)<30))=true
 line:(v4.endLine==aU.line)=true
 trees:Uv aU (SX [e] X.env)=[(false,eval e X.env)]
def O6(H:Hp)(a:Addr):Prop:=(∃az,Rd H a (.dK az))\/∃az,Rd H a (.dT az)
def Je{X:Cx}{f8:List (Addr×Obj)}{σ:St}{H:Hp}{s:SS}{a:Addr}(I:Inv X f8 σ H s)(d:O6 H a):
 s.TypeIs (.ref a) "dict"/\(∀b,Ts a= .ref b->∃ob,s.heap.get? b=some ob/\ob.dict=none)/\(a==UC)=false:=by
 rcases d with⟨az,e⟩ | ⟨az,e⟩
 ·obtain⟨_,hd,vs,_,dd⟩:=zC I.hok e;refine⟨dd.typeIs,λb q=>?_,hd⟩;cases q;obtain⟨ob,_,_,h1,h2,_⟩:=dd;exact⟨ob,h1,h2.2.1⟩
 ·obtain⟨_,hd,xs,_,dd⟩:=vB I.hok e;refine⟨dd.typeIs,λb q=>?_,hd⟩;cases q;obtain⟨ob,_,_,h1,h2,_⟩:=dd;exact⟨ob,h1,h2.2.1⟩
end L2
namespace L3
open PySem PySem.Spec L2
open PyProof.Rows hiding St
inductive Rs (α:Type) where
 |ok (a:α) | ex (n:Nat)
def M(α:Type):=Option (Rs α)
def aa(a:α):M α:=some (.ok a)
def M.bind(m:M α)(k:α->M β):M β:=match m with
 |none=>none
 |some (.ex n)=>some (.ex n)
 |some (.ok a)=>k a
def af:M α:=none
def oI(n:Nat):M α:=some (.ex n)
instance:Monad M where
 pure:=aa
 bind:=M.bind
@[simp] def ai{α β:Type}(a:α)(k:α->M β):(aa a>>=k)=k a:=rfl
@[simp] def Iq{α β:Type}(a:α)(k:α->M β):((pure a:M α)>>=k)=k a:=rfl
@[simp] def Ir{α β:Type}(n:Nat)(k:α->M β):(oI n>>=k)=oI n:=rfl
@[simp] def Iu{α β:Type}(k:α->M β):((af:M α)>>=k)=af:=rfl
def M.cs(m:M α):m=af\/(∃n,m=oI n)\/∃a,m=aa a:=by
 match m with
 |none=>exact .inl rfl
 |some (.ex n)=>exact .inr (.inl ⟨n,rfl⟩)
 |some (.ok a)=>exact .inr (.inr ⟨a,rfl⟩)
def eK(h:aa a=aa b):a=b:=by
 have h:some (Rs.ok a)=some (Rs.ok b):=h;cases h;rfl
def eu(h:af=aa a):False:=by
 have h:none=some (Rs.ok a):=h;cases h
def Eo(h:oI n=aa a):False:=by
 have h:some (Rs.ex n)=some (Rs.ok a):=h;cases h
def dG(h:(m>>=k)=aa r):∃a,m=aa a/\k a=aa r:=by
 rcases m.cs with e | ⟨n,e⟩ | ⟨a,e⟩
 ·subst e;exact(eu h).elim
 ·subst e;exact(Eo h).elim
 ·subst e;exact⟨a,rfl,h⟩
def Ku(h:Heap)(ea D:Addr):Prop:=∃ox,h.get? ea=some ox/\ox.cls= .ref D
def Qk(ea D:Addr):HO:= .ext λh=>Ku h ea D
inductive D where
 |non | bl (b:Bool) | int (i:Int) | str (x:Str) | raw (v:V) | exc (C:Addr) | scr (l:List Int) | tup (l:List D) | lst (l:List D)
 |dct (ks:List (List Key)) (l:List D) | dci (ks:List Key) (l:List D)
instance:Inhabited D:=⟨.non⟩
def lim:Nat:=4096
def dS:lim<S9:=by rw[VF];decide
mutual
def Den(K:SN)(F:Hp):D->V->Prop
 | .non,v=>v= .non
 | .bl b,v=>v= .bl b
 | .int i,v=>v= .int i
 | .str x,v=>v= .str x/\x.length<=lim
 | .raw u,v=>v=u
 | .exc C,v=>∃ea,v= .ref ea/\F ea=some (Qk ea C)
 | .scr ns,v=>∃a,v= .ref a/\SqL K F a (ns.map V.int)/\ns.length<=lim
 | .tup ds,v=>∃a vs,v= .ref a/\F a=some (.tup vs)/\DenL K F ds vs/\ds.length<=lim
 | .lst ds,v=>∃a vs,v= .ref a/\F a=some (.lst vs)/\DenL K F ds vs/\ds.length<=lim
 | .dct ks ds,v=>∃a ob vs,v= .ref a/\F a=some (.frz ob (.dT (ks.zip vs)))/\DenL K F ds vs/\ks.length=ds.length/\ds.length<=lim
 | .dci ks ds,v=>∃a ob vs,v= .ref a/\F a=some (.frz ob (.dK (ks.zip vs)))/\DenL K F ds vs/\ks.length=ds.length/\ds.length<=lim
def DenL(K:SN)(F:Hp):List D->List V->Prop
 |[],vs=>vs=[]
 |d::ds,vs=>∃v r,vs=v::r/\Den K F d v/\DenL K F ds r
end
def Same.rd(e:Same H H')(h:Rd H a u):Rd H' a u:=by
 rcases h with h | ⟨o,h⟩
 ·exact .inl (e _ _ h)
 ·exact .inr ⟨o,e _ _ h⟩
def Same.tup{K:SN}(e:Same H H')(h:SqT K H a xs):SqT K H' a xs:=by
 rcases h with h | h
 ·exact .inl (Same.rd e h)
 ·exact .inr h
section
variable{K:SN}{F F':Hp}
mutual
theorem Den.mono(e:Same F F'):∀{d:D}{v:V},Den K F d v->Den K F' d v
 | .non,_,h=>h
 | .bl _,_,h=>h
 | .int _,_,h=>h
 | .str _,_,h=>h
 | .raw _,_,h=>h
 | .exc _,_,⟨a,h1,h2⟩=>⟨a,h1,e _ _ h2⟩
 | .scr _,_,⟨a,h1,h2,h3⟩=>⟨a,h1,Same.seq e h2,h3⟩
 | .tup _,_,⟨a,vs,h1,h2,h3,h4⟩=>⟨a,vs,h1,e _ _ h2,DenL.mono e h3,h4⟩
 | .lst _,_,⟨a,vs,h1,h2,h3,h4⟩=>⟨a,vs,h1,e _ _ h2,DenL.mono e h3,h4⟩
 | .dct _ _,_,⟨a,ob,vs,h1,h2,h3,h4⟩=>⟨a,ob,vs,h1,e _ _ h2,DenL.mono e h3,h4⟩
 | .dci _ _,_,⟨a,ob,vs,h1,h2,h3,h4⟩=>⟨a,ob,vs,h1,e _ _ h2,DenL.mono e h3,h4⟩
theorem DenL.mono(e:Same F F'):∀{ds:List D}{vs:List V},DenL K F ds vs->DenL K F' ds vs
 |[],_,h=>h
 |_::_,_,⟨v,r,h1,h2,h3⟩=>⟨v,r,h1,Den.mono e h2,DenL.mono e h3⟩
end
def DenL.nil:DenL K F [] []:=rfl
def DenL.cons(h:Den K F d v)(r:DenL K F ds vs):DenL K F (d::ds) (v::vs):=⟨v,vs,rfl,h,r⟩
theorem DenL.len:∀{ds:List D}{vs:List V},DenL K F ds vs->ds.length=vs.length
 |[],_,h=>by cases (show _=_ from h);rfl
 |_::ds,_,⟨v,r,h1,_,h3⟩=>by subst h1;rw[SO,SO,DenL.len h3]
theorem DenL.get:∀{ds:List D}{vs:List V}{i:Nat}{d:D},DenL K F ds vs->ds[i]? =some d->∃v,vs[i]? =some v/\Den K F d v
 |[],_,_,_,_,e=>by simp at e
 |d::ds,_,0,_,⟨v,r,h1,h2,h3⟩,e=>by subst h1;simp at e;subst e;exact⟨v,rfl,h2⟩
 |d::ds,_,i+1,_,⟨v,r,h1,h2,h3⟩,e=>by
  subst h1;obtain⟨w,e1,e2⟩:=DenL.get h3 (by simpa using e);exact⟨w,by simpa using e1,e2⟩
theorem DenL.at:∀{ds:List D}{vs:List V}{i:Nat}{v:V},DenL K F ds vs->vs[i]? =some v->∃d,ds[i]? =some d/\Den K F d v
 |[],_,_,_,h,e=>by cases (show _=_ from h);simp at e
 |d::ds,_,0,_,⟨v,r,h1,h2,h3⟩,e=>by subst h1;simp at e;subst e;exact⟨d,rfl,h2⟩
 |d::ds,_,i+1,_,⟨v,r,h1,h2,h3⟩,e=>by
  subst h1;obtain⟨w,e1,e2⟩:=DenL.at h3 (by simpa using e);exact⟨w,by simpa using e1,e2⟩
theorem DenL.append:∀{ds es:List D}{vs ws:List V},DenL K F ds vs->DenL K F es ws->DenL K F (ds++es) (vs++ws)
 |[],_,_,_,h,h'=>by cases (show _=_ from h);exact h'
 |d::ds,_,_,_,⟨v,r,h1,h2,h3⟩,h'=>by subst h1;exact⟨v,_,rfl,h2,DenL.append h3 h'⟩
theorem DenL.take:∀{ds:List D}{vs:List V}(n:Nat),DenL K F ds vs->DenL K F (ds.take n) (vs.take n)
 |_,_,0,_=>by simp[List.take];rfl
 |[],_,_+1,h=>by cases (show _=_ from h);rfl
 |d::ds,_,n+1,⟨v,r,h1,h2,h3⟩=>by subst h1;exact⟨v,_,rfl,h2,DenL.take n h3⟩
theorem DenL.drop:∀{ds:List D}{vs:List V}(n:Nat),DenL K F ds vs->DenL K F (ds.drop n) (vs.drop n)
 |_,_,0,h=>by simpa using h
 |[],_,_+1,h=>by cases (show _=_ from h);rfl
 |d::ds,_,n+1,⟨v,r,h1,h2,h3⟩=>by subst h1;exact DenL.drop n h3
theorem DenL.reverse:∀{ds:List D}{vs:List V},DenL K F ds vs->DenL K F ds.reverse vs.reverse
 |[],_,h=>by cases (show _=_ from h);rfl
 |d::ds,_,⟨v,r,h1,h2,h3⟩=>by
  subst h1;rw[Wa,Wa];exact DenL.append (DenL.reverse h3) (.cons h2 .nil)
def DenL.ints(ns:List Int):DenL K F (ns.map D.int) (ns.map V.int):=by
 induction ns with
 |nil=>rfl
 |cons n ns ih=>exact .cons rfl ih
end
structure Ext (F H F' H':Hp):Prop where
 hh:Same H H'
 ff:Same F F'
 fh:Same F' H'
 new:∀a,H a≠none->F' a=F a\/∃ts,H a=some (.tup ts)
def Ext.old(e:Ext F H F' H')(h:H a=some o)(hn:∀ts,o≠ .tup ts):F' a=F a:=by
 rcases e.new a (by rw[h];exact λz=>nomatch z) with q | ⟨ts,q⟩
 ·exact q
 ·rw[h] at q;cases q;exact Y9 rfl (hn ts)
theorem Ext.refl(h:Same F H):Ext F H F H:=⟨Same.refl _,Same.refl _,h,λ_ _=> .inl rfl⟩
theorem Ext.trans(a:Ext F H F' H')(b:Ext F' H' F'' H''):Ext F H F'' H'':=
 ⟨a.hh.trans b.hh,a.ff.trans b.ff,b.fh,λc hc=>by
  have:H' c≠none:=by
   cases q:H c with
   |none=>exact Y9 q hc
   |some o=>rw[a.hh c o q];exact λz=>nomatch z
  rcases a.new c hc with p | p
  ·rcases b.new c this with q | ⟨ts,q⟩
   ·exact .inl (q.trans p)
   ·cases z:H c with
    |none=>exact Y9 z hc
    |some o=>
     rw[a.hh c o z] at q;exact .inr ⟨ts,q⟩
  ·exact .inr p⟩
def Ext.lay(h:Same F H)(n:H a=none):Ext F H (upd F a o) (upd H a o):=by
 have nf:F a=none:=Same.free h n;refine⟨λb u e=>?_,λb u e=>?_,λb u e=>?_,λb hb=>?_⟩
 ·rw[au (b_ e n)];exact e
 ·rw[au (b_ e nf)];exact e
 ·by_cases q:b=a
  ·subst q;rw[aE] at e⊢;exact e
  ·rw[au q] at e⊢;exact h b u e
 ·exact .inl (au λz=>hb (by rw[z];exact n))
def Ext.free(h:Same F H)(n:H a=none):Ext F H F (upd H a o):=
 ⟨λb u e=>by rw[au (b_ e n)];exact e,Same.refl _,λb u e=>by rw[au (b_ (h b u e) n)];exact h b u e,λ_ _=> .inl rfl⟩
theorem Ext.tup(h:Same F H)(e:H a=some (.tup ts)):Ext F H (upd F a (.tup ts)) H:=by
 refine⟨Same.refl _,λb u q=>?_,λb u q=>?_,λb hb=>?_⟩
 ·by_cases z:b=a
  ·subst z;rw[aE,<-e];exact h b u q
  ·rw[au z];exact q
 ·by_cases z:b=a
  ·subst z;rw[aE] at q;rw[e];exact q
  ·rw[au z] at q;exact h b u q
 ·by_cases z:b=a
  ·subst z;exact .inr ⟨ts,e⟩
  ·exact .inl (au z)
def WP(K:SN)(Xw:Nat->Hp->Prop)(F H:Hp)(m:M D)(Q:VK):Prop:=
 match m with
 |none=>False
 |some (.ok d)=>∀v H' F',Ext F H F' H'->Den K F' d v->Q v H'
 |some (.ex n)=>∀F' H',Ext F H F' H'->Xw n H'
def WPL(K:SN)(Xw:Nat->Hp->Prop)(F H:Hp)(m:M (List D))(Q:List V->Hp->Prop):Prop:=
 match m with
 |none=>False
 |some (.ok ds)=>∀vs H' F',Ext F H F' H'->DenL K F' ds vs->Q vs H'
 |some (.ex n)=>∀F' H',Ext F H F' H'->Xw n H'
def WPB(Xw:Nat->Hp->Prop)(F H:Hp)(m:M Bool)(Q:Bool->Hp->Prop):Prop:=
 match m with
 |none=>False
 |some (.ok b)=>∀H' F',Ext F H F' H'->Q b H'
 |some (.ex n)=>∀F' H',Ext F H F' H'->Xw n H'
section
variable{K:SN}{Xw:Nat->Hp->Prop}{F F' H H':Hp}{Q:VK}
def WP.ext(e:Ext F H F' H')(h:WP K Xw F H m Q):WP K Xw F' H' m Q:=by
 match m,h with
 |none,h=>exact h
 |some (.ok d),h=>exact λv H2 F2 e2 q=>h v H2 F2 (e.trans e2) q
 |some (.ex n),h=>exact λF2 H2 e2=>h F2 H2 (e.trans e2)
def WPL.ext{Q:List V->Hp->Prop}(e:Ext F H F' H')(h:WPL K Xw F H m Q):WPL K Xw F' H' m Q:=by
 match m,h with
 |none,h=>exact h
 |some (.ok d),h=>exact λv H2 F2 e2 q=>h v H2 F2 (e.trans e2) q
 |some (.ex n),h=>exact λF2 H2 e2=>h F2 H2 (e.trans e2)
def WPB.ext{Q:Bool->Hp->Prop}(e:Ext F H F' H')(h:WPB Xw F H m Q):WPB Xw F' H' m Q:=by
 match m,h with
 |none,h=>exact h
 |some (.ok d),h=>exact λH2 F2 e2=>h H2 F2 (e.trans e2)
 |some (.ex n),h=>exact λF2 H2 e2=>h F2 H2 (e.trans e2)
def WP.fin(h:WP K Xw F H (aa d) Q)(e:Ext F H F' H')(q:Den K F' d v):Q v H':=h v H' F' e q
def WP.now(h:WP K Xw F H (aa d) Q)(s:Same F H)(q:Den K F d v):Q v H:=h v H F (Ext.refl s) q
def WP.bind(h:WP K Xw F H (m>>=k) Q):WP K Xw F H m λv H1=>∃F1 d,Ext F H F1 H1/\Den K F1 d v/\WP K Xw F1 H1 (k d) Q:=by
 match m,h with
 |none,h=>exact h
 |some (.ok d),h=>exact λv H2 F2 e2 q=>⟨F2,d,e2,q,WP.ext e2 (show WP K Xw F H (k d) Q from h)⟩
 |some (.ex n),h=>exact h
def WP.bindL(h:WP K Xw F H (m>>=k) Q):WPL K Xw F H m λvs H1=>∃F1 ds,Ext F H F1 H1/\DenL K F1 ds vs/\WP K Xw F1 H1 (k ds) Q:=by
 match m,h with
 |none,h=>exact h
 |some (.ok d),h=>exact λv H2 F2 e2 q=>⟨F2,d,e2,q,WP.ext e2 (show WP K Xw F H (k d) Q from h)⟩
 |some (.ex n),h=>exact h
def WP.bindB(h:WP K Xw F H (m>>=k) Q):WPB Xw F H m λb H1=>∃F1,Ext F H F1 H1/\WP K Xw F1 H1 (k b) Q:=by
 match m,h with
 |none,h=>exact h
 |some (.ok d),h=>exact λH2 F2 e2=>⟨F2,e2,WP.ext e2 (show WP K Xw F H (k d) Q from h)⟩
 |some (.ex n),h=>exact h
def WPB.bind{Q:Bool->Hp->Prop}(h:WPB Xw F H (m>>=k) Q):WP K Xw F H m λv H1=>∃F1 d,Ext F H F1 H1/\Den K F1 d v/\WPB Xw F1 H1 (k d) Q:=by
 match m,h with
 |none,h=>exact h
 |some (.ok d),h=>exact λv H2 F2 e2 q=>⟨F2,d,e2,q,WPB.ext e2 (show WPB Xw F H (k d) Q from h)⟩
 |some (.ex n),h=>exact h
def WPB.bindB{Q:Bool->Hp->Prop}(h:WPB Xw F H (m>>=k) Q):WPB Xw F H m λb H1=>∃F1,Ext F H F1 H1/\WPB Xw F1 H1 (k b) Q:=by
 match m,h with
 |none,h=>exact h
 |some (.ok d),h=>exact λH2 F2 e2=>⟨F2,e2,WPB.ext e2 (show WPB Xw F H (k d) Q from h)⟩
 |some (.ex n),h=>exact h
def WPL.bind{Q:List V->Hp->Prop}(h:WPL K Xw F H (m>>=k) Q):WP K Xw F H m λv H1=>∃F1 d,Ext F H F1 H1/\Den K F1 d v/\WPL K Xw F1 H1 (k d) Q:=by
 match m,h with
 |none,h=>exact h
 |some (.ok d),h=>exact λv H2 F2 e2 q=>⟨F2,d,e2,q,WPL.ext e2 (show WPL K Xw F H (k d) Q from h)⟩
 |some (.ex n),h=>exact h
def WPL.bindL{Q:List V->Hp->Prop}(h:WPL K Xw F H (m>>=k) Q):WPL K Xw F H m λvs H1=>∃F1 ds,Ext F H F1 H1/\DenL K F1 ds vs/\WPL K Xw F1 H1 (k ds) Q:=by
 match m,h with
 |none,h=>exact h
 |some (.ok d),h=>exact λv H2 F2 e2 q=>⟨F2,d,e2,q,WPL.ext e2 (show WPL K Xw F H (k d) Q from h)⟩
 |some (.ex n),h=>exact h
def WP.mono(h:WP K Xw F H m Q)(k:∀v H',Q v H'->Q' v H'):WP K Xw F H m Q':=by
 match m,h with
 |none,h=>exact h
 |some (.ok d),h=>exact λv H2 F2 e2 q=>k _ _ (h v H2 F2 e2 q)
 |some (.ex n),h=>exact h
def WPL.mono{Q Q':List V->Hp->Prop}(h:WPL K Xw F H m Q)(k:∀v H',Q v H'->Q' v H'):WPL K Xw F H m Q':=by
 match m,h with
 |none,h=>exact h
 |some (.ok d),h=>exact λv H2 F2 e2 q=>k _ _ (h v H2 F2 e2 q)
 |some (.ex n),h=>exact h
def WPB.mono{Q Q':Bool->Hp->Prop}(h:WPB Xw F H m Q)(k:∀v H',Q v H'->Q' v H'):WPB Xw F H m Q':=by
 match m,h with
 |none,h=>exact h
 |some (.ok d),h=>exact λH2 F2 e2=>k _ _ (h H2 F2 e2)
 |some (.ex n),h=>exact h
end
inductive C where
 |lst (l:List D) | dct (ks:List (List Key)) (l:List D) | dci (ks:List Key) (l:List D)
def C.d:C->D
 | .lst ds=> .lst ds
 | .dct ks ds=> .dct ks ds
 | .dci ks ds=> .dci ks ds
inductive Fv where
 |fz (d:D) | ow (l:List D)
structure Ob where
 c:Addr
 fs:List (Str×Fv)
inductive Sl where
 |fz (d:D) | ow (c:C) | ob (a:Addr) (o:Ob)
abbrev aO:=List (Option Sl)
def DenC(K:SN)(F:Hp):C->HO->Prop
 | .lst ds,o=>∃vs,o= .lst vs/\DenL K F ds vs/\ds.length<=lim
 | .dct ks ds,o=>∃vs,o= .dT (ks.zip vs)/\DenL K F ds vs/\ks.length=ds.length/\ds.length<=lim
 | .dci ks ds,o=>∃vs,o= .dK (ks.zip vs)/\DenL K F ds vs/\ks.length=ds.length/\ds.length<=lim
theorem DenC.mono{K:SN}(e:Same F F'):∀{c:C}{o:HO},DenC K F c o->DenC K F' c o
 | .lst _,_,⟨vs,h1,h2,h3⟩=>⟨vs,h1,DenL.mono e h2,h3⟩
 | .dct _ _,_,⟨vs,h1,h2,h3⟩=>⟨vs,h1,DenL.mono e h2,h3⟩
 | .dci _ _,_,⟨vs,h1,h2,h3⟩=>⟨vs,h1,DenL.mono e h2,h3⟩
def DenC.notup{K:SN}:∀{c:C}{o:HO},DenC K F c o->∀ts,o≠ .tup ts
 | .lst _,_,⟨_,h1,_⟩,ts,z=>by rw[h1] at z;cases z
 | .dct _ _,_,⟨_,h1,_⟩,ts,z=>by rw[h1] at z;cases z
 | .dci _ _,_,⟨_,h1,_⟩,ts,z=>by rw[h1] at z;cases z
def i8(ob:Obj):HO->HO
 | .dT az=> .frz ob (.dT az)
 | .dK az=> .frz ob (.dK az)
 |o=>o
def DenC.den{K:SN}:∀{c:C}{o:HO},DenC K F c o->Same F F'->F' a=some (i8 ob o)->Den K F' c.d (.ref a)
 | .lst _,_,⟨vs,h1,h2,h3⟩,e,q=>by subst h1;exact⟨a,vs,rfl,q,DenL.mono e h2,h3⟩
 | .dct _ _,_,⟨vs,h1,h2,h3⟩,e,q=>by subst h1;exact⟨a,ob,vs,rfl,q,DenL.mono e h2,h3⟩
 | .dci _ _,_,⟨vs,h1,h2,h3⟩,e,q=>by subst h1;exact⟨a,ob,vs,rfl,q,DenL.mono e h2,h3⟩
def bG:List (Str×Fv)->List (Str×V)->List Addr
 |(_, .ow _)::fs,(_, .ref b)::gs=>b::bG fs gs
 |_::fs,_::gs=>bG fs gs
 |_,_=>[]
def aW(H:Hp)(o:Ob)(a:Addr):List Addr:=match H a with
 |some (.ins _ dx gs)=>a::dx::bG o.fs gs
 |_=>[]
def Fe(K:SN)(F H:Hp):Fv->V->Prop
 | .fz d,v=>Den K F d v
 | .ow ds,v=>∃b vs,v= .ref b/\H b=some (.lst vs)/\DenL K F ds vs/\ds.length<=lim
def FsAt(K:SN)(F H:Hp):List (Str×Fv)->List (Str×V)->Prop
 |[],gs=>gs=[]
 |(n,f)::fs,gs=>∃v r,gs=(n,v)::r/\Fe K F H f v/\FsAt K F H fs r
structure ObAt (K:SN) (F H:Hp) (o:Ob) (a:Addr):Prop where
 ins:∃dx gs,H a=some (.ins o.c dx gs)/\H dx=some (.own a)/\FsAt K F H o.fs gs
 nf:∀b∈aW H o a,F b=none
 nd:(aW H o a).Nodup
theorem FsAt.cell{K:SN}:∀{fs:List (Str×Fv)}{gs:List (Str×V)},FsAt K F H fs gs->∀b∈bG fs gs,∃vs,H b=some (.lst vs)
 |[],_,h,b,hb=>by cases (show _=_ from h);cases hb
 |(n, .fz d)::fs,_,⟨v,r,h1,_,h3⟩,b,hb=>by subst h1;exact FsAt.cell h3 b hb
 |(n, .ow ds)::fs,_,⟨v,r,h1,⟨c,vs,h4,h5,_⟩,h3⟩,b,hb=>by
  subst h1;subst h4;rcases S6.mp hb with q | q
  ·rw[q];exact⟨vs,h5⟩
  ·exact FsAt.cell h3 b q
def ObAt.foot{K:SN}(h:ObAt K F H o a):∃dx gs,H a=some (.ins o.c dx gs)/\H dx=some (.own a)/\FsAt K F H o.fs gs/\aW H o a=a::dx::bG o.fs gs:=by
 obtain⟨dx,gs,h1,h2,h3⟩:=h.ins;exact⟨dx,gs,h1,h2,h3,by unfold aW;rw[h1]⟩
theorem ObAt.cell{K:SN}(h:ObAt K F H o a):∀b∈aW H o a,∃u,H b=some u/\∀ts,u≠ .tup ts:=λb hb=>by
 obtain⟨dx,gs,h1,h2,h3,h4⟩:=h.foot;rw[h4] at hb;rcases S6.mp hb with rfl | hb
 ·exact⟨_,h1,λts z=>nomatch z⟩
 ·rcases S6.mp hb with rfl | hb
  ·exact⟨_,h2,λts z=>nomatch z⟩
  ·obtain⟨vs,e⟩:=h3.cell b hb;exact⟨_,e,λts z=>nomatch z⟩
theorem FsAt.move{K:SN}(ff:Same F F'):∀{fs:List (Str×Fv)}{gs:List (Str×V)},FsAt K F H fs gs->(∀b∈bG fs gs,H' b=H b)->FsAt K F' H' fs gs
 |[],_,h,_=>h
 |(n, .fz d)::fs,_,⟨v,r,h1,h2,h3⟩,hb=>by subst h1;exact⟨v,r,rfl,Den.mono ff h2,FsAt.move ff h3 hb⟩
 |(n, .ow ds)::fs,_,⟨v,r,h1,⟨c,vs,h4,h5,h6,h7⟩,h3⟩,hb=>by
  subst h1;subst h4;exact⟨_,r,rfl,⟨c,vs,rfl,by rw[hb c (SM ..)];exact h5,DenL.mono ff h6,h7⟩,FsAt.move ff h3 λb q=>hb b (SJ _ q)⟩
theorem ObAt.move{K:SN}(h:ObAt K F H o a)(ff:Same F F')(hH:∀b∈aW H o a,H' b=H b)(hF:∀b∈aW H o a,F' b=none):ObAt K F' H' o a/\aW H' o a=aW H o a:=by
 obtain⟨dx,gs,h1,h2,h3,h4⟩:=h.foot;have e1:H' a=some (.ins o.c dx gs):=by rw[hH a (by rw[h4];exact SM ..)];exact h1
 have e2:H' dx=some (.own a):=by rw[hH dx (by rw[h4];exact SJ _ (SM ..))];exact h2
 have e4:aW H' o a=aW H o a:=by rw[h4];unfold aW;rw[e1]
 exact⟨⟨⟨dx,gs,e1,e2,h3.move ff λb q=>hH b (by rw[h4];exact SJ _ (SJ _ q))⟩,by rw[e4];exact hF,by rw[e4];exact h.nd⟩,e4⟩
def DenO(K:SN)(F H:Hp):Sl->V->Prop
 | .fz d,v=>Den K F d v
 | .ow c,v=>∃a o,v= .ref a/\H a=some o/\F a=none/\DenC K F c o
 | .ob a o,v=>v= .ref a/\ObAt K F H o a
def Sl.foot(H:Hp):Sl->V->List Addr
 | .ow _, .ref a=>[a]
 | .ob a o,_=>aW H o a
 |_,_=>[]
theorem DenO.cell{K:SN}:∀{sl:Sl}{v:V},DenO K F H sl v->∀b∈sl.foot H v,F b=none/\∃u,H b=some u/\∀ts,u≠ .tup ts
 | .fz _,_,_,b,hb=>by cases hb
 | .ow _,_,⟨a,o,h1,h2,h3,h4⟩,b,hb=>by
   subst h1;rw[Tg.mp hb];exact⟨h3,o,h2,h4.notup⟩
 | .ob _ _,_,⟨_,h2⟩,b,hb=>⟨h2.nf b hb,h2.cell b hb⟩
theorem DenO.move{K:SN}(ff:Same F F'):∀{sl:Sl}{v:V},DenO K F H sl v->(∀b∈sl.foot H v,H' b=H b)->(∀b∈sl.foot H v,F' b=none)->DenO K F' H' sl v/\sl.foot H' v=sl.foot H v
 | .fz _,_,h,_,_=>⟨Den.mono ff h,rfl⟩
 | .ow _,_,⟨a,o,h1,h2,h3,h4⟩,hH,hF=>by
   subst h1;exact⟨⟨a,o,rfl,by rw[hH a (Tg.mpr rfl)];exact h2,hF a (Tg.mpr rfl),DenC.mono ff h4⟩,rfl⟩
 | .ob _ _,_,⟨h1,h2⟩,hH,hF=>
   let ⟨h3,h4⟩:=h2.move ff hH hF
   ⟨⟨h1,h3⟩,h4⟩
structure StE (K:SN) (F H:Hp) (σ:St) (ρ:aO):Prop where
 fh:Same F H
 den:∀(i:Nat) (sl:Sl),ρ[i]? =some (some sl)->∃v,σ[i]? =some (some v)/\DenO K F H sl v
def DenO.ext'{K:SN}(e:Ext F H F' H'){sl:Sl}{v:V}(h:DenO K F H sl v):DenO K F' H' sl v/\sl.foot H' v=sl.foot H v:=
 h.move e.ff (λb hb=>by
  obtain⟨_,u,h2,_⟩:=h.cell b hb;rw[h2];exact e.hh b u h2) λb hb=>by
  obtain⟨h1,u,h2,h3⟩:=h.cell b hb;rw[e.old h2 h3];exact h1
def DenO.ext{K:SN}(e:Ext F H F' H'){sl:Sl}{v:V}(h:DenO K F H sl v):DenO K F' H' sl v:=(h.ext' e).1
theorem StE.ext{K:SN}(s:StE K F H σ ρ)(e:Ext F H F' H'):StE K F' H' σ ρ:=
 ⟨e.fh,λi sl q=>let ⟨v,h1,h2⟩:=s.den i sl q;⟨v,h1,h2.ext e⟩⟩
abbrev DE:=aO->M D
abbrev DT:=aO->M Bool
abbrev DA:=aO->M (List D)
def tD(K:SN)(Xw:Nat->Hp->Prop)(δ:DE):TE:=λσ H Q=>∃F ρ,StE K F H σ ρ/\WP K Xw F H (δ ρ) Q
def OL(K:SN)(Xw:Nat->Hp->Prop)(δ:DT):TT:=λσ H Q=>∃F ρ,StE K F H σ ρ/\WPB Xw F H (δ ρ) Q
def Qg(K:SN)(Xw:Nat->Hp->Prop)(δ:DA):TA:=λσ H Q=>∃F ρ,StE K F H σ ρ/\WPL K Xw F H (δ ρ) Q
def PD(X:Cx)(Xw:Nat->Hp->Prop)(e:Expr)(δ:DE):Prop:=PE X e (tD X.K Xw δ)
def qT(X:Cx)(Xw:Nat->Hp->Prop)(e:Expr)(δ:DT):Prop:=PT X e (OL X.K Xw δ)
def kU(X:Cx)(Xw:Nat->Hp->Prop)(es:List Expr)(δ:DA):Prop:=PA X es (Qg X.K Xw δ)
def PE.weak(h:PE X e t)(k:∀σ H Q,t' σ H Q->t σ H Q):PE X e t':=λf8 s σ H Q I w=>h f8 s σ H Q I (k σ H Q w)
def PT.weak(h:PT X e t)(k:∀σ H Q,t' σ H Q->t σ H Q):PT X e t':=λf8 s σ H Q I w=>h f8 s σ H Q I (k σ H Q w)
def PA.weak(h:PA X e t)(k:∀σ H Q,t' σ H Q->t σ H Q):PA X e t':=λpos f8 s σ H Q I w=>h pos f8 s σ H Q I (k σ H Q w)
def dV(i:Nat):DE:=λρ=>match ρ[i]? with
 |some (some (.fz d))=>aa d
 |_=>af
def dC(d:D):DE:=λ_=>aa d
def d1(g:D->M D)(a:DE):DE:=λρ=>a ρ>>=g
def d2(g:D->D->M D)(a b:DE):DE:=λρ=>a ρ>>=λx=>b ρ>>=λy=>g x y
def aN:DA:=λ_=>aa []
def aC(a:DE)(r:DA):DA:=λρ=>a ρ>>=λx=>r ρ>>=λxs=>aa (x::xs)
def dA(g:List D->M D)(a:DA):DE:=λρ=>a ρ>>=g
def B3:D->M Bool
 | .bl b=>aa b
 |_=>af
def eA(a:DE):DT:=λρ=>a ρ>>=B3
def tJ(a b:DT):DT:=λρ=>a ρ>>=λx=>if x then aa true else b ρ
def cS(a:DT):DT:=λρ=>a ρ>>=λx=>aa (!x)
def Hz(c:DT)(a b:DE):DE:=λρ=>c ρ>>=λx=>if x then a ρ else b ρ
def d5(a b:DE):DE:=λρ=>a ρ>>=λx=>B3 x>>=λc=>if c then b ρ else aa (.bl false)
def HA(a:DE):DE:=λρ=>a ρ>>=λx=>B3 x>>=λc=>aa (.bl (!c))
section
variable{X:Cx}{Xw:Nat->Hp->Prop}{a b:Expr}{δa δb:DE}{pos:Pos}
def ae(h:PE X (.Name x pos) (gY i)):PD X Xw (.Name x pos) (dV i):=PE.weak h λσ H Q ⟨F,ρ,s,w⟩=>by
 unfold dV at w;split at w
 ·rename_i d e;obtain⟨v,h1,h2⟩:=s.den i _ e;exact⟨v,h1,WP.now w s.fh h2⟩
 ·exact w.elim
def gN(h:PE X e (tC v))(hd:∀F,Den X.K F d v):PD X Xw e (dC d):=PE.weak h λσ H Q ⟨F,ρ,s,w⟩=>WP.now w s.fh (hd F)
def aj:PD X Xw (.Constant (.int i) j pos) (dC (.int i)):=gN D6 λ_=>rfl
def eP:PD X Xw (.Constant (.bool i) j pos) (dC (.bl i)):=gN L1 λ_=>rfl
def JB:PD X Xw (.Constant .none j pos) (dC .non):=gN JG λ_=>rfl
def d_(h:x.length<=lim:=by decide):PD X Xw (.Constant (.str x) j pos) (dC (.str x)):=gN JK λ_=>⟨rfl,h⟩
def xt(K:SN)(r:R2)(g:D->D->M D):Prop:=∀(Xw:Nat->Hp->Prop) (F H:Hp) (x y:V) (dx dy:D) (Q:VK),Same F H->Den K F dx x->Den K F dy y->WP K Xw F H (g dx dy) Q->r x y H Q
def uX(hg:xt X.K r g):∀σ H Q,tD X.K Xw (d2 g δa δb) σ H Q->Mu r (tD X.K Xw δa) (tD X.K Xw δb) σ H Q:=λσ H Q ⟨F,ρ,s,w⟩=>by
 refine⟨F,ρ,s,WP.mono (WP.bind w) λv H1 ⟨F1,d,e1,q1,w1⟩=>?_⟩;refine⟨F1,ρ,s.ext e1,WP.mono (WP.bind w1) λu H2 ⟨F2,d',e2,q2,w2⟩=>?_⟩;exact hg Xw F2 H2 v u d d' Q e2.fh (Den.mono e2.ff q1) q2 w2
def qk(ho:OpR X (VU op) r)(hg:xt X.K r g)(ha:PD X Xw a δa)(hb:PD X Xw b δb):PD X Xw (.BinOp a op b pos) (d2 g δa δb):=
 PE.weak (L4 ho ha hb) (uX hg)
def uA(ho:OpR X (Uc op) r)(hg:xt X.K r g)(ha:PD X Xw a δa)(hb:PD X Xw b δb)(hm:T7 op b=false:=by first | exact yt _ | rfl):PD X Xw (.Compare a [op] [b] pos) (d2 g δa δb):=
 PE.weak (Gz ho ha hb hm) (uX hg)
def iz(ho:OpR X (Uc op) r)(hg:xt X.K r g)(ha:PD X Xw a δa)(hb:PD X Xw b δb)(hm:T7 op b=false:=by first | exact yt _ | rfl):qT X Xw (.Compare a [op] [b] pos) (eA (d2 g δa δb)):=
 PT.weak (Af ho ha hb hm) λσ H Q ⟨F,ρ,s,w⟩=>by
  refine uX hg σ H _ ⟨F,ρ,s,WP.mono (WPB.bind w) λv H1 ⟨F1,d,e1,q1,w1⟩=>?_⟩;cases d with
  |bl k=>exact⟨k,q1,w1 _ _ (Ext.refl e1.fh)⟩
  |_=>exact w1.elim
def z_(hr:Kw X r)(hg:xt X.K r g)(ha:PD X Xw a δa)(hb:PD X Xw b δb)(hs:g6 b:=by intro _ _;rfl):PD X Xw (.Subscript a b pos) (d2 g δa δb):=
 PE.weak (H8 hr ha hb hs) (uX hg)
def ag:kU X Xw [] aN:=PA.weak qe λσ H Q ⟨F,ρ,s,w⟩=>w [] H F (Ext.refl s.fh) rfl
def ab(ha:PD X Xw a δa)(hr:kU X Xw es δs)(hs:SX (a::es) X.env=(false,eval a X.env)::SX es X.env:=by rfl):kU X Xw (a::es) (aC δa δs):=
 PA.weak (oJ ha hr hs) λσ H Q ⟨F,ρ,s,w⟩=>by
  refine⟨F,ρ,s,WP.mono (WPL.bind w) λv H1 ⟨F1,d,e1,q1,w1⟩=>?_⟩;refine⟨F1,ρ,s.ext e1,WPL.mono (WPL.bindL w1) λvs H2 ⟨F2,ds,e2,q2,w2⟩=>?_⟩;exact w2 _ _ _ (Ext.refl e2.fh) (.cons (Den.mono e2.ff q1) q2)
def dm(ds:List D):M D:=if ds.length<=lim then aa (.tup ds) else af
def fM(ds:List D):M D:=if ds.length<=lim then aa (.lst ds) else af
def yr{f:List D->D}(w:WP X.K Xw F H (if ds.length<=lim then aa (f ds) else af) Q):ds.length<=lim/\WP X.K Xw F H (aa (f ds)) Q:=by
 split at w
 ·rename_i h;exact⟨h,w⟩
 ·exact w.elim
def fP(h:kU X Xw es δs):PD X Xw (.Tuple es x1 pos) (dA dm δs):=PE.weak (JL h) λσ H Q ⟨F,ρ,s,w⟩=>by
 refine⟨F,ρ,s,WPL.mono (WP.bindL w) λvs H1 ⟨F1,ds,e1,q1,w1⟩=>?_⟩;obtain⟨hl,w1⟩:=yr w1;have hv:=q1.len;refine⟨by have:=dS;omega,λp hp=>WP.fin w1 (Ext.lay e1.fh hp) ⟨p,vs,rfl,aE,DenL.mono (Ext.lay e1.fh hp).ff q1,hl⟩⟩
def kI(h:kU X Xw es δs):PD X Xw (.List es pos) (dA fM δs):=PE.weak (D7 h) λσ H Q ⟨F,ρ,s,w⟩=>by
 refine⟨F,ρ,s,WPL.mono (WP.bindL w) λvs H1 ⟨F1,ds,e1,q1,w1⟩=>?_⟩;obtain⟨hl,w1⟩:=yr w1;have hv:=q1.len;refine⟨by have:=dS;omega,λp hp=>WP.fin w1 (Ext.lay e1.fh hp) ⟨p,vs,rfl,aE,DenL.mono (Ext.lay e1.fh hp).ff q1,hl⟩⟩
end
def ItD(K:SN)(F:Hp)(J:It)(ds:List D):Prop:=∀(F' H':Hp) (i:Nat),Same F F'->Same F' H'->
 (∀d,ds[i]? =some d->J.go i H'/\∀x H'',J.yld i H' x H''->∃F'',Ext F' H' F'' H''/\Den K F'' d x)/\(ds.length<=i->J.stop i H')
def ItD.mono{K:SN}(h:ItD K F J ds)(e:Same F F1):ItD K F1 J ds:=λF' H' i s1 s2=>h F' H' i (e.trans s1) s2
def WPI(K:SN)(Xw:Nat->Hp->Prop)(F H:Hp)(m:M (List D))(R:It->Hp->Prop):Prop:=
 match m with
 |none=>False
 |some (.ok ds)=>∀J H' F',Ext F H F' H'->ItD K F' J ds->R J H'
 |some (.ex n)=>∀F' H',Ext F H F' H'->Xw n H'
def R5(K:SN)(Xw:Nat->Hp->Prop)(δ:DA):TI:=λσ H R=>∃F ρ,StE K F H σ ρ/\WPI K Xw F H (δ ρ) R
def zg(X:Cx)(Xw:Nat->Hp->Prop)(tg iter:Expr)(δ:DA):Prop:=PI X tg iter (R5 X.K Xw δ)
def PI.weak{X:Cx}(h:PI X tg e t)(k:∀σ H Q,t' σ H Q->t σ H Q):PI X tg e t':=λf8 s σ H Q I w=>h f8 s σ H Q I (k σ H Q w)
def WPI.bind{K:SN}(h:WPI K Xw F H (m>>=k) R):
 WP K Xw F H m λv H1=>∃F1 d,Ext F H F1 H1/\Den K F1 d v/\WPI K Xw F1 H1 (k d) R:=by
 match m,h with
 |none,h=>exact h
 |some (.ok d),h=>
  refine λv H2 F2 e2 q=>⟨F2,d,e2,q,?_⟩
  have h:WPI K Xw F H (k d) R:=h;show WPI K Xw F2 H2 (k d) R
  match k d,h with
  |none,h=>exact h
  |some (.ok ds),h=>exact λJ H3 F3 e3 q3=>h J H3 F3 (e2.trans e3) q3
  |some (.ex n),h=>exact λF3 H3 e3=>h F3 H3 (e2.trans e3)
 |some (.ex n),h=>exact h
def WPI.bindL{K:SN}(h:WPI K Xw F H (m>>=k) R):
 WPL K Xw F H m λv H1=>∃F1 d,Ext F H F1 H1/\DenL K F1 d v/\WPI K Xw F1 H1 (k d) R:=by
 match m,h with
 |none,h=>exact h
 |some (.ok d),h=>
  refine λv H2 F2 e2 q=>⟨F2,d,e2,q,?_⟩
  have h:WPI K Xw F H (k d) R:=h;show WPI K Xw F2 H2 (k d) R
  match k d,h with
  |none,h=>exact h
  |some (.ok ds),h=>exact λJ H3 F3 e3 q3=>h J H3 F3 (e2.trans e3) q3
  |some (.ex n),h=>exact λF3 H3 e3=>h F3 H3 (e2.trans e3)
 |some (.ex n),h=>exact h
def lstM:D->M (List D)
 | .lst ds=>aa ds
 |_=>af
def OY:D->M (List D)
 | .tup ds=>aa ds
 |_=>af
def fc(a:DE):DA:=λρ=>a ρ>>=lstM
def gA(a:DE):DA:=λρ=>a ρ>>=OY
def C8{K:SN}(h:SqL K F a vs)(hd:DenL K F ds vs):ItD K F (Nc K a) ds:=λF' H' i s1 s2=>by
 have hs:=Same.seq s2 (Same.seq s1 h);refine⟨λd e=>?_,λhl=>⟨vs,hs,by rw[<-hd.len];exact hl⟩⟩;obtain⟨v,e1,q⟩:=hd.get e;refine⟨⟨vs,v,hs,e1⟩,λx H'' y=>?_⟩;obtain⟨e2,y⟩:=y;subst e2;have:=y vs hs;rw[e1] at this;cases this;exact⟨F',Ext.refl s2,Den.mono s1 q⟩
def FV{K:SN}(h:SqT K F a vs)(hd:DenL K F ds vs):ItD K F (Nd K a) ds:=λF' H' i s1 s2=>by
 have hs:=Same.tup s2 (Same.tup s1 h);refine⟨λd e=>?_,λhl=>⟨vs,hs,by rw[<-hd.len];exact hl⟩⟩;obtain⟨v,e1,q⟩:=hd.get e;refine⟨⟨vs,v,hs,e1⟩,λx H'' y=>?_⟩;obtain⟨e2,y⟩:=y;subst e2;have:=y vs hs;rw[e1] at this;cases this;exact⟨F',Ext.refl s2,Den.mono s1 q⟩
def gR(lo:Int)(n:Nat):List D:=(S5 n).map λ(i:Nat)=>D.int (lo+(i:Int))
def rX{K:SN}{F:Hp}(lo:Int)(n:Nat):ItD K F (Kv lo n) (gR lo n):=λF' H' i s1 s2=>by
 refine⟨λd e=>?_,λhl=>show n<=i by simpa[gR] using hl⟩;unfold gR at e;rw[S2] at e;have hi:i<n:=by
  by_cases hi:i<n
  ·exact hi
  ·rw[Wv (by simpa using hi)] at e;cases e
 rw[VQ hi] at e;cases e;refine⟨hi,λx H'' y=>?_⟩;obtain⟨e2,y⟩:=y;subst e2 y;exact⟨F',Ext.refl s2,rfl⟩
section
variable{X:Cx}{Xw:Nat->Hp->Prop}{tg l:Expr}{δ:DE}{pos:Pos}
def c8(h:PD X Xw l δ):zg X Xw tg l (fc δ):=PI.weak (GF h) λσ H R ⟨F,ρ,s,w⟩=>by
 refine⟨F,ρ,s,WP.mono (WPI.bind w) λv H1 ⟨F1,d,e1,q1,w1⟩=>?_⟩;cases d with
 |lst ds=>
  obtain⟨a,vs,h1,h2,h3,h4⟩:=q1;exact⟨a,h1,⟨vs,Same.seq e1.fh (SqL.of h2)⟩,w1 _ _ _ (Ext.refl e1.fh) (C8 (SqL.of h2) h3)⟩
 |_=>exact w1.elim
def ix(h:PD X Xw l δ):zg X Xw tg l (gA δ):=PI.weak (JQ h) λσ H R ⟨F,ρ,s,w⟩=>by
 refine⟨F,ρ,s,WP.mono (WPI.bind w) λv H1 ⟨F1,d,e1,q1,w1⟩=>?_⟩;cases d with
 |tup ds=>
  obtain⟨a,vs,h1,h2,h3,h4⟩:=q1;exact⟨a,h1,⟨vs,Same.tup e1.fh (SqT.of h2)⟩,w1 _ _ _ (Ext.refl e1.fh) (FV (SqT.of h2) h3)⟩
 |_=>exact w1.elim
def e_:List D->M (List D)
 |[.int j]=>if -4096<=j/\j<=4096 then aa (gR 0 j.toNat) else af
 |_=>af
def sR:List D->M (List D)
 |[.int i, .int j]=>if (-4096<=i/\i<=4096)/\(-4096<=j/\j<=4096) then aa (gR i (j - i).toNat) else af
 |_=>af
def DenL.one{K:SN}(h:DenL K F [d] vs):∃v,vs=[v]/\Den K F d v:=by
 obtain⟨v,r,h1,h2,h3⟩:=h;cases (show r=[] from h3);exact⟨v,h1,h2⟩
def DenL.two{K:SN}(h:DenL K F [d,d'] vs):∃v v',vs=[v,v']/\Den K F d v/\Den K F d' v':=by
 obtain⟨v,r,h1,h2,h3⟩:=h;obtain⟨v',h4,h5⟩:=h3.one;subst h4;exact⟨v,v',h1,h2,h5⟩
def cb{a:Expr}(hg:Gl X "range")(hm:X.mg "range"=none)(ha:kU X Xw [a] δs)(hs:SX [a] X.env=[(false,eval a X.env)]:=by rfl):zg X Xw tg (.Call (.Name "range" p) [a] [] pos) (λρ=>δs ρ>>=e_):=
 PI.weak (BI hg hm ha hs) λσ H R ⟨F,ρ,s,w⟩=>by
  refine⟨F,ρ,s,WPL.mono (WPI.bindL w) λvs H1 ⟨F1,ds,e1,q1,w1⟩=>?_⟩;unfold e_ at w1;split at w1
  ·rename_i j;obtain⟨v,h1,h2⟩:=q1.one;cases (show v=_ from h2);split at w1
   ·exact⟨j,h1,by omega,by omega,w1 _ _ _ (Ext.refl e1.fh) (rX 0 _)⟩
   ·exact w1.elim
  ·exact w1.elim
def ql{a b:Expr}(hg:Gl X "range")(hm:X.mg "range"=none)(ha:kU X Xw [a,b] δs)(hs:SX [a,b] X.env=[(false,eval a X.env),(false,eval b X.env)]:=by rfl)
 (I9:SX [b] X.env=[(false,eval b X.env)]:=by rfl):zg X Xw tg (.Call (.Name "range" p) [a,b] [] pos) (λρ=>δs ρ>>=sR):=
 PI.weak (BJ hg hm ha hs I9) λσ H R ⟨F,ρ,s,w⟩=>by
  refine⟨F,ρ,s,WPL.mono (WPI.bindL w) λvs H1 ⟨F1,ds,e1,q1,w1⟩=>?_⟩;unfold sR at w1;split at w1
  ·rename_i i j;obtain⟨v,v',h1,h2,h3⟩:=q1.two;cases (show v=_ from h2);cases (show v'=_ from h3);split at w1
   ·exact⟨i,j,h1,⟨by omega,by omega,by omega,by omega⟩,w1 _ _ _ (Ext.refl e1.fh) (rX i _)⟩
   ·exact w1.elim
  ·exact w1.elim
end
def cg(tg N:List Str):List Str:=N.map λy=>if tg.contains y then y++(" ":Str) else y
def kg(X:Cx)(scope:Scope)(tn:List Str)(f8:List (Addr×Obj))(cl:List (Str×Addr))(C:Addr)(fp:List Addr)(v0:SS)(H:Hp):Cx:=
 {X with N:=tn++cg tn X.N,Zy:=v0,Zx:=H,env:=compEnvC scope cl C X.env,outer:=X.stack,ex:=fp,fn:=λ_=>false,pn:=X.pn++f8,xe:=λ_ _=>False}
structure CompSc (X:Cx) (scope:Scope) (tn:List Str):Prop where
 kind:scope.kind= .function
 nocell:∀y∈scope.names,y.2≠ .cell
 names:∀y∈scope.names,y.2= .local->scope.names.lookup y.1=some .local
 frees:∀y∈scope.names,y.2= .free->X.env.kindOf y.1=some .cell\/X.env.kindOf y.1=some .free
 vis:∀p∈(cg tn X.N).zip X.N,scope.names.lookup p.1=none\/(p.1=p.2/\scope.names.lookup p.1=some .free)
theorem kz{env:Env}:∀(names:List (Str×Wf)) (v6:List (Str×Addr)),(∀y∈names,y.2= .free->∃c,env.cells.lookup y.1=some c)->
 (∀x c,v6.lookup x=some c->env.cells.lookup x=some c)->
 ∃cl,(forIn names v6 (λ(x:Str×Wf) (r:List (Str×Addr))=>do
   let __x:=x
   if (__x.2==Y2)=true then do let c<-cellOf env __x.1;pure (Ud ((__x.1,c)::r)) else pure (Ud r)):Sem (List (Str×Addr)))=pure cl/\
  (∀x c,cl.lookup x=some c->env.cells.lookup x=some c)/\(∀x c,v6.lookup x=some c->∃c',cl.lookup x=some c')/\(∀x,names.lookup x=some .free->∃c,cl.lookup x=some c)
 |[],v6,_,h2=>⟨v6,rfl,h2,λx c e=>⟨c,e⟩,λx e=>by simp at e⟩
 |(n,k)::r,v6,h1,h2=>by
  by_cases hk:k= .free
  ·subst hk;obtain⟨c,hc⟩:=h1 (n, .free) SM rfl;obtain⟨cl,e,a1,a2,a3⟩:=kz r ((n,c)::v6) (λy hy=>h1 y (SJ _ hy)) (λx c' q=>by
    rw[Ut] at q;split at q
    ·rename_i hx;cases q;rw[show x=n from by simpa using hx];exact hc
    ·exact h2 x c' q)
   refine⟨cl,?_,a1,λx c' q=>?_,λx q=>?_⟩
   ·rw[Ww];have:cellOf env n=pure c:=by unfold cellOf;rw[hc]
    simp only[beq_self_eq_true,if_true,this,pure_bind];exact e
   ·by_cases hx:x=n
    ·subst hx;exact a2 x c (by simp[Ut])
    ·exact a2 x c' (by rw[Ut,show (x==n)=false from by simpa using hx];exact q)
   ·rw[Ut] at q;split at q
    ·rename_i hx;exact a2 x c (by rw[Ut,hx])
    ·exact a3 x q
  ·obtain⟨cl,e,a1,a2,a3⟩:=kz r v6 (λy hy=>h1 y (SJ _ hy)) h2;refine⟨cl,?_,a1,a2,λx q=>?_⟩
   ·rw[Ww];have:((k==Y2)=true)=False:=by simpa using hk
    simp only[this,if_false,pure_bind];exact e
   ·rw[Ut] at q;split at q
    ·cases q;exact Y9 rfl hk
    ·exact a3 x q
def o6{scope:Scope}(h:∀y∈scope.names,y.2= .free->∃c,env.cells.lookup y.1=some c):
 ∃cl,closureFor scope env=pure cl/\(∀x c,cl.lookup x=some c->env.cells.lookup x=some c)/\(∀x,scope.names.lookup x=some .free->∃c,cl.lookup x=some c):=by
 obtain⟨cl,e,a1,_,a3⟩:=kz scope.names [] h (λx c q=>by simp at q);refine⟨cl,?_,a1,a3⟩;unfold closureFor;show (forIn scope.names [] _>>=λr=>pure r)=_;rw[bind_pure];exact e
def noex:M α->M α
 |some (.ok a)=>some (.ok a)
 |_=>none
def cX(f:D->M (Option D)):List D->M (List D)
 |[]=>aa []
 |d::ds=>f d>>=λo=>cX f ds>>=λr=>aa (match o with | some y=>y::r | none=>r)
def Qh(n:Nat):D->M (List D):=λd=>match n,d with
 |0,d=>aa [d]
 |n, .tup ds=>if ds.length=n then aa ds else af
 |_,_=>af
def fW(n:Nat)(δt:DT)(δe:DE)(ρ:aO):D->M (Option D):=λd=>
 Qh n d>>=λts=>δt (ts.map (λt=>some (Sl.fz t))++ρ)>>=λb=>if b then δe (ts.map (λt=>some (Sl.fz t))++ρ)>>=λy=>aa (some y) else aa none
def aR(n:Nat)(δi:DA)(δt:DT)(δe:DE):DE:=λρ=>δi ρ>>=λds=>noex (cX (fW n δt δe ρ) ds)>>=fM
def bb:DT:=λ_=>aa true
def dP(f:D->M (Option D))(d:D)(ds:List D):cX f (d::ds)=(f d>>=λo=>cX f ds>>=λr=>aa (match o with | some y=>y::r | none=>r)):=rfl
def xS(hd:ds[i]? =some d)
 (h:cX f ds=(cX f (ds.drop i)>>=λr=>aa (ys++r)))(hR:cX f ds=aa R):
 ∃o,f d=aa o/\cX f ds=(cX f (ds.drop (i+1))>>=λr=>aa ((match o with | some y=>ys++[y] | none=>ys)++r)):=by
 have e:ds.drop i=d::ds.drop (i+1):=by
  obtain⟨hi,e⟩:=SY.mp hd;rw[V1 hi,e]
 rw[e,dP] at h;have h':=h.symm.trans hR;obtain⟨r,h1,h2⟩:=dG h';obtain⟨o,h3,h4⟩:=dG h1;refine⟨o,h3,?_⟩;obtain⟨r',h5,h6⟩:=dG h4;rw[h5,hR];rw[<-h2,<-eK h6];show aa _=aa _;cases o with
 |none=>rfl
 |some y=>simp
def AX(I:Nat->SS->Prop)
 (turn:∀n s,I n s->wpAny (model prog w) A (Yy it) (λr T0=>match r with
  |none=>R (.ok .next) T0
  |some v=>wpAny (model prog w) A (WU target it v) (λ_ Qf=>wpAny (model prog w) A (assign target env v) (λ_ v0=>
    wpAny (model prog w) A (forIn ifs true λc r=>if r=true then do let ok<-isTrue c env (eval c env);pure (Ud ok) else pure (Ud r)) (λok Zh=>
     if ok=true then wpAny (model prog w) A (eval Zk env) (λx Zm=>
      wpAny (model prog w) A (call (.builtin "list.append") [v6,x]) (λ_ Zr=>∃m,m<n/\I m Zr) (YM (model prog w) A env λe s'=>R (.error e) s') Zm) (YM (model prog w) A env λe s'=>R (.error e) s') Zh
     else∃m,m<n/\I m Zh) (YM (model prog w) A env λe s'=>R (.error e) s') v0) (YM (model prog w) A env λe s'=>R (.error e) s') Qf) (YM (model prog w) A env λe s'=>R (.error e) s') T0) (YM (model prog w) A env λe s'=>R (.error e) s') s)
 (n:Nat) (h:I n s):
 Xf (model prog w) A (.compLoop (.ListComp Zk [⟨target,iter,ifs,0⟩] scope pos) 0 it v6 env) R s:=by
 refine codeAny_loop rfl I (λn s hI=>?_) n h;show wpAny _ A ((compTurn (.ListComp Zk [⟨target,iter,ifs,0⟩] scope pos) 0 it v6 env).onRaise (λx=>do noteFrame x env;theTreesLotGoes x)) _ _ s;refine wpAny_noted ?_;rw[compTurn_list];refine SH (wpAny_standAt (SH (Ux (turn n s hI) (λr T0 Zg=>?_) λ_ _ h'=>h')));cases r with
 |none=>exact SQ Zg
 |some v=>
  refine SH (Ux Zg (λ_ Qf Zg=>?_) λ_ _ h'=>h');refine SH (Ux Zg (λ_ v0 Zn=>SH (Ux Zn (λok Zh Zs=>?_) λ_ _ h'=>h')) λ_ _ h'=>h');cases ok with
  |false=>exact SQ ⟨rfl,Zs⟩
  |true=>
   exact SH (SH (Ux Zs (λx Zm Zt=>SH (Ux Zt (λ_ Zr Zu=>SQ (SQ ⟨rfl,Zu⟩)) λ_ _ h'=>h')) λ_ _ h'=>h'))
def B7(X:Cx)(tg:Expr)(n:Nat)(σ:St):Prop:=∀(f8:List (Addr×Obj)) (s:SS) (σ':St) (F H:Hp) (d:D) (ts:List D) (v:V) (u:Value),Inv X f8 σ' H s->Same F H->σ'.drop (max n 1)=σ->RelV v u->Den X.K F d v->Qh n d=aa ts->∀[Tk s],
 wpAny (model X.prog X.w) X.A (assign tg X.env u) (λ_ s'=>∃vs,Inv X f8 (vs.map some++σ) H s'/\DenL X.K F ts vs) X.xe s
def l5(X:Cx)(ifs:List Expr)(δt:DT):Prop:=∀(f8:List (Addr×Obj)) (s:SS) (σ:St) (H:Hp) (Q:Bool->Hp->Prop),Inv X f8 σ H s->OL X.K (λ_ _=>False) δt σ H Q->∀[Tk s],
 wpAny (model X.prog X.w) X.A (forIn ifs true λc r=>if r=true then do let ok<-isTrue c X.env (eval c X.env);pure (Ud ok) else pure (Ud r)) (TP X f8 σ Q) X.xe s
def bM:l5 X [] bb:=λf8 s σ H Q I ⟨F,ρ,S,w⟩=>wpAny_tests_nil ⟨H,I,w H F (Ext.refl S.fh)⟩
def qG(h:qT X (λ_ _=>False) c δ):l5 X [c] δ:=λf8 s σ H Q I w=>wpAny_tests_one (h f8 s σ H Q I w)
def StE.cons{K:SN}(s:StE K F H σ ρ)(h:DenL K F ts vs):StE K F H (vs.map some++σ) (ts.map (λt=>some (Sl.fz t))++ρ):=by
 refine⟨s.fh,λi sl e=>?_⟩;have hl:=h.len;by_cases hi:i<ts.length
 ·rw[S_ (by simpa using hi),S2] at e;cases q:ts[i]? with
  |none=>rw[q] at e;cases e
  |some t=>
   rw[q] at e;cases e;obtain⟨v,e1,e2⟩:=h.get q;exact⟨v,by rw[S_ (by simp;omega),S2,e1];rfl,e2⟩
 ·rw[Ti (by simpa using hi)] at e;obtain⟨v,e1,e2⟩:=s.den _ _ e;refine⟨v,?_,e2⟩;rw[Ti (by simp;omega)];simpa[hl] using e1
def WPB.take:WPB Xw F H (aa b) λb' H'=>b'=b/\∃F',Ext F H F' H':=λH' F' e=>⟨rfl,F',e⟩
def WP.take{K:SN}:WP K Xw F H (aa d) λv H'=>∃F',Ext F H F' H'/\Den K F' d v:=λv H' F' e q=>⟨F',e,q⟩
def mE(env:Env)(p:Str×Wf):Str×Wf:=if (p.2== .free&&env.scope.kind== .function&&env.kindOf p.1==some .cell) then(p.1, .cell) else(p.1,p.2)
def gq(scope:Scope)(env:Env):(relabel scope env).names=scope.names.map (mE env):=rfl
def Er(env:Env)(p:Str×Wf):(mE env p).1=p.1:=by unfold mE;split<;>rfl
theorem ig(env:Env)(x:Str):∀ns:List (Str×Wf),(ns.map (mE env)).lookup x=(ns.lookup x).map λk=>(mE env (x,k)).2
 |[]=>rfl
 |(m,k)::r=>by
  rw[SU,Ut,Ut];have e:mE env (m,k)=(m,(mE env (m,k)).2):=W4 (Er env (m,k)) rfl;rw[e]
  dsimp only
  by_cases hx:(x==m)=true
  ·have hm:x=m:=by simpa using hx
   subst hm;rw[hx];rfl
  ·have hx:(x==m)=false:=by simpa using hx
   rw[hx];exact ig env x r
def uJ(h:scope.names.lookup x=none):(relabel scope env).names.lookup x=none:=by
 rw[gq,ig,h];rfl
def uI(hc:∀y∈scope.names,y.2≠ .cell)(h:(relabel scope env).names.lookup x=some .cell\/(relabel scope env).names.lookup x=some .free):scope.names.lookup x=some .free:=by
 rw[gq,ig] at h;cases q:scope.names.lookup x with
 |none=>rw[q] at h;rcases h with h | h<;>cases h
 |some k=>
  rw[q] at h;have hk:k≠ .cell:=hc _ (UH q);have h:(mE env (x,k)).2= .cell\/(mE env (x,k)).2= .free:=by simpa using h
  by_cases hf:k= .free
  ·rw[hf]
  ·have:(mE env (x,k)).2=k:=by
    unfold mE;rw[Y7];simp[hf]
   rw[this] at h;rcases h with h | h
   ·exact Y9 h hk
   ·exact Y9 h hf
def mF(h:scope.names.lookup x=some .free):¬(relabel scope env).names.lookup x=some .local:=by
 rw[gq,ig,h];intro z;have z:(mE env (x, .free)).2= .local:=by simpa using z
 unfold mE at z;split at z<;>cases z
structure BlockEnd (X:Cx) (f8:List (Addr×Obj)) (C:Addr) (H':Hp) (s1:SS):Prop where
 ns:∃m,s1.heap.Ns C m
 free:H' C=none
 nl:C≠X.env.locals
 nw:X.Zy.heap.objs.size<=C
 nc:∀x c,X.env.cells.lookup x=some c->c≠C
 np:∀p∈X.pn++f8,p.1≠C
def vq{RR:Value->Addr->Result->SS->Prop}
 (sc:CompSc X scope tn)(hn:tn.length=max n 1)(hc:X.calm=true)(hi:zg X Xw tg iter δi)
 (hg:∀f8 cl C fp v0 H σ,B7 (kg X scope tn f8 cl C fp v0 H) tg n σ)
 (ht:∀f8 cl C fp v0 H,l5 (kg X scope tn f8 cl C fp v0 H) ifs δt)
 (he:∀f8 cl C fp v0 H,PD (kg X scope tn f8 cl C fp v0 H) (λ_ _=>False) Zk δe)
 (I:Inv X f8 σ H s)[Tk s](S:StE X.K F H σ ρ)(w:WP X.K Xw F H (aR n δi δt δe ρ) Q)
 (Co:∀x c,cl.lookup x=some c->X.env.cells.lookup x=some c)(Kg:∀x,scope.names.lookup x=some .free->∃c,cl.lookup x=some c)
 (QK:∀(s1:SS) (C D:Addr) (H':Hp),Inv X f8 σ H' s1->Q (.ref D) H'->BlockEnd X f8 C H' s1->RR (.ref D) C (.ok .next) s1):
 wpAny (model X.prog X.w) X.A (eval iter X.env) (λx T0=>wpAny (model X.prog X.w) X.A (pyIter x) (λit v0=>wpAny (model X.prog X.w) X.A (newList []) (λv6 Zh=>
  wpAny (model X.prog X.w) X.A (newFunctionEnv scope X.env.globals cl [] X.env.qual none .none (some X.env)) (λKD Zm=>
   Xf (model X.prog X.w) X.A (.compStart (.ListComp Zk [⟨tg,iter,ifs,0⟩] scope pos) 0 it v6 {KD with scope:=relabel scope X.env}) (RR v6 KD.locals) Zm) X.xe Zh) X.xe v0) X.xe T0) X.xe s:=by
 refine bY (hi f8 s σ H (λJ H2=>∃F2 ds,Ext F H F2 H2/\ItD X.K F2 J ds/\WP X.K Xw F2 H2 (noex (cX (fW n δt δe ρ) ds)>>=fM) Q) I ⟨F,ρ,S,?_⟩) λxv T0 Zg _=>bY Zg λit v0 Zn _=>?_
 ·unfold aR at w;rcases(δi ρ).cs with hq | ⟨m,hq⟩ | ⟨ds,hq⟩
  ·rw[hq] at w;exact w.elim
  ·rw[hq] at w⊢;exact w
  ·rw[hq] at w⊢;exact λJ H' F' e q=>⟨F',ds,e,q,WP.ext e w⟩
 obtain⟨ia,fp,Qj,J,H2,rfl,I2,T,Mo,f2,F2,ds,e2,P6,w2⟩:=Zn;obtain⟨R,hR,Pu,w2⟩:∃R,cX (fW n δt δe ρ) ds=aa R/\R.length<=lim/\WP X.K Xw F2 H2 (aa (.lst R)) Q:=by
  rcases(cX (fW n δt δe ρ) ds).cs with hq | ⟨m,hq⟩ | ⟨R,hq⟩
  ·rw[hq] at w2;exact w2.elim
  ·rw[hq] at w2;exact w2.elim
  ·rw[hq] at w2;obtain⟨h1,h2⟩:=yr (show WP X.K Xw F2 H2 (fM R) Q from w2);exact⟨R,hq,h1,h2⟩
 refine T3 (wpAny_newFunctionEnv sc.nocell (by intro y hy;simp at hy) (λZg IW FN=>?_) sc.kind)
 dsimp only at IW FN⊢
 generalize NG:v0.heap.push {cls:= .type "list",dict:=none,data:= .seq ([]:List Value).toArray}=HL at IW FN⊢;have hC:HL.objs.size=v0.heap.objs.size+1:=by rw[<-NG,X6]
 have A4:v0.heap.objs.size<HL.objs.size:=by rw[hC];exact Wm _
 have old:∀b o,v0.heap.get? b=some o->Zg.get? b=some o:=λb o e=>FN.extBut b o (Tv (Vl (S8 e) A4)) (SR _ (NG▸SR _ e));have CS:Zg.get? v0.heap.objs.size=some {cls:= .type "list",data:= .seq ([]:List Value).toArray}:=FN.extBut _ _ (Tv A4) (SR _ (NG▸Ta _ rfl));have nD:H2 v0.heap.objs.size=none:=I2.hok.fresh (SW _);have nC:H2 HL.objs.size=none:=I2.hok.fresh (Va A4);have gC:v0.heap.get? HL.objs.size=none:=Yw (Va A4);have fl:∀b∈fp,b<v0.heap.objs.size:=λb hb=>by
  obtain⟨o,e,_⟩:=T.obj 0 _ Mo b hb;exact S8 e
 generalize vK:kg X scope tn f8 cl HL.objs.size fp v0 H2=X';have Qb:X'.Ok:=by
  subst vK;refine⟨I2.ok.mod,sc.kind,I2.ok.glob,I2.ok.blt,Va A4,λx y c h1 h2=>I2.ok.inj x y c (Co _ _ h1) (Co _ _ h2),λx hx=>?_,λ_ _ h=>(by cases h),I2.ok.hd,I2.ok.frames, .inl rfl,
   λb hb=>⟨Tv (Vl (fl b hb) A4),λx c h=>(f2 b hb).2.2.2.2.1 x c (Co _ _ h)⟩,I2.bs,Tn I2.ok.bsz I2.sz,λb o e hb=>?_,λb hb z=>?_,I2.stack,I2.stkFree⟩
  ·have hx:(relabel scope X.env).names.lookup x=some .cell\/(relabel scope X.env).names.lookup x=some .free:=hx;exact Kg x (uI sc.nocell hx)
  ·rcases(f2 b hb).2.2.2.1 with z | z
   ·exact I2.ok.noex b o e z
   ·exact Y9 (Tq (S8 (I2.ok.bs b o e).1) z) (Us _)
  ·rcases S6.mp (I2.stkSub b z) with q | q
   ·exact(f2 b hb).2.1 q
   ·exact(f2 b hb).2.2.1 q
 have Oj:∀b o,H2 b=some o->b≠v0.heap.objs.size:=λb o e=>b_ e nD;have IG:∀{H':Hp},(∀b∈fp,H' b=none)->∀b∈fp,u_ X' [] H' b:=λRt b hb=>by
  subst vK;refine⟨Rt b hb,Tv (Vl (fl b hb) A4),λz=>Qb.exfs b hb z, .inl hb,λx c h=>(f2 b hb).2.2.2.2.1 x c (Co _ _ h),λp hp=>?_⟩;rw[TM] at hp;exact(f2 b hb).2.2.2.2.2 p hp
 have I0:Inv X' [] (Tc (max n 1) none++σ) (upd H2 v0.heap.objs.size (.lst [])) {v0 with heap:=Zg,toks:=v0.toks+([]:List (Str×Value)).length}:=by
  subst vK;have N3:HOk X.prog X.w (upd H2 v0.heap.objs.size (.lst [])) Zg:=I2.hok.laid old (SW _) ⟨TQ _,[],_, .nil,CS⟩;refine⟨Qb,rfl,I2.bare,Un.laid old (SW _) nD,⟨_,IW,λi x v h1 h2 h3=>?_⟩,λx c h=>?_,?_,λx c h=>?_,λp hp=>?_,N3,?_⟩
  ·by_cases hi:i<max n 1
   ·rw[S_ (by simpa using hi),T_,Y6 hi] at h2;cases h2
   ·have Km:tn.length<=i:=by omega
    have h1:(tn++cg tn X.N)[i]? =some x:=h1;rw[Ti Km] at h1;rw[Ti (by simpa using hi),U7,<-hn] at h2;have hN:∃y,X.N[i - tn.length]? =some y/\(x,y)∈(cg tn X.N).zip X.N:=by
     have ki:=(SY.mp h1).1;have Li:i - tn.length<X.N.length:=by simpa[cg] using ki
     refine⟨X.N[i - tn.length],SK Li,?_⟩;refine List.mem_iff_getElem?.mpr ⟨i - tn.length,?_⟩;rw[List.getElem?_zip_eq_some];exact⟨h1,SK Li⟩
    obtain⟨y,hy,hm⟩:=hN;have hV:(relabel scope X.env).names.lookup x=some .local\/(relabel scope X.env).names.lookup x=some .cell\/(relabel scope X.env).names.lookup x=some .free:=h3;rcases sc.vis _ hm with qZ | ⟨Oa,HJ⟩
    ·have qZ:scope.names.lookup x=none:=qZ;have:(relabel scope X.env).names.lookup x=none:=uJ qZ;rw[this] at hV;rcases hV with z | z | z<;>cases z
    ·have Oa:x=y:=Oa;subst Oa;have HJ:scope.names.lookup x=some .free:=HJ;have hk:=sc.frees (x, .free) (UH HJ) rfl;obtain⟨m,Lj,HP⟩:=I2.loc;obtain⟨u,ru,lk⟩:=HP _ x v hy h2 (by rcases hk with z | z;exact .inr (.inl z);exact .inr (.inr z));refine⟨u,ru, .inr ⟨?_,?_⟩⟩
     ·rcases hV with z | z | z
      ·exact Y9 z (mF HJ)
      ·exact .inl z
      ·exact .inr z
     ·rcases lk with⟨z,_⟩ | ⟨_,c,QW,HG⟩
      ·rcases hk with q | q
       ·rw[show X.env.kindOf x=some .local from z] at q;cases q
       ·rw[show X.env.kindOf x=some .local from z] at q;cases q
      ·obtain⟨c',E8⟩:=Kg x HJ;have:=Co _ _ E8;rw[QW] at this;cases this;obtain⟨o,ho,hd⟩:=HG;exact⟨c,E8,o,old _ _ ho,hd⟩
  ·obtain⟨v,o,ho,hd⟩:=I2.cell x c (Co _ _ h);exact⟨v,o,old _ _ ho,hd⟩
  ·show upd H2 v0.heap.objs.size (.lst []) HL.objs.size=none;rw[au (WD A4)];exact nC
  ·have Px:=Co _ _ h;obtain⟨v,q⟩:=I2.cell x c Px;rw[au (Tv q.lt)];exact I2.freeC x c Px
  ·rw[TM] at hp;obtain⟨e,nn,ne,nf,d⟩:=I2.pin p hp;have ki:=S8 e;refine⟨old _ _ e,by rw[au (Tv ki)];exact nn,Tv (Vl ki A4),λz=>?_,d⟩;rcases S6.mp (I2.stkSub p.1 z) with q | q
   ·exact ne q
   ·exact nf q
  ·show (Tc (max n 1) none++σ).length=(tn++cg tn X.N).length;rw[S1,S1,U7,hn,show (cg tn X.N).length=X.N.length from by simp[cg],I2.len]
 have loop:∀Zh:SS,Zh={v0 with heap:=Zg,toks:=v0.toks+([]:List (Str×Value)).length}->
  Xf (model X.prog X.w) X.A (.compLoop (.ListComp Zk [⟨tg,iter,ifs,0⟩] scope pos) 0 (.ref ia) (.ref v0.heap.objs.size) (compEnvC scope cl HL.objs.size X.env))
   (RR (.ref v0.heap.objs.size) HL.objs.size) Zh:=by
  intro Zh RA;have CF:X'.env=compEnvC scope cl HL.objs.size X.env:=by subst vK;rfl
  have hA:X'.A=X.A:=by subst vK;rfl
  have hP:X'.prog=X.prog:=by subst vK;rfl
  have hw:X'.w=X.w:=by subst vK;rfl
  have hK:X'.K=X.K:=by subst vK;rfl
  have RJ:X'.xe=λ_ _=>False:=by subst vK;rfl
  have HH:X'.calm=true:=by subst vK;exact hc
  have Q5:X'.fs=oE X.stack:=by subst vK;rfl
  have hex:X'.ex=fp:=by subst vK;rfl
  have QG:X'.Zx=H2:=by subst vK;rfl
  have PR:X'.Zy=v0:=by subst vK;rfl
  have pass:∀{α:Type}{t:Sem α}{P:α->SS->Prop}{E':Value->SS->Prop}{s:SS},wpAny (model X'.prog X'.w) X'.A t P X'.xe s->wpAny (model X.prog X.w) X.A t P E' s:=λ{α t P E' s} h=>by
   rw[hP,hw,hA,RJ] at h;exact Ux h (λ_ _ q=>q) λ_ _ q=>q.elim
  refine AX (λm s'=>Tk s'/\∃(i:Nat) (F' H':Hp) (vs:List V) (ys:List D) (σt:St),m=ds.length - i/\i<=ds.length/\σt.length=max n 1/\Inv X' [] (σt++σ) H' s'/\Qj i s'.heap/\(∀b∈fp,H' b=none)/\Ext F2 H2 F' H'/\
   H' v0.heap.objs.size=some (.lst vs)/\F' v0.heap.objs.size=none/\DenL X.K F' ys vs/\cX (fW n δt δe ρ) ds=(cX (fW n δt δe ρ) (ds.drop i)>>=λr=>aa (ys++r))) ?_ ds.length ?_
  ·rintro m s' ⟨Sw,i,F',H',vs,ys,σt,rfl,Lb,RM,I',qE,Pl,xY,hD,fD,MX,heq⟩;by_cases ki:i<ds.length
   ·
    obtain⟨d,hd⟩:∃d,ds[i]? =some d:=⟨_,SK ki⟩
    obtain⟨K_,C1⟩:=(P6 F' H' i xY.ff xY.fh).1 d hd;obtain⟨o,ho,K9⟩:=xS hd heq hR;have Oc:ys.length<=lim:=by
     rw[heq] at hR;obtain⟨r,_,hr⟩:=dG hR;rw[<-eK hr,S1] at Pu;omega
    obtain⟨ts,RD,ho⟩:=dG ho;refine pass ?_;rw[hP,hw];refine bY (T.item X' hP hw hK HH i [] s' (σt++σ) H' X'.xe I' (IG Pl) qE K_) ?_;rintro r s1 ⟨u,rfl,h1⟩ _;refine pass ?_;rw[hP,hw];refine bY h1 ?_;rintro _ s2 ⟨x,H3,I3,rx,y3,Kq,MK⟩ _;obtain⟨F3,B5,q3⟩:=C1 x H3 y3;have Pp:H3 v0.heap.objs.size=some (.lst vs):=B5.hh _ _ hD;have Qx:F3 v0.heap.objs.size=none:=by rw[B5.old hD (λ_ z=>nomatch z)];exact fD
    have I3':=I3.pinned (IG MK) (T.obj _ _ Kq);have zQ:∀{σ7:St}{H7:Hp}{s7:SS},Inv X' ([]++qo fp s2.heap) σ7 H7 s7->Qj (i+1) s7.heap/\∀b∈fp,H7 b=none:=λ{σ7 H7 s7} I7=>
     ⟨T.keep _ _ _ Kq λb hb o e=>(I7.pin (b,o) (Tj _ (Tj _ (ij hb e)))).1,λb hb=>by
      obtain⟨o,e,_⟩:=T.obj _ _ Kq b hb;exact(I7.pin (b,o) (Tj _ (Tj _ (ij hb e)))).2.1⟩
    have Q6:B7 X' tg n σ:=by subst vK;exact hg _ _ _ _ _ _ _
    have RB:l5 X' ifs δt:=by subst vK;exact ht _ _ _ _ _ _
    have Q1:PD X' (λ_ _=>False) Zk δe:=by subst vK;exact he _ _ _ _ _ _
    refine pass ?_;rw[<-CF];refine bY (Q6 _ s2 (σt++σ) F3 H3 d ts x u I3' B5.fh (by rw[<-RM];simp) rx (by rw[hK];exact q3) RD) ?_;rintro _ s4 ⟨vt,I4,dt⟩ _;rw[hK] at dt;have S4:StE X.K F3 H3 (vt.map some++σ) (ts.map (λt=>some (Sl.fz t))++ρ):=StE.cons ((S.ext e2).ext (xY.trans B5)) dt;obtain⟨b,hb,ho⟩:=dG ho;refine pass ?_
    try rw[<-CF]
    refine bY (RB _ s4 _ H3 (λb' H5=>b'=b/\∃F5,Ext F3 H3 F5 H5) I4 ⟨F3,_,by rw[hK];exact S4,by rw[hb];exact WPB.take⟩) ?_;rintro b' s5 ⟨H5,I5,rfl,F5,IA⟩ _;have ND:H5 v0.heap.objs.size=some (.lst vs):=IA.hh _ _ Pp;have Ph:F5 v0.heap.objs.size=none:=by rw[IA.old Pp (λ_ z=>nomatch z)];exact Qx
    cases b' with
    |false=>
     rw[Y7 Te] at ho⊢;obtain rfl:=eK ho;refine⟨ds.length - (i+1),by omega,inferInstance,i+1,F5,H5,vs,ys,vt.map some,rfl,ki,?_,I5.unpinned,(zQ I5).1,(zQ I5).2,xY.trans (B5.trans IA),ND,Ph,DenL.mono (B5.trans IA).ff MX,K9⟩;have h1:=I5.len;have h2:=I3.len;rw[S1] at h1 h2;omega
    |true=>
     rw[Y6 rfl] at ho⊢;obtain⟨yv,hy,ho⟩:=dG ho;obtain rfl:=eK ho;refine pass ?_
     try rw[<-CF]
     refine bY (Q1 _ s5 _ H5 (λv H6=>∃F6,Ext F5 H5 F6 H6/\Den X.K F6 yv v) I5 ⟨F5,_,by rw[hK];exact S4.ext IA,by rw[hy,hK];exact WP.take⟩) ?_;rintro xv s6 ⟨v,H6,I6,rv,F6,MJ,qv⟩ _;have QE:H6 v0.heap.objs.size=some (.lst vs):=MJ.hh _ _ ND;have Pj:F6 v0.heap.objs.size=none:=by rw[MJ.old ND (λ_ z=>nomatch z)];exact Ph
     have RG:vs.length<S9:=by
      have:=MX.len;have:=dS;omega
     refine pass ?_;refine bY (mj _ s6 _ H6 (.ref v0.heap.objs.size) [v] (.ref v0.heap.objs.size) [xv] (λ_ H7=>H7=upd H6 v0.heap.objs.size (.lst (vs++[v]))) I6 rfl (.cons rv .nil) ⟨_,vs,v,rfl,rfl,QE,RG,rfl⟩) ?_;rintro _ s7 ⟨_,H7,I7,_,rfl⟩ _;have Qw:Ext F2 H2 F6 (upd H6 v0.heap.objs.size (.lst (vs++[v]))):=by
      have e:=xY.trans (B5.trans (IA.trans MJ));refine⟨λb u q=>?_,e.ff,λb u q=>?_,e.new⟩
      ·rw[au (Oj b u q)];exact e.hh b u q
      ·rw[au (λz=>by rw[z,Pj] at q;cases q)];exact e.fh b u q
     refine⟨ds.length - (i+1),by omega,inferInstance,i+1,F6,_,vs++[v],ys++[yv],vt.map some,rfl,ki,?_,I7.unpinned,(zQ I7).1,(zQ I7).2,Qw,aE,Pj,
      DenL.append (DenL.mono (B5.trans (IA.trans MJ)).ff MX) (.cons qv .nil),K9⟩
     have h1:=I5.len;have h2:=I3.len;rw[S1] at h1 h2;omega
   ·
    have hi:i=ds.length:=by omega
    subst hi;rw[Xm] at heq;have QM:R=ys:=by
     rw[heq] at hR;have hR:aa (ys++[])=aa R:=hR;rw[<-eK hR,TM]
    subst QM;refine pass ?_;rw[hP,hw];refine bY (T.done X' hP hw hK HH ds.length [] s' (σt++σ) H' X'.xe I' (IG Pl) qE ((P6 F' H' ds.length xY.ff xY.fh).2 (SW _))) ?_;rintro r s1 ⟨rfl,I1⟩ _;obtain⟨m,hm,_⟩:=I1.loc;rw[CF] at hm;have QD:H' HL.objs.size=none:=by
     have:=I1.free;rw[CF] at this;exact this
    have u:=I1.base;rw[Q5,hex,QG,PR] at u;have vM:s1.os=v0.os:=by have:=I1.os;rw[PR] at this;exact this
    have La:=I1.hok;rw[hP,hw] at La;refine QK s1 HL.objs.size v0.heap.objs.size H' (I2.call' vM u La I1.bare (λb hb=>⟨(f2 b hb).2.2.2.1,(f2 b hb).2.1,(f2 b hb).2.2.2.2.1,(f2 b hb).2.2.2.2.2⟩)) ?_
     ⟨⟨m,hm⟩,QD,WD (Vl I2.lt A4),Tn I2.sz (Va A4),λx c q z=>?_,λp hp z=>?_⟩
    rotate_left
    ·obtain⟨v,q'⟩:=I2.cell x c q;exact Y9 (Vl q'.lt A4) (by rw[z];exact Us _)
    ·exact Y9 (Vl (S8 (I2.pin p hp).1) A4) (by rw[z];exact Us _)
    refine WP.fin w2 (F':=upd F' v0.heap.objs.size (.lst vs)) ⟨xY.hh,λb u q=>?_,λb u q=>?_,λa ha=>?_⟩ ⟨_,vs,rfl,aE,DenL.mono (λb u q=>?_) MX,Pu⟩
    ·rw[au (λz=>by have:=xY.ff b u q;rw[z,fD] at this;cases this)];exact xY.ff b u q
    ·by_cases z:b=v0.heap.objs.size
     ·rw[z,aE] at q;rw[z,hD];exact q
     ·rw[au z] at q;exact xY.fh b u q
    ·rcases xY.new a ha with q | q
     ·exact .inl (by rw[au (λz=>ha (by rw[z];exact nD))];exact q)
     ·exact .inr q
    ·rw[au (λz=>by rw[z,fD] at q;cases q)];exact q
  ·rw[RA];refine⟨⟨(inferInstance:Tk v0).le⟩,0,F2,_,[],[],Tc (max n 1) none,by simp,TQ _,by simp,I0,T.keep _ _ _ Mo (λb hb o e=>old b o e),λb hb=>?_,⟨λb u q=>?_,Same.refl _,λb u q=>?_,λ_ _=> .inl rfl⟩,aE,Same.free e2.fh nD,rfl,?_⟩
   ·rw[au (Tv (fl b hb))];exact(f2 b hb).1
   ·rw[au (Oj b u q)];exact q
   ·rw[au (Oj b u (e2.fh b u q))];exact e2.fh b u q
   ·rw[X4];rcases(cX (fW n δt δe ρ) ds).cs with hq | ⟨m,hq⟩ | ⟨R,hq⟩<;>rw[hq]<;>rfl
 exact codeAny_compStart_list (loop _ rfl) (T.self X.A 0 _ _ _ (T.keep _ _ _ Mo (λb hb o e=>old b o e)) (loop _ rfl))
def Inv.block{C:Addr}(I:Inv X f8 σ H' s1)(b:BlockEnd X f8 C H' s1)(Lu:U8 C s1.heap h'):Inv X f8 σ H' {s1 with heap:=h'}:=
 I.turned (λa o ha e=>(Lu.2 a ha).trans e) b.free b.nl (.inr b.nw) b.nc b.np
section
variable{X:Cx}{Xw:Nat->Hp->Prop}{Zk iter tg:Expr}{ifs:List Expr}{scope:Scope}{pos:Pos}{tn:List Str}{n:Nat}{δi:DA}{δt:DT}{δe:DE}
def cp(sc:CompSc X scope tn)(hn:tn.length=max n 1)(hc:X.calm=true)(hi:zg X Xw tg iter δi)
 (hg:∀f8 cl C fp v0 H σ,B7 (kg X scope tn f8 cl C fp v0 H) tg n σ)
 (ht:∀f8 cl C fp v0 H,l5 (kg X scope tn f8 cl C fp v0 H) ifs δt)
 (he:∀f8 cl C fp v0 H,PD (kg X scope tn f8 cl C fp v0 H) (λ_ _=>False) Zk δe)
 (hs:∀x,VG iter X.env x=pure x:=by intro _;rfl):
 PD X Xw (.ListComp Zk [⟨tg,iter,ifs,0⟩] scope pos) (aR n δi δt δe):=by
 intro f8 s σ H Q I ⟨F,ρ,S,w⟩ _;obtain⟨cl,CU,Co,Kg⟩:=o6 λy hy hf=>I.ok.has y.1 (sc.frees y hy hf);rw[eval_ListComp];refine Yx rfl hs CU sc.kind sc.names (vq (RR:=λv6 C=>compPost (model X.prog X.w) X.A X.xe none (EP X f8 σ Q) v6 C) sc hn hc hi hg ht he I S w Co Kg λs1 C D H' I1 q b=>?_);obtain⟨m,hm⟩:=b.ns;exact⟨m,hm,λh' Lu=>⟨.ref D,H',Inv.block I1 b Lu,rfl,q⟩⟩
end
inductive Out where
 |nx (ρ:aO) | rt (d:D)
abbrev DS:=aO->M Out
structure StOk (K:SN) (u8 Zx F H:Hp) (σ:St) (ρ:aO):Prop where
 ext:Ext u8 Zx F H
 st:StE K F H σ ρ
 len:ρ.length=σ.length
 own:∀(i:Nat) (c:C) (a:Addr),ρ[i]? =some (some (.ow c))->σ[i]? =some (some (.ref a))->Zx a=none
 sep:∀(i j:Nat) (sl kN:Sl) (v v':V) (b:Addr),ρ[i]? =some (some sl)->ρ[j]? =some (some kN)->σ[i]? =some (some v)->σ[j]? =some (some v')->b∈sl.foot H v->b∈kN.foot H v'->i=j
def WPS(K:SN)(Xw:Nat->Hp->Prop)(u8 Zx:Hp)(m:M Out)(Dn:Ends):Prop:=
 match m with
 |none=>False
 |some (.ok (.nx ρ))=>∀σ F H,StOk K u8 Zx F H σ ρ->Dn.nx σ H
 |some (.ok (.rt d))=>∀v F H,Ext u8 Zx F H->Den K F d v->Dn.rt v H
 |some (.ex n)=>∀F H,Ext u8 Zx F H->Xw n H
def tS(K:SN)(Xw:Nat->Hp->Prop)(u8 Zx:Hp)(τ:DS):TS:=λDn σ H=>∃F ρ,StOk K u8 Zx F H σ ρ/\WPS K Xw u8 Zx (τ ρ) Dn
def nV(X:Cx)(Xw:Nat->Hp->Prop)(st:Stmt)(τ:DS):Prop:=∀u8 Zx,PS X st (tS X.K Xw u8 Zx τ)
def PSDs(X:Cx)(Xw:Nat->Hp->Prop)(st:List Stmt)(τ:DS):Prop:=∀u8 Zx,PSs X st (tS X.K Xw u8 Zx τ)
def PS.weak{st:Stmt}(h:PS X st t)(k:∀D σ H,t' D σ H->t D σ H):PS X st t':=λf8 s σ H D I w=>h f8 s σ H D I (k D σ H w)
def PSs.weak{st:List Stmt}(h:PSs X st t)(k:∀D σ H,t' D σ H->t D σ H):PSs X st t':=λf8 s σ H D I w=>h f8 s σ H D I (k D σ H w)
section
variable{K:SN}{u8 Zx F H F' H':Hp}{σ:St}{ρ:aO}
def StOk.foot(s:StOk K u8 Zx F H σ ρ){i:Nat}{sl:Sl}{v:V}(h:ρ[i]? =some (some sl))(hv:σ[i]? =some (some v)):DenO K F H sl v:=by
 obtain⟨u,h1,h2⟩:=s.st.den i sl h;rw[hv] at h1;cases h1;exact h2
theorem StOk.ext'(s:StOk K u8 Zx F H σ ρ)(e:Ext F H F' H'):StOk K u8 Zx F' H' σ ρ:=by
 have k:∀{i:Nat}{sl:Sl}{v:V},ρ[i]? =some (some sl)->σ[i]? =some (some v)->sl.foot H' v=sl.foot H v:=λh1 h2=>((s.foot h1 h2).ext' e).2;exact⟨s.ext.trans e,s.st.ext e,s.len,s.own,λi j sl kN v v' b h1 h2 h3 h4 h5 h6=>s.sep i j sl kN v v' b h1 h2 h3 h4 (k h1 h3▸h5) (k h2 h4▸h6)⟩
def StOk.put(s:StOk K u8 Zx F H σ ρ){nsl:Sl}{nv:V}(hd:DenO K F' H' nsl nv)(ext:Ext u8 Zx F' H')(ff:Same F F')(keep:∀(j:Nat) (sl:Sl) (v:V),j≠i->ρ[j]? =some (some sl)->σ[j]? =some (some v)->∀b∈sl.foot H v,H' b=H b/\F' b=none/\b∉nsl.foot H' nv)
 (new:∀c b,nsl= .ow c->nv= .ref b->Zx b=none):StOk K u8 Zx F' H' (σ.set i (some nv)) (ρ.set i (some nsl)):=by
 have hl:=s.len;have get:∀(j:Nat) (sl:Sl),(ρ.set i (some nsl))[j]? =some (some sl)->(j=i/\i<ρ.length/\sl=nsl)\/(j≠i/\ρ[j]? =some (some sl)):=λj sl e=>by
  by_cases hj:j=i
  ·subst hj;have hi:j<ρ.length:=by
    have:=(SY.mp e).1;simpa using this
   rw[Tu hi] at e;cases e;exact .inl ⟨rfl,hi,rfl⟩
  ·rw[TB (UW hj)] at e;exact .inr ⟨hj,e⟩
 have gv:∀(j:Nat) (v:V),(σ.set i (some nv))[j]? =some (some v)->(j=i/\v=nv)\/(j≠i/\σ[j]? =some (some v)):=λj v e=>by
  by_cases hj:j=i
  ·subst hj;have hi:j<σ.length:=by
    have:=(SY.mp e).1;simpa using this
   rw[Tu hi] at e;cases e;exact .inl ⟨rfl,rfl⟩
  ·rw[TB (UW hj)] at e;exact .inr ⟨hj,e⟩
 have mv:∀{j:Nat}{sl:Sl}{v:V},j≠i->ρ[j]? =some (some sl)->σ[j]? =some (some v)->DenO K F' H' sl v/\sl.foot H' v=sl.foot H v:=λhj h1 h2=>
  (s.foot h1 h2).move ff (λb hb=>(keep _ _ _ hj h1 h2 b hb).1) λb hb=>(keep _ _ _ hj h1 h2 b hb).2.1
 refine⟨ext,⟨ext.fh,λj sl e=>?_⟩,by simp[hl],λj c b e e'=>?_,λj k sl kN v v' b e1 e2 e3 e4 hb E7=>?_⟩
 ·rcases get j sl e with⟨rfl,hi,rfl⟩ | ⟨hj,e⟩
  ·exact⟨nv,by rw[Tu (by omega)],hd⟩
  ·obtain⟨u,h1,_⟩:=s.st.den j sl e;exact⟨u,by rw[TB (UW hj)];exact h1,(mv hj e h1).1⟩
 ·rcases get j _ e with⟨rfl,hi,r1⟩ | ⟨hj,g1⟩
  ·rcases gv j _ e' with⟨_,r2⟩ | ⟨z,_⟩
   ·exact new c b r1.symm r2.symm
   ·exact Y9 rfl z
  ·rcases gv j _ e' with⟨z,_⟩ | ⟨_,g2⟩
   ·exact Y9 z hj
   ·exact s.own j c b g1 g2
 ·rcases get j sl e1 with⟨j1,_,r1⟩ | ⟨hj,g1⟩
  ·rcases get k kN e2 with⟨k1,_,_⟩ | ⟨hk,g2⟩
   ·rw[j1,k1]
   ·rcases gv k v' e4 with⟨z,_⟩ | ⟨_,g4⟩
    ·exact Y9 z hk
    ·rcases gv j v e3 with⟨_,r3⟩ | ⟨z,_⟩
     ·rw[r1,r3] at hb;exact Y9 hb (keep k kN v' hk g2 g4 b ((mv hk g2 g4).2▸E7)).2.2
     ·exact Y9 j1 z
  ·rcases gv j v e3 with⟨z,_⟩ | ⟨_,g3⟩
   ·exact Y9 z hj
   ·rcases get k kN e2 with⟨k1,_,r2⟩ | ⟨hk,g2⟩
    ·rcases gv k v' e4 with⟨_,r4⟩ | ⟨z,_⟩
     ·rw[r2,r4] at E7;exact Y9 E7 (keep j sl v hj g1 g3 b ((mv hj g1 g3).2▸hb)).2.2
     ·exact Y9 k1 z
    ·rcases gv k v' e4 with⟨z,_⟩ | ⟨_,g4⟩
     ·exact Y9 z hk
     ·exact s.sep j k sl kN v v' b g1 g2 g3 g4 ((mv hj g1 g3).2▸hb) ((mv hk g2 g4).2▸E7)
theorem StOk.set(s:StOk K u8 Zx F H σ ρ){d:D}(h:Den K F d v):StOk K u8 Zx F H (σ.set i (some v)) (ρ.set i (some (.fz d))):=
 s.put (nsl:= .fz d) h s.ext (Same.refl _) (λj sl v hj h1 h2 b hb=>⟨rfl,((s.foot h1 h2).cell b hb).1,λq=>by cases q⟩) λc b hb=>by cases hb
def StOk.setNew(s:StOk K u8 Zx F H σ ρ){o:HO}(n:H a=none)(h:DenC K F c₀ o):
 StOk K u8 Zx F (upd H a o) (σ.set i (some (.ref a))) (ρ.set i (some (.ow c₀))):=by
 have e0:=Ext.free (o:=o) s.st.fh n;have nF:F a=none:=Same.free s.st.fh n;refine s.put (nsl:= .ow c₀) (nv:= .ref a) ⟨a,_,rfl,aE,nF,h⟩ (s.ext.trans e0) (Same.refl _) (λj sl v hj h1 h2 b hb=>?_) λc b _ hb=>?_
 ·obtain⟨q1,u,q2,_⟩:=(s.foot h1 h2).cell b hb;have ib:b≠a:=λz=>by rw[z,n] at q2;cases q2
  exact⟨au ib,q1,λq=>ib (Tg.mp q)⟩
 ·cases hb;exact Same.free s.ext.hh n
theorem set_same{α:Type}:∀{l:List α}{i:Nat}{x:α},l[i]? =some x->l.set i x=l
 |[],_,_,h=>by cases h
 |a::l,0,x,h=>by cases h;rfl
 |a::l,i+1,x,h=>by rw[VY,set_same (i:=i) (by simpa using h)]
def StOk.chg(s:StOk K u8 Zx F H σ ρ){c c₀:C}(hi:ρ[i]? =some (some (.ow c)))(ha:σ[i]? =some (some (.ref a)))(h:DenC K F c₀ Zj):
 StOk K u8 Zx F (upd H a Zj) σ (ρ.set i (some (.ow c₀))):=by
 have h0:=s.own i c a hi ha;obtain⟨a',o,q2,q3,q4,q5⟩:=s.foot hi ha;cases q2;have fh:Same F (upd H a Zj):=λb o e=>by
  rw[au (λz=>by rw[z,q4] at e;cases e)];exact s.st.fh b o e
 have:=s.put (i:=i) (nsl:= .ow c₀) (nv:= .ref a) (H':=upd H a Zj) ⟨a,_,rfl,aE,q4,h⟩ ⟨λb o e=>by rw[au (λz=>by rw[z,h0] at e;cases e)];exact s.ext.hh b o e,s.ext.ff,fh,s.ext.new⟩ (Same.refl _) (λj sl v hj h1 h2 b hb=>by
  have ib:b≠a:=λz=>hj (s.sep j i sl (.ow c) v (.ref a) b h1 hi h2 ha hb (Tg.mpr z));exact⟨au ib,((s.foot h1 h2).cell b hb).1,λq=>ib (Tg.mp q)⟩) λc b _ hb=>by
  cases hb;exact h0
 rw[set_same ha] at this;exact this
def frz(i:Nat)(ρ:aO):aO:=match ρ[i]? with
 |some (some (.ow c))=>ρ.set i (some (.fz c.d))
 |_=>ρ
theorem StOk.frz(s:StOk K u8 Zx F H σ ρ)(i:Nat)(obj:Addr->Obj):(∃a o,H a=some o/\DenC K F (ρ[i]?.elim (.lst []) λx=>x.elim (.lst []) λy=>match y with | .ow c=>c | _=> .lst []) o/\σ[i]? =some (some (.ref a))/\StOk K u8 Zx (upd F a (i8 (obj a) o)) (upd H a (i8 (obj a) o)) σ (frz i ρ))\/frz i ρ=ρ:=by
 unfold L3.frz;split
 ·rename_i c₀ hi;have hle:=s.len;obtain⟨u,ha,a,o,rfl,q3,q4,A8⟩:=s.st.den i _ hi;refine .inl ⟨a,o,q3,by rw[hi];exact A8,ha,?_⟩;have h0:=s.own i _ a hi ha;have ff:Same F (upd F a (i8 (obj a) o)):=λb o e=>by rw[au (λz=>by rw[z,q4] at e;cases e)];exact e
  have fh:Same (upd F a (i8 (obj a) o)) (upd H a (i8 (obj a) o)):=λb o e=>by
   by_cases z:b=a
   ·rw[z,aE] at e⊢;exact e
   ·rw[au z] at e⊢;exact s.st.fh b o e
  have:=s.put (i:=i) (nsl:= .fz c₀.d) (nv:= .ref a) (F':=upd F a (i8 (obj a) o)) (H':=upd H a (i8 (obj a) o)) (DenC.den A8 ff aE) ⟨λb u q=>by rw[au (λz=>by rw[z,h0] at q;cases q)];exact s.ext.hh b u q,s.ext.ff.trans ff,fh,λb hb=>by
   rcases s.ext.new b hb with q | q
   ·exact .inl (by rw[au (λz=>hb (by rw[z];exact h0))];exact q)
   ·exact .inr q⟩ ff (λj sl v hj h1 h2 b hb=>by
   have ib:b≠a:=λz=>hj (s.sep j i sl (.ow c₀) v (.ref a) b h1 hi h2 ha hb (Tg.mpr z));exact⟨au ib,by rw[au ib];exact((s.foot h1 h2).cell b hb).1,λq=>by cases q⟩) λc b hb=>by cases hb
  rw[set_same ha] at this;exact this
 ·exact .inr rfl
end
def join(F H:Hp):Hp:=λa=>match F a with
 |some o=>some o
 |none=>H a
def StOk.rebase{K:SN}{u8 Zx F H:Hp}(s:StOk K u8 Zx F H σ ρ):StOk K F (join F Zx) F H σ ρ/\∀F' H',Ext F (join F Zx) F' H'->Ext u8 Zx F' H':=by
 have hj:Same (join F Zx) H:=λb o e=>by
  unfold join at e;cases q:F b with
  |some u=>rw[q] at e;cases e;exact s.st.fh b _ q
  |none=>rw[q] at e;exact s.ext.hh b o e
 have h0:Same Zx (join F Zx):=λb o e=>by
  unfold join;cases q:F b with
  |some u=>
   have h1:=s.st.fh b u q;rw[s.ext.hh b o e] at h1;exact h1.symm
  |none=>exact e
 refine⟨⟨⟨hj,Same.refl _,s.st.fh,λ_ _=> .inl rfl⟩,s.st,s.len,λi c a e e'=>?_,s.sep⟩,λF' H' x=>⟨h0.trans x.hh,s.ext.ff.trans x.ff,x.fh,λa ha=>?_⟩⟩
 ·have h1:=s.own i c a e e';obtain⟨_,_,r1,_,q4,_⟩:=s.foot e e';cases r1;unfold join;rw[q4];exact h1
 ·have:join F Zx a≠none:=by
   cases q:Zx a with
   |none=>exact Y9 q ha
   |some o=>rw[h0 a o q];exact λz=>nomatch z
  rcases s.ext.new a ha with p | p
  ·rcases x.new a this with q | ⟨ts,q⟩
   ·exact .inl (q.trans p)
   ·cases z:Zx a with
    |none=>exact Y9 z ha
    |some o=>
     rw[h0 a o z] at q;exact .inr ⟨ts,q⟩
  ·exact .inr p
def StOk.unbase{K:SN}{u8 Zx F U F' H':Hp}(k:∀F' H',Ext F U F' H'->Ext u8 Zx F' H')(s:StOk K F U F' H' σ ρ)(h:Same Zx U):StOk K u8 Zx F' H' σ ρ:=
 ⟨k _ _ s.ext,s.st,s.len,λi c a e e'=>Same.free h (s.own i c a e e'),s.sep⟩
def mf{K:SN}{u8 Zx F H:Hp}(s:StOk K u8 Zx F H σ ρ):Same Zx (join F Zx):=λb o e=>by
 unfold join;cases q:F b with
 |some u=>
  have h1:=s.st.fh b u q;rw[s.ext.hh b o e] at h1;exact h1.symm
 |none=>exact e
def Inv.refrz(I:Inv X f8 σ H s)(e:H a=some o)
 (ho:o'=o\/∃u,o'= .frz ((s.heap.get? a).getD {cls:= .none,data:= .fields #[]}) u/\((∃k,o= .dT k/\u= .dT k)\/∃k,o= .dK k/\u= .dK k)):Inv X f8 σ (upd H a o') s:=by
 rcases ho with rfl | ⟨u,rfl,hu⟩
 ·have:upd H a o'=H:=by
   funext b;by_cases z:b=a
   ·rw[z,aE,e]
   ·rw[au z]
  rw[this];exact I
 have Rw:o=u:=by rcases hu with⟨k,h1,h2⟩ | ⟨k,h1,h2⟩<;>rw[h1,h2]
 subst Rw;have nt:∀ts,o≠ .tup ts:=λts z=>by rcases hu with⟨k,h1,_⟩ | ⟨k,h1,_⟩<;>rw[h1] at z<;>cases z
 have nf:∀ob v,o≠ .frz ob v:=λob v z=>by rcases hu with⟨k,h1,_⟩ | ⟨k,h1,_⟩<;>rw[h1] at z<;>cases z
 have nb:∀p,o≠ .tbl p:=λp z=>by rcases hu with⟨k,h1,_⟩ | ⟨k,h1,_⟩<;>rw[h1] at z<;>cases z
 have no:∀p,o≠ .own p:=λp z=>by rcases hu with⟨k,h1,_⟩ | ⟨k,h1,_⟩<;>rw[h1] at z<;>cases z
 have ne:∀b,H b=none->b≠a:=λb hb z=>by rw[z,e] at hb;cases hb
 have hk:=I.hok a o e;have ki:=hk.lt;obtain⟨ob,IX⟩:∃ob,s.heap.get? a=some ob:=by
  rcases hu with⟨k,h1,_⟩ | ⟨k,h1,_⟩
  ·subst h1;obtain⟨_,_,_,_,ob,_,_,q,_⟩:=hk;exact⟨ob,q⟩
  ·subst h1;obtain⟨_,_,_,_,ob,_,_,q,_⟩:=hk;exact⟨ob,q⟩
 rw[IX];refine⟨I.ok,I.os,I.bare,⟨I.base.keep,I.base.slot,λb q h1 h2 h3=>?_,I.base.there,λb xs q=>?_,λb q1 v q=>?_,λb ps q=>?_⟩,I.loc,I.cell,?_,λx c q=>?_,λp hp=>?_,λb v q=>?_,I.len⟩
 ·have:=I.base.free b q h1 h2 h3;rw[au (ne b this)];exact this
 ·have:=I.base.tups b xs q;rw[au (λz=>by rw[z,e] at this;exact nt xs (Tr this))];exact this
 ·have:=I.base.frzs b q1 v q;rw[au (λz=>by rw[z,e] at this;exact nf _ _ (Tr this))];exact this
 ·obtain⟨m,this⟩:=I.base.tbls b ps q;exact⟨m,by rw[au (λz=>by rw[z,e] at this;exact nb _ (Tr this))];exact this⟩
 ·rw[au (ne _ I.free)];exact I.free
 ·rw[au (ne _ (I.freeC x c q))];exact I.freeC x c q
 ·obtain⟨h1,h2,h3⟩:=I.pin p hp;exact⟨h1,by rw[au (ne _ h2)];exact h2,h3⟩
 ·have st:∀{c:Addr}{v:HO},ObjOk X.prog X.w H s.heap c v->ObjOk X.prog X.w (upd H a (.frz ob o)) s.heap c v:=λ{c v} k=>k.stay (λ_ _ _ q=>q)
   (λc' q=>by rw[au (λz=>by rw[z,e] at q;exact no _ (Tr q))];exact q) λc' xs q=>by rw[au (λz=>by rw[z,e] at q;exact nt _ (Tr q))];exact q
  by_cases z:b=a
  ·subst z;rw[show (some ob).getD _=ob from rfl,aE] at q;cases q;exact⟨IX,st hk⟩
  ·rw[au z] at q;exact st (I.hok b v q)
def a8(a b:DS):DS:=λρ=>a ρ>>=λo=>match o with | .nx ρ'=>b ρ' | .rt d=>aa (.rt d)
def di:DS:=λρ=>aa (.nx ρ)
def bo(δ:DE):DS:=λρ=>δ ρ>>=λd=>aa (.rt d)
def rj(δ:DE):DS:=λρ=>δ ρ>>=λ_=>aa (.nx ρ)
def bX(i:Nat)(δ:DE):DS:=λρ=>δ ρ>>=λd=>aa (.nx (ρ.set i (some (.fz d))))
def iC(c:DT)(a b:DS):DS:=λρ=>c ρ>>=λx=>if x then a ρ else b ρ
def Ez(i:Nat)(a:DS):DS:=λρ=>a (frz i ρ)
def uL(i:Nat):DS:=λρ=>aa (.nx (ρ.set i (some (.ow (.lst [])))))
def ir(ρ:aO)(i:Nat):Option (List D):=match ρ[i]? with
 |some (some (.ow (.lst ds)))=>some ds
 |_=>none
def gM{i:Nat}(h:ir ρ i=some ds):ρ[i]? =some (some (.ow (.lst ds))):=by
 unfold ir at h;split at h
 ·rename_i ds' e;cases h;exact e
 ·cases h
def oq(i:Nat)(δ:DE):DS:=λρ=>match ir ρ i with
 |some ds=>δ ρ>>=λd=>if ds.length<lim then aa (.nx (ρ.set i (some (.ow (.lst (ds++[d])))))) else af
 |none=>af
def Ex(i:Nat)(δ:DE):DS:=λρ=>match ir ρ i with
 |some ds=>δ ρ>>=λd=>lstM d>>=λes=>if ds.length+es.length<=lim then aa (.nx (ρ.set i (some (.ow (.lst (ds++es)))))) else af
 |none=>af
def forL(put:D->aO->Option aO)(body:DS):List D->DS
 |[],ρ=>aa (.nx ρ)
 |d::ds,ρ=>(match put d ρ with | none=>af | some ρ1=>body ρ1>>=λo=>match o with | .nx ρ2=>forL put body ds ρ2 | .rt v=>aa (.rt v))
def putN(i:Nat):D->aO->Option aO:=λd ρ=>some (ρ.set i (some (.fz d)))
def gT(put:D->aO->Option aO)(δi:DA)(body:DS):DS:=λρ=>δi ρ>>=λds=>forL put body ds ρ
section
variable{X:Cx}{Xw:Nat->Hp->Prop}{u8 Zx:Hp}{st:Stmt}{W1:List Stmt}{τ τ':DS}{e:Expr}{δ:DE}{pos:Pos}
def bu:PSDs X Xw [] di:=λu8 Zx=>PSs.weak Ae λD σ H ⟨F,ρ,s,w⟩=>w σ F H s
def ao(h1:nV X Xw st τ)(h2:PSDs X Xw W1 τ'):PSDs X Xw (st::W1) (a8 τ τ'):=λu8 Zx=>PSs.weak (qq (h1 u8 Zx) (h2 u8 Zx)) λD σ H ⟨F,ρ,s,w⟩=>by
 refine⟨F,ρ,s,?_⟩;unfold a8 at w
 match τ ρ,w with
 |none,w=>exact w
 |some (.ok (.nx ρ')),w=>exact λσ' F' H' s'=>⟨F',ρ',s',w⟩
 |some (.ok (.rt d)),w=>exact w
 |some (.ex n),w=>exact w
def ak(h1:nV X Xw st τ):PSDs X Xw [st] τ:=λu8 Zx=>oM (h1 u8 Zx)
def gb{i:Nat}(h:nV X Xw st τ):nV X Xw st (Ez i τ):=λu8 Zx f8 sh σ H D I ⟨F,ρ,s,w⟩=>by
 rcases s.frz i (λa=>(sh.heap.get? a).getD {cls:= .none,data:= .fields #[]}) with⟨a,o,ha,hc,hσ,s'⟩ | e
 ·refine h u8 Zx f8 sh σ _ D (L3.Inv.refrz I ha ?_) ⟨_,_,s',w⟩;generalize (ρ[i]?.elim (C.lst []) λx=>x.elim (.lst []) λy=>match y with | .ow c=>c | _=> .lst [])=c at hc;cases c with
  |lst ds=>obtain⟨vs,rfl,_⟩:=hc;exact .inl rfl
  |dct ks ds=>obtain⟨vs,rfl,_⟩:=hc;exact .inr ⟨_,rfl, .inl ⟨_,rfl,rfl⟩⟩
  |dci ks ds=>obtain⟨vs,rfl,_⟩:=hc;exact .inr ⟨_,rfl, .inr ⟨_,rfl,rfl⟩⟩
 ·exact h u8 Zx f8 sh σ H D I ⟨F,ρ,s,by unfold Ez at w;rw[e] at w;exact w⟩
def aB(h:PD X Xw e δ):nV X Xw (.Return (some e) pos) (bo δ):=λu8 Zx=>PS.weak (yN h) λD σ H ⟨F,ρ,s,w⟩=>by
 refine⟨F,ρ,s.st,?_⟩;unfold bo at w
 match δ ρ,w with
 |none,w=>exact w
 |some (.ok d),w=>exact λv H' F' e' q=>w v F' H' (s.ext.trans e') q
 |some (.ex n),w=>exact λF' H' e'=>w F' H' (s.ext.trans e')
def jX(h:PD X Xw e δ)(hs:Vv e none pos.line X.env=pure false:=by rfl):nV X Xw (.Expr e pos) (rj δ):=λu8 Zx=>PS.weak (lM h hs) λD σ H ⟨F,ρ,s,w⟩=>by
 refine⟨F,ρ,s.st,?_⟩;unfold rj at w
 match δ ρ,w with
 |none,w=>exact w
 |some (.ok d),w=>exact λv H' F' e' q=>w σ F' H' (s.ext' e')
 |some (.ex n),w=>exact λF' H' e'=>w F' H' (s.ext.trans e')
def aT{x:Str}(hN:X.N.Nodup)(hi:X.N[i]? =some x)(hx:Loc X.env.scope x)(he:PD X Xw e δ)(hf:X.fn x=true\/X.env.scope.names.lookup x=some .local:=by first | exact .inl rfl | exact .inr rfl)
 (hs:Wy [.Name x pos'] e pos.line X.env=pure false:=by rfl):
 nV X Xw (.Assign [.Name x pos'] e pos) (bX i δ):=λu8 Zx=>PS.weak (mC he (bH hN hi hx hf) hs) λD σ H ⟨F,ρ,s,w⟩=>by
 refine⟨F,ρ,s.st,?_⟩;unfold bX at w
 match δ ρ,w with
 |none,w=>exact w
 |some (.ok d),w=>exact λv H' F' e' q=>w _ F' H' ((s.ext' e').set q)
 |some (.ex n),w=>exact λF' H' e'=>w F' H' (s.ext.trans e')
def jm(hN:X.N.Nodup)(Km:X.N[i]? =some x)(hx:Loc X.env.scope x)
 (sc:CompSc X scope tn)(hn:tn.length=max n 1)(hc:X.calm=true)(hi:zg X Xw tg iter δi)
 (hg:∀f8 cl C fp v0 H σ,B7 (kg X scope tn f8 cl C fp v0 H) tg n σ)
 (ht:∀f8 cl C fp v0 H,l5 (kg X scope tn f8 cl C fp v0 H) ifs δt)
 (he:∀f8 cl C fp v0 H,PD (kg X scope tn f8 cl C fp v0 H) (λ_ _=>False) Zk δe)
 (hf:X.fn x=true\/X.env.scope.names.lookup x=some .local:=by first | exact .inl rfl | exact .inr rfl)
 (Rz:Vv (.ListComp Zk [⟨tg,iter,ifs,0⟩] scope aU) (some (.Name x pos')) pos.line X.env=pure true:=by rfl)
 (hs:∀x,VG iter X.env x=pure x:=by intro _;rfl):
 nV X Xw (.Assign [.Name x pos'] (.ListComp Zk [⟨tg,iter,ifs,0⟩] scope aU) pos) (bX i (aR n δi δt δe)):=λu8 Zx f8 s σ H D I ⟨F,ρ,S,w⟩=>by
 obtain⟨cl,CU,Co,Kg⟩:=o6 λy hy hf=>I.ok.has y.1 (sc.frees y hy hf);have w':WP X.K Xw F H (aR n δi δt δe ρ) (λv H'=>D.nx (σ.set i (some v)) H'):=by
  have w:WPS X.K Xw u8 Zx (aR n δi δt δe ρ>>=λd=>aa (.nx (ρ.set i (some (.fz d))))) D:=w
  match aR n δi δt δe ρ,w with
  |none,w=>exact w
  |some (.ok d),w=>exact λv H' F' e' q=>w _ F' H' ((S.ext' e').set q)
  |some (.ex n),w=>exact λF' H' e'=>w F' H' (S.ext.trans e')
 rw[exec_Assign_Name_used _ _ _ _ Rz];refine SH (wpAny_standAt (SH ?_));show wpAny _ X.A (do let _<-comprehension (.ListComp Zk [⟨tg,iter,ifs,0⟩] scope aU) scope X.env _ (newList []) false (eval iter X.env) (some (assign (.Name x pos') X.env))) _ _ s;refine SH (Ux (Yx rfl hs CU sc.kind sc.names
  (vq sc hn hc hi hg ht he I S.st w' Co Kg λs1 C D' H' I1 q b=>?_)) (λ_ s' hq=>SQ (SQ hq)) λ_ _ e=>e)
 show wpAny _ X.A (assign (.Name x pos') X.env (.ref D')) _ _ _;refine XO (sU I1 hN Km hx (v:= .ref D') rfl (λs2 I2 ⟨a,sb,ha⟩=>?_) hf);have QC:C≠a:=by
  rcases ha with z | z
  ·rw[z];exact b.nl
  ·exact UW (b.nc x a z)
 obtain⟨m,hm⟩:=b.ns;have Lj:s2.heap.Ns C m:=hm.sameBut sb QC;refine⟨m,Lj,λh' Lu=>⟨_,H',Inv.block I2 ⟨⟨m,Lj⟩,b.free,b.nl,b.nw,b.nc,b.np⟩ Lu,q⟩⟩
def bW{a b:List Stmt}(hc:qT X Xw c tc)(ha:PSDs X Xw a τ)(hb:PSDs X Xw b τ'):nV X Xw (.If c a b pos) (iC tc τ τ'):=λu8 Zx=>PS.weak (H_ hc (ha u8 Zx) (hb u8 Zx)) λD σ H ⟨F,ρ,s,w⟩=>by
 refine⟨F,ρ,s.st,?_⟩;unfold iC at w
 match tc ρ,w with
 |none,w=>exact w
 |some (.ok true),w=>exact λH' F' e'=>⟨F',ρ,s.ext' e',w⟩
 |some (.ok false),w=>exact λH' F' e'=>⟨F',ρ,s.ext' e',w⟩
 |some (.ex n),w=>exact λF' H' e'=>w F' H' (s.ext.trans e')
def iy{pos' uD:Pos}(hN:X.N.Nodup)(hi:X.N[i]? =some x)(hx:Loc X.env.scope x)(hf:X.fn x=true\/X.env.scope.names.lookup x=some .local:=by first | exact .inl rfl | exact .inr rfl):
 nV X Xw (.Assign [.Name x pos'] (.List [] uD) pos) (uL i):=λu8 Zx=>PS.weak (mC (D7 qe) (bH hN hi hx hf) rfl) λD σ H ⟨F,ρ,s,w⟩=>by
 refine⟨TQ _,λp hp=>?_⟩;exact w _ F _ (s.setNew hp ⟨[],rfl,rfl,TQ _⟩)
def zi(K:SN)(g:TG)(put:D->aO->Option aO):Prop:=∀(u8 Zx F H:Hp) (σ:St) (ρ ρ':aO) (d:D) (v:V) (Q:St->Hp->Prop),StOk K u8 Zx F H σ ρ->Den K F d v->put d ρ=some ρ'->
 (∀σ',StOk K u8 Zx F H σ' ρ'->Q σ' H)->g v σ H Q
def c_{K:SN}{i:Nat}:zi K (zL i) (putN i):=λu8 Zx F H σ ρ ρ' d v Q s q e k=>by
 cases e;exact k _ (s.set q)
def R_(K:SN)(Xw:Nat->Hp->Prop)(τ:DS):TS:=λD σ H=>∃u8 Zx,tS K Xw u8 Zx τ D σ H
def PSDs.ex{body:List Stmt}(h:PSDs X Xw body τ):PSs X body (R_ X.K Xw τ):=λf8 s σ H D I ⟨u8,Zx,w⟩=>h u8 Zx f8 s σ H D I w
def eg{tg iter:Expr}{body:List Stmt}(hp:Yi (model X.prog X.w) X.A X.env X.xe)(hc:X.calm=true)(hi:zg X Xw tg iter δi)(hg:PG X tg g)(CZ:zi X.K g put)(hb:PSDs X Xw body τ)
 (hs:∀x,VG iter X.env x=pure x:=by intro _;rfl):nV X Xw (.For tg iter body [] pos) (gT put δi τ):=λu8 Zx=>PS.weak (Ea hp hc hi hg hb.ex hs) λD σ H ⟨F,ρ,s,w⟩=>by
 refine⟨F,ρ,s.st,?_⟩;unfold gT at w
 match δi ρ,w with
 |none,w=>exact w
 |some (.ex n),w=>exact λF' H' e'=>w F' H' (s.ext.trans e')
 |some (.ok ds),w=>
  have w:WPS X.K Xw u8 Zx (forL put τ ds ρ) D:=w;intro J H1 F1 e1 LD;obtain⟨s1,back⟩:=(s.ext' e1).rebase;have hU:=mf (s.ext' e1);generalize join F1 Zx=U at s1 back hU;refine⟨λi m σ H=>m=ds.length - i/\i<=ds.length/\∃F ρ,StOk X.K F1 U F H σ ρ/\WPS X.K Xw u8 Zx (forL put τ (ds.drop i) ρ) D,⟨ds.length,by simp,TQ _,F1,ρ,s1,by simpa using w⟩,?_⟩;rintro i m σ2 H2 ⟨rfl,Lb,F2,ρ2,s2,w2⟩;by_cases ki:i<ds.length
  ·obtain⟨d,hd⟩:∃d,ds[i]? =some d:=⟨_,SK ki⟩
   obtain⟨K_,C1⟩:=(LD F2 H2 i s2.ext.ff s2.st.fh).1 d hd;have ed:ds.drop i=d::ds.drop (i+1):=by
    obtain⟨hi,e⟩:=SY.mp hd;rw[V1 hi,e]
   rw[ed] at w2;unfold forL at w2;refine .inr ⟨K_,λσ' H'=>∃F' ρ',StOk X.K F1 U F' H' σ' ρ'/\WPS X.K Xw u8 Zx (forL put τ (ds.drop (i+1)) ρ') D,λσ' H' ⟨F',ρ',h2,h3⟩=>⟨ds.length - (i+1),by omega,rfl,ki,F',ρ',h2,h3⟩,λx H3 y3=>?_⟩;obtain⟨F3,B5,q3⟩:=C1 x H3 y3
   match N5:put d ρ2,w2 with
   |none,w2=>exact w2.elim
   |some ρ3,w2=>
    refine CZ F1 U F3 H3 σ2 ρ2 ρ3 d x _ (s2.ext' B5) q3 N5 λσ3 s3=>⟨F1,U,F3,ρ3,s3,?_⟩
    have w2:WPS X.K Xw u8 Zx (τ ρ3>>=λo=>match o with | .nx ρ2=>forL put τ (ds.drop (i+1)) ρ2 | .rt v=>aa (.rt v)) D:=w2
    match τ ρ3,w2 with
    |none,w2=>exact w2
    |some (.ok (.nx ρ')),w2=>exact λσ' F' H' s'=>⟨F',ρ',s',w2⟩
    |some (.ok (.rt d)),w2=>exact λv F' H' e q=>w2 v F' H' (back _ _ e) q
    |some (.ex n),w2=>exact λF' H' e=>w2 F' H' (back _ _ e)
  ·have hi:i=ds.length:=by omega
   subst hi;rw[Xm] at w2;exact .inl ⟨(LD F2 H2 ds.length s2.ext.ff s2.st.fh).2 (SW _),w2 σ2 F2 H2 (s2.unbase back hU)⟩
end
def gI(f:Int->Int->D):D->D->M D
 | .int i, .int j=>aa (f i j)
 |_,_=>af
def KZ(c:Int->Int->Bool)(f:Int->Int->D):D->D->M D
 | .int i, .int j=>if c i j then aa (f i j) else af
 |_,_=>af
def wu{K:SN}{gd:Int->Int->D}(h:∀F i j,Den K F (gd i j) (gv i j)):xt K (An gv) (gI gd):=λXw F H x y dx dy Q s hx hy w=>by
 unfold gI at w;split at w
 ·rename_i i j;exact⟨i,j,hx,hy,WP.now w s (h F i j)⟩
 ·exact w.elim
def yG{K:SN}{C:Int->Int->Prop}(h:∀F i j,Den K F (gd i j) (gv i j))(hc:∀i j,c i j=true->C i j):xt K (rI C gv) (KZ c gd):=λXw F H x y dx dy Q s hx hy w=>by
 unfold KZ at w;split at w
 ·rename_i i j;split at w
  ·rename_i MO;exact⟨i,j,hx,hy,hc i j MO,WP.now w s (h F i j)⟩
  ·exact w.elim
 ·exact w.elim
def dR:=gI λi j=> .int (i+j)
def fV:=gI λi j=> .int (i - j)
def fe:=KZ (λi j=>decide ((-(2 ^ 64)<i/\i<2 ^ 64)\/(-(2 ^ 64)<j/\j<2 ^ 64))) λi j=> .int (i*j)
def qY:=KZ (λ_ j=>decide (0<j/\j<1073741824)) λi j=> .int (i / j)
def la:=KZ (λ_ j=>decide (0<j)) λi j=> .int (i % j)
def Kj:=gI λi j=> .bl (decide (j<i))
section
variable{X:Cx}{Xw:Nat->Hp->Prop}{a b:Expr}{δa δb:DE}{pos:Pos}
def cE(ha:PD X Xw a δa)(hb:PD X Xw b δb):PD X Xw (.BinOp a .Add b pos) (d2 dR δa δb):=qk Js (wu λ_ _ _=>rfl) ha hb
def eW(ha:PD X Xw a δa)(hb:PD X Xw b δb):PD X Xw (.BinOp a .Sub b pos) (d2 fV δa δb):=qk Jx (wu λ_ _ _=>rfl) ha hb
def fO(ha:PD X Xw a δa)(hb:PD X Xw b δb):PD X Xw (.BinOp a .Mult b pos) (d2 fe δa δb):=qk Jw (yG (λ_ _ _=>rfl) λi j h=>by unfold CMul;exact Za h) ha hb
def uC(ha:PD X Xw a δa)(hb:PD X Xw b δb):PD X Xw (.BinOp a .FloorDiv b pos) (d2 qY δa δb):=qk Gg (yG (λ_ _ _=>rfl) λi j h=>by unfold Kt;exact Za h) ha hb
def mz(ha:PD X Xw a δa)(hb:PD X Xw b δb):PD X Xw (.BinOp a .Mod b pos) (d2 la δa δb):=qk Jv (yG (λ_ _ _=>rfl) λi j h=>Za h) ha hb
def L6(ha:PD X Xw a δa)(hb:PD X Xw b δb):qT X Xw (.Compare a [.Gt] [b] pos) (eA (d2 Kj δa δb)):=iz HZ (wu λ_ _ _=>rfl) ha hb
def eC:D->D->M D
 | .lst ds, .int i=>match atI ds i with | some d=>aa d | none=>af
 |_,_=>af
def aZ:D->D->M D
 | .tup ds, .int i=>match atI ds i with | some d=>aa d | none=>af
 |_,_=>af
def CO:D->D->M D
 | .scr ns, .int i=>match atI ns i with | some n=>aa (.int n) | none=>af
 |_,_=>af
def fK:D->D->M D
 | .str x, .int i=>match atI x.cps.toList i with | some c=>aa (.str ⟨#[c]⟩) | none=>af
 |_,_=>af
theorem DenL.atI{K:SN}(h:DenL K F ds vs){d:D}(e:L2.atI ds i=some d):∃v,L2.atI vs i=some v/\Den K F d v:=by
 unfold L2.atI at e⊢;rw[<-h.len];cases q:Fc ds.length i with
 |none=>rw[q] at e;cases e
 |some j=>
  rw[q] at e;exact h.get e
def Gh{K:SN}:xt K (JY K) eC:=λXw F H x y dx dy Q s hx hy w=>by
 unfold eC at w;split at w
 ·rename_i ds i;obtain⟨a,vs,h1,h2,h3,h4⟩:=hx;split at w
  ·rename_i d e;obtain⟨v,e1,q⟩:=h3.atI e;exact⟨a,vs,i,v,h1,hy,SqL.of (s _ _ h2),e1,WP.now w s q⟩
  ·exact w.elim
 ·exact w.elim
def Gk{K:SN}:xt K (Mc K) aZ:=λXw F H x y dx dy Q s hx hy w=>by
 unfold aZ at w;split at w
 ·rename_i ds i;obtain⟨a,vs,h1,h2,h3,h4⟩:=hx;split at w
  ·rename_i d e;obtain⟨v,e1,q⟩:=h3.atI e;exact⟨a,vs,i,v,h1,hy,SqT.of (s _ _ h2),e1,WP.now w s q⟩
  ·exact w.elim
 ·exact w.elim
def Gi{K:SN}:xt K (JY K) CO:=λXw F H x y dx dy Q s hx hy w=>by
 unfold CO at w;split at w
 ·rename_i ns i;obtain⟨a,h1,h2,h3⟩:=hx;split at w
  ·rename_i n e;refine⟨a,_,i, .int n,h1,hy,Same.seq s h2,?_,WP.now w s rfl⟩;unfold L2.atI at e⊢;rw[SI];cases q:Fc ns.length i with
   |none=>rw[q] at e;cases e
   |some j=>
    rw[q] at e;have e:ns[j]? =some n:=e;show (ns.map V.int)[j]? =some (.int n);rw[S2,e];rfl
  ·exact w.elim
 ·exact w.elim
def Gj{K:SN}:xt K Mb fK:=λXw F H x y dx dy Q s hx hy w=>by
 unfold fK at w;split at w
 ·rename_i z i;obtain⟨h1,h2⟩:=hx;split at w
  ·rename_i c e;exact⟨z,i,c,h1,hy,by have:=dS;omega,e,WP.now w s ⟨rfl,by show 1<=lim;decide⟩⟩
  ·exact w.elim
 ·exact w.elim
def gp(ha:PD X Xw a δa)(hb:PD X Xw b δb)(hs:g6 b:=by intro _ _;rfl):PD X Xw (.Subscript a b pos) (d2 eC δa δb):=z_ tZ Gh ha hb hs
def JA(ha:PD X Xw a δa)(hb:PD X Xw b δb)(hs:g6 b:=by intro _ _;rfl):PD X Xw (.Subscript a b pos) (d2 CO δa δb):=z_ tZ Gi ha hb hs
def bD(ha:PD X Xw a δa)(hb:PD X Xw b δb)(hs:g6 b:=by intro _ _;rfl):PD X Xw (.Subscript a b pos) (d2 aZ δa δb):=z_ Jh Gk ha hb hs
def my(ha:PD X Xw a δa)(hb:PD X Xw b δb)(hs:g6 b:=by intro _ _;rfl):PD X Xw (.Subscript a b pos) (d2 fK δa δb):=z_ Jg Gj ha hb hs
def CN:D->D->M D
 | .lst x, .lst y=>if x.length+y.length<=lim then aa (.lst (x++y)) else af
 |_,_=>af
def jI(x y:Str):(x++y).length=x.length+y.length:=by
 show (x.cps++y.cps).size=_;simp[Str.length]
def Gq(ha:PD X Xw a δa)(hb:PD X Xw b δb):PD X Xw (.BinOp a .Add b pos) (d2 CN δa δb):=qk Jt (λXw F H x y dx dy Q s hx hy w=>by
 unfold CN at w;split at w
 ·rename_i i j;obtain⟨a,vs,h1,h2,h3,h4⟩:=hx;obtain⟨a',oQ,k1,k2,k3,k4⟩:=hy;split at w
  ·rename_i hl;have e1:=h3.len;have e2:=k3.len;have:=dS;refine⟨a,a',vs,oQ,h1,k1,s _ _ h2,s _ _ k2,by omega,λp hp=>?_⟩;exact WP.fin w (Ext.lay s hp) ⟨p,_,rfl,aE,DenL.mono (Ext.lay s hp).ff (h3.append k3),by rw[S1];exact hl⟩
  ·exact w.elim
 ·exact w.elim) ha hb
end
end L3
namespace L3
open PySem PySem.Spec L2 SeqAt
open PyProof.Rows hiding St
def tN(f:D->D->Option Bool):List D->List D->Option Bool
 |[],[]=>some true
 |x::xs,y::ys=>match f x y,tN f xs ys with
  |some b,some r=>some (b&&r)
  |_,_=>none
 |[],_::_=>some false
 |_::_,[]=>some false
def xV:D->D->Option Bool
 | .non, .non=>some true
 | .bl a, .bl b=>some (a==b)
 | .bl a, .int j=>some ((if a then 1 else 0)==j)
 | .int i, .bl b=>some (i==(if b then 1 else 0))
 | .int i, .int j=>some (i==j)
 | .str x, .str y=>some (x==y)
 | .non, .bl _=>some false
 | .non, .int _=>some false
 | .non, .str _=>some false
 | .non, .lst _=>some false
 | .non, .tup _=>some false
 | .bl _, .non=>some false
 | .bl _, .str _=>some false
 | .bl _, .lst _=>some false
 | .bl _, .tup _=>some false
 | .int _, .non=>some false
 | .int _, .str _=>some false
 | .int _, .lst _=>some false
 | .int _, .tup _=>some false
 | .str _, .non=>some false
 | .str _, .bl _=>some false
 | .str _, .int _=>some false
 | .str _, .lst _=>some false
 | .str _, .tup _=>some false
 | .lst _, .non=>some false
 | .lst _, .bl _=>some false
 | .lst _, .int _=>some false
 | .lst _, .str _=>some false
 | .lst _, .tup _=>some false
 | .tup _, .non=>some false
 | .tup _, .bl _=>some false
 | .tup _, .int _=>some false
 | .tup _, .str _=>some false
 | .tup _, .lst _=>some false
 |_,_=>none
def pb:Nat->D->D->Option Bool
 |n+1, .tup xs, .tup ys=>tN (pb n) xs ys
 |n+1, .lst xs, .lst ys=>tN (pb n) xs ys
 |n+1, .scr xs, .lst ys=>tN (pb n) (xs.map D.int) ys
 |_,x,y=>xV x y
structure EqAll (A:T9) (s:SS) (u v:Value) (b:Bool):Prop where
 rc:RcAt A s u v b
 ne:RcNeAt A s u v (!b)
 eq:EqAt A s u v b
section
variable{X:Cx}{f8:List (Addr×Obj)}{σ:St}{F H:Hp}{s:SS}{A:T9}
def uZ(I:Inv X f8 σ H s)(hs:Same F H)(h:Den X.K F (.tup ds) v)(r:RelV v u):∃a vs aM,u= .ref a/\v= .ref a/\F a=some (.tup vs)/\DenL X.K F ds vs/\Vals vs aM/\s.heap.IsTuple a aM.toArray:=by
 obtain⟨a,vs,rfl,h2,h3,h4⟩:=h;obtain⟨aM,r1,p1,_⟩:=I.tuple (SqT.of (hs _ _ h2));exact⟨a,vs,aM,r,rfl,h2,h3,r1,p1⟩
def pM(I:Inv X f8 σ H s)(hs:Same F H)(h:Den X.K F (.lst ds) v)(r:RelV v u):∃a vs aM,u= .ref a/\v= .ref a/\F a=some (.lst vs)/\DenL X.K F ds vs/\Vals vs aM/\s.heap.IsList a aM.toArray:=by
 obtain⟨a,vs,rfl,h2,h3,h4⟩:=h;obtain⟨aM,r1,p1,_⟩:=I.list (SqL.of (hs _ _ h2));exact⟨a,vs,aM,r,rfl,h2,h3,r1,p1.isList⟩
def J1(I:Inv X f8 σ H s)(hs:Same F H)(h:Den X.K F (.scr ns) v)(r:RelV v u):∃a aM,u= .ref a/\v= .ref a/\SqL X.K F a (ns.map V.int)/\Vals (ns.map V.int) aM/\s.heap.IsList a aM.toArray:=by
 obtain⟨a,rfl,h2,h3⟩:=h;obtain⟨aM,r1,p1,_⟩:=I.list (Same.seq hs h2);exact⟨a,aM,r,rfl,h2,r1,p1.isList⟩
def vE(I:Inv X f8 σ H s)(hs:Same F H)(hu:A.units<cLine)(hx:Den X.K F x v)(hy:Den X.K F y w)(rx:RelV v u)(ry:RelV w t)(e:xV x y=some b):EqAll A s u t b:=by
 cases x<;>cases y<;>cases e<;>(first | (cases (show _=V.non from hx);cases rx) | (cases (show _=V.bl _ from hx);cases rx) | (cases (show _=V.int _ from hx);obtain⟨_,rfl⟩:=rx) | (cases (show _=V.str _ from hx.1);obtain⟨_,rfl⟩:=rx) | (have q:=uZ I hs hx rx;obtain⟨_,_,_,rfl,_,_,_,_,p1⟩:=q) | (have q:=pM I hs hx rx;obtain⟨_,_,_,rfl,_,_,_,_,p1⟩:=q))<;>(first | (cases (show _=V.non from hy);cases ry) | (cases (show _=V.bl _ from hy);cases ry) | (cases (show _=V.int _ from hy);obtain⟨_,rfl⟩:=ry) | (cases (show _=V.str _ from hy.1);obtain⟨_,rfl⟩:=ry) | (have q:=uZ I hs hy ry;obtain⟨_,_,_,rfl,_,_,_,_,p2⟩:=q) | (have q:=pM I hs hy ry;obtain⟨_,_,_,rfl,_,_,_,_,p2⟩:=q))
 ·exact⟨RcAt.none_none,RcNeAt.none_none,EqAt.same _⟩
 ·exact⟨RcAt.none_bool _,RcNeAt.none_bool _,EqAt.none_bool _⟩
 ·exact⟨RcAt.none_int _ _,RcNeAt.none_int _ _,EqAt.none_int _ _⟩
 ·exact⟨RcAt.none_str _ _,RcNeAt.none_str _ _,EqAt.none_str _ _⟩
 ·exact⟨RcAt.none_tuple p2 hu,RcNeAt.none_tuple p2 hu,EqAt.none_tuple p2 hu⟩
 ·exact⟨RcAt.none_list p2 hu,RcNeAt.none_list p2 hu,EqAt.none_list p2 hu⟩
 ·exact⟨RcAt.bool_none _,RcNeAt.bool_none _,EqAt.bool_none _⟩
 ·exact⟨RcAt.bool_bool _ _,RcNeAt.bool_bool _ _,EqAt.bool_bool _ _⟩
 ·exact⟨RcAt.bool_int _ _ _,RcNeAt.bool_int _ _ _,EqAt.bool_int _ _ _⟩
 ·exact⟨RcAt.bool_str _ _ _,RcNeAt.bool_str _ _ _,EqAt.bool_str _ _ _⟩
 ·exact⟨RcAt.bool_tuple _ p2 hu,RcNeAt.bool_tuple _ p2 hu,EqAt.bool_tuple _ p2 hu⟩
 ·exact⟨RcAt.bool_list _ p2 hu,RcNeAt.bool_list _ p2 hu,EqAt.bool_list _ p2 hu⟩
 ·exact⟨RcAt.int_none _ _,RcNeAt.int_none _ _,EqAt.int_none _ _⟩
 ·exact⟨RcAt.int_bool _ _ _,RcNeAt.int_bool _ _ _,EqAt.int_bool _ _ _⟩
 ·exact⟨RcAt.int_int _ _ _ _,RcNeAt.int_int _ _ _ _,EqAt.int_int _ _ _ _⟩
 ·exact⟨RcAt.int_str _ _ _ _,RcNeAt.int_str _ _ _ _,EqAt.int_str _ _ _ _⟩
 ·exact⟨RcAt.int_tuple _ _ p2 hu,RcNeAt.int_tuple _ _ p2 hu,EqAt.int_tuple _ _ p2 hu⟩
 ·exact⟨RcAt.int_list _ _ p2 hu,RcNeAt.int_list _ _ p2 hu,EqAt.int_list _ _ p2 hu⟩
 ·exact⟨RcAt.str_none _ _,RcNeAt.str_none _ _,EqAt.str_none _ _⟩
 ·exact⟨RcAt.str_bool _ _ _,RcNeAt.str_bool _ _ _,EqAt.str_bool _ _ _⟩
 ·exact⟨RcAt.str_int _ _ _ _,RcNeAt.str_int _ _ _ _,EqAt.str_int _ _ _ _⟩
 ·exact⟨RcAt.str_str _ _ _ _,RcNeAt.str_str _ _ _ _,EqAt.str_str _ _ _ _⟩
 ·exact⟨RcAt.str_tuple _ _ p2 hu,RcNeAt.str_tuple _ _ p2 hu,EqAt.str_tuple _ _ p2 hu⟩
 ·exact⟨RcAt.str_list _ _ p2 hu,RcNeAt.str_list _ _ p2 hu,EqAt.str_list _ _ p2 hu⟩
 ·exact⟨RcAt.tuple_none p1 hu,RcNeAt.tuple_none p1 hu,EqAt.tuple_none p1 hu⟩
 ·exact⟨RcAt.tuple_bool _ p1 hu,RcNeAt.tuple_bool _ p1 hu,EqAt.tuple_bool _ p1 hu⟩
 ·exact⟨RcAt.tuple_int _ _ p1 hu,RcNeAt.tuple_int _ _ p1 hu,EqAt.tuple_int _ _ p1 hu⟩
 ·exact⟨RcAt.tuple_str _ _ p1 hu,RcNeAt.tuple_str _ _ p1 hu,EqAt.tuple_str _ _ p1 hu⟩
 ·exact⟨RcAt.tuple_list p1 p2 hu,RcNeAt.tuple_list p1 p2 hu,EqAt.tuple_list p1 p2 hu⟩
 ·exact⟨RcAt.list_none p1 hu,RcNeAt.list_none p1 hu,EqAt.list_none p1 hu⟩
 ·exact⟨RcAt.list_bool _ p1 hu,RcNeAt.list_bool _ p1 hu,EqAt.list_bool _ p1 hu⟩
 ·exact⟨RcAt.list_int _ _ p1 hu,RcNeAt.list_int _ _ p1 hu,EqAt.list_int _ _ p1 hu⟩
 ·exact⟨RcAt.list_str _ _ p1 hu,RcNeAt.list_str _ _ p1 hu,EqAt.list_str _ _ p1 hu⟩
 ·exact⟨RcAt.list_tuple p1 p2 hu,RcNeAt.list_tuple p1 p2 hu,EqAt.list_tuple p1 p2 hu⟩
end
def ev(f:D->D->Option Bool)(xs ys:List D)(j:Nat):Bool:=match xs[j]?,ys[j]? with
 |some x,some y=>(f x y).getD false
 |_,_=>false
theorem vD:∀{xs ys:List D}{b:Bool},tN f xs ys=some b->∀(j:Nat) (x y:D),xs[j]? =some x->ys[j]? =some y->∃c,f x y=some c
 |[],_,_,_,_,_,_,h,_=>by simp at h
 |_::_,[],_,_,_,_,_,_,h=>by simp at h
 |x::xs,y::ys,b,e,j,x',y',hx,hy=>by
  unfold tN at e;split at e
  ·rename_i b1 r1 e1 e2;cases j with
   |zero=>simp at hx hy;subst hx hy;exact⟨_,e1⟩
   |succ j=>exact vD e2 j x' y' (by simpa using hx) (by simpa using hy)
  ·cases e
theorem tP:∀{xs ys:List D}{b:Bool},tN f xs ys=some b->b=((S5 (min xs.length ys.length)).all (ev f xs ys)&&xs.length==ys.length)
 |[],[],_,e=>by cases e;rfl
 |[],_::_,_,e=>by cases e;simp
 |_::_,[],_,e=>by cases e;simp
 |x::xs,y::ys,b,e=>by
  unfold tN at e;split at e
  ·rename_i b1 r1 e1 e2;cases e;have h:=tP e2;rw[SO,SO,Nat.succ_min_succ,Wn,VM,VZ];have e0:ev f (x::xs) (y::ys) 0=b1:=by unfold ev;simp[e1]
   have e3:(ev f (x::xs) (y::ys)∘Yj)=ev f xs ys:=by funext j;simp[ev,Y5]
   have e4:(xs.length+1==ys.length+1)=(xs.length==ys.length):=by simp
   rw[e0,e3,e4,h,Bool.and_assoc]
  ·cases e
section
variable{X:Cx}{f8:List (Addr×Obj)}{σ:St}{F H:Hp}{s:SS}
theorem k9(h:∀x y v b,Den X.K F x v->Den X.K F y v->f x y=some b->b=true):∀{xs ys:List D}{vs:List V}{b:Bool},DenL X.K F xs vs->DenL X.K F ys vs->tN f xs ys=some b->b=true
 |[],[],_,_,_,_,e=>by cases e;rfl
 |[],_::_,_,_,h1,h2,_=>by
  cases (show _=_ from h1);obtain⟨v,r,z,_⟩:=h2;cases z
 |_::_,[],_,_,h1,h2,_=>by
  cases (show _=_ from h2);obtain⟨v,r,z,_⟩:=h1;cases z
 |x::xs,y::ys,_,b,⟨v,r,e1,q1,q2⟩,⟨v',r',e2,q3,q4⟩,e=>by
  subst e1;cases e2;unfold tN at e;split at e
  ·rename_i b1 r1 f1 f2;cases e;rw[h x y v b1 q1 q3 f1,k9 h q2 q4 f2];rfl
  ·cases e
def rP(hx:Den X.K F x v)(hy:Den X.K F y v)(e:xV x y=some b):b=true:=by
 cases x<;>cases y<;>first
  |(cases e;done)
  |(cases e;cases (show _=_ from hx);cases (show _=_ from hy);first | rfl | simp)
  |(cases e;cases (show _=_ from hx.1);cases (show _=_ from hy.1);simp)
  |(cases e;cases (show _=_ from hx);cases (show _=_ from hy.1))
  |(cases e;cases (show _=_ from hx.1);cases (show _=_ from hy))
  |(cases e;obtain⟨_,_,z,_⟩:=hx;subst z;cases (show _=_ from hy);done)
  |(cases e;obtain⟨_,_,z,_⟩:=hx;subst z;cases (show _=_ from hy.1);done)
  |(cases e;obtain⟨_,z,_⟩:=hx;subst z;cases (show _=_ from hy);done)
  |(cases e;obtain⟨_,z,_⟩:=hx;subst z;cases (show _=_ from hy.1);done)
  |(cases e;obtain⟨_,_,z,_⟩:=hy;subst z;cases (show _=_ from hx);done)
  |(cases e;obtain⟨_,_,z,_⟩:=hy;subst z;cases (show _=_ from hx.1);done)
  |(cases e;obtain⟨_,z,_⟩:=hy;subst z;cases (show _=_ from hx);done)
  |(cases e;obtain⟨_,z,_⟩:=hy;subst z;cases (show _=_ from hx.1);done)
  |(cases e;obtain⟨_,_,z,h2,_⟩:=hx;obtain⟨_,_,z',Pn,_⟩:=hy;subst z;cases z';rw[h2] at Pn;cases Pn;done)
  |(cases e;cases (show _=_ from hx);cases (show _=_ from hy);done)
  |(cases e;cases (show _=_ from hx.1);cases (show _=_ from hy.1);done)
theorem k8(I:Inv X f8 σ H s)(hs:Same F H):∀(n:Nat) (x y:D) (v:V) (b:Bool),Den X.K F x v->Den X.K F y v->pb n x y=some b->b=true
 |0,x,y,v,b,hx,hy,e=>rP hx hy (by unfold pb at e;exact e)
 |n+1,x,y,v,b,hx,hy,e=>by
  unfold pb at e;split at e
  ·rename_i xs ys _;obtain⟨a,vs,rfl,h2,h3,_⟩:=hx;obtain⟨a',oQ,z,k2,k3,_⟩:=hy;cases z;rw[h2] at k2;cases k2;exact k9 (k8 I hs _) h3 k3 (by simpa using e)
  ·rename_i xs ys _;obtain⟨a,vs,rfl,h2,h3,_⟩:=hx;obtain⟨a',oQ,z,k2,k3,_⟩:=hy;cases z;rw[h2] at k2;cases k2;exact k9 (k8 I hs _) h3 k3 (by simpa using e)
  ·rename_i xs ys _;obtain⟨a,rfl,h2,_⟩:=hx;obtain⟨a',oQ,z,k2,k3,_⟩:=hy;cases z;have hv:=I.list_inj (Same.seq hs h2) (SqL.of (hs _ _ k2));rw[<-hv] at k3;exact k9 (k8 I hs _) (DenL.ints xs) k3 (by simpa using e)
  ·exact rP hx hy e
theorem Vals.at(r:Vals vs aM)(h:j<aM.toArray.size):∃v,vs[j]? =some v/\RelV v aM.toArray[j]:=by
 have hl:=r.length;have hj:j<vs.length:=by rw[SV] at h;omega
 obtain⟨u,e1,e2⟩:=r.get (SK hj);refine⟨vs[j],SK hj,?_⟩;have:aM.toArray[j]=u:=by
  have:=(SY.mp e1).2;simpa using this
 rw[this];exact e2
def oC(h1:DenL X.K F xs vs)(h2:DenL X.K F ys ws)(r1:Vals vs aM)(r2:Vals ws gK)(e:tN f xs ys=some b)
 (ih:∀x y v w u t c,Den X.K F x v->Den X.K F y w->RelV v u->RelV w t->f x y=some c->EqAt A s u t c):
 ∀j (k1:j<aM.toArray.size) (k2:j<gK.toArray.size),EqAt A s aM.toArray[j] gK.toArray[j] (ev f xs ys j):=λj k1 k2=>by
 obtain⟨v,e1,q1⟩:=Vals.at r1 k1;obtain⟨w,e2,q2⟩:=Vals.at r2 k2;obtain⟨x,e3,q3⟩:=h1.at e1;obtain⟨y,e4,q4⟩:=h2.at e2;obtain⟨c,hc⟩:=vD e j x y e3 e4;have:ev f xs ys j=c:=by unfold ev;rw[e3,e4];simp[hc]
 rw[this];exact ih x y v w _ _ c q3 q4 q1 q2 hc
def sf(hu:A.units<cLine)(h1:DenL X.K F xs vs)(h2:DenL X.K F ys ws)(r1:Vals vs aM)(r2:Vals ws gK)
 (p1:s.heap.IsList a aM.toArray)(p2:s.heap.IsList a' gK.toArray)(e:tN f xs ys=some b)(hr:a=a'->b=true)
 (ih:∀x y v w u t c,Den X.K F x v->Den X.K F y w->RelV v u->RelV w t->f x y=some c->EqAt A.in1 s u t c):EqAll A s (.ref a) (.ref a') b:=by
 have l1:=h1.len;have l2:=h2.len;have l3:=r1.length;have l4:=r2.length;have hv:=tP e;have core:RcAt A s (.ref a) (.ref a') b/\RcNeAt A s (.ref a) (.ref a') (!b):=by
  by_cases hl:xs.length=ys.length
  ·have hsz:aM.toArray.size=gK.toArray.size:=by rw[SV,SV];omega
   have hb:b=(S5 aM.toArray.size).all (ev f xs ys):=by
    rw[hv,hl,Nat.min_self,beq_self_eq_true,Yd];congr 2;rw[SV];omega
   rw[hb];exact⟨RcAt.lists p1 p2 hsz hu (oC h1 h2 r1 r2 e ih),RcNeAt.lists p1 p2 hsz hu (oC h1 h2 r1 r2 e ih)⟩
  ·have hb:b=false:=by rw[hv,show (xs.length==ys.length)=false from by simpa using hl,Bool.and_false]
   have hsz:(aM.toArray.size !=gK.toArray.size)=true:=by
    rw[SV,SV];simp;omega
   rw[hb];exact⟨RcAt.lists_lengths p1 p2 hsz hu,RcNeAt.lists_lengths p1 p2 hsz hu⟩
 refine⟨core.1,core.2,?_⟩;by_cases hq:a=a'
 ·rw[hr hq];subst hq;exact EqAt.same _
 ·exact EqAt.of_refs hq core.1
def y4(hu:A.units<cLine)(h1:DenL X.K F xs vs)(h2:DenL X.K F ys ws)(r1:Vals vs aM)(r2:Vals ws gK)
 (p1:s.heap.IsTuple a aM.toArray)(p2:s.heap.IsTuple a' gK.toArray)(e:tN f xs ys=some b)(hr:a=a'->b=true)
 (ih:∀x y v w u t c,Den X.K F x v->Den X.K F y w->RelV v u->RelV w t->f x y=some c->EqAt A.in1 s u t c):EqAll A s (.ref a) (.ref a') b:=by
 have l1:=h1.len;have l2:=h2.len;have l3:=r1.length;have l4:=r2.length;have hb:b=((S5 (min aM.toArray.size gK.toArray.size)).all (ev f xs ys)&&aM.toArray.size==gK.toArray.size):=by
  rw[tP e,SV,SV,<-l3,<-l4,<-l1,<-l2]
 have core:RcAt A s (.ref a) (.ref a') b/\RcNeAt A s (.ref a) (.ref a') (!b):=by
  rw[hb];exact⟨RcAt.tuples p1 p2 hu (oC h1 h2 r1 r2 e ih),RcNeAt.tuples p1 p2 hu (oC h1 h2 r1 r2 e ih)⟩
 refine⟨core.1,core.2,?_⟩;by_cases hq:a=a'
 ·rw[hr hq];subst hq;exact EqAt.same _
 ·exact EqAt.of_refs hq core.1
theorem xW(I:Inv X f8 σ H s)(hs:Same F H):∀(n:Nat) (A:T9) (x y:D) (v w:V) (u t:Value) (b:Bool),A.units+n<cLine->Den X.K F x v->Den X.K F y w->RelV v u->RelV w t->pb n x y=some b->EqAll A s u t b
 |0,A,x,y,v,w,u,t,b,hu,hx,hy,rx,ry,e=>vE I hs (by omega) hx hy rx ry (by unfold pb at e;exact e)
 |n+1,A,x,y,v,w,u,t,b,hu,hx,hy,rx,ry,e=>by
  have MW:A.units<cLine:=by omega
  have RE:A.in1.units+n<cLine:=by show A.units+1+n<cLine;omega
  have hrefl:=k8 I hs (n+1) x y;have ih:∀x y v w u t c,Den X.K F x v->Den X.K F y w->RelV v u->RelV w t->pb n x y=some c->EqAt A.in1 s u t c:=λx y v w u t c q1 q2 q3 q4 q5=>(xW I hs n A.in1 x y v w u t c RE q1 q2 q3 q4 q5).eq;have e0:=e;unfold pb at e;split at e
  ·rename_i xs ys heq;cases heq;obtain⟨a,vs,aM,rfl,KS,h2,h3,r1,p1⟩:=uZ I hs hx rx;obtain⟨a',oQ,its',rfl,KU,k2,k3,L8,LV⟩:=uZ I hs hy ry;exact y4 MW h3 k3 r1 L8 p1 LV e (λz=>by subst z;exact hrefl v b hx (by rw[KS,<-KU];exact hy) e0) ih
  ·rename_i xs ys heq;cases heq;obtain⟨a,vs,aM,rfl,KS,h2,h3,r1,p1⟩:=pM I hs hx rx;obtain⟨a',oQ,its',rfl,KU,k2,k3,L8,LV⟩:=pM I hs hy ry;exact sf MW h3 k3 r1 L8 p1 LV e (λz=>by subst z;exact hrefl v b hx (by rw[KS,<-KU];exact hy) e0) ih
  ·rename_i xs ys heq;cases heq;obtain⟨a,aM,rfl,KS,h2,r1,p1⟩:=J1 I hs hx rx;obtain⟨a',oQ,its',rfl,KU,k2,k3,L8,LV⟩:=pM I hs hy ry;exact sf MW (DenL.ints _) k3 r1 L8 p1 LV e (λz=>by subst z;exact hrefl v b hx (by rw[KS,<-KU];exact hy) e0) ih
  ·exact vE I hs MW hx hy rx ry e
end
def l_(x y:D):M D:=match pb 6 x y with | some b=>aa (.bl b) | none=>af
def jO(x y:D):M D:=match pb 6 x y with | some b=>aa (.bl (!b)) | none=>af
def L_(K:SN):R2:=λx y H Q=>∃F dx dy b,Same F H/\Den K F dx x/\Den K F dy y/\pb 6 dx dy=some b/\Q (.bl b) H
def Md(K:SN):R2:=λx y H Q=>∃F dx dy b,Same F H/\Den K F dx x/\Den K F dy y/\pb 6 dx dy=some b/\Q (.bl (!b)) H
section
variable{X:Cx}{Xw:Nat->Hp->Prop}{a b:Expr}{δa δb:DE}{pos:Pos}
def DK(hu:X.A.units+64<cLine):OpR X (Uc .Eq) (L_ X.K):=by
 intro f8 s σ H x y v u Q I rx ry h;obtain⟨F,dx,dy,b,hs,hx,hy,e,q⟩:=h;exact(xW I hs 6 X.A dx dy x y v u b (by omega) hx hy rx ry e).rc _ _ _ _ ⟨.bl b,H,I,rfl,q⟩
def yF(hu:X.A.units+64<cLine):OpR X (Uc .NotEq) (Md X.K):=by
 intro f8 s σ H x y v u Q I rx ry h;obtain⟨F,dx,dy,b,hs,hx,hy,e,q⟩:=h;exact(xW I hs 6 X.A dx dy x y v u b (by omega) hx hy rx ry e).ne _ _ _ _ ⟨.bl (!b),H,I,rfl,q⟩
def DL{K:SN}:xt K (L_ K) l_:=λXw F H x y dx dy Q s hx hy w=>by
 unfold l_ at w;split at w
 ·rename_i b e;exact⟨F,dx,dy,b,s,hx,hy,e,WP.now w s rfl⟩
 ·exact w.elim
def yH{K:SN}:xt K (Md K) jO:=λXw F H x y dx dy Q s hx hy w=>by
 unfold jO at w;split at w
 ·rename_i b e;exact⟨F,dx,dy,b,s,hx,hy,e,WP.now w s rfl⟩
 ·exact w.elim
def Ef(hu:X.A.units+64<cLine)(ha:PD X Xw a δa)(hb:PD X Xw b δb):qT X Xw (.Compare a [.Eq] [b] pos) (eA (d2 l_ δa δb)):=iz (DK hu) DL ha hb
def lO(hu:X.A.units+64<cLine)(ha:PD X Xw a δa)(hb:PD X Xw b δb):qT X Xw (.Compare a [.NotEq] [b] pos) (eA (d2 jO δa δb)):=iz (yF hu) yH ha hb
def qh(hu:X.A.units+64<cLine)(ha:PD X Xw a δa)(hb:PD X Xw b δb):PD X Xw (.Compare a [.Eq] [b] pos) (d2 l_ δa δb):=uA (DK hu) DL ha hb
def LY(hu:X.A.units+64<cLine)(ha:PD X Xw a δa)(hb:PD X Xw b δb):PD X Xw (.Compare a [.NotEq] [b] pos) (d2 jO δa δb):=uA (yF hu) yH ha hb
end
def PDW(X:Cx)(Xw:Nat->Hp->Prop)(e:Expr)(δ:DT):Prop:=PW X e (OL X.K Xw δ)
def PW.weak(h:PW X e t)(k:∀σ H Q,t' σ H Q->t σ H Q):PW X e t':=λwh f8 s σ H Q I w=>h wh f8 s σ H Q I (k σ H Q w)
section
variable{X:Cx}{Xw:Nat->Hp->Prop}{a b c:Expr}{W1:List Expr}{δa δb δc:DE}{τa τb:DT}{pos:Pos}
def lL(ha:qT X Xw a τa):PDW X Xw (.BoolOp .Or [a] pos) τa:=JW ha
def qm(ha:qT X Xw a τa)(hb:PDW X Xw (.BoolOp .Or (b::W1) pos) τb):PDW X Xw (.BoolOp .Or (a::b::W1) pos) (tJ τa τb):=PW.weak (L7 ha hb) λσ H Q ⟨F,ρ,s,w⟩=>by
 refine⟨F,ρ,s,WPB.mono (WPB.bindB w) λv H1 ⟨F1,e1,w1⟩=>?_⟩;cases v with
 |false=>exact⟨F1,ρ,s.ext e1,w1⟩
 |true=>exact w1 _ _ (Ext.refl e1.fh)
def PDW.t(h:PDW X Xw a τa):qT X Xw a τa:=PW.pt h
def dh(ha:qT X Xw a τa):qT X Xw (.UnaryOp .Not a pos) (cS τa):=PT.weak (JU ha) λσ H Q ⟨F,ρ,s,w⟩=>
 ⟨F,ρ,s,WPB.mono (WPB.bindB w) λv H1 ⟨F1,e1,w1⟩=>w1 _ _ (Ext.refl e1.fh)⟩
def xf:D->M Bool
 | .non=>aa false
 | .bl b=>aa b
 | .lst ds=>aa (!ds.isEmpty)
 | .tup ds=>aa (!ds.isEmpty)
 |_=>af
def ck(δ:DE):DT:=λρ=>δ ρ>>=xf
theorem DenL.isEmpty{K:SN}(h:DenL K F ds vs):ds.isEmpty=vs.isEmpty:=by
 have:=h.len;cases ds<;>cases vs<;>simp_all
def cV(ha:PD X Xw a δa)(he:∀whole,isTrue a X.env whole=(do let v<-whole;XQ a.pos;holding [v] (truthy v)):=by intro _;rfl):qT X Xw a (ck δa):=PT.weak (Eg ha he) λσ H Q ⟨F,ρ,s,w⟩=>by
 refine⟨F,ρ,s,WP.mono (WPB.bind (K:=X.K) w) λv H1 ⟨F1,d,e1,q1,w1⟩=>?_⟩;cases d with
 |non=>cases (show _=_ from q1);exact⟨false,rfl,w1 _ _ (Ext.refl e1.fh)⟩
 |bl b=>cases (show _=_ from q1);exact⟨b,rfl,w1 _ _ (Ext.refl e1.fh)⟩
 |lst ds=>
  obtain⟨a,vs,rfl,h2,h3,_⟩:=q1;exact⟨!ds.isEmpty, .inl ⟨vs,SqL.of (e1.fh _ _ h2),by rw[h3.isEmpty]⟩,w1 _ _ (Ext.refl e1.fh)⟩
 |tup ds=>
  obtain⟨a,vs,rfl,h2,h3,_⟩:=q1;exact⟨!ds.isEmpty, .inr (.inl ⟨vs,SqT.of (e1.fh _ _ h2),by rw[h3.isEmpty]⟩),w1 _ _ (Ext.refl e1.fh)⟩
 |_=>exact w1.elim
def qj(h:PD X Xw a δa):PD X Xw (.BoolOp op [a] pos) δa:=JI h
def mw(ha:PD X Xw a δa)(hb:PD X Xw (.BoolOp .And (b::W1) pos) δb):PD X Xw (.BoolOp .And (a::b::W1) pos) (d5 δa δb):=PE.weak (JD ha hb) λσ H Q ⟨F,ρ,s,w⟩=>by
 refine⟨F,ρ,s,WP.mono (WP.bind w) λv H1 ⟨F1,d,e1,q1,w1⟩=>?_⟩;cases d with
 |bl k=>
  refine⟨k,q1,?_⟩;cases k with
  |true=>exact⟨F1,ρ,s.ext e1,w1⟩
  |false=>exact WP.now w1 e1.fh rfl
 |_=>exact w1.elim
def JC(ha:PD X Xw a δa):PD X Xw (.UnaryOp .Not a pos) (HA δa):=PE.weak (JH ha) λσ H Q ⟨F,ρ,s,w⟩=>by
 refine⟨F,ρ,s,WP.mono (WP.bind w) λv H1 ⟨F1,d,e1,q1,w1⟩=>?_⟩;cases d with
 |bl k=>exact⟨k,q1,WP.now w1 e1.fh rfl⟩
 |_=>exact w1.elim
def LX(hc:qT X Xw c τa)(ha:PD X Xw a δa)(hb:PD X Xw b δb):PD X Xw (.IfExp c a b pos) (Hz τa δa δb):=PE.weak (D5 hc ha hb) λσ H Q ⟨F,ρ,s,w⟩=>by
 refine⟨F,ρ,s,WPB.mono (WP.bindB w) λv H1 ⟨F1,e1,w1⟩=>?_⟩;cases v with
 |true=>exact⟨F1,ρ,s.ext e1,w1⟩
 |false=>exact⟨F1,ρ,s.ext e1,w1⟩
def xQ(p q:Int->Int->Bool)(a b c:DE):DE:=λρ=>a ρ>>=λx=>b ρ>>=λy=>match x,y with
 | .int i, .int j=>if p i j then c ρ>>=λz=>gI (λi j=> .bl (q i j)) y z else aa (.bl false)
 |_,_=>af
def sV{p q:Int->Int->Bool}:∀σ H Q,tD X.K Xw (xQ p q δa δb δc) σ H Q->yZ (An λi j=> .bl (p i j)) (An λi j=> .bl (q i j)) (tD X.K Xw δa) (tD X.K Xw δb) (tD X.K Xw δc) σ H Q:=λσ H Q ⟨F,ρ,s,w⟩=>by
 refine⟨F,ρ,s,WP.mono (WP.bind w) λv H1 ⟨F1,d,e1,q1,w1⟩=>?_⟩;refine⟨F1,ρ,s.ext e1,WP.mono (WP.bind w1) λu H2 ⟨F2,d',e2,q2,w2⟩=>?_⟩;cases d with
 |int i=>
  cases d' with
  |int j=>
   refine⟨i,j,q1,q2,p i j,rfl,?_⟩;have w2:WP X.K Xw F2 H2 (if p i j then δc ρ>>=λz=>gI (λi j=> .bl (q i j)) (.int j) z else aa (.bl false)) Q:=w2;cases hp:p i j with
   |false=>
    rw[hp] at w2;exact WP.now w2 e2.fh rfl
   |true=>
    rw[hp] at w2;refine⟨F2,ρ,(s.ext e1).ext e2,WP.mono (WP.bind w2) λu' H3 ⟨F3,Qn,e3,q3,w3⟩=>?_⟩;exact wu (gd:=λi j=> .bl (q i j)) (λ_ _ _=>rfl) Xw F3 H3 u u' (.int j) Qn Q e3.fh q2 q3 w3
  |_=>exact w2.elim
 |_=>exact w2.elim
def DQ(ho:OpR X (Uc op) (An λi j=> .bl (p i j)))(rT:OpR X (Uc Bz) (An λi j=> .bl (q i j)))(ha:PD X Xw a δa)(hb:PD X Xw b δb)(hc:PD X Xw c δc)
 (hm:lastMarks [op,Bz] [b,c]=false:=by with_unfolding_all rfl):PD X Xw (.Compare a [op,Bz] [b,c] pos) (xQ p q δa δb δc):=PE.weak (D3 ho rT ha hb hc hm) sV
def Ed(ho:OpR X (Uc op) (An λi j=> .bl (p i j)))(rT:OpR X (Uc Bz) (An λi j=> .bl (q i j)))(ha:PD X Xw a δa)(hb:PD X Xw b δb)(hc:PD X Xw c δc)
 (hm:lastMarks [op,Bz] [b,c]=false:=by with_unfolding_all rfl):qT X Xw (.Compare a [op,Bz] [b,c] pos) (eA (xQ p q δa δb δc)):=PT.weak (Ee ho rT ha hb hc hm) λσ H Q ⟨F,ρ,s,w⟩=>by
 refine sV σ H _ ⟨F,ρ,s,WP.mono (WPB.bind w) λv H1 ⟨F1,d,e1,q1,w1⟩=>?_⟩;cases d with
 |bl k=>exact⟨k,q1,w1 _ _ (Ext.refl e1.fh)⟩
 |_=>exact w1.elim
def u9(K:SN)(r:List V->Hp->VK->Prop)(g:List D->M D):Prop:=∀(Xw:Nat->Hp->Prop) (F H:Hp) (vs:List V) (ds:List D) (Q:VK),Same F H->DenL K F ds vs->WP K Xw F H (g ds) Q->r vs H Q
variable{x:Str}{p:Pos}{e:Expr}{es:List Expr}{δs:DA}{id T:String}{r:List V->Hp->VK->Prop}{g:List D->M D}
def EM(h:u9 X.K r g):∀σ H Q,tD X.K Xw (dA g δs) σ H Q->OJ r (Qg X.K Xw δs) σ H Q:=λσ H Q ⟨F,ρ,s,w⟩=>
 ⟨F,ρ,s,WPL.mono (WP.bindL w) λvs H1 ⟨F1,ds,e1,q1,w1⟩=>h Xw F1 H1 vs ds Q e1.fh q1 w1⟩
def eQ(hc:CallR X (.builtin id) r)(hd:u9 X.K r g)(hg:Gl X x)(hm:X.mg x=none)(hv:T4 x=some (.builtin id))(ha:kU X Xw (e::es) δs)(hn:x≠"__name__":=by decide)(ma:(x==("__debug__":Str))=false:=by decide)
 (he:SX (e::es) X.env=(false,eval e X.env)::SX es X.env:=by rfl)(iY:(Uv pos (SX es X.env)).any (·.1)=false:=by rfl):PD X Xw (.Call (.Name x p) (e::es) [] pos) (dA g δs):=
 PE.weak (D2 hc hg hm hv ha hn ma he iY) (EM hd)
def sF(hc:CallR X (.type T) r)(hd:u9 X.K r g)(hg:Gl X x)(hm:X.mg x=none)(hv:T4 x=some (.type T))(ha:kU X Xw (e::es) δs)(hn:x≠"__name__":=by decide)(ma:(x==("__debug__":Str))=false:=by decide)
 (he:SX (e::es) X.env=(false,eval e X.env)::SX es X.env:=by rfl)(iY:(Uv pos (SX es X.env)).any (·.1)=false:=by rfl):PD X Xw (.Call (.Name x p) (e::es) [] pos) (dA g δs):=
 PE.weak (BH hc hg hm hv ha hn ma he iY) (EM hd)
def a7:List D->M D
 |[.lst ds]=>aa (.int ds.length)
 |[.tup ds]=>aa (.int ds.length)
 |[.str x]=>aa (.int x.length)
 |[.scr ns]=>aa (.int ns.length)
 |_=>af
def Bg:u9 X.K (λxs H Q=>(∃p ys,xs=[.ref p]/\(SqL X.K H p ys\/SqT X.K H p ys)/\Q (.int ys.length) H)\/∃z,xs=[.str z]/\z.length<=S9/\Q (.int z.length) H) a7:=λXw F H vs ds Q s h w=>by
 unfold a7 at w;split at w
 ·obtain⟨v,rfl,h1⟩:=h.one;obtain⟨a,vs,rfl,h2,h3,_⟩:=h1;exact .inl ⟨a,vs,rfl, .inl (SqL.of (s _ _ h2)),by rw[<-h3.len];exact WP.now w s rfl⟩
 ·obtain⟨v,rfl,h1⟩:=h.one;obtain⟨a,vs,rfl,h2,h3,_⟩:=h1;exact .inl ⟨a,vs,rfl, .inr (SqT.of (s _ _ h2)),by rw[<-h3.len];exact WP.now w s rfl⟩
 ·obtain⟨v,rfl,h1⟩:=h.one;cases (show _=_ from h1.1);exact .inr ⟨_,rfl,by have:=h1.2;have:=dS;omega,WP.now w s rfl⟩
 ·obtain⟨v,rfl,h1⟩:=h.one;obtain⟨a,rfl,h2,_⟩:=h1;exact .inl ⟨a,_,rfl, .inl (Same.seq s h2),by rw[SI];exact WP.now w s rfl⟩
 ·exact w.elim
def bj(hg:Gl X "len")(hm:X.mg "len"=none)(ha:kU X Xw [e] δs)(he:SX [e] X.env=[(false,eval e X.env)]:=by rfl):PD X Xw (.Call (.Name "len" p) [e] [] pos) (dA a7 δs):=
 eQ (tE.or tF) Bg hg hm PySem.boot_len ha (by decide) (by decide) he rfl
def B9:List D->M D
 |[.int i]=>aa (.int (if i<0 then -i else i))
 |_=>af
def yo:List D->M D
 |[.int i, .int j]=>aa (.int (if j>i then j else i))
 |_=>af
def Bm:List D->M D
 |[.int i, .int j]=>aa (.int (if j<i then j else i))
 |_=>af
def DP(hg:Gl X "abs")(hm:X.mg "abs"=none)(ha:kU X Xw [e] δs)(hb:T4 "abs"=some (.builtin "abs"))(he:SX [e] X.env=[(false,eval e X.env)]:=by rfl):PD X Xw (.Call (.Name "abs" p) [e] [] pos) (dA B9 δs):=
 eQ Ci (λXw F H vs ds Q s h w=>by
  unfold B9 at w;split at w
  ·obtain⟨v,rfl,h1⟩:=h.one;cases (show _=_ from h1);exact⟨_,rfl,WP.now w s rfl⟩
  ·exact w.elim) hg hm hb ha (by decide) (by decide) he rfl
end
def WP.xw{K:SN}(h:WP K Xw F H m Q)(k:∀n H,Xw n H->Xw' n H):WP K Xw' F H m Q:=by
 match m,h with
 |none,h=>exact h
 |some (.ok d),h=>exact h
 |some (.ex n),h=>exact λF' H' e=>k n H' (h F' H' e)
def fm{X:Cx}{st:Stmt}(h:nV X.nox (λ_ _=>False) st τ):nV X Xw st (λρ=>noex (τ ρ)):=λu8 Zx f8 s σ H D I ⟨F,ρ,S,w⟩=>by
 have w:WPS X.K Xw u8 Zx (noex (τ ρ)) D:=w;have w':tS X.K (λ_ _=>False) u8 Zx τ D σ H:=by
  refine⟨F,ρ,S,?_⟩;rcases(τ ρ).cs with e | ⟨n,e⟩ | ⟨o,e⟩
  ·rw[e] at w;exact w.elim
  ·rw[e] at w;exact w.elim
  ·rw[e] at w⊢;cases o with
   |nx ρ'=>exact w
   |rt d=>exact w
 refine Ux (h u8 Zx f8 s σ H D (I.wish _) w') (λf s' q=>SP.unwish q) λ_ _ z=>z.elim
def EX(cv:Nat->Value)(Xw:Nat->Hp->Prop):XK:=λc _ H=>∃n,c=cv n/\Xw n H
def J8(K:SN)(cv:Nat->Value)(k:Nat)(f:List D->M D):Sp:=λvs H Q E=>∃F ds,Same F H/\DenL K F ds vs/\vs.length=k/\WP K (λn H'=>E (cv n) none H') F H (f ds) Q
def cM(n:Nat)(τ:DS):List D->M D:=λds=>τ (ds.map (λd=>some (Sl.fz d))++Tc (n - ds.length) none)>>=λo=>match o with
 | .nx _=>aa .non
 | .rt d=>aa d
section
variable{P:To}{w:World}{K:SN}{mg:Str->Option Value}{base:Heap}{CX:AG}{cv:Nat->Value}
def Nz{x qual:Str}{st:Stmt}(Fn:Fun K x qual st f fd)(S:FnScope N ps (ah st))
 (c6:∀(cP:Value) (A:T9) (outer:List Env) (s:SS) (H:Hp) (E:XK),Room k (A.deeper (Vx qual (ah st) s.heap.objs.size f cP))->
  PSDs (eT CX P w K mg base N qual (ah st) f cP A outer s H E) (λn H'=>E (cv n) none H') (aH st) τ):FnOk P w K mg base CX (k+1) f fd ps (J8 K cv ps.length (cM N.length τ)):=by
 obtain⟨oc,od,kV,doc,pm,an,cP,ct,BB,rfl,lk,rS⟩:=Fn.ex;refine rQ lk rS S (λvs H Q E ⟨_,_,_,_,hl,_⟩=>hl) λA outer s H vs Q E hr xA=>?_;obtain⟨F,ds,fh,hd,hl,hw⟩:=xA;refine⟨_,c6 cP A outer s H E hr F H,F,ds.map (λd=>some (Sl.fz d))++Tc (N.length - ds.length) none,⟨Ext.refl fh,⟨fh,λi sl e=>?_⟩,?_,λi c a e=>?_,λi j sl kN v v' b e _ _ _ hb _=>?_⟩,?_⟩
 ·have M2:=hd.len;by_cases hi:i<ds.length
  ·rw[S_ (by simpa using hi),S2] at e;cases q:ds[i]? with
   |none=>rw[q] at e;cases e
   |some d=>
    rw[q] at e;cases e;obtain⟨v,e1,e2⟩:=hd.get q;refine⟨v,?_,e2⟩;unfold L2.start;rw[S_ (by simp;omega),S2,e1];rfl
  ·rw[Ti (by simpa using hi),T_] at e;split at e<;>cases e
 ·have M2:=hd.len;unfold L2.start;simp[M2]
 ·exfalso
  by_cases hi:i<ds.length
  ·rw[S_ (by simpa using hi),S2] at e;cases q:ds[i]? with
   |none=>rw[q] at e;cases e
   |some d=>rw[q] at e;cases e
  ·rw[Ti (by simpa using hi),T_] at e;split at e<;>cases e
 ·exfalso
  by_cases hi:i<ds.length
  ·rw[S_ (by simpa using hi),S2] at e;cases q:ds[i]? with
   |none=>rw[q] at e;cases e
   |some d=>rw[q] at e;cases e;cases hb
  ·rw[Ti (by simpa using hi),T_] at e;split at e<;>cases e
 ·have hw:WP K (λn H'=>E (cv n) none H') F H (τ (ds.map (λd=>some (Sl.fz d))++Tc (N.length - ds.length) none)>>=λo=>match o with | .nx _=>aa .non | .rt d=>aa d) Q:=hw;rcases(τ (ds.map (λd=>some (Sl.fz d))++Tc (N.length - ds.length) none)).cs with e | ⟨n,e⟩ | ⟨o,e⟩
  ·rw[e] at hw;exact hw.elim
  ·rw[e] at hw⊢;exact hw
  ·rw[e] at hw⊢;cases o with
   |nx ρ'=>exact λσ' F' H' s'=>hw .non H' F' s'.ext rfl
   |rt d=>exact λv F' H' e' q=>hw v H' F' e' q
end
section
variable{X:Cx}{Xw:Nat->Hp->Prop}{CX:AG}{cv:Nat->Value}{k m:Nat}{f:Addr}{fd:Vi}{ps:List Str}{g:List D->M D}{x:Str}{p pos:Pos}{e:Expr}{es:List Expr}{δs:DA}
def Gp(F:FnOk X.prog X.w X.K X.mg X.base CX k f fd ps (J8 X.K cv m g))(hr:Room k X.A)(hg:Gl X x)(hm:X.mg x=some (.ref f))(hk:TJ X.K (.ref f)=true)(hb:Binds X.K fd ps [])(hx:Passes CX X (EX cv Xw))
 (ha:kU X Xw (e::es) δs)(hl:(e::es).length=m)(ma:(x==("__debug__":Str))=false:=by decide)(he:SX (e::es) X.env=(false,eval e X.env)::SX es X.env:=by rfl)(iY:(Uv pos (SX es X.env)).any (·.1)=false:=by rfl):
 PD X Xw (.Call (.Name x p) (e::es) [] pos) (λρ=>δs ρ>>=λds=>if ds.length=m then g ds else af):=PE.weak (Gy F hr hg hm hk hb .nil hx ha ma he iY) λσ H Q ⟨F,ρ,s,w⟩=>by
 refine⟨F,ρ,s,WPL.mono (WP.bindL w) λvs H1 ⟨F1,ds,e1,q1,w1⟩=>?_⟩;split at w1
 ·rename_i Le;refine⟨F1,ds,e1.fh,by simpa using q1,by rw[TM,<-q1.len];exact Le,WP.xw w1 λn H h=>⟨n,rfl,h⟩⟩
 ·exact w1.elim
def z8{x:Str}(hg:Gl X x)(hm:X.mg x=some u)(r:RelV v u)(hd:∀F,Den X.K F d v)(ma:(x==("__debug__":Str))=false:=by decide):PD X Xw (.Name x pos) (dC d):=
 gN (GA hg hm r ma) hd
end
def obj_some(x:ObjOk P w H h a o):∃ob,h.get? a=some ob:=by
 cases o with
 |lst xs=>obtain⟨_,_,_,_,e⟩:=x;exact⟨_,e⟩
 |tup xs=>obtain⟨_,_,_,ob,e,_⟩:=x;exact⟨_,e⟩
 |dK az=>obtain⟨_,_,_,_,o,_,_,e,_⟩:=x;exact⟨_,e⟩
 |dT az=>obtain⟨_,_,_,_,o,_,_,e,_⟩:=x;exact⟨_,e⟩
 |set S n=>obtain⟨o,_,_,_,e,_⟩:=x;exact⟨_,e⟩
 |ins C dx fs=>obtain⟨_,_,_,e,_⟩:=x;exact⟨_,e⟩
 |own y=>obtain⟨_,e⟩:=x;exact⟨_,e⟩
 |xd fs=>obtain⟨_,⟨_,_,_,e,_⟩,_⟩:=x;exact⟨_,e⟩
 |rng lo hi=>obtain⟨_,_,_,e⟩:=x;exact⟨_,e⟩
 |frz ob u=>obtain⟨e,_⟩:=x;exact⟨_,e⟩
 |tbl ps=>exact⟨_,(show h.get? a=some _ from x)⟩
 |met f y=>exact⟨_,(show h.get? a=some _ from x)⟩
 |ext φ=>obtain⟨_,⟨_,e⟩,_⟩:=x;exact⟨_,e⟩
def iV(P:To)(w:World)(cv:Nat->Value):AG:=λouter H s E e s'=>∃(ea:Addr) (n:Nat) (a0:Value) (B:Heap) (H':Hp),e= .ref ea/\s'.os=s.os/\W3 s'.gens/\HOk P w H' s'.heap/\Un (oE outer) [] H H' s.heap s'.heap/\
 Heap.FlyingW B outer ea (cv n) a0 s'.heap/\(∀b o,s'.heap.get? b=some o->(H' b≠none\/(s.heap.get? b).isSome=true)->b∉oE outer->B.get? b=some o)/\E (cv n) none H'
section
variable{P:To}{w:World}{fs:List Addr}{Zx H:Hp}{h₀ h h':Heap}
def Hi(u:Un fs [] Zx H h₀ h)(ka:∀b o,h.get? b=some o->b∉fs->(H b≠none\/(h₀.get? b).isSome=true)->h'.get? b=some o)(kb:∀b o,h.get? b=some o->b∈fs->∃sl,h'.get? b=some {o with slots:=sl}):Un fs [] Zx H h₀ h' where
 keep:=λb o e n hb hx=>ka b o (u.keep b o e n hb hx) hb (.inr (by rw[e];rfl))
 slot:=λb o e n hb hx=>by
  obtain⟨sl,q⟩:=u.slot b o e n hb hx;obtain⟨kN,q'⟩:=kb b _ q hb;exact⟨kN,q'⟩
 free:=u.free
 there:=λb o e hx=>by
  obtain⟨o',q⟩:=u.there b o e hx;by_cases hb:b∈fs
  ·obtain⟨sl,q'⟩:=kb b _ q hb;exact⟨_,q'⟩
  ·exact⟨o',ka b o' q hb (.inr (by rw[e];rfl))⟩
 tups:=u.tups
 frzs:=u.frzs
 tbls:=u.tbls
def CW(x:HOk P w H h)(hf:∀b∈fs,H b=none)(ka:∀b o,h.get? b=some o->b∉fs->H b≠none->h'.get? b=some o):HOk P w H h':=λa o e=>by
 refine(x a o e).stay (λb u hb q=>ka b u q (λz=>?_) ?_) (λ_ q=>q) λ_ _ q=>q
 ·have hz:=hf b z;rcases hb with rfl | hb
  ·rw[hz] at e;cases e
  ·rw[hz] at hb;cases hb
 ·rcases hb with rfl | hb
  ·rw[e];exact λz=>nomatch z
  ·rw[hb];exact λz=>nomatch z
end
section
variable{P:To}{w:World}{K:SN}{mg:Str->Option Value}{base:Heap}{N:List Str}{qual:Str}{scope:Scope}{f:Addr}{cd:Value}{A:T9}{outer:List Env}{Zy:SS}{Zx:Hp}{E:XK}{cv:Nat->Value}
def aX:Passes (iV P w cv) (eT (iV P w cv) P w K mg base N qual scope f cd A outer Zy Zx E) (EX cv λn H'=>E (cv n) none H'):=by
 intro f8 σ H s e s' I ⟨ea,n,a0,B,H',he,vM,hg,hok,un,Pk,hB,m,hm,hE⟩;subst he;have IU:((eT (iV P w cv) P w K mg base N qual scope f cd A outer Zy Zx E)).env.locals=Zy.heap.objs.size:=rfl;have FO:oE ((eT (iV P w cv) P w K mg base N qual scope f cd A outer Zy Zx E)).stack=Zy.heap.objs.size::oE outer:=rfl;show wpAny (model P w) (A.deeper (Vx qual scope Zy.heap.objs.size f cd)) (leaving (Vx qual scope Zy.heap.objs.size f cd) (.ref ea)) _ _ s';refine wpAny_leaves_onW I.ok.frames rfl Pk λh' IF ups=>?_;have HJ:∀b∈oE ((eT (iV P w cv) P w K mg base N qual scope f cd A outer Zy Zx E)).stack,H' b=none:=λb hb=>by
  obtain⟨o,ho⟩:∃o,s.heap.get? b=some o:=by
   obtain⟨_,o,ho,_⟩:=I.stack.mem hb;exact⟨o,ho⟩
  exact un.free b o ho (I.stkFree b hb) (by simp)
 have HU:∀b o,s'.heap.get? b=some o->b∉oE ((eT (iV P w cv) P w K mg base N qual scope f cd A outer Zy Zx E)).stack->(H' b≠none\/(s.heap.get? b).isSome=true)->h'.get? b=some o:=λb o e hb hc=>IF.1 b o (hB b o e hc hb);have unA:Un (oE outer) [] Zx H' Zy.heap s'.heap:=by
  have u1:Un (oE outer) [] Zx H Zy.heap s.heap:=I.base;refine⟨λb o e nn hb hx=>?_,λb o e nn hb hx=>?_,λb o e nn hx=>?_,λb o e hx=>?_,λb xs q=>un.tups b xs (u1.tups b xs q),λb o u q=>un.frzs b o u (u1.frzs b o u q),λb ps q=>?_⟩
  ·refine un.keep b o (u1.keep b o e nn hb hx) (u1.free b o e nn hx) (λz=>?_) (by simp);rw[FO] at z;rcases S6.mp z with z | z
   ·exact Y9 (S8 e) (by rw[z];exact Us _)
   ·exact hb z
  ·obtain⟨sl,q⟩:=u1.slot b o e nn hb hx;obtain⟨kN,q'⟩:=un.slot b _ q (u1.free b o e nn hx) (by rw[FO];exact SJ _ hb) (by simp);exact⟨kN,q'⟩
  ·obtain⟨o',q⟩:=u1.there b o e hx;exact un.free b o' q (u1.free b o e nn hx) (by simp)
  ·obtain⟨o',q⟩:=u1.there b o e hx;exact un.there b o' q (by simp)
  ·obtain⟨m1,q1⟩:=u1.tbls b ps q;obtain⟨m2,q2⟩:=un.tbls b _ q1;exact⟨m1++m2,by rw[q2,W2]⟩
 have P4:∀b,(Zy.heap.get? b).isSome=true->(s.heap.get? b).isSome=true:=λb hb=>by
  obtain⟨o,ho⟩:=Uz.mp hb;obtain⟨o',q⟩:=(show Un (oE outer) [] Zx H Zy.heap s.heap from I.base).there b o ho (by simp);rw[q];rfl
 have Ol:∀b,(Zy.heap.get? b).isSome=true->b≠Zy.heap.objs.size:=λb hb z=>by
  obtain⟨o,ho⟩:=Uz.mp hb;exact Y9 (S8 ho) (by rw[z];exact Us _)
 have LQ:∀b,b∉oE outer->(H' b≠none\/(Zy.heap.get? b).isSome=true)->b∉oE ((eT (iV P w cv) P w K mg base N qual scope f cd A outer Zy Zx E)).stack:=λb hb hc z=>by
  rcases hc with hc | hc
  ·exact hc (HJ b z)
  ·rw[FO] at z;rcases S6.mp z with z | z
   ·exact Ol b hc z
   ·exact hb z
 refine⟨ea,n,a0,B,H',rfl,vM.trans I.os,hg,CW hok HJ (λb o e hb hc=>HU b o e hb (.inl hc)),Hi unA (λb o e hb hc=>HU b o e (LQ b hb hc) (hc.imp id (P4 b))) (λb o e hb=>?_),IF,λb o e hc hb=>?_,?_⟩
 ·obtain⟨_,o',rT,hd⟩:=Pk.2.2.1.mem (show b∈oE ((eT (iV P w cv) P w K mg base N qual scope f cd A outer Zy Zx E)).stack by rw[FO];exact SJ _ hb);rw[e] at rT;cases rT;exact ups b o e hd
 ·have E7:=LQ b hb hc;obtain⟨o',rT⟩:∃o',s'.heap.get? b=some o':=by
   rcases hc with hc | hc
   ·cases q:H' b with
    |none=>exact Y9 q hc
    |some u=>
     exact obj_some (hok b u q)
   ·obtain⟨o1,h1⟩:=Uz.mp hc;exact unA.there b o1 h1 (by simp)
  have:=hB b o' rT (hc.imp id (P4 b)) E7;rw[IF.1 b o' this] at e;cases e;exact this
 ·rw[hm];exact hE
end
def HV:D->Option String
 | .non=>some "NoneType"
 | .bl _=>some "bool"
 | .int _=>some "int"
 | .str _=>some "str"
 | .tup _=>some "tuple"
 | .lst _=>some "list"
 |_=>none
def Jf(k T:String):Option Bool:=if T="str"\/T="int"\/T="bool"\/T="tuple"\/T="list" then some (decide (k=T)||(decide (k="bool")&&decide (T="int"))) else none
def iZ:List D->M D
 |[d, .raw (.ty T)]=>match HV d with
  |some k=>match Jf k T with
   |some b=>aa (.bl b)
   |none=>af
  |none=>af
 |_=>af
def Jn{K:SN}(hk:k="NoneType"\/k="bool"\/k="int"\/k="str"\/k="tuple"\/k="list")(h:Jf k T=some b):Xv K (.type k) (.type T)=some b:=by
 unfold Jf at h;split at h
 ·rename_i hT;cases h;rcases hk with rfl | rfl | rfl | rfl | rfl | rfl<;>rcases hT with rfl | rfl | rfl | rfl | rfl<;>with_unfolding_all rfl
 ·cases h
section
variable{X:Cx}{Xw:Nat->Hp->Prop}{a b e e2:Expr}{δs:DA}{pos p:Pos}
def Ma(K:SN):List V->Hp->VK->Prop:=λxs H Q=>∃x T t b,xs=[x, .ty T]/\TyOf K H x t/\Xv K t (.type T)=some b/\Q (.bl b) H
def Cj:CallR X (.builtin "isinstance") (Ma X.K):=by
 intro f8 s σ H xs us Q I r h;obtain⟨x,T,t,b,rfl,ty,e,q⟩:=h;obtain⟨u,w',rfl,r1,r2⟩:=vals2 r;cases (show w'=_ from r2);exact Bc I r1 ty e λtk=>⟨.bl b,H,I.tok tk,rfl,q⟩
def EV{K:SN}(s:Same F H)(h:Den K F d v)(hk:HV d=some k):TyOf K H v (.type k)/\(k="NoneType"\/k="bool"\/k="int"\/k="str"\/k="tuple"\/k="list"):=by
 cases d with
 |non=>cases hk;cases (show _=_ from h);exact⟨.non, .inl rfl⟩
 |bl x=>cases hk;cases (show _=_ from h);exact⟨.bl x, .inr (.inl rfl)⟩
 |int x=>cases hk;cases (show _=_ from h);exact⟨.int x, .inr (.inr (.inl rfl))⟩
 |str x=>cases hk;cases (show _=_ from h.1);exact⟨.str x, .inr (.inr (.inr (.inl rfl)))⟩
 |tup x=>cases hk;obtain⟨a,vs,rfl,h2,_⟩:=h;exact⟨.tup (s _ _ h2), .inr (.inr (.inr (.inr (.inl rfl))))⟩
 |lst x=>cases hk;obtain⟨a,vs,rfl,h2,_⟩:=h;exact⟨.lst (s _ _ h2), .inr (.inr (.inr (.inr (.inr rfl))))⟩
 |_=>cases hk
def Bb{K:SN}:u9 K (Ma K) iZ:=λXw F H vs ds Q s h w=>by
 unfold iZ at w;split at w
 ·rename_i d T;obtain⟨v,v',rfl,h1,h2⟩:=h.two;cases (show _=_ from h2);split at w
  ·rename_i k hk;split at w
   ·rename_i b hb;obtain⟨ty,MR⟩:=EV s h1 hk;exact⟨v,T, .type k,b,rfl,ty,Jn MR hb,WP.now w s rfl⟩
   ·exact w.elim
  ·exact w.elim
 ·exact w.elim
def mx(hg:Gl X "isinstance")(hm:X.mg "isinstance"=none)(hb:T4 "isinstance"=some (.builtin "isinstance"))(ha:kU X Xw [e,e2] δs)(he:SX [e,e2] X.env=(false,eval e X.env)::SX [e2] X.env:=by rfl)
 (iY:(Uv pos (SX [e2] X.env)).any (·.1)=false:=by rfl):PD X Xw (.Call (.Name "isinstance" p) [e,e2] [] pos) (dA iZ δs):=
 eQ Cj Bb hg hm hb ha (by decide) (by decide) he iY
def sG{x:Str}(hg:Gl X x)(hm:X.mg x=none)(hv:T4 x=some (.type T))(hn:x≠"__name__":=by decide)(hd:(x==("__debug__":Str))=false:=by decide):PD X Xw (.Name x pos) (dC (.raw (.ty T))):=
 gN (Gx hg hm hv (show RelV (.ty T) (.type T) from rfl) hn hd) λ_=>rfl
def bools:List D->Option (List Bool)
 |[]=>some []
 | .bl b::r=>(bools r).map (b:: ·)
 |_=>none
def allM:List D->M D
 |[.lst ds]=>match bools ds with
  |some bs=>aa (.bl (bs.all id))
  |none=>af
 |_=>af
theorem rC{K:SN}:∀{ds:List D}{vs:List V}{bs:List Bool},bools ds=some bs->DenL K F ds vs->vs=bs.map V.bl
 |[],_,_,e,h=>by cases e;exact h
 | .bl b::r,_,_,e,⟨v,r',h1,h2,h3⟩=>by
   unfold bools at e;cases q:bools r with
   |none=>rw[q] at e;cases e
   |some bs=>rw[q] at e;cases e;subst h1;rw[rC q h3,show v= .bl b from h2];rfl
 | .non::_,_,_,e,_=>by cases e
 | .int _::_,_,_,e,_=>by cases e
 | .str _::_,_,_,e,_=>by cases e
 | .raw _::_,_,_,e,_=>by cases e
 | .exc _::_,_,_,e,_=>by cases e
 | .scr _::_,_,_,e,_=>by cases e
 | .tup _::_,_,_,e,_=>by cases e
 | .lst _::_,_,_,e,_=>by cases e
theorem AA:∀{bs:List Bool}{aM:List Value},Vals (bs.map V.bl) aM->aM=bs.map VI
 |[],_,r=>by cases r;rfl
 |b::bs,_,r=>by
  cases r with
  |cons r1 r2=>cases (show _=_ from r1);rw[AA r2];rfl
def Ox:List V->Hp->VK->Prop:=λxs H Q=>∃(a:Addr) (bs:List Bool),xs=[.ref a]/\H a=some (.lst (bs.map V.bl))/\Q (.bl (bs.all id)) H
def all_range{bs:List Bool}:(S5 bs.length).all (λi=>bs.getD i false)=bs.all id:=by
 induction bs with
 |nil=>rfl
 |cons b bs ih=>
  rw[SO,Wn,VM,VZ,VM];congr 1
def AQ(hc:X.calm=true):CallR X (.builtin "all") Ox:=by
 intro f8 s σ H xs us Q I r h;obtain⟨a,bs,rfl,hH,q⟩:=h;obtain⟨u,rfl,r1⟩:=vals1 r;cases (show u=_ from r1);obtain⟨aM,r2,pl,hz⟩:=I.list (SqL.of hH);obtain rfl:=AA r2;have ib:a≠s.heap.objs.size:=Tv (I.hok.lt hH);refine call_all_walk (wpAny_pyIter_list pl.isList ?_);refine⟨s.heap.objs.size,_,_,_,_,_,λi=>bs.getD i false,rfl,Walks.list (show X.A.in1.handled=none from I.ok.hd hc) s.heap.objs.size a ib (bs.map VI).toArray,⟨⟨_,Ta _ rfl,rfl,rfl⟩,Heap.IsList.at pl.isList λo e=>SR _ e⟩,?_,λh' tk k=>?_⟩
 ·intro i v s' Q' E' hv hq;have hv:(bs.map VI).toArray[i]? =some v:=hv;rw[List.getElem?_toArray,S2] at hv;cases q':bs[i]? with
  |none=>rw[q'] at hv;cases hv
  |some b=>
   rw[q'] at hv;cases hv;have:bs.getD i false=b:=by rw[S0,q'];rfl
   have hq:Q' (bs.getD i false) s':=hq;rw[this] at hq;exact UJ hq
 ·have e:(S5 (bs.map VI).toArray.size).all (λi=>bs.getD i false)=bs.all id:=by
   rw[SV,SI];exact all_range
  rw[e];refine⟨.bl (bs.all id),H,I.kept λb o e'=>k b o (λz=>?_) (SR _ e'),rfl,q⟩;have z:b=s.heap.objs.size:=by simpa using z
  exact Y9 (S8 e') (by rw[z];exact Us _)
def yK(hc:X.calm=true)(hg:Gl X "all")(hm:X.mg "all"=none)(hb:T4 "all"=some (.builtin "all"))(ha:kU X Xw [e] δs)(he:SX [e] X.env=[(false,eval e X.env)]:=by rfl):PD X Xw (.Call (.Name "all" p) [e] [] pos) (dA allM δs):=
 eQ (AQ hc) (λXw F H vs ds Q s h w=>by
  unfold allM at w;split at w
  ·rename_i ds;obtain⟨v,rfl,h1⟩:=h.one;obtain⟨a,ws,rfl,h2,h3,_⟩:=h1;split at w
   ·rename_i bs hb;exact⟨a,bs,rfl,by rw[<-rC hb h3];exact s _ _ h2,WP.now w s rfl⟩
   ·exact w.elim
  ·exact w.elim) hg hm hb ha (by decide) (by decide) he rfl
end
section
variable{X:Cx}{Xw:Nat->Hp->Prop}{a b e e2:Expr}{es:List Expr}{δ δa δb:DE}{pos p v4 aU:Pos}
def Ha:∀u8 Zx D σ H,tS X.K Xw u8 Zx (oq i δ) D σ H->EO (OI X.K "list" Al (gY i) (EN (tD X.K Xw δ) Hc)) D σ H:=λu8 Zx D σ H ⟨F,ρ,s,w⟩=>by
 unfold oq at w;cases ho:ir ρ i with
 |none=>rw[ho] at w;exact w.elim
 |some ds=>
  rw[ho] at w;have hi:=gM ho;obtain⟨v,hv,a,o,rfl,hH,hF,vs,rfl,hd,hl⟩:=s.st.den i _ hi;have w:WPS X.K Xw u8 Zx (δ ρ>>=λd=>if ds.length<lim then aa (.nx (ρ.set i (some (.ow (.lst (ds++[d])))))) else af) D:=w;refine⟨.ref a,hv, .inl ⟨rfl,vs,SqL.of hH⟩,F,ρ,s.st,?_⟩;rcases(δ ρ).cs with q | ⟨n,q⟩ | ⟨d,q⟩
  ·rw[q] at w;exact w.elim
  ·rw[q] at w⊢;exact λF' H' e'=>w F' H' (s.ext.trans e')
  ·rw[q] at w⊢;intro u H1 F1 e1 hq;have w:WPS X.K Xw u8 Zx (if ds.length<lim then aa (.nx (ρ.set i (some (.ow (.lst (ds++[d])))))) else af) D:=w;split at w
   ·rename_i ki;have M2:=hd.len;refine⟨a,vs,u,rfl,rfl,e1.hh _ _ hH,by have:=dS;omega,?_⟩;exact w σ F1 _ ((s.ext' e1).chg hi hv ⟨_,rfl,DenL.append (DenL.mono e1.ff hd) (.cons hq .nil),by rw[S1];exact ki⟩)
   ·exact w.elim
def Hb:∀u8 Zx D σ H,tS X.K Xw u8 Zx (Ex i δ) D σ H->EO (OI X.K "list" Am (gY i) (EN (tD X.K Xw δ) Hc)) D σ H:=λu8 Zx D σ H ⟨F,ρ,s,w⟩=>by
 unfold Ex at w;cases ho:ir ρ i with
 |none=>rw[ho] at w;exact w.elim
 |some ds=>
  rw[ho] at w;have hi:=gM ho;obtain⟨v,hv,a,o,rfl,hH,hF,vs,rfl,hd,hl⟩:=s.st.den i _ hi;have w:WPS X.K Xw u8 Zx (δ ρ>>=λd=>lstM d>>=λes=>if ds.length+es.length<=lim then aa (.nx (ρ.set i (some (.ow (.lst (ds++es)))))) else af) D:=w;refine⟨.ref a,hv, .inl ⟨rfl,vs,SqL.of hH⟩,F,ρ,s.st,?_⟩;rcases(δ ρ).cs with q | ⟨n,q⟩ | ⟨d,q⟩
  ·rw[q] at w;exact w.elim
  ·rw[q] at w⊢;exact λF' H' e'=>w F' H' (s.ext.trans e')
  ·rw[q] at w⊢;intro u H1 F1 e1 hq;cases d with
   |lst es=>
    obtain⟨b,ws,rfl,k2,k3,k4⟩:=hq;have w:WPS X.K Xw u8 Zx (if ds.length+es.length<=lim then aa (.nx (ρ.set i (some (.ow (.lst (ds++es)))))) else af) D:=w;split at w
    ·rename_i ki;have M2:=hd.len;have PJ:=k3.len;refine⟨a,b,vs,ws,rfl,rfl,e1.hh _ _ hH,e1.fh _ _ k2,by have:=dS;omega,?_⟩;exact w σ F1 _ ((s.ext' e1).chg hi hv ⟨_,rfl,DenL.append (DenL.mono e1.ff hd) k3,by rw[S1];exact ki⟩)
    ·exact w.elim
   |_=>exact w.elim
def lN(hv:PE X (.Name x p) (gY i))(he:PD X Xw e δ)(hs:Vv (.Call (.Attribute (.Name x p) "append" v4) [e] [] aU) none pos.line X.env=pure false:=by rfl)
 (dw:Ug (.Name x p) "append" X.env (eval (.Name x p) X.env)=eval (.Name x p) X.env:=by rfl)
 (gk:((Uv aU (SX [e] X.env)).all (λx=>!x.1)&&(UQ aU (Ub [] X.env)).all (λx=>x.1.isSome)&&decide ([e].length+([]:List UO).length+(if ([]:List UO).isEmpty then 0 else 1)<30))=true:=by rfl)
 (dz:(v4.endLine==aU.line)=true:=by rfl)(lY:SX [e] X.env=[(false,eval e X.env)]:=by rfl):nV X Xw (.Expr (.Call (.Attribute (.Name x p) "append" v4) [e] [] aU) pos) (oq i δ):=λu8 Zx=>
 PS.weak (lM (Ac V6 XB XA mj hv (oJ he qe lY) dw gk dz lY rfl) hs) λD σ H w=>Ha u8 Zx D σ H w
def GL(hv:PE X (.Name x p) (gY i))(he:PD X Xw e δ)(hs:Vv (.Call (.Attribute (.Name x p) "extend" v4) [e] [] aU) none pos.line X.env=pure false:=by rfl)
 (dw:Ug (.Name x p) "extend" X.env (eval (.Name x p) X.env)=eval (.Name x p) X.env:=by rfl)
 (gk:((Uv aU (SX [e] X.env)).all (λx=>!x.1)&&(UQ aU (Ub [] X.env)).all (λx=>x.1.isSome)&&decide ([e].length+([]:List UO).length+(if ([]:List UO).isEmpty then 0 else 1)<30))=true:=by rfl)
 (dz:(v4.endLine==aU.line)=true:=by rfl)(lY:SX [e] X.env=[(false,eval e X.env)]:=by rfl):nV X Xw (.Expr (.Call (.Attribute (.Name x p) "extend" v4) [e] [] aU) pos) (Ex i δ):=λu8 Zx=>
 PS.weak (lM (Ac V6 PySem.F.slot_list_extend PySem.F.type_list_extend Bs hv (oJ he qe lY) dw gk dz lY rfl) hs) λD σ H w=>Hb u8 Zx D σ H w
def DJ:OpR X (VU .Add) (λx y H Q=>∃a b ys,x= .ref a/\y= .ref b/\SqT X.K H a []/\SqT X.K H b ys/\Q (.ref b) H):=by
 intro f8 s σ H x y v u Q I rx ry h;obtain⟨a,b,ys,rfl,rfl,ha,hb,q⟩:=h;cases rx;cases ry;obtain⟨aM,r1,p1,_⟩:=I.tuple ha;obtain⟨gK,r2,p2,_⟩:=I.tuple hb;cases r1;obtain⟨⟨cls,dd,data,sl⟩,ho,hc,n,hd⟩:=id p1;obtain⟨⟨Nu,Ft,data2,M9⟩,FK,HG,n2,hd2⟩:=id p2;simp only at hc hd HG hd2;subst hc hd HG hd2;exact concat_meets ⟨_,ho,rfl⟩ ⟨_,FK,rfl⟩ X9 YL Wc V7 (VW _ _)
  (tuple_addW0 a b _ _ n n2 dd Ft sl M9 (by simp)) ⟨ho,FK,⟨.ref b,H,I,rfl,q⟩⟩
def zK:D->D->M D
 | .tup x, .tup y=>if x.length+y.length<=lim then aa (.tup (x++y)) else af
 |_,_=>af
def Gr(ha:PD X Xw a δa)(hb:PD X Xw b δb):PD X Xw (.BinOp a .Add b pos) (d2 zK δa δb):=qk (DJ.or Gf) (λXw F H x y dx dy Q s hx hy w=>by
 unfold zK at w;split at w
 ·rename_i i j;obtain⟨a,vs,h1,h2,h3,h4⟩:=hx;obtain⟨a',oQ,k1,k2,k3,k4⟩:=hy;split at w
  ·rename_i hl;have e1:=h3.len;have e2:=k3.len;have:=dS;by_cases hv:vs=[]
   ·subst hv;have:i=[]:=by cases i with | nil=>rfl | cons _ _=>simp at e1
    subst this;exact .inl ⟨a,a',oQ,h1,k1,SqT.of (s _ _ h2),SqT.of (s _ _ k2),WP.now w s ⟨a',oQ,k1▸rfl,k2,k3,k4⟩⟩
   ·refine .inr ⟨a,a',vs,oQ,h1,k1,SqT.of (s _ _ h2),SqT.of (s _ _ k2),hv,by omega,λz=>?_,λz p hp=>?_⟩
    ·subst z;have:j=[]:=by cases j with | nil=>rfl | cons _ _=>simp at e2
     subst this;rw[TM] at w;exact WP.now w s ⟨a,vs,rfl,h2,h3,h4⟩
    ·exact WP.fin w (Ext.lay s hp) ⟨p,_,rfl,aE,DenL.mono (Ext.lay s hp).ff (h3.append k3),by rw[S1];exact hl⟩
  ·exact w.elim
 ·exact w.elim) ha hb
end
section
variable{X:Cx}{Xw:Nat->Hp->Prop}{a b e e2 o:Expr}{es:List Expr}{δa δb δo:DE}{δs:DA}{pos p v4 aU:Pos}
def dM(kd:D->Bool)(g:D->List D->M D)(o:DE)(s:DA):DE:=λρ=>o ρ>>=λd=>if kd d then s ρ>>=λds=>g d ds else af
def z7{id:String}(pa:PlainAttrs T)(slot:Slot T name id)(N9:typeOf (.builtin id)=pure (.type "method_descriptor"))(hm:Ke X id r)
 (hk:∀(F H:Hp) (x:V) (d:D),kd d=true->Same F H->Den X.K F d x->Mw X.K T x H)
 (hd:∀(Xw:Nat->Hp->Prop) (F H:Hp) (x:V) (vs:List V) (d:D) (ds:List D) (Q:VK),Same F H->Den X.K F d x->DenL X.K F ds vs->WP X.K Xw F H (g d ds) Q->r x vs H Q)
 (ho:PD X Xw o δo)(ha:kU X Xw (e::es) δs)
 (dw:Ug o name X.env (eval o X.env)=eval o X.env:=by rfl)
 (gk:((Uv aU (SX (e::es) X.env)).all (λx=>!x.1)&&(UQ aU (Ub [] X.env)).all (λx=>x.1.isSome)
  &&decide ((e::es).length+([]:List UO).length+(if ([]:List UO).isEmpty then 0 else 1)<30))=true:=by rfl)
 (dz:(v4.endLine==aU.line)=true:=by rfl) (hs:SX (e::es) X.env=(false,eval e X.env)::SX es X.env:=by rfl) (yd:(Uv aU (SX es X.env)).any (·.1)=false:=by rfl):
 PD X Xw (.Call (.Attribute o name v4) (e::es) [] aU) (dM kd g δo δs):=PE.weak (Ac pa slot N9 hm ho ha dw gk dz hs yd) λσ H Q ⟨F,ρ,s,w⟩=>by
 refine⟨F,ρ,s,WP.mono (WP.bind w) λv H1 ⟨F1,d,e1,q1,w1⟩=>?_⟩;split at w1
 ·rename_i Rf;refine⟨hk F1 H1 v d Rf e1.fh q1,F1,ρ,s.ext e1,WPL.mono (WP.bindL w1) λvs H2 ⟨F2,ds,e2,q2,w2⟩=>?_⟩;exact hd Xw F2 H2 v vs d ds Q e2.fh (Den.mono e2.ff q1) q2 w2
 ·exact w1.elim
def gm:D->Bool
 | .str _=>true
 |_=>false
def tW{K:SN}(F H:Hp)(x:V)(d:D)(h:gm d=true)(s:Same F H)(q:Den K F d x):Mw K "str" x H:=by
 cases d with
 |str z=>cases (show _=_ from q.1);exact rfl
 |_=>cases h
def kQ:List D->Option (List Str)
 |[]=>some []
 | .str x::r=>(kQ r).map (x:: ·)
 |_=>none
theorem qH{K:SN}:∀{ds:List D}{vs:List V}{xs:List Str},kQ ds=some xs->DenL K F ds vs->vs=xs.map V.str
 |[],_,_,e,h=>by cases e;exact h
 | .str b::r,_,_,e,⟨v,r',h1,h2,h3⟩=>by
   unfold kQ at e;cases q:kQ r with
   |none=>rw[q] at e;cases e
   |some bs=>rw[q] at e;cases e;subst h1;rw[qH q h3,show v= .str b from h2.1];rfl
 | .non::_,_,_,e,_=>by cases e
 | .int _::_,_,_,e,_=>by cases e
 | .bl _::_,_,_,e,_=>by cases e
 | .raw _::_,_,_,e,_=>by cases e
 | .exc _::_,_,_,e,_=>by cases e
 | .scr _::_,_,_,e,_=>by cases e
 | .tup _::_,_,_,e,_=>by cases e
 | .lst _::_,_,_,e,_=>by cases e
theorem qK:∀{xs:List Str}{aM:List Value},Vals (xs.map V.str) aM->StrsAre aM xs
 |[],_,r=>by cases r;exact .nil
 |b::bs,_,r=>by
  cases r with
  |cons r1 r2=>obtain⟨t,rfl⟩:=r1;exact .cons b t (qK r2)
def dq:List Str->Str
 |[]=>⟨#[]⟩
 |x::r=>x++dq r
def joinM:D->List D->M D
 | .str sep,[.lst ds]=>match kQ ds with
   |some xs=>if sep.length=0/\(xs.map (·.length)).sum<=lim then aa (.str (dq xs)) else af
   |none=>af
 | .str sep,[.tup ds]=>match kQ ds with
   |some xs=>if sep.length=0/\(xs.map (·.length)).sum<=lim then aa (.str (dq xs)) else af
   |none=>af
 |_,_=>af
theorem o5:∀xs:List Str,(dq xs).length=(xs.map (·.length)).sum
 |[]=>rfl
 |x::r=>by
  show (x++dq r).length=_;rw[jI,o5 r,SU,Vb]
def G_{x:Str}(h:x.length=0):x=⟨#[]⟩:=by
 obtain⟨⟨l⟩⟩:=x;have:l.length=0:=h;cases l with
 |nil=>rfl
 |cons _ _=>simp at this
def nQ(x:Str):x++(⟨#[]⟩:Str)=x:=by
 obtain⟨c⟩:=x;show (⟨c++ #[]⟩:Str)=⟨c⟩
 simp
def mU(sep:Str)(h:sep.length=0):∀xs:List Str,Txt.join sep xs=dq xs:=by
 have e:=G_ h;subst e;intro xs;show Builtin.Str.glued _ xs=_;rw[StrLaws.glued_eq_join];induction xs with
 |nil=>rfl
 |cons x r ih=>
  cases r with
  |nil=>show x=x++(⟨#[]⟩:Str);rw[nQ]
  |cons y r=>show x++(⟨#[]⟩:Str)++Str.join _ (y::r)=x++dq (y::r);rw[nQ,ih]
def rJoin(K:SN):V->List V->Hp->VK->Prop:=λx vs H Q=>∃(sep:Str) (a:Addr) (xs:List Str),x= .str sep/\vs=[.ref a]/\(H a=some (.lst (xs.map V.str))\/H a=some (.tup (xs.map V.str)))/\sep.length=0/\(xs.map (·.length)).sum<=lim/\Q (.str (dq xs)) H
def Gd:Ke X "str.join" (rJoin X.K):=by
 intro f8 s σ H x vs v us Q I rx rv h;obtain⟨sep,a,xs,rfl,rfl,hH,hs,hl,q⟩:=h;obtain⟨t,rfl⟩:=rx;obtain⟨u,rfl,r1⟩:=rv.one;cases (show u=_ from r1);have hok:(xs.map (·.length)).sum+xs.length*sep.length<=16777216:=by
  rw[hs,Nat.mul_zero];unfold lim at hl;omega
 rcases hH with hH | hH
 ·obtain⟨aM,r2,pl,hz⟩:=I.list (SqL.of (K:=X.K) hH);refine join_list pl.isList (by simpa using qK r2) hok λt' k=>⟨.str (dq xs),H,I.tok k,⟨t',by rw[mU sep hs]⟩,q⟩
 ·obtain⟨aM,r2,pl,hz⟩:=I.tuple (SqT.of hH);refine join_tuple pl (by simpa using qK r2) hok λt' k=>⟨.str (dq xs),H,I.tok k,⟨t',by rw[mU sep hs]⟩,q⟩
def iw(ho:PD X Xw o δo)(ha:kU X Xw [e] δs)(dw:Ug o "join" X.env (eval o X.env)=eval o X.env:=by rfl)
 (gk:((Uv aU (SX [e] X.env)).all (λx=>!x.1)&&(UQ aU (Ub [] X.env)).all (λx=>x.1.isSome)&&decide ([e].length+([]:List UO).length+(if ([]:List UO).isEmpty then 0 else 1)<30))=true:=by rfl)
 (dz:(v4.endLine==aU.line)=true:=by rfl)(lY:SX [e] X.env=[(false,eval e X.env)]:=by rfl):PD X Xw (.Call (.Attribute o "join" v4) [e] [] aU) (dM gm joinM δo δs):=
 z7 UX PySem.F.slot_str_join PySem.F.type_str_join Gd tW (λXw F H x vs d ds Q s hx hv w=>by
  unfold joinM at w;split at w
  ·rename_i sep ds;obtain⟨v,rfl,h1⟩:=hv.one;obtain⟨a,ws,rfl,h2,h3,_⟩:=h1;split at w
   ·rename_i xs Lv;split at w
    ·rename_i hc;exact⟨sep,a,xs,hx.1,rfl, .inl (by rw[<-qH Lv h3];exact s _ _ h2),hc.1,hc.2,WP.now w s ⟨rfl,by rw[o5];exact hc.2⟩⟩
    ·exact w.elim
   ·exact w.elim
  ·rename_i sep ds;obtain⟨v,rfl,h1⟩:=hv.one;obtain⟨a,ws,rfl,h2,h3,_⟩:=h1;split at w
   ·rename_i xs Lv;split at w
    ·rename_i hc;exact⟨sep,a,xs,hx.1,rfl, .inr (by rw[<-qH Lv h3];exact s _ _ h2),hc.1,hc.2,WP.now w s ⟨rfl,by rw[o5];exact hc.2⟩⟩
    ·exact w.elim
   ·exact w.elim
  ·exact w.elim) ho ha dw gk dz lY rfl
def nS:List D->M D
 |[.lst ds]=>aa (.tup ds)
 |[.tup ds]=>aa (.tup ds)
 |_=>af
def lK(hg:Gl X "tuple")(hm:X.mg "tuple"=none)(hb:T4 "tuple"=some (.type "tuple"))(ha:kU X Xw [e] δs)(he:SX [e] X.env=[(false,eval e X.env)]:=by rfl):PD X Xw (.Call (.Name "tuple" p) [e] [] pos) (dA nS δs):=
 sF qW (λXw F H vs ds Q s h w=>by
  unfold nS at w;split at w
  ·rename_i ds;obtain⟨v,rfl,h1⟩:=h.one;obtain⟨a,ws,rfl,h2,h3,h4⟩:=h1;exact⟨a,ws,rfl, .inl ⟨SqL.of (s _ _ h2),λl hl=>WP.fin w (Ext.lay s hl) ⟨l,ws,rfl,aE,DenL.mono (Ext.lay s hl).ff h3,h4⟩⟩⟩
  ·rename_i ds;obtain⟨v,rfl,h1⟩:=h.one;obtain⟨a,ws,rfl,h2,h3,h4⟩:=h1;exact⟨a,ws,rfl, .inr ⟨SqT.of (s _ _ h2),WP.now w s ⟨a,ws,rfl,h2,h3,h4⟩⟩⟩
  ·exact w.elim) hg hm hb ha (by decide) (by decide) he rfl
def yL(hc:X.calm=true)(hg:Gl X "max")(hm:X.mg "max"=none)(hb:T4 "max"=some (.builtin "max"))(ha:kU X Xw [e,e2] δs)(he:SX [e,e2] X.env=(false,eval e X.env)::SX [e2] X.env:=by rfl)
 (iY:(Uv pos (SX [e2] X.env)).any (·.1)=false:=by rfl):PD X Xw (.Call (.Name "max" p) [e,e2] [] pos) (dA yo δs):=
 eQ (AR hc) (λXw F H vs ds Q s h w=>by
  unfold yo at w;split at w
  ·obtain⟨v,v',rfl,h1,h2⟩:=h.two;cases (show _=_ from h1);cases (show _=_ from h2);exact⟨_,_,rfl,WP.now w s rfl⟩
  ·exact w.elim) hg hm hb ha (by decide) (by decide) he iY
def DU(hc:X.calm=true)(hg:Gl X "min")(hm:X.mg "min"=none)(hb:T4 "min"=some (.builtin "min"))(ha:kU X Xw [e,e2] δs)(he:SX [e,e2] X.env=(false,eval e X.env)::SX [e2] X.env:=by rfl)
 (iY:(Uv pos (SX [e2] X.env)).any (·.1)=false:=by rfl):PD X Xw (.Call (.Name "min" p) [e,e2] [] pos) (dA Bm δs):=
 eQ (AS hc) (λXw F H vs ds Q s h w=>by
  unfold Bm at w;split at w
  ·obtain⟨v,v',rfl,h1,h2⟩:=h.two;cases (show _=_ from h1);cases (show _=_ from h2);exact⟨_,_,rfl,WP.now w s rfl⟩
  ·exact w.elim) hg hm hb ha (by decide) (by decide) he iY
def nums:List D->Option (List Int)
 |[]=>some []
 | .int x::r=>(nums r).map (x:: ·)
 |_=>none
theorem pw{K:SN}:∀{ds:List D}{vs:List V}{xs:List Int},nums ds=some xs->DenL K F ds vs->vs=xs.map V.int
 |[],_,_,e,h=>by cases e;exact h
 | .int b::r,_,_,e,⟨v,r',h1,h2,h3⟩=>by
   unfold nums at e;cases q:nums r with
   |none=>rw[q] at e;cases e
   |some bs=>rw[q] at e;cases e;subst h1;rw[pw q h3,show v= .int b from h2];rfl
 | .non::_,_,_,e,_=>by cases e
 | .str _::_,_,_,e,_=>by cases e
 | .bl _::_,_,_,e,_=>by cases e
 | .raw _::_,_,_,e,_=>by cases e
 | .exc _::_,_,_,e,_=>by cases e
 | .scr _::_,_,_,e,_=>by cases e
 | .tup _::_,_,_,e,_=>by cases e
 | .lst _::_,_,_,e,_=>by cases e
def FC(neg:Bool):D->D->M D
 | .int i, .tup ds=>match nums ds with | some ns=>aa (.bl (if neg then !ns.contains i else ns.contains i)) | none=>af
 |_,_=>af
def C2(i:Int)(ns:List Int):MY (.int i) (ns.map V.int)=ns.contains i:=by
 unfold MY;rw[List.any_map];induction ns with
 |nil=>rfl
 |cons n ns ih=>
  rw[VL,List.contains_cons,ih];congr 1;show E6 (.int n) (.int i)=(i==n)
  unfold E6;exact Bool.beq_comm
def Ja{neg:Bool}{K:SN}:xt K (Qc K neg) (FC neg):=λXw F H x y dx dy Q s hx hy w=>by
 unfold FC at w;split at w
 ·rename_i i ds;obtain⟨a,vs,h1,h2,h3,h4⟩:=hy;split at w
  ·rename_i ns hn;have hv:=pw hn h3;subst hv;cases (show _=_ from hx);refine⟨a,ns.map V.int,h1, .inr (SqT.of (s _ _ h2)),rfl,?_,?_⟩
   ·rw[VZ];exact Uk.mpr λ_ _=>rfl
   ·rw[C2];exact WP.now w s rfl
  ·exact w.elim
 ·exact w.elim
def BM(ha:PD X Xw a δa)(hb:PD X Xw b δb)(hm:T7 .NotIn b=false:=by rfl):qT X Xw (.Compare a [.NotIn] [b] pos) (eA (d2 (FC true) δa δb)):=iz uz Ja ha hb hm
def pj(neg:Bool):D->D->M D
 | .str x, .str y=>aa (.bl (if neg then !(!(T6 y x 0 y.length 1).isEmpty) else !(T6 y x 0 y.length 1).isEmpty))
 |_,_=>af
def Jz(ha:PD X Xw a δa)(hb:PD X Xw b δb)(hm:T7 .In b=false:=by rfl):PD X Xw (.Compare a [.In] [b] pos) (d2 (pj false) δa δb):=uA sx (λXw F H x y dx dy Q s hx hy w=>by
 unfold pj at w;split at w
 ·exact⟨_,_,hx.1,hy.1,WP.now w s rfl⟩
 ·exact w.elim) ha hb hm
def JT(ha:PD X Xw a δa)(hb:PD X Xw b δb)(hm:T7 .In b=false:=by rfl):qT X Xw (.Compare a [.In] [b] pos) (eA (d2 (pj false) δa δb)):=iz sx (λXw F H x y dx dy Q s hx hy w=>by
 unfold pj at w;split at w
 ·exact⟨_,_,hx.1,hy.1,WP.now w s rfl⟩
 ·exact w.elim) ha hb hm
end
end L3
namespace L3
open PySem PySem.Spec L2 SeqAt HT
open PyProof.Rows hiding St
section
variable{prog:To}{w:World}{A:T9}{E:Value->SS->Prop}{s:SS}
def j9{t sl:Addr}{items:Array Value}{vl vu:Value}{lo hi:Option Int}{Q:Value->SS->Prop}(ht:IsTup s.heap t items)(hs:s.heap.IsSliceOf sl vl vu .none)(pl:X5 vl lo)(pu:X5 vu hi)
 (hw:sIx items.size 0 lo=0/\sIx items.size items.size hi=items.size)(h:Q (.ref t) s):wpAny (model prog w) A (WV (.ref t) (.ref sl)) Q E s:=by
 obtain⟨os,vM,E9,A8⟩:=id hs;have K4:s.TypeIs (.ref sl) "slice":=⟨os,vM,E9⟩
 unfold WV
 try with_reducible refine Vg ?_
 first | refine SH (SQ ?_) | skip
 refine SH (XN ht.typeIs (by decide) ?_);refine SH (U4 (name:=S3 "__getitem__") ht.typeIs T5
  (UP T5 ht.typeIs Xe ?_ (Xs _ _)))
 show wpAny _ _ (Vy (.ref t)>>=_) _ _ s;refine SH (YJ ht ?_);refine SH (WR K4 ?_);rw[Y6 (by decide)];refine SH (sliceApplied_gen hs pl pu ?_);have qZ:((((sIx items.size 0 lo:Nat):Int)==0&&(1:Int)==1&&(sIx items.size items.size hi - sIx items.size 0 lo)==items.size)=true):=by
  rw[hw.1,hw.2];simp
 show wpAny _ _ (if (((sIx items.size 0 lo:Nat):Int)==0&&(1:Int)==1&&(sIx items.size items.size hi - sIx items.size 0 lo)==items.size)=true then _ else _) _ _ s;rw[Y6 qZ];refine SH ?_;unfold Builtin.Tuple.tupleIsExact;refine SH (WR ht.typeIs (SQ ?_));rw[Y6 (by decide)];exact SH (wpAny_rule (SQ ⟨_,rfl,SQ h⟩))
end
section
variable{X:Cx}{Xw:Nat->Hp->Prop}{a b e:Expr}{lo hi:Option Expr}{δ:DE}{pos p p2:Pos}
def G7:SlR X (λx lo hi H Q=>∃a xs,x= .ref a/\SqT X.K H a xs/\(sIx xs.length 0 lo=0/\sIx xs.length xs.length hi=xs.length)/\Q (.ref a) H):=by
 intro f8 s σ H x v vl vu lo hi sl Q I rx hs pl pu h;obtain⟨a,xs,rfl,hx,hw,q⟩:=h;cases rx;obtain⟨aM,r,ht,hz⟩:=I.tuple hx;have M2:aM.toArray.size=xs.length:=by rw[SV];exact r.length.symm
 exact⟨"tuple",_,PyProof.Rows.slot_tuple_getitem.lookup,ht.typeIs,j9 ht hs pl pu (by rw[M2];exact hw) ⟨.ref a,H,I,rfl,q⟩⟩
def J5:SlR X (λx lo hi H Q=>∃z:Str,x= .str z/\z.length<=lim/\Q (.str (Txt.slice z lo hi)) H):=by
 intro f8 s σ H x v vl vu lo hi sl Q I rx hs pl pu h;obtain⟨z,rfl,hl,q⟩:=h;obtain⟨t,rfl⟩:=rx;have hz:z.length<=S9:=by have:=dS;omega
 cases pl with
 |none=>
  cases pu with
  |none=>exact⟨"str",_,PySem.F.slot_str_getitem.lookup,VE _ _ _,U3 (l:=none) (u:=none) (st:=none) hs rfl (WT ⟨Tn (WA z _ _) hz,λt' k=>⟨.str _,H,I.tok k,⟨t',rfl⟩,q⟩⟩)⟩
  |int j uj=>exact⟨"str",_,PySem.F.slot_str_getitem.lookup,VE _ _ _,U3 (l:=none) (u:=some (j,uj)) (st:=none) hs rfl (WT ⟨Tn (WA z _ _) hz,λt' k=>⟨.str _,H,I.tok k,⟨t',rfl⟩,q⟩⟩)⟩
 |int i ui=>
  cases pu with
  |none=>exact⟨"str",_,PySem.F.slot_str_getitem.lookup,VE _ _ _,U3 (l:=some (i,ui)) (u:=none) (st:=none) hs rfl (WT ⟨Tn (WA z _ _) hz,λt' k=>⟨.str _,H,I.tok k,⟨t',rfl⟩,q⟩⟩)⟩
  |int j uj=>exact⟨"str",_,PySem.F.slot_str_getitem.lookup,VE _ _ _,U3 (l:=some (i,ui)) (u:=some (j,uj)) (st:=none) hs rfl (WT ⟨Tn (WA z _ _) hz,λt' k=>⟨.str _,H,I.tok k,⟨t',rfl⟩,q⟩⟩)⟩
abbrev DO:=aO->M (Option Int)
def WPO(Xw:Nat->Hp->Prop)(F H:Hp)(m:M (Option Int))(Q:Option Int->Hp->Prop):Prop:=
 match m with
 |none=>False
 |some (.ok b)=>∀H' F',Ext F H F' H'->Q b H'
 |some (.ex n)=>∀F' H',Ext F H F' H'->Xw n H'
def R6(K:SN)(Xw:Nat->Hp->Prop)(δ:DO):TO:=λσ H Q=>∃F ρ,StE K F H σ ρ/\WPO Xw F H (δ ρ) Q
def MC(X:Cx)(Xw:Nat->Hp->Prop)(e:Option Expr)(δ:DO):Prop:=PO X e (R6 X.K Xw δ)
def oN:DO:=λ_=>aa none
def oS(δ:DE):DO:=λρ=>δ ρ>>=λd=>match d with | .int i=>aa (some i) | _=>af
def DZ:MC X Xw none oN:=λf8 s σ H Q I ⟨F,ρ,S,w⟩=>GG f8 s σ H Q I (w H F (Ext.refl S.fh))
def D0(h:PD X Xw e δ):MC X Xw (some e) (oS δ):=λf8 s σ H Q I ⟨F,ρ,S,w⟩=>GH h f8 s σ H Q I ⟨F,ρ,S,by
 have w:WPO Xw F H (δ ρ>>=λd=>match d with | .int i=>aa (some i) | _=>af) Q:=w;rcases(δ ρ).cs with q | ⟨n,q⟩ | ⟨d,q⟩
 ·rw[q] at w;exact w.elim
 ·rw[q] at w⊢;exact w
 ·rw[q] at w⊢;intro v H' F' e' hd;cases d with
  |int i=>exact⟨i,hd,w H' F' e'⟩
  |_=>exact w.elim⟩
def WP.bindO{K:SN}{Xw:Nat->Hp->Prop}{F H:Hp}{Q:VK}{m:M (Option Int)}{k:Option Int->M D}(h:WP K Xw F H (m>>=k) Q):WPO Xw F H m λb H1=>∃F1,Ext F H F1 H1/\WP K Xw F1 H1 (k b) Q:=by
 match m,h with
 |none,h=>exact h
 |some (.ok d),h=>exact λH2 F2 e2=>⟨F2,e2,WP.ext e2 (show WP K Xw F H (k d) Q from h)⟩
 |some (.ex n),h=>exact h
def WPO.mono{Xw:Nat->Hp->Prop}{F H:Hp}{m:M (Option Int)}{Q Q':Option Int->Hp->Prop}(h:WPO Xw F H m Q)(k:∀v H',Q v H'->Q' v H'):WPO Xw F H m Q':=by
 match m,h with
 |none,h=>exact h
 |some (.ok d),h=>exact λH2 F2 e2=>k _ _ (h H2 F2 e2)
 |some (.ex n),h=>exact h
def cutD(ds:List D)(lo hi:Option Int):List D:=(ds.drop (sIx ds.length 0 lo)).take (sIx ds.length ds.length hi - sIx ds.length 0 lo)
def Qd:D->Option Int->Option Int->M D
 | .tup ds,lo,hi=>aa (.tup (cutD ds lo hi))
 | .lst ds,lo,hi=>aa (.lst (cutD ds lo hi))
 | .str x,lo,hi=>aa (.str (Txt.slice x lo hi))
 |_,_,_=>af
def Nv(a:DE)(lo hi:DO):DE:=λρ=>a ρ>>=λd=>lo ρ>>=λl=>hi ρ>>=λh=>Qd d l h
def vv(ds:List D)(lo hi:Option Int):(cutD ds lo hi).length<=ds.length:=by
 unfold cutD;rw[Vh,Xl];omega
def DenL.cut{K:SN}{F:Hp}{ds:List D}{vs:List V}(h:DenL K F ds vs)(lo hi:Option Int):DenL K F (cutD ds lo hi) (vw vs lo hi):=by
 unfold cutD vw;rw[h.len];exact(h.drop _).take _
def LZ{δo:DE}{κl κh:DO}(he:PD X Xw e δo)(hl:MC X Xw lo κl)(hh:MC X Xw hi κh):PD X Xw (.Subscript e (.Slice lo hi none p2) pos) (Nv δo κl κh):=
 PE.weak (D9 (G7.or (J6.or (G6.or J5))) he hl hh) λσ H Q ⟨F,ρ,s,w⟩=>by
  refine⟨F,ρ,s,WP.mono (WP.bind w) λv H1 ⟨F1,d,e1,q1,w1⟩=>?_⟩;refine⟨F1,ρ,s.ext e1,WPO.mono (WP.bindO w1) λl H2 ⟨F2,e2,w2⟩=>?_⟩;refine⟨F2,ρ,(s.ext e1).ext e2,WPO.mono (WP.bindO w2) λh H3 ⟨F3,e3,w3⟩=>?_⟩;have q3:=Den.mono (e2.ff.trans e3.ff) q1;have fh:=e3.fh;cases d with
  |tup ds=>
   obtain⟨a,vs,rfl,h2,h3,h4⟩:=q3;by_cases hw:sIx vs.length 0 l=0/\sIx vs.length vs.length h=vs.length
   ·refine .inl ⟨a,vs,rfl,SqT.of (fh _ _ h2),hw,?_⟩;have hc:cutD ds l h=ds:=by
     unfold cutD;rw[h3.len,hw.1,hw.2,Yt,X4,<-h3.len,Xk]
    have w3:WP X.K Xw F3 H3 (aa (.tup (cutD ds l h))) Q:=w3;rw[hc] at w3;exact WP.now w3 fh ⟨a,vs,rfl,h2,h3,h4⟩
   ·exact .inr (.inl ⟨a,vs,rfl,SqT.of (fh _ _ h2),hw,λp hp=>WP.fin w3 (Ext.lay fh hp) ⟨p,_,rfl,aE,DenL.mono (Ext.lay fh hp).ff (h3.cut l h),Tn (vv _ _ _) h4⟩⟩)
  |lst ds=>
   obtain⟨a,vs,rfl,h2,h3,h4⟩:=q3;exact .inr (.inr (.inl ⟨a,vs,rfl,SqL.of (fh _ _ h2),λp hp=>WP.fin w3 (Ext.lay fh hp) ⟨p,_,rfl,aE,DenL.mono (Ext.lay fh hp).ff (h3.cut l h),Tn (vv _ _ _) h4⟩⟩))
  |str x=>exact .inr (.inr (.inr ⟨x,q3.1,q3.2,WP.now w3 fh ⟨rfl,Tn (WA x _ _) q3.2⟩⟩))
  |_=>exact w3.elim
end
def Mz(x:Str):It:=⟨λi _=>i<x.cps.size,λi H v H'=>H'=H/\∃c,x.cps[i]? =some c/\v= .str ⟨#[c]⟩,λi _=>x.cps.size<=i⟩
def BZ{P:To}{K:SN}(it:Addr)(x:Str)(t:Tok):Turn P w K tg (Mz x) [it] it (λi h=>i<=x.cps.size/\h.IsStrIter it "str_ascii_iterator" x t i) where
 mem:=by simp
 obj:=λi h st b hb=>by
  have e:b=it:=by simpa using hb
  subst e;obtain⟨_,o,e,c,d⟩:=st;exact⟨o,e,λv z=>by rw[d] at z;cases z⟩
 keep:=λi h h' st k=>⟨st.1,let ⟨o,e,r⟩:=st.2;⟨o,k it (by simp) o e,r⟩⟩
 item:=by
  intro X hP hw hK hc i f8 s σ H E I hf st hg;subst hP hw hK;obtain⟨f0,f1,f2,f3,f4,f5⟩:=hf it (by simp);have hi:i<x.cps.size:=hg;refine(Walks.strAscii (I.ok.hd hc) it x t).item i s _ _ hi st.2 λv h' tk hv qE kk=>?_;obtain⟨c,u,NK,rfl⟩:=hv;have I1:Inv X f8 σ H {s with heap:=h',toks:=tk}:=I.turned (λb o hb e=>kk b o (by simpa using hb) e) f0 f1 f3 f4 f5;obtain⟨o,e,cc,dd⟩:=id qE;exact⟨_,rfl,rR e cc dd (by decide) ⟨.str ⟨#[c]⟩,H,I1,⟨u,rfl⟩,⟨rfl,c,NK,rfl⟩,⟨hi,qE⟩,λb hb=>(hf b hb).1⟩⟩
 done:=by
  intro X hP hw hK hc i f8 s σ H E I hf st hg;subst hP hw hK;obtain⟨f0,f1,f2,f3,f4,f5⟩:=hf it (by simp);have hi:i=x.cps.size:=WG st.1 hg;subst hi;exact(Walks.strAscii (I.ok.hd hc) it x t).done s _ _ st.2 λh' tk kk=>⟨rfl,I.turned (λb o hb e=>kk b o (by simpa using hb) e) f0 f1 f3 f4 f5⟩
 self:=λ_ _ _ _ _ st h=>wpAny_pyIter_striter_ascii st.2 h
def B0{P:To}{K:SN}(it:Addr)(x:Str)(t:Tok):Turn P w K tg (Mz x) [it] it (λi h=>i<=x.cps.size/\h.IsStrIter it "str_iterator" x t i) where
 mem:=by simp
 obj:=λi h st b hb=>by
  have e:b=it:=by simpa using hb
  subst e;obtain⟨_,o,e,c,d⟩:=st;exact⟨o,e,λv z=>by rw[d] at z;cases z⟩
 keep:=λi h h' st k=>⟨st.1,let ⟨o,e,r⟩:=st.2;⟨o,k it (by simp) o e,r⟩⟩
 item:=by
  intro X hP hw hK hc i f8 s σ H E I hf st hg;subst hP hw hK;obtain⟨f0,f1,f2,f3,f4,f5⟩:=hf it (by simp);have hi:i<x.cps.size:=hg;refine(Walks.strWide (I.ok.hd hc) it x t).item i s _ _ hi st.2 λv h' tk hv qE kk=>?_;obtain⟨c,u,NK,rfl⟩:=hv;have I1:Inv X f8 σ H {s with heap:=h',toks:=tk}:=I.turned (λb o hb e=>kk b o (by simpa using hb) e) f0 f1 f3 f4 f5;obtain⟨o,e,cc,dd⟩:=id qE;exact⟨_,rfl,rR e cc dd (by decide) ⟨.str ⟨#[c]⟩,H,I1,⟨u,rfl⟩,⟨rfl,c,NK,rfl⟩,⟨hi,qE⟩,λb hb=>(hf b hb).1⟩⟩
 done:=by
  intro X hP hw hK hc i f8 s σ H E I hf st hg;subst hP hw hK;obtain⟨f0,f1,f2,f3,f4,f5⟩:=hf it (by simp);have hi:i=x.cps.size:=WG st.1 hg;subst hi;exact(Walks.strWide (I.ok.hd hc) it x t).done s _ _ st.2 λh' tk kk=>⟨rfl,I.turned (λb o hb e=>kk b o (by simpa using hb) e) f0 f1 f3 f4 f5⟩
 self:=λ_ _ _ _ _ st h=>wpAny_pyIter_striter_wide st.2 h
section
variable{X:Cx}{Xw:Nat->Hp->Prop}{tg a b e l o:Expr}{δ:DE}
def Od(tl:TE):TI:=λσ H R=>tl σ H λx H1=>∃z,x= .str z/\R (Mz z) H1
def JP{tl:TE}(hl:PE X l tl):PI X tg l (Od tl):=by
 intro f8 s σ H R I h _;refine bY (hl f8 s σ H _ I h) λv s1 ⟨x,H1,I1,r1,q1⟩=>?_;obtain⟨z,e,q⟩:=q1;subst e;obtain⟨t,rfl⟩:=r1;have fp:∀b∈[s1.heap.objs.size],u_ X f8 H1 b:=λb hb=>by
  have e:b=s1.heap.objs.size:=by simpa using hb
  subst e;exact I1.fpOk (SW _) (I1.hok.fresh (SW _))
 cases ha:z.cps.all (· <128)
 ·exact wpAny_pyIter_wide ha ⟨s1.heap.objs.size,[s1.heap.objs.size],_,_,H1,rfl,I1.kept (t':=s1.toks) λb o e=>SR _ e,B0 _ z t,⟨TQ _,_,Ta _ rfl,rfl,rfl⟩,fp,q⟩
 ·exact wpAny_pyIter_ascii ha ⟨s1.heap.objs.size,[s1.heap.objs.size],_,_,H1,rfl,I1.kept λb o e=>SR _ e,BZ _ z t,⟨TQ _,_,Ta _ rfl,rfl,rfl⟩,fp,q⟩
def signs(x:Str):List D:=x.cps.toList.map λc=>D.str ⟨#[c]⟩
def EE:D->M (List D)
 | .str x=>aa (signs x)
 |_=>af
def FU{K:SN}{F:Hp}(x:Str):ItD K F (Mz x) (signs x):=λF' H' i s1 s2=>by
 refine⟨λd e=>?_,λhl=>show x.cps.size<=i by simpa[signs] using hl⟩;unfold signs at e;rw[S2] at e;cases q:x.cps.toList[i]? with
 |none=>rw[q] at e;cases e
 |some c=>
  rw[q] at e;cases e;have hi:i<x.cps.size:=by
   have:=(SY.mp q).1;simpa using this
  refine⟨hi,λv H'' y=>?_⟩;obtain⟨e2,c',E8,rfl⟩:=y;subst e2;have:c'=c:=by
   have q':x.cps[i]? =some c:=by simpa using q
   rw[q'] at E8;exact(Tr E8).symm
  subst this;exact⟨F',Ext.refl s2,rfl,by show 1<=lim;decide⟩
def Ab(h:PD X Xw l δ):zg X Xw tg l (λρ=>δ ρ>>=EE):=PI.weak (JP h) λσ H R ⟨F,ρ,s,w⟩=>by
 refine⟨F,ρ,s,WP.mono (WPI.bind w) λv H1 ⟨F1,d,e1,q1,w1⟩=>?_⟩;cases d with
 |str z=>exact⟨z,q1.1,w1 _ _ _ (Ext.refl e1.fh) (FU z)⟩
 |_=>exact w1.elim
end
end L3
namespace L3
open PySem PySem.Spec L2 SeqAt HT
open PyProof.Rows hiding St
open PySem.W (Frag Looks InstAt findIn mroIn)
open PySem.Builtin PySem.Builtin.ObjectAttr PySem.Builtin.Getset_descriptor
end L3
namespace L3
open PySem PySem.Spec L2 SeqAt HT
open PyProof.Rows hiding St
structure RoomH (k:Nat) (A:T9):Prop where
 dp:A.depth+3*k+5<Yn
 un:A.units+16*k+200<cLine
theorem RoomH.deeper(r:RoomH (k+1) A)(env:Env):RoomH k (A.deeper env):=
 ⟨by have:=r.dp;show A.depth+1+3*k+5<_;omega,by have:=r.un;show A.units+3+16*k+200<_;omega⟩
theorem RoomH.units(r:RoomH k A):A.units+64<cLine:=by have:=r.un;omega
def EJ{K:SN}(fh:Same F H)(hd:DenL K F ds vs):StOk K F H F H (L2.start N vs) (ds.map (λd=>some (Sl.fz d))++Tc (N.length - ds.length) none):=by
 have M2:=hd.len;have get:∀(i:Nat) (sl:Sl),(ds.map (λd=>some (Sl.fz d))++Tc (N.length - ds.length) none)[i]? =some (some sl)->∃d,ds[i]? =some d/\sl= .fz d:=λi sl e=>by
  by_cases hi:i<ds.length
  ·rw[S_ (by simpa using hi),S2] at e;cases q:ds[i]? with
   |none=>rw[q] at e;cases e
   |some d=>rw[q] at e;cases e;exact⟨d,rfl,rfl⟩
  ·rw[Ti (by simpa using hi),T_] at e;split at e<;>cases e
 refine⟨Ext.refl fh,⟨fh,λi sl e=>?_⟩,?_,λi c a e=>?_,λi j sl kN v v' b e _ _ _ hb _=>?_⟩
 ·obtain⟨d,q,rfl⟩:=get i sl e;obtain⟨v,e1,e2⟩:=hd.get q;have hi:=(SY.mp q).1;refine⟨v,?_,e2⟩;unfold L2.start;rw[S_ (by simp;omega),S2,e1];rfl
 ·unfold L2.start;simp[M2]
 ·obtain⟨d,_,z⟩:=get i _ e;cases z
 ·obtain⟨d,_,z⟩:=get i _ e;rw[z] at hb;cases hb
def zv(N:List Str)(osc scope:Scope)(tn:List Str):Bool:=
 decide (scope.kind= .function)&&scope.names.all (λy=>decide (y.2≠ .cell))&&scope.names.all (λy=>decide (y.2= .local->scope.names.lookup y.1=some .local))&&
 scope.names.all (λy=>decide (y.2= .free->(osc.names.lookup y.1=some .cell\/osc.names.lookup y.1=some .free)))&&
 ((cg tn N).zip N).all (λp=>decide (scope.names.lookup p.1=none\/(p.1=p.2/\scope.names.lookup p.1=some .free)))
def aY(hN:X.N=N)(ho:X.env.scope=osc)(h:zv N osc scope tn=true):CompSc X scope tn:=by
 unfold zv at h;simp only[Tp,Uk,Zb] at h;obtain⟨⟨⟨⟨h1,h2⟩,h3⟩,h4⟩,h5⟩:=h;refine⟨h1,h2,h3,λy hy hf=>?_,?_⟩
 ·have:=h4 y hy hf;rw[<-ho] at this;exact this
 ·rw[hN];exact h5
def bN(hN:X.N.Nodup)(h0:X.N[0]? =some x)(IU:X.env.scope.names.lookup x=some .local):B7 X (.Name x px) 0 σ:=λf8 s σ' F H d ts v u I fh hd rv q e _=>by
 have e:aa [d]=aa ts:=e;have e:=eK e;subst e;refine XO (w_ I hN h0 (.inl IU) rv (λs' I'=>⟨[v],?_, .cons q .nil⟩) (.inr IU));have hl:0<σ'.length:=by rw[I.len];exact(SY.mp h0).1
 have:σ'.set 0 (some v)=[v].map some++σ:=by
  cases σ' with
  |nil=>simp at hl
  |cons a r=>
   have hd:r=σ:=by simpa using hd
   subst hd;rfl
 rw[<-this];exact I'
def b8:Passes (iV P w cv) X (EX cv λ_ _=>False):=λ_ _ _ _ _ _ _ ⟨_,_,_,_,_,_,_,_,_,_,_,_,_,_,z⟩=>z.elim
def bO(K:SN)(mg:Str->Option Value)(x:Str)(st:Stmt)(f:Addr):Prop:=mg x=some (.ref f)/\∃fd,Fun K x x st f fd
def aq(P:To)(w:World)(K:SN)(mg:Str->Option Value)(base:Heap)(cv:Nat->Value)(k:Nat)(x:Str)(m:Nat)(g:List D->M D):Prop:=
 ∃f fd ps,mg x=some (.ref f)/\TJ K (.ref f)=true/\Binds K fd ps []/\FnOk P w K mg base (iV P w cv) k f fd ps (J8 K cv m g)
section
variable{X:Cx}{Xw:Nat->Hp->Prop}{cv:Nat->Value}{k m:Nat}{g:List D->M D}{x:Str}{p pos:Pos}{e:Expr}{es:List Expr}{δs:DA}
def ar(m:Nat)(g:List D->M D)(δs:DA):DE:=λρ=>δs ρ>>=λds=>if ds.length=m then g ds else af
def bK(F:aq X.prog X.w X.K X.mg X.base cv k x m g)(hr:Room k X.A)(hg:Gl X x)(hx:Passes (iV X.prog X.w cv) X (EX cv Xw))
 (ha:kU X Xw (e::es) δs)(hl:(e::es).length=m)(ma:(x==("__debug__":Str))=false:=by decide)(he:SX (e::es) X.env=(false,eval e X.env)::SX es X.env:=by rfl)(iY:(Uv pos (SX es X.env)).any (·.1)=false:=by rfl):
 PD X Xw (.Call (.Name x p) (e::es) [] pos) (ar m g δs):=by
 obtain⟨f,fd,ps,h1,h2,h3,h4⟩:=F;exact Gp h4 hr hg h1 h2 h3 hx ha hl ma he iY
end
def aD{K:SN}{st:Stmt}(T:bO K mg x st f)(S:FnScope N ps (ah st))
 (FH:∀(kV doc pm:Value) (an:Option Addr) (cP ct:Value) (us:List Value),us.length=ps.length->Xr (TR x x (aS st) (aH st) (ah st) .none kV doc pm an cP ct) ⟨us,[]⟩=pure (ps.zip us))
 (c6:∀(cP:Value) (A:T9) (outer:List Env) (s:SS) (H:Hp) (E:XK),Room k (A.deeper (Vx x (ah st) s.heap.objs.size f cP))->
  PSDs (eT (iV P w cv) P w K mg base N x (ah st) f cP A outer s H E) (λn H'=>E (cv n) none H') (aH st) τ):aq P w K mg base cv (k+1) x ps.length (cM N.length τ):=by
 obtain⟨h1,fd,Fn⟩:=T;exact⟨f,fd,ps,h1,Fn.kp,Fn.binds FH,Nz Fn S c6⟩
section
variable{X:Cx}{Xw:Nat->Hp->Prop}{a e:Expr}{δ:DE}{pos:Pos}
def lz:D->M D
 | .int i=>aa (.int (-i))
 |_=>af
def qi(ha:PD X Xw a δ):PD X Xw (.UnaryOp .USub a pos) (d1 lz δ):=PE.weak (L5 Kc ha) λσ H Q ⟨F,ρ,s,w⟩=>by
 refine⟨F,ρ,s,WP.mono (WP.bind w) λv H1 ⟨F1,d,e1,q,w1⟩=>?_⟩;cases d with
 |int i=>
  have q:v= .int i:=q;subst q;exact⟨i,rfl,WP.now w1 e1.fh rfl⟩
 |_=>exact w1.elim
def BP(put:D->aO->Option aO)(δ:DE):DS:=λρ=>δ ρ>>=λd=>match put d ρ with
 |some ρ'=>aa (.nx ρ')
 |none=>af
def GK{tg:Expr}{g:TG}{put:D->aO->Option aO}(he:PD X Xw e δ)(hg:PG X tg g)(CZ:zi X.K g put)(hs:Wy [tg] e pos.line X.env=pure false:=by rfl)(hw:swappedStores [tg] e X.env=pure none:=by rfl)
 (h1:(Wq [tg] X.env).map (·.2)=[assign tg X.env]:=by rfl):nV X Xw (.Assign [tg] e pos) (BP put δ):=λu8 Zx=>PS.weak (mC he hg hs hw h1) λD σ H ⟨F,ρ,s,w⟩=>by
 refine⟨F,ρ,s.st,?_⟩;unfold BP at w
 match δ ρ,w with
 |none,w=>exact w
 |some (.ex n),w=>exact λF' H' e'=>w F' H' (s.ext.trans e')
 |some (.ok d),w=>
  intro v H' F' e' q;have w:WPS X.K Xw u8 Zx (match put d ρ with | some ρ'=>aa (.nx ρ') | none=>af) D:=w
  match hp:put d ρ,w with
  |none,w=>exact w.elim
  |some ρ',w=>exact CZ u8 Zx F' H' σ ρ ρ' d v _ (s.ext' e') q hp λσ' s'=>w σ' F' H' s'
end
section
variable{X:Cx}{Xw:Nat->Hp->Prop}{pos:Pos}
def lJ{x z:Str}(hg:Gl X x)(h:∃t,X.mg x=some (.str z t))(hz:z.length<=lim)(ma:(x==("__debug__":Str))=false:=by decide):PD X Xw (.Name x pos) (dC (.str z)):=by
 obtain⟨t,h⟩:=h;exact z8 (v:= .str z) hg h ⟨t,rfl⟩ (λ_=>⟨rfl,hz⟩) ma
def z9{x:Str}{i:Int}(hg:Gl X x)(h:∃t,X.mg x=some (.int i t))(ma:(x==("__debug__":Str))=false:=by decide):PD X Xw (.Name x pos) (dC (.int i)):=by
 obtain⟨t,h⟩:=h;exact z8 (v:= .int i) hg h ⟨t,rfl⟩ (λ_=>rfl) ma
end
def GS(sc osc:Scope):Scope:={sc with names:=sc.names.map λ(n,k)=>if (k== .free&&osc.kind== .function&&osc.names.lookup n==some .cell) then(n, .cell) else(n,k)}
def sQ(n:Nat):(S5 n).map (λk=>n - 1 - k)=(S5 n).reverse:=by
 apply UM
 ·simp
 ·intro i h1 h2;simp at h1;rw[List.getElem_reverse];simp
def wC{α:Type}(xs:Array α):(S5 xs.size).reverse.filterMap (λk=>xs[k]?)=xs.toList.reverse:=by
 rw[List.filterMap_reverse];congr 1;have:∀n,n<=xs.size->(S5 n).filterMap (λk=>xs[k]?)=xs.toList.take n:=by
  intro n;induction n with
  |zero=>intro _;rfl
  |succ n ih=>
   intro h;have e:xs[n]? =some xs[n]:=Vd (by omega);rw[VO,List.filterMap_append,ih (by omega),Y3];simp[e]
 rw[this xs.size (SW _),<-Td,Xk]
theorem vG{α β:Type}{f g:α->Option β}:∀{l:List α},(∀x∈l,f x=g x)->l.filterMap f=l.filterMap g
 |[],_=>rfl
 |a::l,h=>by rw[Vj,Vj,h a (SM ..),vG λx hx=>h x (SJ _ hx)]
def yQ(n:Nat):sliceRange ((n:Int) - 1) (-1) (-1)=(S5 n).reverse:=by
 rw[<-sQ];unfold sliceRange;have e1:¬((-1:Int)>0):=by omega
 simp only[e1,if_false];by_cases h:(n:Int) - 1> -1
 ·simp only[h,if_true];have e2:((((n:Int) - 1 - -1 - -1 - 1) / (- -1)).toNat)=n:=by
   have:(n:Int) - 1 - -1 - -1 - 1=n:=by omega
   rw[this];simp
  rw[e2];refine Ul λk hk=>?_;have:=TL.mp hk;omega
 ·simp only[h,if_false];have:n=0:=by omega
  subst this;rfl
def mG(x:Str):Str:=⟨x.cps.toList.reverse.toArray⟩
def lQ(x:Str):(mG x).length=x.length:=by
 show x.cps.toList.reverse.toArray.size=x.cps.size;simp
section
variable{prog:To}{w:World}{A:T9}{E:Value->SS->Prop}{s:SS}
def Dg(x:Str)(t u:Tok):sliceMade x t none none (some (-1,u))= .str (mG x):=by
 unfold sliceMade slicePicked;have h:¬((((some ((-1:Int),u)).map (·.1)).getD 1==1&&(UA none none (-1) x.length).length==x.length)=true):=by
  intro q;rw[Tp] at q;exact Y9 (show ((-1:Int)==1)=true from q.1) (by decide)
 have e:UA none none (-1) x.length=(S5 x.length).reverse:=by
  unfold UA;exact yQ x.length
 show (if ((((some ((-1:Int),u)).map (·.1)).getD 1==1&&(UA none none (-1) x.length).length==x.length)=true) then Made.val (.str x t) else Made.str ⟨((UA none none (-1) x.length).filterMap (x.cps[·]?)).toArray⟩)=_;rw[Y7 h,e];show Made.str ⟨((S5 x.cps.size).reverse.filterMap (x.cps[·]?)).toArray⟩=_;rw[wC];rfl
def va{sl:Addr}{u:Tok}{n:Nat}{Q:Int×Int×Nat->SS->Prop}(hs:s.heap.IsSliceOf sl .none .none (.int (-1) u))(h:Q ((n:Int) - 1,-1,n) s):
 wpAny (model prog w) A (U1 (.ref sl) (pure (n:Int))) Q E s:=by
 obtain⟨os,vM,E9,A8⟩:=id hs;unfold U1 W0;refine SH (SH (Wx vM A8 (x:= .none) rfl (SH (Wx vM A8 (x:= .none) rfl (SH (Wx vM A8 (x:= .int (-1) u) rfl (SQ ?_)))))));refine SH (slicePart_int ?_);show wpAny _ _ (if ((-1:Int)==0)=true then _ else _) _ _ s;rw[Y7 (by decide)];refine SH (Xb (SH (Xb (SH (SQ ?_)))));show wpAny _ _ (match UI none none (-1) (n:Int) with | (lo,hi)=>pure (lo,(-1:Int),TU lo hi (-1))) _ _ s;have e1:UI none none (-1) (n:Int)=((n:Int) - 1,-1):=rfl;have e2:TU ((n:Int) - 1) (-1) (-1)=n:=by
  unfold TU;have e1:¬((-1:Int)>0):=by omega
  simp only[e1,if_false];have e3:(- (-1:Int))=1:=by omega
  rw[e3,Int.ediv_one];split<;>omega
 rw[e1];show wpAny _ _ (pure ((n:Int) - 1,(-1:Int),TU ((n:Int) - 1) (-1) (-1))) _ _ s;rw[e2];exact SQ h
def lb{t sl:Addr}{items:Array Value}{u:Tok}{Q:Value->SS->Prop}(ht:IsTup s.heap t items)(hs:s.heap.IsSliceOf sl .none .none (.int (-1) u))
 (h:Q (.ref s.heap.objs.size) {s with heap:=s.heap.push {cls:= .type "tuple",data:= .seq items.toList.reverse.toArray} })(hsz:items.size<=S9):wpAny (model prog w) A (WV (.ref t) (.ref sl)) Q E s:=by
 have hr:sizeOk (.seq items.toList.reverse.toArray):=by
  show items.toList.reverse.toArray.size<=S9;simpa using hsz
 obtain⟨os,vM,E9,A8⟩:=id hs;have K4:s.TypeIs (.ref sl) "slice":=⟨os,vM,E9⟩
 unfold WV
 try with_reducible refine Vg ?_
 first | refine SH (SQ ?_) | skip
 refine SH (XN ht.typeIs (by decide) ?_);refine SH (U4 (name:=S3 "__getitem__") ht.typeIs T5
  (UP T5 ht.typeIs Xe ?_ (Xs _ _)))
 show wpAny _ _ (Vy (.ref t)>>=_) _ _ s;refine SH (YJ ht ?_);refine SH (WR K4 ?_);rw[Y6 (by decide)];refine SH (va hs ?_);have qZ:¬((((items.size:Int) - 1)==0&&(-1:Int)==1&&items.size==items.size)=true):=by
  intro q;rw[Tp,Tp] at q;exact Y9 q.1.2 (by decide)
 show wpAny _ _ (if (((items.size:Int) - 1)==0&&(-1:Int)==1&&items.size==items.size)=true then _ else _) _ _ s;rw[Y7 qZ];have e:((S5 items.size).filterMap λ(m:Nat)=>items[(((items.size:Int) - 1)+(m:Int)*(-1)).toNat]?).toArray=items.toList.reverse.toArray:=by
  rw[<-wC,<-sQ,YW];congr 1;refine vG λk hk=>?_;have:=TL.mp hk;have q:(((items.size:Int) - 1)+(k:Int)*(-1)).toNat=items.size - 1 - k:=by omega
  rw[q];rfl
 rw[e]
 first
  |exact SH (m:=T2 _) (T3 (SQ ⟨_,rfl,SQ h⟩) hr)
  |exact SH (m:=T2 _) (T3 (SH (SQ (SQ ⟨_,rfl,SQ h⟩))) hr)
  |exact SH (SH (m:=T2 _) (T3 (SQ (SQ ⟨_,rfl,SQ h⟩)) hr))
  |exact SH (SH (m:=T2 _) (T3 (SQ ⟨_,rfl,SQ h⟩) hr))
end
section
variable{X:Cx}{Xw:Nat->Hp->Prop}{e KR:Expr}{te ts:TE}{δ δs:DE}{pos p2:Pos}
def Pa(X:Cx)(r:V->Hp->VK->Prop):Prop:=
 ∀(f8:List (Addr×Obj)) (s:SS) (σ:St) (H:Hp) (x:V) (v:Value) (u:Tok) (sl:Addr) (Q:VK),Inv X f8 σ H s->RelV x v->s.heap.IsSliceOf sl .none .none (.int (-1) u)->r x H Q->
  ∃T id,typeLookup (.type T) "__getitem__"=pure (some (.builtin id))/\s.TypeIs v T/\wpAny (model X.prog X.w) X.A (WV v (.ref sl)) (EP X f8 σ Q) X.xe s
def JJ{r:V->Hp->VK->Prop}(hr:Pa X r)(he:PE X e te)(hs:PE X KR ts):PE X (.Subscript e (.Slice none none (some KR) p2) pos) (λσ H Q=>te σ H λx H1=>ts σ H1 λy H2=>y= .int (-1)/\r x H2 Q):=by
 intro f8 s σ H Q I h _;refine Subscript_ (bY (he f8 s σ H _ I h) λv s1 ⟨x,H1,I1,r1,q1⟩=>?_);refine wpAny_Slice ?_;rw[YN];refine SQ (SQ ?_);rw[evalPart_some];refine bY (hs f8 s1 σ H1 _ I1 q1) λvs s3 ⟨y,H3,I3,ry,q3⟩=>?_;obtain⟨rfl,q3⟩:=q3;obtain⟨u,rfl⟩:=ry;have I4:Inv X f8 σ H3 {s3 with heap:=s3.heap.push {cls:= .type "slice",data:= .fields #[.none, .none, .int (-1) u]} }:=I3.kept (t':=s3.toks) λb ob q=>SR _ q;obtain⟨T,id,hT,ht,hg⟩:=hr f8 {s3 with heap:=s3.heap.push {cls:= .type "slice",data:= .fields #[.none, .none, .int (-1) u]} } σ H3 x v u s3.heap.objs.size Q I4 r1 (Xz ..) q3;show wpAny (model X.prog X.w) X.A (YK e (.Slice none none (some KR) p2) v (.ref s3.heap.objs.size)) (EP X f8 σ Q) X.xe {s3 with heap:=s3.heap.push {cls:= .type "slice",data:= .fields #[.none, .none, .int (-1) u]} };exact tail_any (ops:=[v, .ref s3.heap.objs.size]) ht hT hg (by with_unfolding_all rfl)
def Oz(K:SN):V->Hp->VK->Prop:=λx H Q=>(∃z:Str,x= .str z/\z.length<=lim/\Q (.str (mG z)) H)\/∃a xs,x= .ref a/\SqT K H a xs/\∀p,H p=none->Q (.ref p) (upd H p (.tup xs.reverse))
def JZ:Pa X (Oz X.K):=by
 intro f8 s σ H x v u sl Q I rx hs h;rcases h with⟨z,rfl,hl,q⟩ | ⟨a,xs,rfl,hx,q⟩
 ·obtain⟨t,rfl⟩:=rx;refine⟨"str",_,PySem.F.slot_str_getitem.lookup,VE _ _ _,U3 (l:=none) (u:=none) (st:=some (-1,u)) hs rfl ?_⟩;rw[Dg];exact⟨by rw[lQ];have:=dS;omega,⟨.str _,H,I.tok _,⟨_,rfl⟩,q⟩⟩
 ·cases rx;obtain⟨aM,r,ht,hz⟩:=I.tuple hx;have M2:=r.length;refine⟨"tuple",_,PyProof.Rows.slot_tuple_getitem.lookup,ht.typeIs,lb ht hs ?_ (by rw[SV];omega)⟩;refine⟨.ref s.heap.objs.size,_,I.laid (t':=s.toks) (o:= .tup xs.reverse) (λb ob q=>SR _ q) (SW _) ?_,rfl,q _ (I.hok.fresh (SW _))⟩;exact⟨by rw[WO];exact hz,_,r.reverse,⟨_,Ta _ rfl,rfl,by simp⟩⟩
def Mh:D->M D
 | .str x=>aa (.str (mG x))
 | .tup ds=>aa (.tup ds.reverse)
 |_=>af
def AZ(a st:DE):DE:=λρ=>a ρ>>=λd=>st ρ>>=λk=>match k with
 | .int i=>if i= -1 then Mh d else af
 |_=>af
def DW(he:PD X Xw e δ)(hs:PD X Xw KR δs):PD X Xw (.Subscript e (.Slice none none (some KR) p2) pos) (AZ δ δs):=
 PE.weak (JJ JZ he hs) λσ H Q ⟨F,ρ,s,w⟩=>by
  refine⟨F,ρ,s,WP.mono (WP.bind w) λv H1 ⟨F1,d,e1,q1,w1⟩=>?_⟩;refine⟨F1,ρ,s.ext e1,WP.mono (WP.bind w1) λy H2 ⟨F2,k,e2,q2,w2⟩=>?_⟩;have q3:=Den.mono e2.ff q1;cases k with
  |int i=>
   have w2:WP X.K Xw F2 H2 (if i= -1 then Mh d else af) Q:=w2;split at w2
   ·rename_i hi;subst hi;refine⟨q2,?_⟩;cases d with
    |str x=>exact .inl ⟨x,q3.1,q3.2,WP.now w2 e2.fh ⟨rfl,by rw[lQ];exact q3.2⟩⟩
    |tup ds=>
     obtain⟨a,vs,rfl,h2,h3,h4⟩:=q3;exact .inr ⟨a,vs,rfl,SqT.of (e2.fh _ _ h2),λp hp=>WP.fin w2 (Ext.lay e2.fh hp) ⟨p,_,rfl,aE,DenL.mono (Ext.lay e2.fh hp).ff h3.reverse,by rw[WO];exact h4⟩⟩
    |_=>exact w2.elim
   ·exact w2.elim
  |_=>exact w2.elim
variable{o:Expr}{δo:DE}{δl:DA}{v4 aU:Pos}
def tG(x y:Str):Nat:=(T6 x y 0 x.length (x.length+1)).length
def kY:D->List D->M D
 | .str x,[.str y]=>aa (.int (tG x y))
 |_,_=>af
def Gb:Ke X "str.count" (λx vs H Q=>∃y z:Str,x= .str y/\vs=[.str z]/\Q (.int (tG y z)) H):=by
 intro f8 s σ H x vs v us Q I rx rv h;obtain⟨y,z,rfl,rfl,q⟩:=h;obtain⟨t,rfl⟩:=rx;obtain⟨u,rfl,r1⟩:=rv.one;obtain⟨t2,rfl⟩:=r1;exact call_gives F.slot_str_count (VE _ _ _) F.entry_str_count (F.args_str_count_2 _ _) (gives_str_count y z t t2) ⟨.int (tG y z),H,I.tok _,⟨_,rfl⟩,q⟩
def uB(ho:PD X Xw o δo)(ha:kU X Xw [e] δl)(dw:Ug o "count" X.env (eval o X.env)=eval o X.env:=by rfl)
 (gk:((Uv aU (SX [e] X.env)).all (λx=>!x.1)&&(UQ aU (Ub [] X.env)).all (λx=>x.1.isSome)&&decide ([e].length+([]:List UO).length+(if ([]:List UO).isEmpty then 0 else 1)<30))=true:=by rfl)
 (dz:(v4.endLine==aU.line)=true:=by rfl)(lY:SX [e] X.env=[(false,eval e X.env)]:=by rfl):PD X Xw (.Call (.Attribute o "count" v4) [e] [] aU) (dM gm kY δo δl):=
 z7 UX PySem.F.slot_str_count PySem.F.type_str_count Gb tW (λXw F H x vs d ds Q s hx hv w=>by
  unfold kY at w;split at w
  ·rename_i y z;obtain⟨v,rfl,h1⟩:=hv.one;exact⟨y,z,hx.1,by rw[h1.1],WP.now w s rfl⟩
  ·exact w.elim) ho ha dw gk dz lY rfl
end
def IsTupRev(h:Heap)(it t:Addr)(i:Int):Prop:=∃o,h.get? it=some o/\o.cls= .type "reversed"/\o.data= .fields #[.ref t,X0 i]
def IsTupRev.at{h h':Heap}{it t:Addr}{i:Int}(x:IsTupRev h it t i)(e:∀o,h.get? it=some o->h'.get? it=some o):IsTupRev h' it t i:=let ⟨o,ho,r⟩:=x;⟨o,e _ ho,r⟩
section
variable{e:Expr}
end
def C_:D->Option Key
 | .int i=>some (.inl i)
 | .str x=>some (.inr x)
 |_=>none
def FZ:List D->Option (List Key)
 |[]=>some []
 |d::ds=>match C_ d,FZ ds with
  |some k,some ks=>some (k::ks)
  |_,_=>none
def nZ:D->Option (List Key)
 | .tup ds=>FZ ds
 |_=>none
def pF{K:SN}{F:Hp}(e:C_ d=some k)(h:Den K F d v):v=kV k:=by
 cases d<;>first | cases e | skip
 ·exact h
 ·exact h.1
theorem lg{K:SN}{F:Hp}:∀{ds:List D}{vs:List V}{ks:List Key},FZ ds=some ks->DenL K F ds vs->vs=ks.map kV
 |[],_,_,e,h=>by cases e;exact h
 |d::ds,_,_,e,⟨v,r,h1,h2,h3⟩=>by
  unfold FZ at e;split at e
  ·rename_i k ks e1 e2;cases e;subst h1;rw[SU,pF e1 h2,lg e2 h3]
  ·cases e
section
variable{κ:Type}[DecidableEq κ]
def gZ:List κ->List D->κ->Option D
 |k'::ks,d::ds,k=>if k'=k then some d else gZ ks ds k
 |_,_,_=>none
def oi:List κ->List D->κ->D->List D
 |k'::ks,d'::ds,k,d=>(if k'=k then d else d')::oi ks ds k d
 |_,_,_,_=>[]
theorem lT{K:SN}{F:Hp}:∀{ks:List κ}{ds:List D}{vs:List V}(k:κ),DenL K F ds vs->ks.length=ds.length->
 (match gZ ks ds k with | some d=>∃v,lU (ks.zip vs) k=some v/\Den K F d v | none=>lU (ks.zip vs) k=none)
 |[],[],_,_,_,_=>rfl
 |k'::ks,d::ds,_,k,⟨v,r,h1,h2,h3⟩,hl=>by
  subst h1;unfold gZ;rw[VX];by_cases e:k'=k
  ·rw[Y6 e,lW e];exact⟨v,rfl,h2⟩
  ·rw[Y7 e,lV e];exact lT k h3 (by simpa using hl)
 |[],_::_,_,_,_,hl=>by simp at hl
 |_::_,[],_,_,_,hl=>by simp at hl
def jJ{K:SN}{F:Hp}(k:κ)(h:DenL K F ds vs)(hl:ks.length=ds.length):(lU (ks.zip vs) k).isSome=(gZ ks ds k).isSome:=by
 have:=lT k h hl;split at this
 ·rename_i d e;obtain⟨v,e1,_⟩:=this;rw[e1,e];rfl
 ·rename_i e;rw[this,e];rfl
theorem wO{K:SN}{F:Hp}(hd:Den K F d v):∀{ks:List κ}{ds:List D}{vs:List V}(k:κ),DenL K F ds vs->ks.length=ds.length->
 ∃ws,(ks.zip vs).map (λkv=>if kv.1=k then(kv.1,v) else kv)=ks.zip ws/\DenL K F (oi ks ds k d) ws
 |[],[],_,_,h,_=>⟨[],rfl,rfl⟩
 |k'::ks,d'::ds,_,k,⟨v',r,h1,h2,h3⟩,hl=>by
  subst h1;obtain⟨ws,e1,e2⟩:=wO hd k h3 (by simpa using hl);by_cases e:k'=k
  ·refine⟨v::ws,?_,?_⟩
   ·rw[VX,SU,e1,Y6 e];rfl
   ·unfold oi;rw[Y6 e];exact .cons hd e2
  ·refine⟨v'::ws,?_,?_⟩
   ·rw[VX,SU,e1,Y7 e];rfl
   ·unfold oi;rw[Y7 e];exact .cons h2 e2
 |[],_::_,_,_,_,hl=>by simp at hl
 |_::_,[],_,_,_,hl=>by simp at hl
theorem jo:∀(ks:List κ) (ds:List D) (k:κ) (d:D),ks.length=ds.length->(oi ks ds k d).length=ds.length
 |[],[],_,_,_=>rfl
 |_::ks,_::ds,k,d,h=>by unfold oi;rw[SO,SO,jo ks ds k d (by simpa using h)]
 |[],_::_,_,_,h=>by simp at h
 |_::_,[],_,_,h=>by simp at h
def eh(ks:List κ)(ds:List D)(k:κ):List κ:=if (gZ ks ds k).isSome then ks else ks++[k]
def c9(ks:List κ)(ds:List D)(k:κ)(d:D):List D:=if (gZ ks ds k).isSome then oi ks ds k d else ds++[d]
def uF{K:SN}(hd:Den K F d v)(k:κ)(h:DenL K F ds vs)(hl:ks.length=ds.length):
 ∃ws,putK (ks.zip vs) k v=(eh ks ds k).zip ws/\DenL K F (c9 ks ds k d) ws/\(eh ks ds k).length=(c9 ks ds k d).length:=by
 have hs:=jJ k h hl;unfold putK eh c9;have ha:((ks.zip vs).any λkv=>decide (kv.1=k))=(lU (ks.zip vs) k).isSome:=qJ ..;rw[ha,hs];cases e:(gZ ks ds k).isSome with
 |true=>
  rw[Y6 rfl,Y6 rfl,Y6 rfl];obtain⟨ws,e1,e2⟩:=wO hd k h hl;exact⟨ws,e1,e2,by rw[jo ks ds k d hl];exact hl⟩
 |false=>
  rw[Y7 Te,Y7 Te,Y7 Te];refine⟨vs++[v],?_,h.append (.cons hd .nil),by simp[hl]⟩;rw[List.zip_append (by rw[hl];exact h.len)];rfl
end
def AF{κ:Type}{K:SN}{ks:List κ}(h:DenL K F ds vs)(hl:ks.length=ds.length):(ks.zip vs).length=ds.length:=by
 rw[XG,hl,<-h.len];omega
def qB(ρ:aO)(i:Nat):Option D:=match ρ[i]? with
 |some (some (.fz d))=>some d
 |some (some (.ow c))=>some c.d
 |_=>none
def EG{K:SN}(s:StE K F H σ ρ)(e:qB ρ i=some (.dct ks ds)):
 ∃a vs,σ[i]? =some (some (.ref a))/\Rd H a (.dT (ks.zip vs))/\DenL K F ds vs/\ks.length=ds.length/\ds.length<=lim:=by
 unfold qB at e;split at e
 ·rename_i d e1;cases e;obtain⟨v,h1,a,ob,vs,rfl,h2,h3,h4,h5⟩:=s.den i _ e1;exact⟨a,vs,h1, .inr ⟨ob,s.fh _ _ h2⟩,h3,h4,h5⟩
 ·rename_i c e1;cases c<;>cases e
  obtain⟨v,h1,a,o,rfl,h2,_,vs,rfl,h3,h4,h5⟩:=s.den i _ e1;exact⟨a,vs,h1, .inl h2,h3,h4,h5⟩
 ·cases e
def EF{K:SN}(s:StE K F H σ ρ)(e:qB ρ i=some (.dci ks ds)):
 ∃a vs,σ[i]? =some (some (.ref a))/\Rd H a (.dK (ks.zip vs))/\DenL K F ds vs/\ks.length=ds.length/\ds.length<=lim:=by
 unfold qB at e;split at e
 ·rename_i d e1;cases e;obtain⟨v,h1,a,ob,vs,rfl,h2,h3,h4,h5⟩:=s.den i _ e1;exact⟨a,vs,h1, .inr ⟨ob,s.fh _ _ h2⟩,h3,h4,h5⟩
 ·rename_i c e1;cases c<;>cases e
  obtain⟨v,h1,a,o,rfl,h2,_,vs,rfl,h3,h4,h5⟩:=s.den i _ e1;exact⟨a,vs,h1, .inl h2,h3,h4,h5⟩
 ·cases e
def Hv:D->D->Option (Option D)
 | .dct ks ds,k=>(nZ k).map (gZ ks ds)
 | .dci ks ds,k=>(C_ k).map (gZ ks ds)
 |_,_=>none
def zo{K:SN}(s:StE K F H σ ρ)(hi:qB ρ i=some d)(hk:Den K F k y)(e:Hv d k=some o):
 ∃a ov,σ[i]? =some (some (.ref a))/\xB H a y ov/\ov.isSome=o.isSome/\∀d',o=some d'->∃v,ov=some v/\Den K F d' v:=by
 unfold Hv at e;split at e
 ·rename_i ks ds;cases q:nZ k with
  |none=>rw[q] at e;cases e
  |some kk=>
   rw[q] at e;cases e;obtain⟨a,vs,h1,h2,h3,h4,h5⟩:=EG s hi;unfold nZ at q;split at q
   ·rename_i es;obtain⟨b,ws,rfl,k2,k3,_⟩:=hk;have e1:=lg q k3;subst e1;refine⟨a,_,h1, .inr ⟨_,kk,b,h2,rfl,s.fh _ _ k2,rfl⟩,jJ kk h3 h4,λd' u6=>?_⟩;have:=lT kk h3 h4;rw[u6] at this;exact this
   ·cases q
 ·rename_i ks ds;cases q:C_ k with
  |none=>rw[q] at e;cases e
  |some kk=>
   rw[q] at e;cases e;obtain⟨a,vs,h1,h2,h3,h4,h5⟩:=EF s hi;have e1:=pF q hk;subst e1;refine⟨a,_,h1, .inl ⟨_,kk,h2,rfl,rfl⟩,jJ kk h3 h4,λd' u6=>?_⟩;have:=lT kk h3 h4;rw[u6] at this;exact this
 ·cases e
section
variable{X:Cx}{Xw:Nat->Hp->Prop}{a b:Expr}{δa δb:DE}{pos:Pos}
def LW(ha:PD X Xw a δa)(hb:PD X Xw b δb):PD X Xw (.Compare a [.Gt] [b] pos) (d2 Kj δa δb):=uA HZ (wu λ_ _ _=>rfl) ha hb
end
section
variable{X:Cx}{Xw:Nat->Hp->Prop}{a e:Expr}{δ δk δv:DE}{pos p pos' uD:Pos}{x:Str}{i:Nat}
def KI(neg:Bool)(i:Nat)(δ:DE):DE:=λρ=>δ ρ>>=λk=>match qB ρ i with
 |some d=>match Hv d k with
  |some o=>aa (.bl (if neg then !o.isSome else o.isSome))
  |none=>af
 |none=>af
def Jb{neg:Bool}{σ:St}(h:tD X.K Xw (KI neg i δ) σ H Q):(λσ H Q=>tD X.K Xw δ σ H λy H1=>gY i σ H1 λx H2=>∃a o,x= .ref a/\xB H2 a y o/\Q (.bl (if neg then !o.isSome else o.isSome)) H2) σ H Q:=by
 obtain⟨F,ρ,s,w⟩:=h;refine⟨F,ρ,s,WP.mono (WP.bind w) λy H1 ⟨F1,k,e1,q1,w1⟩=>?_⟩;have s1:=s.ext e1;cases hi:qB ρ i with
 |none=>rw[hi] at w1;exact w1.elim
 |some d=>
  rw[hi] at w1;have w1:WP X.K Xw F1 H1 (match Hv d k with | some o=>aa (.bl (if neg then !o.isSome else o.isSome)) | none=>af) Q:=w1;cases he:Hv d k with
  |none=>rw[he] at w1;exact w1.elim
  |some o=>
   rw[he] at w1;obtain⟨a,ov,h1,h2,h3,_⟩:=zo s1 hi q1 he;refine⟨.ref a,h1,a,ov,rfl,h2,?_⟩;rw[h3];exact WP.now w1 e1.fh rfl
def Ov(hu:X.A.units+64<cLine)(ha:PD X Xw a δ)(hv:PE X (.Name x p) (gY i))(hm:T7 .In (.Name x p)=false:=by rfl):PD X Xw (.Compare a [.In] [.Name x p] pos) (KI false i δ):=
 PE.weak (JE (Jy (by omega) ha hv) hm) λσ H Q h=>Jb (neg:=false) h
def EB(i:Nat):DS:=λρ=>aa (.nx (ρ.set i (some (.ow (.dct [] [])))))
def wF(hN:X.N.Nodup)(hi:X.N[i]? =some x)(hx:Loc X.env.scope x)(hf:X.fn x=true\/X.env.scope.names.lookup x=some .local:=by first | exact .inl rfl | exact .inr rfl):
 nV X Xw (.Assign [.Name x pos'] (.Dict [] [] uD) pos) (EB i):=λu8 Zx=>PS.weak (mC D4 (bH hN hi hx hf) rfl) λD σ H ⟨F,ρ,s,w⟩=>λq hq=>
 w _ F _ (s.setNew (c₀:= .dct [] []) hq ⟨[],rfl,rfl,rfl,TQ _⟩)
def qt:C->D->D->Option C
 | .dct ks ds,k,d=>match nZ k with
   |some kk=>if ds.length<lim then some (.dct (eh ks ds kk) (c9 ks ds kk d)) else none
   |none=>none
 | .dci ks ds,k,d=>match C_ k with
   |some kk=>if ds.length<lim then some (.dci (eh ks ds kk) (c9 ks ds kk d)) else none
   |none=>none
 |_,_,_=>none
def BC(ρ:aO)(i:Nat):Option C:=match ρ[i]? with
 |some (some (.ow c))=>some c
 |_=>none
def sA{ρ:aO}{i:Nat}(h:BC ρ i=some c):ρ[i]? =some (some (.ow c)):=by
 unfold BC at h;split at h
 ·rename_i c' e;cases h;exact e
 ·cases h
def wR(i:Nat)(δk δv:DE):DS:=λρ=>match BC ρ i with
 |some c=>δv ρ>>=λv=>δk ρ>>=λk=>match qt c k v with
  |some c'=>aa (.nx (ρ.set i (some (.ow c'))))
  |none=>af
 |none=>af
def sI{κ:Type}[DecidableEq κ]{ks:List κ}{k:κ}(hl:ks.length=ds.length)(h:ds.length<lim):(c9 ks ds k d).length<=lim:=by
 unfold c9;split
 ·rw[jo ks ds k d hl];omega
 ·rw[S1];exact h
def Eh{K:SN}{F H:Hp}(hs:Same F H)(hb:H b=some o)(hc:DenC K F c o)(hk:Den K F k y)(hd:Den K F d v)(e:qt c k d=some c'):∃o',DPut H b y v (upd H b o')/\DenC K F c' o':=by
 have Lg:=dS;unfold qt at e;split at e
 ·rename_i ks ds k d;obtain⟨vs,rfl,h3,h4,h5⟩:=hc;split at e
  ·rename_i kk q;split at e
   ·rename_i ki;cases e;unfold nZ at q;split at q
    ·rename_i es;obtain⟨b2,ws,rfl,k2,k3,_⟩:=hk;have e1:=lg q k3;subst e1;obtain⟨us,e2,e3,e4⟩:=uF hd kk h3 h4;refine⟨_,DPut.t hb (hs _ _ k2) (by rw[AF h3 h4];omega),us,?_,e3,e4,sI h4 ki⟩;rw[e2]
    ·cases q
   ·cases e
  ·cases e
 ·rename_i ks ds k d;obtain⟨vs,rfl,h3,h4,h5⟩:=hc;split at e
  ·rename_i kk q;split at e
   ·rename_i ki;cases e;have e1:=pF q hk;subst e1;obtain⟨us,e2,e3,e4⟩:=uF hd kk h3 h4;refine⟨_,DPut.k hb (by rw[AF h3 h4];omega),us,?_,e3,e4,sI h4 ki⟩;rw[e2]
   ·cases e
  ·cases e
 ·cases e
def wG(hu:X.A.units+64<cLine)(hv:PE X (.Name x p) (gY i))(hk:PD X Xw a δk)(he:PD X Xw e δv)(hs:Vv e (some (.Subscript (.Name x p) a pos')) pos.line X.env=pure false:=by rfl):
 nV X Xw (.Assign [.Subscript (.Name x p) a pos'] e pos) (wR i δk δv):=λu8 Zx=>PS.weak (GJ (by omega) hv hk he hs) λD σ H ⟨F,ρ,s,w⟩=>by
 unfold wR at w;cases ho:BC ρ i with
 |none=>rw[ho] at w;exact w.elim
 |some c=>
  rw[ho] at w;have hi:=sA ho;have w:WPS X.K Xw u8 Zx (δv ρ>>=λv=>δk ρ>>=λk=>match qt c k v with | some c'=>aa (.nx (ρ.set i (some (.ow c')))) | none=>af) D:=w;refine⟨F,ρ,s.st,?_⟩;rcases(δv ρ).cs with q | ⟨n,q⟩ | ⟨dv,q⟩
  ·rw[q] at w;exact w.elim
  ·rw[q] at w⊢;exact λF' H' e'=>w F' H' (s.ext.trans e')
  ·rw[q] at w⊢;intro v H1 F1 e1 hq;have s1:=s.ext' e1;obtain⟨u,h1,b,o,rfl,h2,h3,h4⟩:=s1.st.den i _ hi;have w:WPS X.K Xw u8 Zx (δk ρ>>=λk=>match qt c k dv with | some c'=>aa (.nx (ρ.set i (some (.ow c')))) | none=>af) D:=w;refine⟨.ref b,h1,F1,ρ,s1.st,?_⟩;rcases(δk ρ).cs with q2 | ⟨n,q2⟩ | ⟨dk,q2⟩
   ·rw[q2] at w;exact w.elim
   ·rw[q2] at w⊢;exact λF' H' e'=>w F' H' (s1.ext.trans e')
   ·rw[q2] at w⊢;intro y H2 F2 e2 hy;have w:WPS X.K Xw u8 Zx (match qt c dk dv with | some c'=>aa (.nx (ρ.set i (some (.ow c')))) | none=>af) D:=w;cases hp:qt c dk dv with
    |none=>rw[hp] at w;exact w.elim
    |some c'=>
     rw[hp] at w;have s2:=s1.ext' e2;obtain⟨u2,k1,b2,o2,QR,k2,k3,k4⟩:=s2.st.den i _ hi;rw[h1] at k1;cases k1;cases QR;obtain⟨o',g,hc⟩:=Eh s2.st.fh k2 k4 hy (Den.mono e2.ff hq) hp;exact⟨b,_,rfl,g,w σ F2 _ (s2.chg hi h1 hc)⟩
end
def eY(c:DT)(body:DS):Nat->DS
 |0,_=>af
 |n+1,ρ=>c ρ>>=λb=>if b then body ρ>>=λo=>match o with | .nx ρ'=>eY c body n ρ' | .rt d=>aa (.rt d) else aa (.nx ρ)
def ED(c:DT)(body:DS):DS:=λρ=>eY c body lim ρ
section
variable{X:Cx}{Xw:Nat->Hp->Prop}{τ:DS}{tc:DT}{pos:Pos}
def BL(hp:Yi (model X.prog X.w) X.A X.env X.xe)(hc:qT X Xw c tc)(hb:PSDs X Xw body τ):nV X Xw (.While c body [] pos) (ED tc τ):=λu8 Zx=>PS.weak (Eb hp hc hb.ex) λD σ H ⟨F,ρ,s,w⟩=>by
 refine⟨λm σ H=>∃F ρ,StOk X.K u8 Zx F H σ ρ/\WPS X.K Xw u8 Zx (eY tc τ m ρ) D,⟨lim,F,ρ,s,w⟩,?_⟩;rintro m σ H ⟨F,ρ,s,w⟩;cases m with
 |zero=>exact w.elim
 |succ m=>
  refine⟨F,ρ,s.st,?_⟩;unfold eY at w
  match tc ρ,w with
  |none,w=>exact w
  |some (.ex n),w=>exact λF' H' e'=>w F' H' (s.ext.trans e')
  |some (.ok false),w=>exact λH' F' e'=>w σ F' H' (s.ext' e')
  |some (.ok true),w=>
   intro H' F' e';have w:WPS X.K Xw u8 Zx (τ ρ>>=λo=>match o with | .nx ρ'=>eY tc τ m ρ' | .rt d=>aa (.rt d)) D:=w;refine⟨λσ' H'=>∃F' ρ',StOk X.K u8 Zx F' H' σ' ρ'/\WPS X.K Xw u8 Zx (eY tc τ m ρ') D,λσ' H' h=>⟨m,Wm m,h⟩,u8,Zx,F',ρ,s.ext' e',?_⟩
   match τ ρ,w with
   |none,w=>exact w
   |some (.ok (.nx ρ')),w=>exact λσ' F' H' s'=>⟨F',ρ',s',w⟩
   |some (.ok (.rt d)),w=>exact w
   |some (.ex n),w=>exact w
end
end L3
namespace L3
open PySem PySem.W PyProof.Rows
def dB(b:Nat->Nat->Bool):KasT α->α
 | .ret a=>a
 | .ask i j k=>dB b (k (b i j))
theorem fw(b:Nat->Nat->Bool)(f:α->KasT β):∀t:KasT α,dB b (t.bind f)=dB b (f (dB b t))
 | .ret _=>rfl
 | .ask i j k=>fw b f (k (b i j))
structure Lt (n:Nat) (b:Nat->Nat->Bool):Prop where
 tr:∀i j k,b i j=true->b j k=true->b i k=true
 Sh:∀i j,b i j=true->b j i=false
 tot:∀i j,i<n->j<n->i≠j->b i j=true\/b j i=true
abbrev at'(p:Array Nat)(i:Nat):Nat:=p.getD i 0
def Ri(b:Nat->Nat->Bool)(p:Array Nat)(k:Nat):Prop:=∀i j,i<j->j<k->b (at' p i) (at' p j)=true
def Fa(b:Nat->Nat->Bool)(p:Array Nat)(k:Nat):Prop:=∀i j,i<j->j<k->b (at' p j) (at' p i)=true
structure PN (n:Nat) (p:Array Nat):Prop where
 sz:p.size=n
 lt:∀i,i<n->at' p i<n
 inj:∀i j,i<n->j<n->at' p i=at' p j->i=j
section
variable{n:Nat}{b:Nat->Nat->Bool}(L:Lt n b)
include L
theorem Ri.more(h:Ri b p k)(h1:1<=k)(e:b (at' p (k - 1)) (at' p k)=true):Ri b p (k+1):=λi j zM hj=>by
 by_cases hk:j<k
 ·exact h i j zM hk
 ·have:j=k:=by omega
  subst this;by_cases hi:i=j - 1
  ·subst hi;exact e
  ·exact L.tr _ _ _ (h i (j - 1) (by omega) (by omega)) e
theorem Fa.more(h:Fa b p k)(h1:1<=k)(e:b (at' p k) (at' p (k - 1))=true):Fa b p (k+1):=λi j zM hj=>by
 by_cases hk:j<k
 ·exact h i j zM hk
 ·have:j=k:=by omega
  subst this;by_cases hi:i=j - 1
  ·subst hi;exact e
  ·exact L.tr _ _ _ e (h i (j - 1) (by omega) (by omega))
theorem tm(P:PN n p):∀(f k:Nat),1<=k->k+f<=n->Ri b p k->k<=dB b (kas_asc p f k)/\dB b (kas_asc p f k)<=k+f/\Ri b p (dB b (kas_asc p f k))/\(dB b (kas_asc p f k)<k+f->b (at' p (dB b (kas_asc p f k))) (at' p (dB b (kas_asc p f k) - 1))=true)
 |0,k,h1,hn,h=>⟨SW _,SW _,h,λz=>Y9 z (Us _)⟩
 |f+1,k,h1,hn,h=>by
  have e:dB b (kas_asc p (f+1) k)=dB b (if b (at' p k) (at' p (k - 1))=true then KasT.ret k else kas_asc p f (k+1)):=rfl;rw[e];by_cases hb:b (at' p k) (at' p (k - 1))=true
  ·rw[Y6 hb];exact⟨SW _,by show k<=_;omega,h,λ_=>hb⟩
  ·rw[Y7 hb];have hr:b (at' p (k - 1)) (at' p k)=true:=by
    rcases L.tot (at' p (k - 1)) (at' p k) (P.lt _ (by omega)) (P.lt _ (by omega)) (λz=>by have:=P.inj _ _ (by omega) (by omega) z;omega) with q | q
    ·exact q
    ·exact Y9 q hb
   obtain⟨a1,a2,a3,a4⟩:=tm P f (k+1) (by omega) (by omega) (Ri.more L h h1 hr);exact⟨by omega,by omega,a3,λz=>a4 (by omega)⟩
theorem vz(P:PN n p):∀(f k:Nat),1<=k->k+f<=n->Fa b p k->∃m,dB b (kas_desc f p k 0)=(p,m,0)/\k<=m/\m<=k+f/\Fa b p m
 |0,k,h1,hn,h=>⟨k,rfl,SW _,SW _,h⟩
 |f+1,k,h1,hn,h=>by
  have e:dB b (kas_desc (f+1) p k 0)=dB b (if b (at' p k) (at' p (k - 1))=true then(if 0>0 then kas_desc f (kas_rev p (k - (0+1)) k) (k+1) 0 else kas_desc f p (k+1) 0)
   else .ask (p.getD (k - 1) 0) (p.getD k 0) λd=>if d=true then .ret (p,k,0) else kas_desc f p (k+1) (0+1)):=rfl
  rw[e];by_cases hb:b (at' p k) (at' p (k - 1))=true
  ·rw[Y6 hb,Y7 (by omega)];obtain⟨m,e1,e2,e3,e4⟩:=vz P f (k+1) (by omega) (by omega) (Fa.more L h h1 hb);exact⟨m,e1,by omega,by omega,e4⟩
  ·rw[Y7 hb];have hr:b (at' p (k - 1)) (at' p k)=true:=by
    rcases L.tot (at' p (k - 1)) (at' p k) (P.lt _ (by omega)) (P.lt _ (by omega)) (λz=>by have:=P.inj _ _ (by omega) (by omega) z;omega) with q | q
    ·exact q
    ·exact Y9 q hb
   refine⟨k,?_,SW _,by omega,h⟩;show dB b (if b (at' p (k - 1)) (at' p k)=true then KasT.ret (p,k,0) else kas_desc f p (k+1) (0+1))=_;rw[Y6 hr];rfl
end
def eU(p:Array Nat)(k:Nat):at' p k=(p[k]?).getD 0:=by
 unfold at';rw[Array.getD_eq_getD_getElem?]
def Es(hm:m<=p.size)(k:Nat):at' (kas_rev p 0 m) k=if k<m then at' p (m - 1 - k) else at' p k:=by
 have e:=getElem?_mirror_all (i:=0) hm k;rw[eU];show (((mirror p 0 m ((m - 0) / 2))[k]?).getD 0)=_;rw[e];by_cases h:k<m
 ·rw[Y6 ⟨TQ _,h⟩,Y6 h,eU,WC]
 ·rw[Y7 (λz=>h z.2),Y7 h,eU]
def Cd(hk:k<p.size)(hl:l<=k)(j:Nat):at' (bubble p k (k - l)) j=if j=l then at' p k else if l<j/\j<=k then at' p (j - 1) else at' p j:=by
 have e:=getElem?_bubble hk (k - l) (by omega) j;have e2:k - (k - l)=l:=by omega
 rw[e2] at e;rw[eU (bubble p k (k - l)),e,eU p k,eU p (j - 1),eU p j];by_cases c1:j=l
 ·rw[Y6 c1,Y6 c1]
 ·rw[Y7 c1,Y7 c1];by_cases c2:l<j/\j<=k
  ·rw[Y6 c2,Y6 c2]
  ·rw[Y7 c2,Y7 c2]
section
variable{n:Nat}{b:Nat->Nat->Bool}
def PN.rev(P:PN n p)(hm:m<=n):PN n (kas_rev p 0 m):=by
 have ha:=Es (by rw[P.sz];exact hm);refine⟨(mirror_size ..).trans P.sz,λi hi=>?_,λi j hi hj e=>?_⟩
 ·rw[ha];split
  ·exact P.lt _ (by omega)
  ·exact P.lt _ hi
 ·rw[ha,ha] at e;split at e<;>split at e
  ·have:=P.inj _ _ (by omega) (by omega) e;omega
  ·have:=P.inj _ _ (by omega) hj e;omega
  ·have:=P.inj _ _ hi (by omega) e;omega
  ·exact P.inj _ _ hi hj e
def PN.bub(P:PN n p)(hk:k<n)(hl:l<=k):PN n (bubble p k (k - l)):=by
 have ha:=Cd (by rw[P.sz];exact hk) hl;refine⟨(bubble_size ..).trans P.sz,λi hi=>?_,λi j hi hj e=>?_⟩
 ·rw[ha];split
  ·exact P.lt _ hk
  ·split
   ·exact P.lt _ (by omega)
   ·exact P.lt _ hi
 ·rw[ha,ha] at e;split at e
  ·split at e
   ·omega
   ·split at e
    ·have:=P.inj _ _ hk (by omega) e;omega
    ·have:=P.inj _ _ hk hj e;omega
  ·split at e
   ·split at e
    ·have:=P.inj _ _ (by omega) hk e;omega
    ·split at e
     ·have:=P.inj _ _ (by omega) (by omega) e;omega
     ·have:=P.inj _ _ (by omega) hj e;omega
   ·split at e
    ·have:=P.inj _ _ hi hk e;omega
    ·split at e
     ·have:=P.inj _ _ hi (by omega) e;omega
     ·exact P.inj _ _ hi hj e
def Fa.rev(P:PN n p)(hm:m<=n)(h:Fa b p m):Ri b (kas_rev p 0 m) m:=λi j zM hj=>by
 have ha:=Es (by rw[P.sz];exact hm);rw[ha,ha,Y6 (by omega),Y6 hj];exact h _ _ (by omega) (by omega)
variable(L:Lt n b)
include L
theorem ES(P:PN n p)(h1:1<=m)(hm:m<=n)(h:Fa b p m):∃k q,dB b (kas_tail3 m n p)=(k,q)/\PN n q/\1<=k/\k<=n/\Ri b q k:=by
 unfold kas_tail3;rw[fw];obtain⟨a1,a2,a3,_⟩:=tm L (P.rev hm) (n - m) m h1 (by omega) (Fa.rev P hm h);exact⟨_,_,rfl,P.rev hm,by omega,by omega,a3⟩
theorem AY(P:PN n p)(h2:2<=n):∃k q,dB b (kas_count n p)=(k,q)/\PN n q/\1<=k/\k<=n/\Ri b q k:=by
 unfold kas_count;rw[fw];obtain⟨a1,a2,a3,a4⟩:=tm L P (n - 1) 1 (SW _) (by omega) (λi j zM hj=>by omega);generalize dB b (kas_asc p (n - 1) 1)=m at a1 a2 a3 a4;by_cases he:m=n
 ·subst he;rw[Y6 (by simp)];exact⟨m,p,rfl,P,by omega,SW _,a3⟩
 ·rw[Y7 (by simpa using he)];by_cases hg:m>1
  ·rw[Y6 hg];have hb:b (p.getD 0 0) (p.getD (m - 1) 0)=true:=a3 0 (m - 1) (by omega) (by omega);show∃k q,dB b (if b (p.getD 0 0) (p.getD (m - 1) 0)=true then KasT.ret (m,p) else kas_descPart m n (kas_rev p 0 m))=(k,q)/\_;rw[Y6 hb];exact⟨m,p,rfl,P,by omega,by omega,a3⟩
  ·rw[Y7 hg];have hm:m=1:=by omega
   subst hm;have hb:=a4 (by omega);unfold kas_descPart;rw[fw];obtain⟨m,e1,e2,e3,e4⟩:=vz L P (n - (1+1)) (1+1) (by omega) (by omega) (λi j zM hj=>by
    have hi:i=0:=by omega
    have hj:j=1:=by omega
    subst hi hj;exact hb)
   rw[e1]
   dsimp only
   rw[Y7 (by omega)];exact ES L P (by omega) (by omega) e4
theorem mB(P:PN n p)(hk:k<n)(h:Ri b p k):∀(f l r:Nat),l<=r->r<=k->r - l<=f->(∀i,i<l->b (at' p i) (at' p k)=true)->(∀i,r<=i->i<k->b (at' p k) (at' p i)=true)->
 dB b (kas_place p k f l r)<=k/\(∀i,i<dB b (kas_place p k f l r)->b (at' p i) (at' p k)=true)/\∀i,dB b (kas_place p k f l r)<=i->i<k->b (at' p k) (at' p i)=true
 |0,l,r,h1,h2,h3,h4,h5=>by
  have:r=l:=by omega
  subst this;exact⟨h2,h4,h5⟩
 |f+1,l,r,h1,h2,h3,h4,h5=>by
  unfold kas_place;by_cases PK:l>=r
  ·rw[Y6 PK];have:r=l:=by omega
   subst this;exact⟨h2,h4,h5⟩
  ·rw[Y7 PK];have hm:(l+r) / 2<r:=by omega
   have Lj:l<=(l+r) / 2:=by omega
   show dB b (if b (at' p k) (at' p ((l+r) / 2))=true then kas_place p k f l ((l+r) / 2) else kas_place p k f ((l+r) / 2+1) r)<=k/\(∀i,i<dB b (if b (at' p k) (at' p ((l+r) / 2))=true then kas_place p k f l ((l+r) / 2) else kas_place p k f ((l+r) / 2+1) r)->_)/\∀i,dB b (if b (at' p k) (at' p ((l+r) / 2))=true then kas_place p k f l ((l+r) / 2) else kas_place p k f ((l+r) / 2+1) r)<=i->_;by_cases hb:b (at' p k) (at' p ((l+r) / 2))=true
   ·rw[Y6 hb];refine mB P hk h f l ((l+r) / 2) Lj (by omega) (by omega) h4 λi hi Q_=>?_;by_cases e:i=(l+r) / 2
    ·rw[e];exact hb
    ·exact L.tr _ _ _ hb (h _ _ (by omega) Q_)
   ·rw[Y7 hb];have hr:b (at' p ((l+r) / 2)) (at' p k)=true:=by
     rcases L.tot (at' p ((l+r) / 2)) (at' p k) (P.lt _ (by omega)) (P.lt _ hk) (λz=>by have:=P.inj _ _ (by omega) hk z;omega) with q | q
     ·exact q
     ·exact Y9 q hb
    refine mB P hk h f ((l+r) / 2+1) r (by omega) h2 (by omega) (λi hi=>?_) h5;by_cases e:i=(l+r) / 2
    ·rw[e];exact hr
    ·exact L.tr _ _ _ (h i ((l+r) / 2) (by omega) (by omega)) hr
theorem zq:∀(f:Nat) {p:Array Nat}{k:Nat},PN n p->k+f<=n->Ri b p k->PN n (dB b (kas_bin f p k))/\Ri b (dB b (kas_bin f p k)) (k+f)
 |0,p,k,P,_,h=>⟨P,h⟩
 |f+1,p,k,P,hn,h=>by
  have hk:k<n:=by omega
  unfold kas_bin;rw[fw];obtain⟨a1,a2,a3⟩:=mB L P hk h k 0 k (TQ _) (SW _) (by omega) (λi hi=>by omega) (λi h1 h2=>by omega);generalize dB b (kas_place p k k 0 k)=l at a1 a2 a3;have ha:=Cd (by rw[P.sz];exact hk) a1;have hR:Ri b (bubble p k (k - l)) (k+1):=λi j zM hj=>by
   rw[ha,ha];by_cases c1:i=l
   ·rw[Y6 c1,Y7 (by omega),Y6 ⟨by omega,by omega⟩];exact a3 _ (by omega) (by omega)
   ·rw[Y7 c1];by_cases c2:j=l
    ·rw[Y6 c2,Y7 (by omega)];exact a2 _ (by omega)
    ·rw[Y7 c2];by_cases c3:l<i/\i<=k
     ·rw[Y6 c3,Y6 ⟨by omega,by omega⟩];exact h _ _ (by omega) (by omega)
     ·rw[Y7 c3];by_cases c4:l<j/\j<=k
      ·rw[Y6 c4];exact h _ _ (by omega) (by omega)
      ·rw[Y7 c4];exact h _ _ zM (by omega)
  have:=zq f (P.bub hk a1) (by omega) hR;rw[show k+(f+1)=k+1+f by omega];exact this
theorem EH(h2:2<=n):PN n (dB b (kas_sort n))/\Ri b (dB b (kas_sort n)) n:=by
 have P0:PN n (UD (S5 n)):=by
  have e:∀i,i<n->at' (UD (S5 n)) i=i:=λi hi=>by rw[eU];simp[hi]
  exact⟨by simp,λi hi=>by rw[e i hi];exact hi,λi j hi hj z=>by rw[e i hi,e j hj] at z;exact z⟩
 unfold kas_sort;rw[fw];obtain⟨k,q,e,P,k1,kn,hR⟩:=AY L P0 h2;rw[e]
 dsimp only
 by_cases ki:k<n
 ·rw[Y6 ki];have:=zq L (n - max k 1) (k:=max k 1) P (by omega) (by rw[show max k 1=k by omega];exact hR);rw[show max k 1+(n - max k 1)=n by omega] at this;exact this
 ·rw[Y7 ki];have:k=n:=by omega
  subst this;exact⟨P,hR⟩
end
def Asks{α:Type}(n:Nat)(P:α->Prop):KasT α->Prop
 | .ret a=>P a
 | .ask i j k=>i<n/\j<n/\∀c,Asks n P (k c)
theorem Asks.bind{α β:Type}{n:Nat}{P:α->Prop}{Q:β->Prop}{f:α->KasT β}:∀{t:KasT α},Asks n P t->(∀a,P a->Asks n Q (f a))->Asks n Q (t.bind f)
 | .ret a,h,hf=>hf a h
 | .ask i j k,h,hf=>⟨h.1,h.2.1,λc=>Asks.bind (h.2.2 c) hf⟩
theorem wp_run{α:Type}{n:Nat}{P:α->Prop}{b:Nat->Nat->Bool}{cmp:Nat->Nat->(Bool->SS->Prop)->SS->Prop}{Q:α->SS->Prop}{s:SS}(hc:∀i j C,i<n->j<n->C (b i j) s->cmp i j C s):∀{t:KasT α},Asks n P t->Q (dB b t) s->t.kasWp cmp Q s
 | .ret a,_,h=>h
 | .ask i j k,ha,h=>hc i j _ ha.1 ha.2.1 (wp_run hc (ha.2.2 _) h)
def Below(n:Nat)(p:Array Nat):Prop:=∀x∈p,x<n
section
variable{n:Nat}(hn:0<n)
include hn
theorem Below.at{p:Array Nat}(h:Below n p)(i:Nat):at' p i<n:=by
 rw[eU];cases e:p[i]? with
 |none=>exact hn
 |some x=>exact h x (Array.mem_of_getElem? e)
theorem Below.rev{p:Array Nat}(h:Below n p)(i j:Nat):Below n (kas_rev p i j):=λx hx=>h x ((mirror_perm p i j ((j - i) / 2)).mem_iff.mp hx)
theorem Below.bub{p:Array Nat}(h:Below n p)(k d:Nat):Below n (bubble p k d):=λx hx=>h x ((bubble_perm p k d).mem_iff.mp hx)
theorem oX{p:Array Nat}(h:Below n p):∀f k,Asks n (λ_=>True) (kas_asc p f k)
 |0,k=>trivial
 |f+1,k=>⟨Below.at hn h _,Below.at hn h _,λc=>by
  show Asks n _ (if c=true then KasT.ret k else kas_asc p f (k+1));cases c
  ·exact oX h f (k+1)
  ·exact trivial⟩
theorem jM:∀f {p:Array Nat} k q,Below n p->Asks n (λr=>Below n r.1) (kas_desc f p k q)
 |0,p,k,q,h=>h
 |f+1,p,k,q,h=>⟨Below.at hn h _,Below.at hn h _,λc=>by
  cases c
  ·refine⟨Below.at hn h _,Below.at hn h _,λd=>?_⟩;cases d
   ·exact jM f _ _ h
   ·exact h
  ·show Asks n _ (if q>0 then kas_desc f (kas_rev p (k - (q+1)) k) (k+1) 0 else kas_desc f p (k+1) 0);split
   ·exact jM f _ _ (Below.rev hn h _ _)
   ·exact jM f _ _ h⟩
theorem ro{p:Array Nat}(h:Below n p)(m r:Nat):Asks n (λx=>Below n x.2) (kas_tail3 m r p):=Asks.bind (oX hn (Below.rev hn h 0 m) _ _) λ_ _=>Below.rev hn h 0 m
theorem oY{p:Array Nat}(h:Below n p)(m r:Nat):Asks n (λx=>Below n x.2) (kas_descPart m r p):=Asks.bind (jM hn _ _ _ h) λx hx=>by
 split
 ·exact ro hn (Below.rev hn hx _ _) _ _
 ·exact ro hn hx _ _
theorem xF{p:Array Nat}(h:Below n p)(r:Nat):Asks n (λx=>Below n x.2) (kas_count r p):=Asks.bind (oX hn h _ _) λm _=>by
 split
 ·exact h
 ·split
  ·refine⟨Below.at hn h _,Below.at hn h _,λc=>?_⟩;cases c
   ·exact oY hn (Below.rev hn h _ _) _ _
   ·exact h
  ·exact oY hn h _ _
theorem kx{p:Array Nat}(h:Below n p)(k:Nat):∀f l r,Asks n (λ_=>True) (kas_place p k f l r)
 |0,l,r=>trivial
 |f+1,l,r=>by
  unfold kas_place;split
  ·exact trivial
  ·refine⟨Below.at hn h _,Below.at hn h _,λc=>?_⟩;cases c
   ·exact kx h k f _ _
   ·exact kx h k f _ _
theorem vb:∀f {p:Array Nat} k,Below n p->Asks n (λ_=>True) (kas_bin f p k)
 |0,p,k,h=>trivial
 |f+1,p,k,h=>Asks.bind (kx hn h k _ _ _) λl _=>vb f _ (Below.bub hn h _ _)
theorem AI:Asks n (λ_=>True) (kas_sort n):=by
 have h0:Below n (UD (S5 n)):=λx hx=>by simpa using hx
 refine Asks.bind (xF hn h0 n) λx hx=>?_;split
 ·exact vb hn _ _ hx
 ·exact trivial
end
def eD:List Int->List Int->Bool
 |[],[]=>false
 |[],_::_=>true
 |_::_,[]=>false
 |x::xs,y::ys=>if x=y then eD xs ys else decide (x<y)
theorem t8:∀a b c:List Int,eD a b=true->eD b c=true->eD a c=true
 |[],[],_,h,_=>by cases h
 |[],_::_,[],_,h=>by cases h
 |[],_::_,_::_,_,_=>rfl
 |_::_,[],_,h,_=>by cases h
 |_::_,_::_,[],_,h=>by cases h
 |x::a,y::b,z::c,h1,h2=>by
  unfold eD at h1 h2⊢;by_cases e1:x=y
  ·subst e1;rw[Y6 rfl] at h1;by_cases e2:x=z
   ·subst e2;rw[Y6 rfl] at h2⊢;exact t8 a b c h1 h2
   ·rw[Y7 e2] at h2⊢;exact h2
  ·rw[Y7 e1] at h1;have h1:=Za h1;by_cases e2:y=z
   ·subst e2;rw[Y7 e1];exact Y8 h1
   ·rw[Y7 e2] at h2;have h2:=Za h2;rw[Y7 (by omega)];exact Y8 (by omega)
theorem lh:∀a b:List Int,eD a b=true->eD b a=false
 |[],[],h=>by cases h
 |[],_::_,_=>rfl
 |_::_,[],h=>by cases h
 |x::a,y::b,h=>by
  unfold eD at h⊢;by_cases e:x=y
  ·subst e;rw[Y6 rfl] at h⊢;exact lh a b h
  ·rw[Y7 e] at h;have h:=Za h;rw[Y7 (λz=>e z.symm)];exact Y_ (by omega)
theorem pK:∀a b:List Int,a≠b->eD a b=true\/eD b a=true
 |[],[],h=>Y9 rfl h
 |[],_::_,_=> .inl rfl
 |_::_,[],_=> .inr rfl
 |x::a,y::b,h=>by
  unfold eD;by_cases e:x=y
  ·subst e;rw[Y6 rfl,Y6 rfl];exact pK a b λz=>h (by rw[z])
  ·rw[Y7 e,Y7 (λz=>e z.symm)];by_cases q:x<y
   ·exact .inl (Y8 q)
   ·exact .inr (Y8 (by omega))
section
variable{prog:To}{w:World}{A:T9}{E:Value->SS->Prop}{s:SS}
theorem vT{Q:Bool->SS->Prop}:∀{us vs:List Value}{xs ys:List Int}(i:Nat) {fin:Bool},V9 us xs->V9 vs ys->fin=decide (xs.length<ys.length)->Q (eD xs ys) s->KatLex prog w A true fin Q (us.zip vs) i s
 |_,_,_,_,i,_, .nil, .nil,e,h=>by subst e;exact kat_nil h
 |_,_,_,_,i,_, .nil, .cons y t r,e,h=>by subst e;exact kat_nil h
 |_,_,_,_,i,_, .cons x t r, .nil,e,h=>by subst e;exact kat_nil h
 |_,_,_,_,i,_, .cons (vs:=us) (ns:=xs) x t r, .cons (vs:=vs) (ns:=ys) y u r',e,h=>by
  refine kat_cons (wpAny_eqBool_int ?_);by_cases q:x=y
  ·subst q;rw[show (x==x)=true by simp];refine kat_yes (vT (i+1) r r' (by rw[e];simp) ?_);unfold eD at h;rw[Y6 rfl] at h;exact h
  ·rw[show (x==y)=false by simpa using q];unfold eD at h;rw[Y7 q] at h;refine kat_no ?_;by_cases hi:(i==0)=true
   ·rw[hi];exact oneLt_int h
   ·rw[show (i==0)=false by simpa using hi];exact kat_one _ _ (PyProof.Rows.lt_int h)
def TupsAt(h:Heap):List Value->List (List Int)->Prop
 |[],[]=>True
 |v::vs,k::ks=>(∃a o us m,v= .ref a/\h.get? a=some o/\o.cls= .type "tuple"/\o.data= .seq (UD us) m/\V9 us k/\k≠[])/\TupsAt h vs ks
 |_,_=>False
theorem TupsAt.len{h:Heap}:∀{vs:List Value}{ks:List (List Int)},TupsAt h vs ks->vs.length=ks.length
 |[],[],_=>rfl
 |v::vs,k::ks,t=>by rw[SO,SO,TupsAt.len t.2]
 |[],_::_,t=>t.elim
 |_::_,[],t=>t.elim
theorem TupsAt.get{h:Heap}:∀{vs:List Value}{ks:List (List Int)}{i:Nat},TupsAt h vs ks->i<vs.length->∃a o us m,vs.getD i Uy= .ref a/\h.get? a=some o/\o.cls= .type "tuple"/\o.data= .seq (UD us) m/\V9 us (ks.getD i [])/\ks.getD i []≠[]
 |v::vs,k::ks,0,t,_=>t.1
 |v::vs,k::ks,i+1,t,hi=>TupsAt.get (i:=i) t.2 (by simpa using hi)
 |[],_,_,_,hi=>by simp at hi
 |_::_,[],_,t,_=>t.elim
theorem TupsAt.keep{h h':Heap}{a:Addr}(k:∀b o,b≠a->h.get? b=some o->h'.get? b=some o)(ha:∀o,h.get? a=some o->o.cls≠ .type "tuple"):∀{vs:List Value}{ks:List (List Int)},TupsAt h vs ks->TupsAt h' vs ks
 |[],[],_=>trivial
 |v::vs,x::ks,⟨⟨b,o,us,m,e1,e2,e3,e4⟩,t⟩=>⟨⟨b,o,us,m,e1,k b o (λz=>ha o (by rw[<-z];exact e2) e3) e2,e3,e4⟩,TupsAt.keep k ha t⟩
 |[],_::_,t=>t.elim
 |_::_,[],t=>t.elim
theorem pz:∀{us:List Value}{xs:List Int},V9 us xs->us.length=xs.length
 |_,_, .nil=>rfl
 |_,_, .cons x t r=>by rw[SO,SO,pz r]
theorem TupsAt.firsts{M:Model}{h:Heap}:∀{vs:List Value}{ks:List (List Int)},TupsAt h vs ks->∃fs,KatTups h vs fs/\fs.length=vs.length/\∀v∈fs,Looks M h (typeOf v) (.type "int")
 |[],[],_=>⟨[],KatTups.nil,rfl,λ_ z=>by cases z⟩
 |v::vs,k::ks,⟨⟨a,o,us,m,e1,e2,e3,e4,e5,e6⟩,t⟩=>by
  obtain⟨fs,q1,q2,q3⟩:=TupsAt.firsts (M:=M) t;subst e1;cases e5 with
  |nil=>exact Y9 rfl e6
  |cons x t r=>
   refine⟨.int x t::fs,KatTups.cons e2 e3 e4 (by simp) q1,by simp[q2],λv hv=>?_⟩;rcases S6.mp hv with rfl | hv
   ·exact show Looks M h (pure (X2 "int")) (X2 "int") from .now
   ·exact q3 v hv
 |[],_::_,t=>t.elim
 |_::_,[],t=>t.elim
def asked{vs:List Value}{ks:List (List Int)}(t:TupsAt s.heap vs ks)(i j:Nat)(C:Bool->SS->Prop)(hi:i<vs.length)(hj:j<vs.length)(h:C (eD (ks.getD i []) (ks.getD j [])) s):kas_ask prog w A (tuples' true) vs i j C s:=by
 obtain⟨a,o,us,m,e1,e2,_,e4,e5,_⟩:=t.get hi;obtain⟨a',o',Sz,m',B4,Kh,_,Qp,Pf,_⟩:=t.get hj;unfold kas_ask;rw[e1,B4];refine kat_lt e2 e4 Kh Qp (vT 0 e5 Pf ?_ h);rw[SV,SV,pz e5,pz Pf]
def Dx{α:Type}{l:List α}(h:l.Nodup){i j:Nat}(hi:i<l.length)(hj:j<l.length)(e:l[i]=l[j]):i=j:=by
 rcases Nat.lt_trichotomy i j with q | q | q
 ·exact Y9 e (Ve.mp h i j hi hj q)
 ·exact q
 ·exact Y9 e.symm (Ve.mp h j i hj hi q)
def BS{a:Addr}{c:Nat}{vs:List Value}{ks:List (List Int)}{P:PySem.Fin->SS->Prop}(ho:s.heap.get? a=some (Vw "list" vs.toArray c))(ht:TupsAt s.heap vs ks)(hd:ks.Nodup)(NC:vs.length<64)
 (h:∀(p:Array Nat) (h':Heap) (c':Nat),PN vs.length p->Ri (λi j=>eD (ks.getD i []) (ks.getD j [])) p vs.length->h'.get? a=some (Vw "list" (UD (p.toList.map λi=>vs.getD i Uy)) c')->
  (∀b o,b≠a->s.heap.get? b=some o->h'.get? b=some o)->P (.done (.ret .none)) {s with heap:=h'}):wpAny (model prog w) A (Builtin.«list.sort» ⟨[.ref a],[]⟩) P E s:=by
 have HS:S9=16777216:=VF;have s1:=TN s.heap a (U2 λ_=>(#[]:Array Value));obtain⟨e1,PL⟩:∃e1,(s.heap.update a (U2 λ_=>(#[]:Array Value))).get? a=some (Vw "list" #[] e1):=⟨_,get?_update_seq ho λ_=> #[]⟩
 have k1:∀b o,b≠a->s.heap.get? b=some o->(((s.heap.update a (U2 λ_=>(#[]:Array Value))).push (Vw "tuple" vs.toArray 0)).push (Vw "list" #[] 0)).get? b=some o:=λb o hb e=>
  SR _ (SR _ ((s1.2 b hb).trans e))
 have N0:=SR (Vw "list" #[] 0) (SR (Vw "tuple" vs.toArray 0) PL);have t3:=ht.keep k1 (λo e z=>by rw[ho] at e;cases e;exact Y9 (Value.type.inj z) (by decide));have fin:∀(st:SortSt) (p:Array Nat),PN vs.length p->Ri (λi j=>eD (ks.getD i []) (ks.getD j [])) p vs.length->(arrOf st).map (·.2)=UD (p.toList.map λi=>vs.getD i Uy)->failedOf st=none->
  wpAny (model prog w) A (do
   let touched:=(<-seqEpoch a) !=e1
   Builtin.List.listUpdate (.ref a) λ_=>(arrOf st).map (·.2)
   if let some e:=failedOf st then rule "list.sort.comparison-raised";throw e
   if touched then rule "list.sort.modified";raiseError "ValueError" "list modified during sort"
   ret .none) P E {s with heap:=((s.heap.update a (U2 λ_=>(#[]:Array Value))).push (Vw "tuple" vs.toArray 0)).push (Vw "list" #[] 0)}:=λst p hp hr he hf=>by
  have hz:(UD (p.toList.map λi=>vs.getD i Uy)).size=vs.length:=by rw[SV,SI,Td,hp.sz]
  rw[he,hf];refine SH (seqEpoch_at N0 rfl (SH (listUpdate_at N0 rfl ?_ (TQ _) (by rw[hz,HS];omega))));simp only[bne_self_eq_false,Tt,if_false];have s2:=TN (((s.heap.update a (U2 λ_=>(#[]:Array Value))).push (Vw "tuple" vs.toArray 0)).push (Vw "list" #[] 0)) a (U2 λ_=>UD (p.toList.map λi=>vs.getD i Uy));exact SQ (h p _ _ hp hr (get?_update_seq N0 λ_=>UD (p.toList.map λi=>vs.getD i Uy)) λb o hb e=>(s2.2 b hb).trans (k1 b o hb e))
 rw[list_sort_plain];refine SH (listItems_at ho rfl (SH (listUpdate_at ho rfl (SH (seqEpoch_at PL rfl ?_)) (by rw[SV,HS];omega) (TQ _))));refine SH (wpAny_newTuple (SH (wpAny_newList (Vg ?_) (TQ _))) (by show vs.length<=_;rw[HS];omega));show wpAny (model prog w) A _ P E {s with heap:=((s.heap.update a (U2 λ_=>(#[]:Array Value))).push (Vw "tuple" vs.toArray 0)).push (Vw "list" #[] 0)}
 dsimp only
 by_cases hs:vs.toArray.size<2
 ·rw[Y6 hs,Y6 hs];have HP:vs.length<2:=by simpa using hs
  refine SH (SQ (SH (SQ ?_)));refine fin (SortSt.mk' general' (vs.toArray.zip vs.toArray) #[] 7 none) (UD (S5 vs.length)) ⟨by simp,λi hi=>?_,λi j hi hj _=>by omega⟩ (λi j zM hj=>by omega) ?_ rfl
  ·rw[eU];simp[hi]
  ·show (vs.toArray.zip vs.toArray).map (·.2)=_;apply Array.toList_inj.mp;refine UM (by simp) λi a1 a2=>?_;simp at a1;simp[a1]
 ·rw[Y7 hs,Y7 hs];have HP:2<=vs.length:=by
   have:¬vs.length<2:=by simpa using hs
   omega
  obtain⟨fs,q1,q2,q3⟩:=t3.firsts (M:=model prog w);refine SH (kat_kind q1 (by omega) q3 rfl ?_);have hb:Lt vs.length (λi j=>eD (ks.getD i []) (ks.getD j [])):=⟨λi j k=>t8 _ _ _,λi j=>lh _ _,λi j hi hj zM=>pK _ _ λz=>zM (by
   rw[ht.len] at hi hj;rw[S0,S0,SK hi,SK hj] at z;exact Dx hd hi hj (by simpa using z))⟩
  obtain⟨r1,r2⟩:=EH hb HP;have run:=kat_run (prog:=prog) (w:=w) (A:=A) (E:=E) (ks:=vs) (vs:=vs) (κ:=tuples' true) (Q:=λst s'=>s'={s with heap:=((s.heap.update a (U2 λ_=>(#[]:Array Value))).push (Vw "tuple" vs.toArray 0)).push (Vw "list" #[] 0)}/\∃p,PN vs.length p/\Ri (λi j=>eD (ks.getD i []) (ks.getD j [])) p vs.length/\(arrOf st).map (·.2)=UD (p.toList.map λi=>vs.getD i Uy)/\failedOf st=none)
   (G:=λp s'=>s'={s with heap:=((s.heap.update a (U2 λ_=>(#[]:Array Value))).push (Vw "tuple" vs.toArray 0)).push (Vw "list" #[] 0)}/\PN vs.length p/\Ri (λi j=>eD (ks.getD i []) (ks.getD j [])) p vs.length) rfl HP NC
   (λp qE s' a1 a2 a3 a4=>⟨a4.1,p,a4.2.1,a4.2.2,kat_snds rfl a2,a3⟩)
   (wp_run (s:={s with heap:=((s.heap.update a (U2 λ_=>(#[]:Array Value))).push (Vw "tuple" vs.toArray 0)).push (Vw "list" #[] 0)}) (λi j C hi hj hC=>asked t3 i j C hi hj hC) (AI (by omega)) ⟨rfl,r1,r2⟩)
  refine SH (Ux run ?_ λ_ _ e=>e);rintro⟨⟨⟩,qE⟩ s' ⟨rfl,p,a1,a2,a3,a4⟩;exact fin qE p a1 a2 a3 a4
end
section
variable{prog:To}{w:World}{A:T9}{E:Value->SS->Prop}{s:SS}
def rZ(lo:(d==UC)=false)(ho:s.heap.get? d=some od)(hx:od.ExactDict)(hd:od.data= .dict es ep)
 (hQ:Q (.ref s.heap.objs.size) {s with heap:=s.heap.push {cls:= .type "dict_keyiterator",data:= .fields #[.ref d, .int 0 0, .int es.size 0, .int ep 0]} }):wpAny (model prog w) A (pyIter (.ref d)) Q E s:=by
 have hT:s.TypeIs (.ref d) "dict":=⟨od,ho,hx.1⟩
 refine wpAny_pyIter_slot hT F.slot_dict_iter (UP F.slot_dict_iter hT F.entry_dict_iter ?_ (F.args_dict_iter_1 _));unfold Builtin.«dict.__iter__» Builtin.Dict.dictSlotNone;refine SH (SH (wpAny_notOrdered_dict hT ?_));show wpAny _ _ (pure (Ts d)) _ _ s;refine SQ ?_;show wpAny _ _ (V2 d>>=_) _ _ s;unfold V2;rw[Y7 (by rw[lo];exact Te)];refine SH (SQ (SH (UK ho hd (SH (V3 ho hd ?_)))));refine SH (T3 (SQ ⟨_,rfl,"dict_keyiterator",_,⟨_,Ta _ rfl,rfl⟩,F.slot_dict_keyiterator_next.lookup,?_⟩));simpa[X0] using hQ
def vZ(Zi:s.heap.IsKeyIter it d i es.size ep)(A_:s.heap.get? d=some od)(nY:od.data= .dict es ep)(hx:es[i]? =some e)
 (hQ:∀h',h'.IsKeyIter it d (i+1) es.size ep->U8 it s.heap h'->Q (some e.key) {s with heap:=h'}):wpAny (model prog w) A (Yy (.ref it)) Q E s:=by
 obtain⟨o,ho,hc,hd⟩:=id Zi;have ki:i<es.size:=(Array.getElem?_eq_some_iff.mp hx).1;have I8:Wl "dict_keyiterator"=false:=by decide
 unfold Yy;refine SH (wpAny_attempt (U4 Zi.typeIs U9
  (UP U9 Zi.typeIs XZ ?_ (XJ _))))
 refine SH (SQ (SH (SH ?_)))
 first | refine SH (U5 Zi.typeIs (SQ ?_)) | refine SH (Vo Zi.typeIs (SQ ?_))
 refine SH (wpAny_fieldsOf ho hd ?_);simp only[I8,Tt,if_false];show wpAny _ _ (if (Ts d==Uy)=true then _ else _) _ _ s;rw[Y7 (show¬((Ts d==Uy)=true) from Te)];refine SH (SQ (SH (UK A_ nY ?_)));rw[Y7 (by simp)];refine SH (SQ (SH (V3 A_ nY ?_)));rw[Y7 (by simp)];refine SQ ?_;simp only[show¬((i:Int)<0) from by omega,if_false,Xi,hx];refine SH ?_
 first | refine SH (U5 Zi.typeIs (SQ ?_)) | refine SH (Vo Zi.typeIs (SQ ?_))
 refine SH (wpAny_isOneOf_keyiter Zi.typeIs ?_);show wpAny _ _ (setField (.ref it) 1 (X0 ((i:Int)+1))>>=_) _ _ s;refine SH (wpAny_setField ho hd (by simp) ?_);have FI:(s.heap.update it (Obj.mapFields (·.setIfInBounds 1 (X0 ((i:Int)+1))))).IsKeyIter it d (i+1) es.size ep:=
  ⟨_,VA _ ho (Obj.isFreed_of_fields (Y0 hd _)),(Obj.cls_mapFields ..).trans hc,by rw[Y0 hd];simp[X0]⟩
 refine SH (Vg (SH (wpAny_isOneOf_keyiter FI.typeIs ?_)));show wpAny _ _ (pure e.key) _ _ _;exact SQ (SQ ⟨_,rfl,SQ (hQ _ FI (TN ..))⟩)
def rL(hh:A.handled=none)(Zi:s.heap.IsKeyIter it d i es.size ep)(hi:es.size<=i)(A_:s.heap.get? d=some od)(nY:od.data= .dict es ep)
 (hQ:∀h',Heap.ExtBut it s.heap h'->Q none {s with heap:=h'}):wpAny (model prog w) A (Yy (.ref it)) Q E s:=by
 obtain⟨o,ho,hc,hd⟩:=id Zi;have I8:Wl "dict_keyiterator"=false:=by decide
 unfold Yy;refine SH (wpAny_attempt (U4 Zi.typeIs U9
  (UP U9 Zi.typeIs XZ ?_ (XJ _))))
 refine SH (SQ (SH (SH ?_)))
 first | refine SH (U5 Zi.typeIs (SQ ?_)) | refine SH (Vo Zi.typeIs (SQ ?_))
 refine SH (wpAny_fieldsOf ho hd ?_);simp only[I8,Tt,if_false];show wpAny _ _ (if (Ts d==Uy)=true then _ else _) _ _ s;rw[Y7 (show¬((Ts d==Uy)=true) from Te)];refine SH (SQ (SH (UK A_ nY ?_)));rw[Y7 (by simp)];refine SH (SQ (SH (V3 A_ nY ?_)));rw[Y7 (by simp)];refine SQ ?_;simp only[show¬((i:Int)<0) from by omega,if_false,Xi,Array.getElem?_eq_none hi];refine SH ?_
 first | refine SH (U5 Zi.typeIs (SQ ?_)) | refine SH (Vo Zi.typeIs (SQ ?_))
 show wpAny _ _ (setField (.ref it) 0 .none>>=_) _ _ s;refine SH (wpAny_setField ho hd (by simp) ?_);show wpAny _ _ (newExc (.type "StopIteration") []>>=_) _ _ _;refine SH ?_;simp only[newExc,newTuple];refine SH (T3 ?_ (by size_fits));refine SH (wpAny_of_eq (by first | rfl | (simp only[firstArgMember];rfl)) ?_);refine T3 ?_ (by size_fits);simp only[raiseNew];refine SH (wpAny_handled ?_);rw[show A.in1.handled=none from hh];refine SH (SQ (wpAny_throw ?_));refine SH (wpAny_isInstance ⟨_,Ta _ rfl,rfl⟩ isSubtype_stop ?_);exact SQ (hQ _ (((TN ..).extBut.push _).push _))
def CD(hh:A.handled=none)(Zi:s.heap.IsKeyIter it d es.size es.size ep)(A_:s.heap.get? d=some od)(nY:od.data= .dict es ep)
 (hQ:∀h',Heap.ExtBut it s.heap h'->Q none {s with heap:=h'}):wpAny (model prog w) A (Yy (.ref it)) Q E s:=rL hh Zi (SW _) A_ nY hQ
def Hr(es:Array Wt):Nat->Value->Prop:=λi v=>∃e,es[i]? =some e/\v=e.key
def y_(hh:A.handled=none)(I d:Addr)(ib:d≠I)(nY:od.data= .dict es ep):
 Walks prog w A I [I,d] [I] es.size (Hr es) (λi h=>h.IsKeyIter I d i es.size ep/\h.get? d=some od) where
 sub:=λb hb=>by simp at hb;simp[hb]
 frame:=λ_ _ _ st hk=>⟨st.1.at λo e=>hk I (by simp) o e,hk d (by simp) _ st.2⟩
 item:=λi s Q E hi st hQ=>by
  have hx:es[i]? =some es[i]:=Vd hi;exact vZ st.1 st.2 nY hx λh' FI FL=>hQ _ h' s.toks ⟨_,hx,rfl⟩ ⟨FI,(FL.2 d ib).trans st.2⟩ λb o hb e=>FL.extBut b o (λh=>hb (by simp[h])) e
 done:=λs Q E st hQ=>CD hh st.1 st.2 nY λh' Q0=>hQ h' s.toks λb o hb e=>Q0 b o (λh=>hb (by simp[h])) e
 self:=λ_ _ _ _ st hQ=>wpAny_pyIter_keyiter st.1 hQ
def EI(lo:(d==UC)=false)(hx:od.ExactDict)(nY:od.data= .dict es ep):KdlSrc prog w "dict" d d es.size (Hr es) (λh=>h.get? d=some od) where
 type:=λ_ hm=>⟨od,hm,hx.1⟩
 there:=λ_ hm=>⟨S8 hm,S8 hm⟩
 keep:=λ_ _ hm hk=>hk d (.inl rfl) od hm
 notList:=by decide
 notTuple:=by decide
 hint:=λ_ _ s _ hm hq=>kdl_hint_dict ⟨od,hm,hx.1⟩ hq
 iter:=λ_ _ hh hm=>⟨_,_,(λ_ _ hq=>rZ lo hm hx nY hq),y_ hh _ d (Tv (S8 hm)) nY,⟨⟨_,Ta _ rfl,rfl,rfl⟩,SR _ hm⟩⟩
end
end L3
namespace L3
open PySem
def insI(k:List Int):List (List Int)->List (List Int)
 |[]=>[k]
 |x::r=>if eD k x then k::x::r else x::insI k r
def sortI:List (List Int)->List (List Int)
 |[]=>[]
 |k::r=>insI k (sortI r)
def xD(l:List (List Int)):Prop:=l.Pairwise λa b=>eD a b=true
theorem pq:∀{l:List (List Int)},x∈insI k l↔x=k\/x∈l
 |[]=>by simp[insI]
 |y::r=>by
  unfold insI;split
  ·simp
  ·rw[S6,pq,S6];constructor
   ·rintro(h | h | h)<;>simp[h]
   ·rintro(h | h | h)<;>simp[h]
theorem rV:∀{l:List (List Int)},xD l->k∉l->xD (insI k l)
 |[],_,_=>List.pairwise_singleton _ _
 |x::r,h,hk=>by
  have h:=Uh.mp h;unfold insI;split
  ·rename_i q;refine Uh.mpr ⟨λy hy=>?_,Uh.mpr h⟩;rcases S6.mp hy with rfl | hy
   ·exact q
   ·exact t8 _ _ _ q (h.1 y hy)
  ·rename_i q;have hx:eD x k=true:=by
    rcases pK k x (λz=>hk (by rw[z];exact SM ..)) with z | z
    ·exact Y9 z q
    ·exact z
   refine Uh.mpr ⟨λy hy=>?_,rV h.2 λz=>hk (SJ _ z)⟩;rcases pq.mp hy with rfl | hy
   ·exact hx
   ·exact h.1 y hy
theorem gX:∀{l:List (List Int)},x∈sortI l↔x∈l
 |[]=>Iff.rfl
 |k::r=>by unfold sortI;rw[pq,gX,S6]
theorem kP:∀{l:List (List Int)},l.Nodup->xD (sortI l)
 |[],_=>XX
 |k::r,h=>by
  have h:=T8.mp h;exact rV (kP h.2) λz=>h.1 (gX.mp z)
theorem qx:∀{a b:List (List Int)},xD a->xD b->(∀x,x∈a↔x∈b)->a=b
 |[],[],_,_,_=>rfl
 |[],y::b,_,_,h=>by have:=(h y).mpr (SM ..);cases this
 |x::a,[],_,_,h=>by have:=(h x).mp (SM ..);cases this
 |x::a,y::b,ha,hb,h=>by
  have ha:=Uh.mp ha;have hb:=Uh.mp hb;have e:x=y:=by
   rcases S6.mp ((h x).mp (SM ..)) with q | q
   ·exact q
   ·rcases S6.mp ((h y).mpr (SM ..)) with p | p
    ·exact p.symm
    ·have z1:=hb.1 x q;have z2:=ha.1 y p;rw[lh _ _ z1] at z2;cases z2
  subst e;have P5:∀k,eD k k≠true:=λk z=>by have:=lh _ _ z;rw[z] at this;cases this
  rw[qx ha.2 hb.2 λz=>?_];constructor
  ·intro hz;rcases S6.mp ((h z).mp (SJ _ hz)) with q | q
   ·subst q;exact Y9 (ha.1 z hz) (P5 z)
   ·exact q
  ·intro hz;rcases S6.mp ((h z).mpr (SJ _ hz)) with q | q
   ·subst q;exact Y9 (hb.1 z hz) (P5 z)
   ·exact q
theorem yM:∀(n:Nat) (l:List Nat),l.Nodup->(∀x∈l,x<n)->l.length=n->∀k,k<n->k∈l
 |0,_,_,_,_,k,hk=>by omega
 |n+1,l,hd,hl,hn,k,hk=>by
  by_cases h:n∈l
  ·by_cases e:k=n
   ·subst e;exact h
   ·refine List.mem_of_mem_erase (yM n (l.erase n) (hd.erase n) (λx hx=>?_) (by rw[Yc h,hn];rfl) k (by omega));have hx:=hd.mem_erase_iff.mp hx;have:=hl x hx.2;have:=hx.1;omega
  ·cases l with
   |nil=>simp at hn
   |cons x r=>
    have hd:=T8.mp hd;have lt:∀y∈x::r,y<n:=λy hy=>by
     have:=hl y hy;have:y≠n:=λz=>h (by rw[<-z];exact hy);omega
    exact Y9 (yM n r hd.2 (λy hy=>lt y (SJ _ hy)) (by simpa using hn) x (lt x (SM ..))) hd.1
def BU(hd:ks.Nodup)(P:PN ks.length p)(R:Ri (λi j=>eD (ks.getD i []) (ks.getD j [])) p ks.length):(p.toList.map λi=>ks.getD i [])=sortI ks:=by
 have hsz:p.toList.length=ks.length:=by rw[Td];exact P.sz
 have Kl:∀i (h:i<p.toList.length),p.toList[i]=at' p i:=λi h=>by
  have h':i<p.size:=by rw[Td] at h;exact h
  rw[eU,Vd h'];simp
 refine qx ?_ (kP hd) λx=>?_
 ·refine Ve.mpr λi j hi hj zM=>?_;rw[SI] at hi hj;rw[UZ,UZ,Kl i hi,Kl j hj];exact R i j zM (by omega)
 ·rw[gX];constructor
  ·intro hx;obtain⟨i,hi,rfl⟩:=S7.mp hx;obtain⟨j,hj,rfl⟩:=VH.mp hi;have:=P.lt j (by omega);rw[Kl j hj,S0,SK this];exact UY this
  ·intro hx;obtain⟨k,hk,rfl⟩:=VH.mp hx;have Lq:k∈p.toList:=by
    have hn:p.toList.Nodup:=Ve.mpr λi j hi hj zM z=>by
     rw[Kl i hi,Kl j hj] at z;have:=P.inj i j (by omega) (by omega) z;omega
    exact yM ks.length p.toList hn (λx hx=>by
     obtain⟨j,hj,rfl⟩:=VH.mp hx;rw[Kl j hj];exact P.lt j (by omega)) hsz k hk
   refine S7.mpr ⟨k,Lq,?_⟩;rw[S0,SK hk];rfl
end L3
namespace L3
open PySem PySem.Spec L2 SeqAt HT
open PyProof.Rows hiding St
def tupI(k:List Int):D:= .tup (k.map D.int)
def jg(ks:List (List Int)):Bool:=decide ks.Nodup&&decide (ks.length<64)&&ks.all λk=>!k.isEmpty
def eS(H:Hp):List V->List (List Int)->Prop:=Xx λv k=>∃a,v= .ref a/\H a=some (.tup (k.map V.int))
theorem wK{K:SN}:∀{ws:List V}{ks:List (List Int)},eS F ws ks->(∀k∈ks,k.length<=lim)->DenL K F (ks.map tupI) ws
 |_,_, .nil,_=>rfl
 |_,_, .cons (b:=k) h t,hl=>by
  obtain⟨a,rfl,h⟩:=h;exact .cons ⟨a,_,rfl,h,DenL.ints k,by rw[SI];exact hl k (SM ..)⟩ (wK t λk hk=>hl k (SJ _ hk))
theorem sO(I:Inv X f8 σ H s):∀{vs:List V}{aM:List Value}{ks:List (List Int)},eS H vs ks->Vals vs aM->(∀k∈ks,k≠[])->TupsAt s.heap aM ks
 |_,_,_, .nil,r,_=>by cases r;exact trivial
 |_,_,_, .cons (b:=k) h t,r,hn=>by
  obtain⟨a,rfl,h⟩:=h;cases r with
  |cons r1 r2=>
   cases (show _=_ from r1);obtain⟨us,ru,pt,_⟩:=I.tuple (SqT.of h);obtain⟨o,q1,q2,m,q3⟩:=pt;exact⟨⟨a,o,us,m,rfl,q1,q2,q3,intsAre_of ru,hn k (SM ..)⟩,sO I t r2 λk hk=>hn k (SJ _ hk)⟩
theorem wM:∀{vs:List V}{ks:List (List Int)}{i:Nat},eS H vs ks->i<vs.length->∃a,vs.getD i .non= .ref a/\H a=some (.tup ((ks.getD i []).map V.int))
 |_,_,i, .nil,hi=>by simp at hi
 |_,_,0, .cons h t,_=>h
 |_,_,i+1, .cons h t,hi=>wM (i:=i) t (by simpa using hi)
theorem wN:∀{vs:List V}{ks:List (List Int)},eS H vs ks->vs.length=ks.length
 |_,_, .nil=>rfl
 |_,_, .cons h t=>by rw[SO,SO,wN t]
theorem sN(h:eS H vs ks):∀{is:List Nat},(∀i∈is,i<vs.length)->eS H (is.map λi=>vs.getD i .non) (is.map λi=>ks.getD i [])
 |[],_=> .nil
 |i::is,hi=> .cons (wM h (hi i (SM ..))) (sN h λj hj=>hi j (SJ _ hj))
theorem sW:∀{vs:List V}{us:List Value}(i:Nat),Vals vs us->i<vs.length->RelV (vs.getD i .non) (us.getD i Uy)
 |_,_,i, .nil,hi=>by simp at hi
 |_,_,0, .cons h t,_=>h
 |_,_,i+1, .cons h t,hi=>sW i t (by simpa using hi)
theorem sY(h:Vals vs us):∀{is:List Nat},(∀i∈is,i<vs.length)->Vals (is.map λi=>vs.getD i .non) (is.map λi=>us.getD i Uy)
 |[],_=> .nil
 |i::is,hi=> .cons (sW i h (hi i (SM ..))) (sY h λj hj=>hi j (SJ _ hj))
theorem sT:∀l:List (List Int),(sortI l).length=l.length
 |[]=>rfl
 |k::r=>by
  have ins:∀(k:List Int) (l:List (List Int)),(insI k l).length=l.length+1:=by
   intro k l;induction l with
   |nil=>rfl
   |cons x l ih=>
    unfold insI;split
    ·rfl
    ·rw[SO,ih,SO]
  unfold sortI;rw[ins,sT r,SO]
def pD(k:List Int):List Key:=k.map Xg
def Me:List V->Hp->VK->Prop:=λxs H Q=>∃p az ks,xs=[.ref p]/\Rd H p (.dT az)/\az.map (·.1)=ks.map pD/\jg ks=true/\∀(q:Addr) (ws:List V),H q=none->eS H ws (sortI ks)->Q (.ref q) (upd H q (.lst ws))
theorem r_:∀{az:List (List Key×V)}{xs:List (List Key×Addr×Value)}{ks:List (List Int)},Xx (λ(p:List Key×V) (q:List Key×Addr×Value)=>p.1=q.1/\H q.2.1=some (.tup (p.1.map kV))/\RelV p.2 q.2.2) az xs->
 az.map (·.1)=ks.map pD->eS H (xs.map λx=>V.ref x.2.1) ks
 |_,_,[], .nil,_=> .nil
 |_,_,_::_, .nil,e=>by simp at e
 |_,_,[], .cons h t,e=>by simp at e
 |_,_,k::ks, .cons h t,e=>by
  rw[SU,SU] at e;injection e with e1 e2
  refine .cons ⟨_,rfl,?_⟩ (r_ t e2);have hk:(pD k).map kV=k.map V.int:=by unfold pD;rw[Tf];rfl
  rw[h.2.1,e1,hk]
section
variable{X:Cx}{Xw:Nat->Hp->Prop}{e:Expr}{δs:DA}{pos p:Pos}
def AU(hc:X.calm=true):CallR X (.builtin "sorted") Me:=by
 intro f8 s σ H xs us Q I r h;obtain⟨a,az,ks,rfl,hH,HM,hk,q⟩:=h;obtain⟨u,rfl,r1⟩:=r.one;cases (show u=_ from r1);obtain⟨z,lo,xs,rel,o,es,ep,g1,g2,g3,g4,g5⟩:=(show ObjOk X.prog X.w H s.heap a (.dT az) from hH.ok I.hok)
 unfold jg at hk;rw[Tp,Tp] at hk;have hd:ks.Nodup:=Za hk.1.1;have NC:ks.length<64:=Za hk.1.2;have ib:∀k∈ks,k≠[]:=λk MR z=>by have:=Uk.mp hk.2 k MR;rw[z] at this;cases this
 have hr:=r_ rel HM;have Le:=wN hr;rw[SI] at Le;have PF:es.size=xs.length:=by rw[<-Td,g4,SI]
 have HS:S9=16777216:=VF;refine Calls.call_function_entry kind_sorted plain_sorted entry_sorted (args_sorted1 _) ?_;unfold Builtin.«sorted»;refine SH (SQ (SH (PySem.W.kdu_collect (EI lo g2 g3) (I.ok.hd hc) g1 (by rw[PF,HS];omega) λh1 tk v6 LG CS=>?_)));have K5:v6.toList.length=xs.length:=by rw[Td,<-PF];exact CS.1
 have I1:Inv X f8 σ H {s with heap:=h1,toks:=tk}:=I.kept λb ob e=>LG b ob e;have rv:Vals (xs.map λx=>V.ref x.2.1) v6.toList:=by
  have ext:∀{vs:List V}{us:List Value},vs.length=us.length->(∀(i:Nat) (v:V) (u:Value),vs[i]? =some v->us[i]? =some u->RelV v u)->Vals vs us:=by
   intro vs;induction vs with
   |nil=>intro us h _;cases us with | nil=>exact .nil | cons _ _=>simp at h
   |cons v vs ih=>
    intro us h hh;cases us with
    |nil=>simp at h
    |cons u us=>exact .cons (hh 0 v u rfl rfl) (ih (by simpa using h) λi v u h1 h2=>hh (i+1) v u h1 h2)
  refine ext (by rw[SI,K5]) λi v u e1 e2=>?_;rw[Vz] at e2;obtain⟨en,q1,q2⟩:=CS.2 i u e2;rw[<-Vz,g4,S2] at q1;rw[S2] at e1;cases w:xs[i]? with
  |none=>rw[w] at e1;cases e1
  |some x=>
   rw[w] at e1 q1;cases e1;cases q1;exact q2
 have ht:=sO I1 hr rv ib;refine SH (wpAny_newList ?_ (by rw[HS];omega));have MT:(h1.push (Vw "list" v6.toList.toArray 0)).get? h1.objs.size=some (Vw "list" v6.toList.toArray 0):=Ta _ rfl;refine SH (Vg (UP slot_list_sort ⟨_,MT,rfl⟩ entry_list_sort (BS MT
  (ht.keep (λb o _ e=>SR _ e) (λo e=>Y9 (S8 e) (Us _))) hd (by omega) λP h' c' hP hR NO Lc=>?_) (args_list_sort _)))
 have NH:∀i∈P.toList,i<(xs.map λx=>V.ref x.2.1).length:=λi hi=>by
  obtain⟨j,hj,rfl⟩:=VH.mp hi;have h':j<P.size:=by rw[Td] at hj;exact hj
  have:=hP.lt j (by rw[hP.sz] at h';exact h');rw[eU,Vd h'] at this;have e:P.toList[j]=P[j]:=by simp
  rw[e,SI];have:P[j]<v6.toList.length:=this;omega
 have QI:PN ks.length P:=by rw[<-Le,<-K5];exact hP
 have QJ:Ri (λi j=>eD (ks.getD i []) (ks.getD j [])) P ks.length:=by rw[<-Le,<-K5];exact hR
 have MV:=BU hd QI QJ;have P1:=sN hr NH;rw[MV] at P1;refine⟨_,rfl,SQ ⟨_,rfl,⟨.ref h1.objs.size,_,I1.laid (λb ob e=>Lc b ob (Tv (S8 e)) (SR _ e)) (SW _) ?_,rfl,q _ _ (I1.hok.fresh (SW _)) P1⟩⟩⟩;exact⟨by rw[SI,Td,hP.sz,HS];omega,_,c',sY rv NH,NO⟩
theorem sM(e:Same F F'):∀{ws:List V}{ks:List (List Int)},eS F ws ks->eS F' ws ks
 |_,_, .nil=> .nil
 |_,_, .cons ⟨b,q1,q2⟩ t=> .cons ⟨b,q1,e _ _ q2⟩ (sM e t)
theorem wL(hs:Same F H):∀{ws:List V}{ks:List (List Int)},eS H ws ks->∃F',Ext F H F' H/\eS F' ws ks
 |_,_, .nil=>⟨F,Ext.refl hs, .nil⟩
 |_,_, .cons h t=>by
  obtain⟨a,rfl,h⟩:=h;obtain⟨F1,e1,r1⟩:=wL hs t;have e2:=Ext.tup e1.fh h;refine⟨_,e1.trans e2, .cons ⟨a,rfl,aE⟩ ?_⟩;exact sM e2.ff r1
def rW:List Key->Option (List Int)
 |[]=>some []
 | .inl i::r=>(rW r).map (i:: ·)
 |_=>none
def fL:List (List Key)->Option (List (List Int))
 |[]=>some []
 |k::r=>match rW k,fL r with
  |some x,some xs=>some (x::xs)
  |_,_=>none
theorem vN:∀{k:List Key}{x:List Int},rW k=some x->k=pD x
 |[],_,e=>by cases e;rfl
 | .inl i::r,_,e=>by
   unfold rW at e;cases q:rW r with
   |none=>rw[q] at e;cases e
   |some y=>rw[q] at e;cases e;rw[vN q];rfl
 | .inr _::r,_,e=>by cases e
theorem md:∀{kk:List (List Key)}{ks:List (List Int)},fL kk=some ks->kk=ks.map pD
 |[],_,e=>by cases e;rfl
 |k::r,_,e=>by
  unfold fL at e;split at e
  ·rename_i x xs e1 e2;cases e;rw[SU,<-vN e1,<-md e2]
  ·cases e
def qD:List D->M D
 |[.dct kk ds]=>match fL kk with
  |some ks=>if jg ks&&ks.all (λk=>decide (k.length<=lim)) then aa (.lst ((sortI ks).map tupI)) else af
  |none=>af
 |_=>af
theorem j6:∀{a:List α}{b:List β},a.length=b.length->(a.zip b).map (·.1)=a
 |[],[],_=>rfl
 |x::a,y::b,h=>by rw[VX,SU,j6 (by simpa using h)]
 |[],_::_,h=>by simp at h
 |_::_,[],h=>by simp at h
def Aa(hc:X.calm=true)(hg:Gl X "sorted")(hm:X.mg "sorted"=none)(hb:T4 "sorted"=some (.builtin "sorted"))(ha:kU X Xw [e] δs)(he:SX [e] X.env=[(false,eval e X.env)]:=by rfl):PD X Xw (.Call (.Name "sorted" p) [e] [] pos) (dA qD δs):=
 eQ (AU hc) (λXw F H vs ds Q s h w=>by
  unfold qD at w;split at w
  ·rename_i kk ds;obtain⟨v,rfl,h1⟩:=h.one;obtain⟨a,ob,ws,rfl,h2,h3,h4,h5⟩:=h1;split at w
   ·rename_i ks Rg;split at w
    ·rename_i hok;rw[Tp] at hok;have hl:∀k∈ks,k.length<=lim:=λk hk=>Za (Uk.mp hok.2 k hk);have NC:ks.length<64:=by
      have:=hok.1;unfold jg at this;rw[Tp,Tp] at this;exact Za this.1.2
     refine⟨a,_,ks,rfl, .inr ⟨ob,s _ _ h2⟩,by rw[j6 (by rw[h4];exact h3.len),md Rg],hok.1,λq us hq hr=>?_⟩;obtain⟨F1,e1,r1⟩:=wL s hr;have e2:=Ext.lay (o:= .lst us) e1.fh hq;exact WP.fin w (e1.trans e2) ⟨q,_,rfl,aE,DenL.mono e2.ff (wK r1 λk hk=>hl k (gX.mp hk)),by rw[SI,sT];unfold lim;omega⟩
    ·exact w.elim
   ·exact w.elim
  ·exact w.elim) hg hm hb ha (by decide) (by decide) he rfl
end
end L3
namespace L3
open PySem PySem.Spec L2
open PyProof.Rows hiding St
def orM(a b:M α):M α:=match a with
 |none=>b
 |some r=>some r
def I_(a b:DA):DA:=λρ=>orM (a ρ) (b ρ)
section
variable{X:Cx}{Xw:Nat->Hp->Prop}{e tg:Expr}{δi δi':DA}
def Gw(h:zg X Xw tg e δi)(h':zg X Xw tg e δi'):zg X Xw tg e (I_ δi δi'):=λf8 s σ H Q I ⟨F,ρ,S,w⟩=>by
 unfold I_ orM at w;cases q:δi ρ with
 |none=>rw[q] at w;exact h' f8 s σ H Q I ⟨F,ρ,S,w⟩
 |some r=>rw[q] at w;exact h f8 s σ H Q I ⟨F,ρ,S,by rw[q];exact w⟩
def jY{st:Stmt}:nV X Xw st (λ_=>af):=λu8 Zx f8 s σ H D I ⟨F,ρ,S,w⟩=>w.elim
end
def fgt:List Nat->aO->aO
 |[],ρ=>ρ
 |i::is,ρ=>fgt is (ρ.set i none)
def LU(f:aO->aO):Out->M Out
 | .nx ρ=>aa (.nx (f ρ))
 | .rt d=>aa (.rt d)
def eG(is:List Nat)(τ:DS):DS:=λρ=>τ ρ>>=LU (fgt is)
def StOk.fgt1{K:SN}(s:StOk K u8 Zx F H σ ρ)(i:Nat):StOk K u8 Zx F H σ (ρ.set i none):=by
 have get:∀(j:Nat) (sl:Sl),(ρ.set i none)[j]? =some (some sl)->ρ[j]? =some (some sl):=λj sl e=>by
  by_cases hj:j=i
  ·subst hj;by_cases hl:j<ρ.length
   ·rw[Tu hl] at e;cases e
   ·rw[Wv (by simpa using hl)] at e;cases e
  ·rw[TB (UW hj)] at e;exact e
 exact⟨s.ext,⟨s.st.fh,λj sl e=>s.st.den j sl (get j sl e)⟩,by simp[s.len],λj c a e e'=>s.own j c a (get j _ e) e',λj k sl kN v v' b e1 e2 e3 e4 h5 h6=>s.sep j k sl kN v v' b (get j _ e1) (get k _ e2) e3 e4 h5 h6⟩
theorem StOk.fgt{K:SN}:∀(is:List Nat) {ρ:aO},StOk K u8 Zx F H σ ρ->StOk K u8 Zx F H σ (L3.fgt is ρ)
 |[],_,s=>s
 |i::is,_,s=>StOk.fgt is (s.fgt1 i)
theorem WPS.fgt{K:SN}(w:WPS K Xw u8 Zx (m>>=LU (L3.fgt is)) Dn):WPS K Xw u8 Zx m Dn:=by
 match m,w with
 |none,w=>exact w
 |some (.ok (.nx ρ)),w=>exact λσ F H s=>w σ F H (s.fgt is)
 |some (.ok (.rt d)),w=>exact w
 |some (.ex n),w=>exact w
section
variable{X:Cx}{Xw:Nat->Hp->Prop}{Qe:List Stmt}{τ:DS}{is:List Nat}
def cJ(h:PSDs X Xw Qe τ):PSDs X Xw Qe (eG is τ):=λu8 Zx=>PSs.weak (h u8 Zx) λD σ H ⟨F,ρ,s,w⟩=>⟨F,ρ,s,WPS.fgt w⟩
end
def Qz:Option Sl->Option Sl
 |some (.ow c)=>some (.fz c.d)
 |some (.ob _ _)=>none
 |x=>x
def zJ(ρ:aO):aO:=ρ.map Qz
def refA(h:Heap)(P:Addr->Prop)[DecidablePred P](H:Hp):Hp:=λb=>if P b then(H b).map (i8 ((h.get? b).getD {cls:= .none,data:= .fields #[]})) else H b
def x_(ob:Obj)(o:HO):i8 ob o=o\/((∃k,o= .dT k)\/∃k,o= .dK k)/\i8 ob o= .frz ob o:=by
 cases o<;>first | exact .inl rfl | exact .inr ⟨.inl ⟨_,rfl⟩,rfl⟩ | exact .inr ⟨.inr ⟨_,rfl⟩,rfl⟩
section
variable{X:Cx}{f8:List (Addr×Obj)}{σ:St}{H:Hp}{s:SS}{P:Addr->Prop}[DecidablePred P]
def gQ(e:H b=none):refA h P H b=none:=by
 unfold refA;split
 ·rw[e];rfl
 ·exact e
def sL(e:H b=some o):refA h P H b=some o\/((∃k,o= .dT k)\/∃k,o= .dK k)/\P b/\refA h P H b=some (.frz ((h.get? b).getD {cls:= .none,data:= .fields #[]}) o):=by
 unfold refA;split
 ·rename_i hp;rw[e];rcases x_ ((h.get? b).getD {cls:= .none,data:= .fields #[]}) o with q | ⟨q1,q2⟩
  ·exact .inl (by show some _=_;rw[q])
  ·exact .inr ⟨q1,hp,by show some _=_;rw[q2]⟩
 ·exact .inl e
def gP(e:H b=some o)(n1:∀k,o≠ .dT k)(n2:∀k,o≠ .dK k):refA h P H b=some o:=by
 rcases sL (P:=P) e with q | ⟨⟨k,q⟩ | ⟨k,q⟩,_⟩
 ·exact q
 ·exact Y9 q (n1 k)
 ·exact Y9 q (n2 k)
theorem Inv.refA(I:Inv X f8 σ H s):Inv X f8 σ (L3.refA s.heap P H) s:=by
 have obj:∀b o,H b=some o->((∃k,o=HO.dT k)\/∃k,o= .dK k)->∃ob,s.heap.get? b=some ob:=λb o e hu=>by
  have hk:=I.hok b o e;rcases hu with⟨k,h1⟩ | ⟨k,h1⟩
  ·subst h1;obtain⟨_,_,_,_,ob,_,_,q,_⟩:=hk;exact⟨ob,q⟩
  ·subst h1;obtain⟨_,_,_,_,ob,_,_,q,_⟩:=hk;exact⟨ob,q⟩
 refine⟨I.ok,I.os,I.bare,⟨I.base.keep,I.base.slot,λb q h1 h2 h3=>gQ (I.base.free b q h1 h2 h3),I.base.there,λb xs q=>gP (I.base.tups b xs q) (λ_ z=>nomatch z) (λ_ z=>nomatch z),
  λb q1 v q=>gP (I.base.frzs b q1 v q) (λ_ z=>nomatch z) (λ_ z=>nomatch z),λb ps q=>?_⟩,I.loc,I.cell,gQ I.free,λx c q=>gQ (I.freeC x c q),λp hp=>?_,λb v q=>?_,I.len⟩
 ·obtain⟨m,this⟩:=I.base.tbls b ps q;exact⟨m,gP this (λ_ z=>nomatch z) (λ_ z=>nomatch z)⟩
 ·obtain⟨h1,h2,h3⟩:=I.pin p hp;exact⟨h1,gQ h2,h3⟩
 ·have st:∀{c:Addr}{v:HO},ObjOk X.prog X.w H s.heap c v->ObjOk X.prog X.w (L3.refA s.heap P H) s.heap c v:=λ{c v} k=>k.stay (λ_ _ _ q=>q)
   (λc' q=>gP q (λ_ z=>nomatch z) (λ_ z=>nomatch z)) λc' xs q=>gP q (λ_ z=>nomatch z) (λ_ z=>nomatch z)
  cases e:H b with
  |none=>rw[gQ e] at q;cases q
  |some o=>
   rcases sL (P:=P) e with z | ⟨hu,hp,z⟩
   ·rw[z] at q;cases q;exact st (I.hok b _ e)
   ·rw[z] at q;cases q;obtain⟨ob,IX⟩:=obj b o e hu;rw[IX];exact⟨IX,st (I.hok b o e)⟩
def unA(P:Addr->Prop)[DecidablePred P](H:Hp):Hp:=λb=>if P b then(match H b with | some (.frz _ u)=>some u | x=>x) else H b
theorem Inv.unA(I:Inv X f8 σ H s)(hP:∀b,P b->∀o u,X.Zx b≠some (.frz o u))(hQ:∀b,P b->∀o u,H b=some (.frz o u)->(∃k,u= .dT k)\/∃k,u= .dK k):Inv X f8 σ (L3.unA P H) s:=by
 have non:∀b,H b=none->L3.unA P H b=none:=λb e=>by unfold L3.unA;rw[e];split<;>rfl
 have keep:∀b o,H b=some o->(∀q u,o≠ .frz q u)->L3.unA P H b=some o:=λb o e n=>by
  unfold L3.unA;split
  ·rw[e];cases o<;>first | rfl | exact Y9 rfl (n _ _)
  ·exact e
 refine⟨I.ok,I.os,I.bare,⟨I.base.keep,I.base.slot,λb q h1 h2 h3=>non b (I.base.free b q h1 h2 h3),I.base.there,λb xs q=>keep b _ (I.base.tups b xs q) (λ_ _ z=>nomatch z),
  λb q1 v q=>?_,λb ps q=>?_⟩,I.loc,I.cell,non _ I.free,λx c q=>non _ (I.freeC x c q),λp hp=>?_,λb v q=>?_,I.len⟩
 ·have:=I.base.frzs b q1 v q;unfold L3.unA;rw[Y7 (λhp=>hP b hp q1 v q)];exact this
 ·obtain⟨m,this⟩:=I.base.tbls b ps q;exact⟨m,keep b _ this (λ_ _ z=>nomatch z)⟩
 ·obtain⟨h1,h2,h3⟩:=I.pin p hp;exact⟨h1,non _ h2,h3⟩
 ·have st:∀{c:Addr}{v:HO},ObjOk X.prog X.w H s.heap c v->ObjOk X.prog X.w (L3.unA P H) s.heap c v:=λ{c v} k=>k.stay (λ_ _ _ q=>q)
   (λc' q=>keep c' _ q (λ_ _ z=>nomatch z)) λc' xs q=>keep c' _ q (λ_ _ z=>nomatch z)
  cases e:H b with
  |none=>rw[non b e] at q;cases q
  |some o=>
   have ko:=I.hok b o e;by_cases hf:∃ob u,o= .frz ob u
   ·obtain⟨ob,u,rfl⟩:=hf;unfold L3.unA at q;split at q
    ·rw[e] at q;cases q;obtain⟨_,k2⟩:=ko;exact st k2
    ·rw[e] at q;cases q;exact st ko
   ·rw[keep b o e (λq u z=>hf ⟨q,u,z⟩)] at q;cases q;exact st ko
end
mutual
def zH:D->Bool
 | .non=>true
 | .bl _=>true
 | .int _=>true
 | .str _=>true
 | .tup ds=>zI ds
 | .raw _=>false
 | .exc _=>false
 | .scr _=>false
 | .lst _=>false
 | .dct _ _=>false
 | .dci _ _=>false
def zI:List D->Bool
 |[]=>true
 |d::ds=>zH d&&zI ds
end
def pe(d:D):M D:=if zH d then aa d else af
def OwnAt(σ:St)(ρ:aO)(b:Addr):Prop:=∃(i:Nat) (c:C),ρ[i]? =some (some (Sl.ow c))/\σ[i]? =some (some (V.ref b))
section
variable{K:SN}{F H F' H':Hp}{σ:St}{ρ:aO}{h:Heap}{b:Addr}
def OwnAt.obj(S:StE K F H σ ρ)(p:OwnAt σ ρ b):F b=none/\∃o,H b=some o/\((∃x,o= .lst x)\/(∃x,o= .dT x)\/∃x,o= .dK x):=by
 obtain⟨i,c,h1,h2⟩:=p;obtain⟨v,h3,a,o,rfl,h4,h5,h6⟩:=S.den i _ h1;rw[h3] at h2;cases h2;refine⟨h5,o,h4,?_⟩;cases c with
 |lst ds=>obtain⟨vs,rfl,_⟩:=h6;exact .inl ⟨_,rfl⟩
 |dct ks ds=>obtain⟨vs,rfl,_⟩:=h6;exact .inr (.inl ⟨_,rfl⟩)
 |dci ks ds=>obtain⟨vs,rfl,_⟩:=h6;exact .inr (.inr ⟨_,rfl⟩)
open Classical in
noncomputable def fA(σ:St)(ρ:aO)(H1 F:Hp):Hp:=λb=>if OwnAt σ ρ b then H1 b else F b
open Classical in
def zG(S:StE K F H σ ρ):Same F (fA σ ρ H1 F):=λb u e=>by
 unfold fA;rw[Y7 (λp=>by rw[(OwnAt.obj S p).1] at e;cases e)];exact e
open Classical in
def CM(S:StE K F H σ ρ):StE K (fA σ ρ (refA h (OwnAt σ ρ) H) F) (refA h (OwnAt σ ρ) H) σ (zJ ρ):=by
 refine⟨λb u e=>?_,λj sl e=>?_⟩
 ·unfold fA at e;split at e
  ·exact e
  ·rename_i hp;unfold refA;rw[Y7 hp];exact S.fh b u e
 ·unfold zJ at e;rw[S2] at e;cases q:ρ[j]? with
  |none=>rw[q] at e;cases e
  |some x=>
   rw[q] at e;cases x with
   |none=>cases e
   |some y=>
    cases y with
    |fz d=>
     cases e;obtain⟨v,h1,h2⟩:=S.den j _ q;exact⟨v,h1,Den.mono (zG S) h2⟩
    |ow c=>
     cases e;obtain⟨v,h1,a,o,rfl,h4,h5,h6⟩:=S.den j _ q;refine⟨_,h1,DenC.den (ob:=(h.get? a).getD {cls:= .none,data:= .fields #[]}) h6 (zG S) ?_⟩;have hp:OwnAt σ ρ a:=⟨j,c,q,h1⟩
     unfold fA refA;rw[Y6 hp,Y6 hp,h4];rfl
    |ob a o=>cases e
open Classical in
def vJ(S:StE K F H σ ρ)(E:Ext (fA σ ρ (refA h (OwnAt σ ρ) H) F) (refA h (OwnAt σ ρ) H) F' H'):
 Ext F H (λb=>if OwnAt σ ρ b then none else F' b) (unA (OwnAt σ ρ) H')/\∀b,OwnAt σ ρ b->∀o u,H' b=some (.frz o u)->(∃k,u= .dT k)\/∃k,u= .dK k:=by
 have Pd:∀b,OwnAt σ ρ b->∃o,H b=some o/\H' b=some (i8 ((h.get? b).getD {cls:= .none,data:= .fields #[]}) o)/\((∃x,o= .lst x)\/(∃x,o= .dT x)\/∃x,o= .dK x):=λb hp=>by
  obtain⟨_,o,h1,h2⟩:=OwnAt.obj S hp;refine⟨o,h1,E.hh b _ ?_,h2⟩;unfold refA;rw[Y6 hp,h1];rfl
 refine⟨⟨λb o e=>?_,λb u e=>?_,λb u e=>?_,λb hb=>?_⟩,λb hp o u e=>?_⟩
 ·unfold unA;by_cases hp:OwnAt σ ρ b
  ·obtain⟨o',h1,h2,h3⟩:=Pd b hp;rw[e] at h1;cases h1;rw[Y6 hp,h2];rcases h3 with⟨x,rfl⟩ | ⟨x,rfl⟩ | ⟨x,rfl⟩<;>rfl
  ·rw[Y7 hp];refine E.hh b o ?_;unfold refA;rw[Y7 hp];exact e
 ·have hp:¬OwnAt σ ρ b:=λp=>by rw[(OwnAt.obj S p).1] at e;cases e
  show (if OwnAt σ ρ b then none else F' b)=_;rw[Y7 hp];refine E.ff b u ?_;unfold fA;rw[Y7 hp];exact e
 ·have e:(if OwnAt σ ρ b then none else F' b)=some u:=e;split at e
  ·cases e
  ·rename_i hp;unfold unA;rw[Y7 hp];exact E.fh b u e
 ·show (if OwnAt σ ρ b then none else F' b)=F b\/_;by_cases hp:OwnAt σ ρ b
  ·rw[Y6 hp];exact .inl (OwnAt.obj S hp).1.symm
  ·rw[Y7 hp];have e1:refA h (OwnAt σ ρ) H b=H b:=by unfold refA;rw[Y7 hp]
   have e2:fA σ ρ (refA h (OwnAt σ ρ) H) F b=F b:=by unfold fA;rw[Y7 hp]
   rcases E.new b (by rw[e1];exact hb) with q | q
   ·exact .inl (q.trans e2)
   ·rw[e1] at q;exact .inr q
 ·obtain⟨o',h1,h2,h3⟩:=Pd b hp;rw[e] at h2;rcases h3 with⟨x,rfl⟩ | ⟨x,rfl⟩ | ⟨x,rfl⟩
  ·cases h2
  ·cases h2;exact .inl ⟨_,rfl⟩
  ·cases h2;exact .inr ⟨_,rfl⟩
open Classical in
mutual
theorem vF(S:StE K F H σ ρ)(E:Ext (fA σ ρ (refA h (OwnAt σ ρ) H) F) (refA h (OwnAt σ ρ) H) F' H'):∀{d:D}{v:V},zH d=true->Den K F' d v->Den K (λb=>if OwnAt σ ρ b then none else F' b) d v
 | .non,_,_,q=>q
 | .bl _,_,_,q=>q
 | .int _,_,_,q=>q
 | .str _,_,_,q=>q
 | .tup ds,_,f,⟨a,vs,h1,h2,h3,h4⟩=>by
   refine⟨a,vs,h1,?_,rO S E ?_ h3,h4⟩
   ·show (if OwnAt σ ρ a then none else F' a)=_;rw[Y7,h2];intro hp;obtain⟨_,o,k1,k2⟩:=OwnAt.obj S hp;have k3:fA σ ρ (refA h (OwnAt σ ρ) H) F a=some (i8 ((h.get? a).getD {cls:= .none,data:= .fields #[]}) o):=by
     unfold fA refA;rw[Y6 hp,Y6 hp,k1];rfl
    have k4:=E.ff a _ k3;rw[h2] at k4;rcases k2 with⟨x,rfl⟩ | ⟨x,rfl⟩ | ⟨x,rfl⟩<;>cases k4
   ·exact f
 | .raw _,_,f,_=>by cases f
 | .exc _,_,f,_=>by cases f
 | .scr _,_,f,_=>by cases f
 | .lst _,_,f,_=>by cases f
 | .dct _ _,_,f,_=>by cases f
 | .dci _ _,_,f,_=>by cases f
theorem rO(S:StE K F H σ ρ)(E:Ext (fA σ ρ (refA h (OwnAt σ ρ) H) F) (refA h (OwnAt σ ρ) H) F' H'):∀{ds:List D}{vs:List V},zI ds=true->DenL K F' ds vs->DenL K (λb=>if OwnAt σ ρ b then none else F' b) ds vs
 |[],_,_,q=>q
 |d::ds,_,f,⟨v,r,h1,h2,h3⟩=>by
  unfold zI at f;rw[Tp] at f;exact⟨v,r,h1,vF S E f.1 h2,rO S E f.2 h3⟩
end
end
def ud(h:noex m=aa a):m=aa a:=by
 match m,h with
 |some (.ok b),h=>exact h
section
variable{X:Cx}{Xw:Nat->Hp->Prop}{e:Expr}{δ:DE}{τ:DT}
def sC(I:Inv X f8 σ H s)(S:StE X.K F H σ ρ)(b:Addr)(p:OwnAt σ ρ b)(o:Obj)(u:HO):X.Zx b≠some (.frz o u):=λz=>by
 obtain⟨_,o',k1,k2⟩:=OwnAt.obj S p;have:=I.base.frzs b o u z;rw[k1] at this;rcases k2 with⟨x,rfl⟩ | ⟨x,rfl⟩ | ⟨x,rfl⟩<;>cases this
def pX(m:M α):noex m=af\/∃a,m=aa a/\noex m=aa a:=by
 rcases m.cs with h | ⟨n,h⟩ | ⟨a,h⟩
 ·subst h;exact .inl rfl
 ·subst h;exact .inl rfl
 ·subst h;exact .inr ⟨a,rfl,rfl⟩
def D1(h:qT X Xw e τ):qT X Xw e (λρ=>noex (τ (zJ ρ))):=λf8 s σ H Q I ⟨F,ρ,S,w⟩=>by
 classical
 rcases pX (τ (zJ ρ)) with q | ⟨b,q,q2⟩
 ·have w:WPB Xw F H (noex (τ (zJ ρ))) Q:=w;rw[q] at w;exact w.elim
 ·have w:WPB Xw F H (noex (τ (zJ ρ))) Q:=w;rw[q2] at w;refine bY (h f8 s σ _ (λb' H'=>Q b' (unA (OwnAt σ ρ) H')/\∀c,OwnAt σ ρ c->∀o u,H' c=some (.frz o u)->(∃k,u= .dT k)\/∃k,u= .dK k) (Inv.refA I) ⟨_,_,CM S,?_⟩) λb' s' ⟨H',I',q1,q3⟩=>⟨_,Inv.unA I' (sC I S) q3,q1⟩
  rw[q];intro H' F' E;obtain⟨E1,q3⟩:=vJ S E;exact⟨w _ _ E1,q3⟩
def L0(h:PD X Xw e δ):PD X Xw e (λρ=>noex (δ (zJ ρ))>>=pe):=λf8 s σ H Q I ⟨F,ρ,S,w⟩=>by
 classical
 rcases pX (δ (zJ ρ)) with q | ⟨d,q,q2⟩
 ·have w:WP X.K Xw F H (noex (δ (zJ ρ))>>=pe) Q:=w;rw[q] at w;exact w.elim
 ·have w:WP X.K Xw F H (noex (δ (zJ ρ))>>=pe) Q:=w;rw[q2,ai] at w;unfold pe at w;split at w
  ·rename_i hf;refine bY (h f8 s σ _ (λv H'=>Q v (unA (OwnAt σ ρ) H')/\∀c,OwnAt σ ρ c->∀o u,H' c=some (.frz o u)->(∃k,u= .dT k)\/∃k,u= .dK k) (Inv.refA I) ⟨_,_,CM S,?_⟩) λb' s' ⟨v,H',I',rv,q1,q3⟩=>⟨v,_,Inv.unA I' (sC I S) q3,rv,q1⟩
   rw[q];intro v H' F' E dn;obtain⟨E1,q3⟩:=vJ S E;exact⟨w _ _ _ E1 (vF S E hf dn),q3⟩
  ·exact w.elim
end
abbrev DF:=aO->M C
def WPF(K:SN)(Xw:Nat->Hp->Prop)(F H:Hp)(m:M C)(Q:VK):Prop:=
 match m with
 |none=>False
 |some (.ok c)=>∀a o H' F',Ext F H F' H'->H' a=some o->F' a=none->H a=none->DenC K F' c o->Q (.ref a) H'
 |some (.ex n)=>∀F' H',Ext F H F' H'->Xw n H'
def R4(K:SN)(Xw:Nat->Hp->Prop)(δ:DF):TE:=λσ H Q=>∃F ρ,StE K F H σ ρ/\WPF K Xw F H (δ ρ) Q
def O9(X:Cx)(Xw:Nat->Hp->Prop)(e:Expr)(δ:DF):Prop:=PE X e (R4 X.K Xw δ)
def EA(i:Nat)(δ:DF):DS:=λρ=>δ ρ>>=λc=>aa (.nx (ρ.set i (some (.ow c))))
def StOk.setFresh{K:SN}(s:StOk K u8 Zx F H σ ρ)(E:Ext F H F' H')(ho:H' a=some o)(nF:F' a=none)(n:H a=none)(h:DenC K F' c₀ o):
 StOk K u8 Zx F' H' (σ.set i (some (.ref a))) (ρ.set i (some (.ow c₀))):=by
 refine s.put (nsl:= .ow c₀) (nv:= .ref a) ⟨a,_,rfl,ho,nF,h⟩ (s.ext.trans E) E.ff (λj sl v hj h1 h2 b hb=>?_) λc b _ hb=>?_
 ·obtain⟨q1,u,q2,q3⟩:=(s.foot h1 h2).cell b hb;have ib:b≠a:=λz=>by rw[z,n] at q2;cases q2
  exact⟨by rw[q2];exact E.hh b u q2,by rw[E.old q2 q3];exact q1,λq=>ib (Tg.mp q)⟩
 ·cases hb;exact Same.free s.ext.hh n
def WPF.mono{K:SN}(h:WPF K Xw F H m Q)(k:∀v H',Q v H'->Q' v H'):WPF K Xw F H m Q':=by
 match m,h with
 |none,h=>exact h
 |some (.ok d),h=>exact λa o H' F' e h1 h2 h3 h4=>k _ _ (h a o H' F' e h1 h2 h3 h4)
 |some (.ex n),h=>exact h
def WPF.ext{K:SN}(e:Ext F H F1 H1)(h:WPF K Xw F H m Q):WPF K Xw F1 H1 m Q:=by
 match m,h with
 |none,h=>exact h
 |some (.ok d),h=>exact λa o H' F' e' h1 h2 h3 h4=>h a o H' F' (e.trans e') h1 h2 (Same.free e.hh h3) h4
 |some (.ex n),h=>exact λF2 H2 e2=>h F2 H2 (e.trans e2)
def WPF.bind{K:SN}(h:WPF K Xw F H (m>>=k) Q):WP K Xw F H m λv H1=>∃F1 d,Ext F H F1 H1/\Den K F1 d v/\WPF K Xw F1 H1 (k d) Q:=by
 match m,h with
 |none,h=>exact h
 |some (.ok d),h=>exact λv H2 F2 e2 q=>⟨F2,d,e2,q,WPF.ext e2 (show WPF K Xw F H (k d) Q from h)⟩
 |some (.ex n),h=>exact h
section
variable{X:Cx}{Xw:Nat->Hp->Prop}{e k v a b:Expr}{es:List Expr}{δ:DF}{pos pos':Pos}{x:Str}{i:Nat}
def Ec(hN:X.N.Nodup)(hi:X.N[i]? =some x)(hx:Loc X.env.scope x)(he:O9 X Xw e δ)(hf:X.fn x=true\/X.env.scope.names.lookup x=some .local:=by first | exact .inl rfl | exact .inr rfl)
 (hs:Wy [.Name x pos'] e pos.line X.env=pure false:=by rfl):
 nV X Xw (.Assign [.Name x pos'] e pos) (EA i δ):=λu8 Zx=>PS.weak (mC he (bH hN hi hx hf) hs) λD σ H ⟨F,ρ,s,w⟩=>by
 refine⟨F,ρ,s.st,?_⟩;unfold EA at w
 match δ ρ,w with
 |none,w=>exact w
 |some (.ok c),w=>exact λa o H' F' E h1 h2 h3 h4=>w _ F' H' (s.setFresh E h1 h2 h3 h4)
 |some (.ex n),w=>exact λF' H' e'=>w F' H' (s.ext.trans e')
def KO{a:Addr}{y v:V}(hu:A.units+1<cLine)(I:Inv X f8 σ H s)(g:DPut H a y v H')(ry:RelV y u)(rv:RelV v r)(h:∀s',Inv X f8 σ H' s'->Q () s'):
 wpAny (model X.prog X.w) A (dictSet a u r) Q E s:=by
 rcases g with⟨az,k,e,ey,l,eH⟩ | ⟨az,k,b,e,ey,eb,l,eH⟩
 ·subst ey eH;obtain⟨z,hd,vs,rel,dd⟩:=HC I.hok e;have hz:vs.length<=S9:=by rw[<-rel.length];exact z
  have hl:(putK az k v).length<=S9:=by have:=eO az k v;omega
  refine wpAny_dictSet_pairs (vQ ry) dd λh' Cu hs=>h _ ?_;have he:∃q,h'.get? a=some q:=let ⟨q,_,_,hq,_⟩:=Cu;⟨q,hq⟩
  exact k0 I (by rw[e];exact UL) hs he (CB hl hd (rel.put k rv) Cu)
 ·subst ey eH;cases (show u=Ts b from ry);obtain⟨z,hd,xs,rel,dd⟩:=CC I.hok e;have hz:xs.length<=S9:=by rw[<-UU rel];exact z
  have hl:(putK az k v).length<=S9:=by have:=eO az k v;omega
  refine wpAny_dictSet_heap (by exact(show A.units<cLine by omega)) (pG I.hok eb) dd λh' Cu hs=>h _ ?_;obtain⟨q,es,ep,hq,h2,h3,h4,_,h5⟩:=Cu;refine k0 I (by rw[e];exact UL) hs ⟨q,hq⟩ ⟨hl,hd,_,(rel.put k eb rv).keeps λc ys ec=>?_,q,es,ep,hq,h2,h3,h4,h5⟩;rw[au (Dv ec e (λz=>nomatch z))];exact ec
end
section
variable{X:Cx}{Xw:Nat->Hp->Prop}{e k v a b:Expr}{es:List Expr}{δk δv δa δb:DE}{pos p:Pos}{x:Str}{i:Nat}
def CA(hu:X.A.units+1<cLine)(h0:∀(H:Hp) (h:Heap),UC<h.objs.size->ObjOk X.prog X.w H (h.push {cls:= .type "dict",data:= .dict #[]}) h.objs.size o0)(hk:PE X k tk)(hv:PE X v tv):
 PE X (.Dict [some k] [v] pos) (λσ H Q=>∀p,H p=none->tk σ (upd H p o0) λy H1=>tv σ H1 λz H2=>∃H3,DPut H2 p y z H3/\Q (.ref p) H3):=by
 intro f8 s σ H Q I q _;have hn:=I.hok.fresh (SW s.heap.objs.size);have I1:=I.laid (t':=s.toks) (λ_ _ q=>SR _ q) (SW _) (h0 _ s.heap I.big);refine wpAny_Dict_any rfl rfl (by simp) (by simp) (bY (D_ hk hv GI f8 _ σ _ (λps H2=>∃y z H3,ps=[(y,z)]/\DPut H2 s.heap.objs.size y z H3/\Q (.ref s.heap.objs.size) H3) I1 ?_) λws s2 ⟨ps,H2,I2,rel,y,z,H3,ep,g,q2⟩=>?_)
 ·refine ?_;have:=q _ hn;show tk σ _ λy H1=>tv σ H1 λz H2=>∃y' z' H3,[(y,z)]=[(y',z')]/\DPut H2 s.heap.objs.size y' z' H3/\Q (.ref s.heap.objs.size) H3;have e:(λ(y:V) (H1:Hp)=>tv σ H1 λz H2=>∃y' z' H3,[(y,z)]=[(y',z')]/\DPut H2 s.heap.objs.size y' z' H3/\Q (.ref s.heap.objs.size) H3)=(λy H1=>tv σ H1 λz H2=>∃H3,DPut H2 s.heap.objs.size y z H3/\Q (.ref s.heap.objs.size) H3):=by
   funext y H1;congr 1;funext z H2;refine propext ⟨λ⟨y',z',H3,ee,r⟩=>?_,λ⟨H3,r⟩=>⟨y,z,H3,rfl,r⟩⟩;cases ee;exact⟨H3,r⟩
  rw[e];exact this
 ·subst ep;cases rel with
  | @cons a b as bs h t=>
    cases t;obtain⟨r1,r2⟩:=h;unfold storeAll;rw[Ww];refine SH (SH (KO hu I2 g r1 r2 λs3 I3=>?_));refine SQ ?_;show wpAny _ _ (forIn ([]:List (Value×Value)) Vq _) _ _ _;rw[List.forIn_nil];exact SQ ⟨V.ref s.heap.objs.size,_,I3,rfl,q2⟩
def rJ(k v:D):M C:=match nZ k with
 |some kk=>aa (.dct [kk] [v])
 |none=>af
def BG(hu:X.A.units+64<cLine)(hk:PD X Xw k δk)(hv:PD X Xw v δv):O9 X Xw (.Dict [some k] [v] pos) (λρ=>δk ρ>>=λx=>δv ρ>>=λy=>rJ x y):=
 PE.weak (CA (o0:= .dT []) (by omega) (λH h hb=>vA h hb) hk hv) λσ H Q ⟨F,ρ,s,w⟩ q hq=>by
  have e0:=Ext.free (o:= .dT []) s.fh hq;refine⟨F,ρ,s.ext e0,?_⟩;have w:WPF X.K Xw F H (δk ρ>>=λx=>δv ρ>>=λy=>rJ x y) Q:=w
  match MR:δk ρ,w with
  |none,w=>exact w
  |some (.ex n),w=>exact λF' H' e'=>w F' H' (e0.trans e')
  |some (.ok kd),w=>
   intro y H1 F1 e1 q1;refine⟨F1,ρ,(s.ext e0).ext e1,?_⟩;have w:WPF X.K Xw F H (δv ρ>>=λy=>rJ kd y) Q:=w
   match FP:δv ρ,w with
   |none,w=>exact w
   |some (.ex n),w=>exact λF' H' e'=>w F' H' (e0.trans (e1.trans e'))
   |some (.ok vd),w=>
    intro z H2 F2 e2 q2;have w3:WPF X.K Xw F H (rJ kd vd) Q:=w;clear w;unfold rJ at w3;cases HM:nZ kd with
    |none=>rw[HM] at w3;exact w3.elim
    |some kk=>
     rw[HM] at w3;have E:=e1.trans e2;have Rx:H2 q=some (.dT []):=E.hh _ _ aE;have NF:F2 q=none:=by
      have:=E.old aE (λ_ z=>nomatch z);rw[this];exact Same.free s.fh hq
     unfold nZ at HM;split at HM
     ·rename_i es;obtain⟨b,ws,rfl,k2,k3,_⟩:=Den.mono e2.ff q1;have e5:=lg HM k3;subst e5;refine⟨_,DPut.t Rx (e2.fh _ _ k2) (by rw[VF];decide),?_⟩;refine w3 q (.dT (putK [] kk z)) _ F2 ⟨λc u hc=>?_,(e0.trans E).ff,λc u hc=>?_,(e0.trans E).new⟩ aE NF hq ⟨[z],rfl, .cons q2 .nil,rfl,show 1<=lim by decide⟩
      ·rw[au (λzz=>by rw[zz,hq] at hc;cases hc)];exact(e0.trans E).hh c u hc
      ·rw[au (λzz=>by rw[zz,NF] at hc;cases hc)];exact e2.fh c u hc
     ·cases HM
def Fi{K:SN}{d k:D}{x y:V}(s:Same F H)(hd:Den K F d x)(hk:Den K F k y)(e:Hv d k=some o):
 ∃a ov,x= .ref a/\xB H a y ov/\ov.isSome=o.isSome/\∀d',o=some d'->∃v,ov=some v/\Den K F d' v:=by
 obtain⟨a,ov,h1,h2,h3,h4⟩:=zo (σ:=[some x]) (ρ:=[some (.fz d)]) (i:=0) ⟨s,λi sl q=>by
  match i,q with
  |0,q=>cases q;exact⟨x,rfl,hd⟩
  |i+1,q=>simp at q⟩ rfl hk e
 cases h1;exact⟨a,ov,rfl,h2,h3,h4⟩
def kE(neg:Bool)(k d:D):M D:=match Hv d k with
 |some o=>aa (.bl (if neg then !o.isSome else o.isSome))
 |none=>af
def JX(neg:Bool):R2:=λy x H Q=>∃a o,x= .ref a/\xB H a y o/\Q (.bl (if neg then !o.isSome else o.isSome)) H
def Ju(hu:X.A.units+64<cLine):OpR X (Uc .In) (JX false):=λf8 s σ H y x v u Q I ry rx ⟨a,o,ex,g,q⟩=>by
 subst ex;obtain rfl:u=Ts a:=rx;exact KN (by omega) I g ry λs' I'=>⟨.bl o.isSome,_,I',rfl,q⟩
def BA(hu:X.A.units+64<cLine):OpR X (Uc .NotIn) (JX true):=λf8 s σ H y x v u Q I ry rx ⟨a,o,ex,g,q⟩=>by
 subst ex;obtain rfl:u=Ts a:=rx;exact Fs (by omega) I g ry λs' I'=>⟨.bl (!o.isSome),_,I',rfl,q⟩
def z5{K:SN}:xt K (JX neg) (kE neg):=λXw F H y x dk dd Q s hk hd w=>by
 unfold kE at w;cases he:Hv dd dk with
 |none=>rw[he] at w;exact w.elim
 |some o=>
  rw[he] at w;obtain⟨a,ov,h1,h2,h3,_⟩:=Fi s hd hk he;refine⟨a,ov,h1,h2,?_⟩;rw[h3];exact WP.now w s rfl
def JS(hu:X.A.units+64<cLine)(ha:PD X Xw a δa)(hb:PD X Xw b δb)(hm:T7 .In b=false:=by rfl):qT X Xw (.Compare a [.In] [b] pos) (eA (d2 (kE false) δa δb)):=iz (Ju hu) z5 ha hb hm
def sH(hu:X.A.units+64<cLine)(ha:PD X Xw a δa)(hb:PD X Xw b δb)(hm:T7 .NotIn b=false:=by rfl):qT X Xw (.Compare a [.NotIn] [b] pos) (eA (d2 (kE true) δa δb)):=iz (BA hu) z5 ha hb hm
end
def FY:Key->D
 | .inl i=> .int i
 | .inr x=> .str x
def Hq(H:Hp)(d:Addr)(od:Obj)(i:Nat)(x:V):Prop:=
 (∃az k b,H d=some (.frz od (.dT az))/\(az.map (·.1))[i]? =some k/\x= .ref b/\H b=some (.tup (k.map kV)))\/
 ∃az k,H d=some (.frz od (.dK az))/\(az.map (·.1))[i]? =some k/\x=kV k
def O7(d:Addr)(od:Obj):It:=
 ⟨λi H=>(∃az,H d=some (.frz od (.dT az))/\i<az.length)\/∃az,H d=some (.frz od (.dK az))/\i<az.length,λi H x H'=>H'=H/\Hq H d od i x,
  λi H=>(∃az,H d=some (.frz od (.dT az))/\az.length<=i)\/∃az,H d=some (.frz od (.dK az))/\az.length<=i⟩
theorem nO{R:α->β->Prop}(h:∀a b,R a b->f a=g b):∀{l:List α}{m:List β},Xx R l m->l.map f=m.map g
 |_,_, .nil=>rfl
 |_,_, .cons r t=>by rw[SU,SU,h _ _ r,nO h t]
theorem kH:∀{l:List α}{m:List β}{i:Nat}{a:α},Xx R l m->l[i]? =some a->∃b,m[i]? =some b/\R a b
 |_,_,i,_, .nil,e=>by simp at e
 |_,_,0,_, .cons r t,e=>by simp at e;subst e;exact⟨_,rfl,r⟩
 |_,_,i+1,_, .cons r t,e=>by
  obtain⟨b,e1,e2⟩:=kH t (by simpa using e);exact⟨b,by simpa using e1,e2⟩
def BD{w:World}{κ:Type}[DecidableEq κ]{knd:KeyKind prog w κ}:∀{es:List Wt}{az:List (κ×Value)}{i:Nat}{kv:κ×Value},Pairs knd es az->az[i]? =some kv->∃e,es[i]? =some e/\knd.is kv.1 e.key=true:=by
 intro es az i kv h e;induction h generalizing i with
 |nil=>simp at e
 | @cons en Su Ki RQ h1 h2 h3 ih=>
   cases i with
   |zero=>simp at e;subst e;exact⟨en,rfl,h1⟩
   |succ i=>
    obtain⟨q,e1,e2⟩:=ih (by simpa using e);exact⟨q,by simpa using e1,e2⟩
def Ji(h:pE k u=true):RelV (kV k) u:=by
 rcases bQ h with⟨i,t,rfl,rfl⟩ | ⟨x,t,rfl,rfl⟩
 ·exact⟨t,rfl⟩
 ·exact⟨t,rfl⟩
def o_{σ:St}{H:Hp}(I:Inv X f8 σ H s)
 (h:(∃az,H d=some (.frz od (.dT az))/\n=az.length)\/∃az,H d=some (.frz od (.dK az))/\n=az.length):
 ∃es ep,(d==UC)=false/\s.heap.get? d=some od/\od.ExactDict/\od.data= .dict es ep/\es.size=n/\∀i,i<n->∃e x,es[i]? =some e/\RelV x e.key/\Hq H d od i x:=by
 rcases h with⟨az,e,rfl⟩ | ⟨az,e,rfl⟩
 ·obtain⟨ho,z,lo,xs,rel,o,es,ep,h1,h2,h3,h4,h5⟩:=(show ObjOk X.prog X.w H s.heap d (.frz od (.dT az)) from I.hok d _ e)
  rw[ho] at h1;cases h1;have hl:es.size=az.length:=by
   rw[<-Td,h4,SI];exact(UU rel).symm
  refine⟨es,ep,lo,ho,h2,h3,hl,λi hi=>?_⟩;obtain⟨q,e1,e2,e3,e4⟩:=kH rel (SK hi);refine⟨Yz (Vu (bF X.prog X.w)) q, .ref q.2.1,?_,rfl, .inl ⟨az,az[i].1,q.2.1,e,?_,rfl,e3⟩⟩
  ·rw[<-Vz,h4,S2,e1];rfl
  ·rw[S2,SK hi];rfl
 ·obtain⟨ho,z,lo,vs,rel,o,es,ep,h1,h2,h3,h4,h5,h6⟩:=(show ObjOk X.prog X.w H s.heap d (.frz od (.dK az)) from I.hok d _ e)
  rw[ho] at h1;cases h1;have hl:es.size=az.length:=by
   rw[<-Td,h5.length];exact(UU rel).symm
  refine⟨es,ep,lo,ho,h2,h3,hl,λi hi=>?_⟩;obtain⟨q,e1,e2,e3⟩:=kH rel (SK hi);obtain⟨en,e4,e5⟩:=BD h5 e1;refine⟨en,kV az[i].1,by rw[<-Vz];exact e4,?_, .inr ⟨az,az[i].1,e,by rw[S2,SK hi];rfl,rfl⟩⟩;rw[e2];exact Ji e5
def BX{K:SN}(d it:Addr)(od:Obj)(es:Array Wt)(ep:Nat)(nY:od.data= .dict es ep):
 Turn P w K tg (O7 d od) [it] it (λi h=>h.IsKeyIter it d i es.size ep) where
 mem:=by simp
 obj:=λi h st b hb=>by
  have e:b=it:=by simpa using hb
  subst e;obtain⟨o,e,c,dd⟩:=st;exact⟨o,e,λv z=>by rw[dd] at z;cases z⟩
 keep:=λi h h' st k=>st.at λo e=>k it (by simp) o e
 item:=by
  intro X hP hw hK hc i f8 s σ H E I hf st hg;subst hP hw hK;obtain⟨n,hn,hi⟩:∃n,((∃az,H d=some (.frz od (.dT az))/\n=az.length)\/∃az,H d=some (.frz od (.dK az))/\n=az.length)/\i<n:=by
   rcases hg with⟨az,e,hi⟩ | ⟨az,e,hi⟩
   ·exact⟨_, .inl ⟨az,e,rfl⟩,hi⟩
   ·exact⟨_, .inr ⟨az,e,rfl⟩,hi⟩
  obtain⟨Ki,Fy,lo,ho,hx,u6,hsz,hk⟩:=o_ I hn;rw[nY] at u6;cases u6;obtain⟨en,x,e1,rx,ka⟩:=hk i hi;obtain⟨f0,f1,f2,f3,f4,f5⟩:=hf it (by simp);refine vZ st ho nY e1 λh' qE sb=>?_;have I1:Inv X f8 σ H {s with heap:=h'}:=I.turned (λb o hb e=>(sb.2 b hb).trans e) f0 f1 f3 f4 f5;obtain⟨o,e2,c,dd⟩:=id qE;exact⟨_,rfl,rR e2 c dd (by decide) ⟨x,H,I1,rx,⟨rfl,ka⟩,qE,λb hb=>(hf b hb).1⟩⟩
 done:=by
  intro X hP hw hK hc i f8 s σ H E I hf st hg;subst hP hw hK;obtain⟨n,hn,hi⟩:∃n,((∃az,H d=some (.frz od (.dT az))/\n=az.length)\/∃az,H d=some (.frz od (.dK az))/\n=az.length)/\n<=i:=by
   rcases hg with⟨az,e,hi⟩ | ⟨az,e,hi⟩
   ·exact⟨_, .inl ⟨az,e,rfl⟩,hi⟩
   ·exact⟨_, .inr ⟨az,e,rfl⟩,hi⟩
  obtain⟨Ki,Fy,lo,ho,hx,u6,hsz,hk⟩:=o_ I hn;rw[nY] at u6;cases u6;obtain⟨f0,f1,f2,f3,f4,f5⟩:=hf it (by simp);exact rL (I.ok.hd hc) st (by omega) ho nY λh' eb=>⟨rfl,I.turned (λb o hb e=>eb b o hb e) f0 f1 f3 f4 f5⟩
 self:=λ_ _ _ _ _ st h=>wpAny_pyIter_keyiter st h
def tupK(k:List Key):D:= .tup (k.map FY)
def zZ:Key->Bool
 | .inl _=>true
 | .inr x=>decide (x.length<=lim)
def mV:D->M (List D)
 | .dct ks _=>if ks.all (λk=>decide (k.length<=lim)&&k.all zZ) then aa (ks.map tupK) else af
 | .dci ks _=>if ks.all zZ then aa (ks.map FY) else af
 |_=>af
def vR{K:SN}(h:zZ k=true):Den K F (FY k) (kV k):=by
 cases k with
 |inl i=>exact rfl
 |inr x=>exact⟨rfl,Za h⟩
theorem r6{K:SN}:∀{k:List Key},k.all zZ=true->DenL K F (k.map FY) (k.map kV)
 |[],_=>rfl
 |x::k,h=>by
  rw[VM,Tp] at h;exact .cons (vR h.1) (r6 h.2)
def C7{K:SN}(hd:Den K F d (.ref a))(hF:∃u,F a=some (.frz ob u))(e:mV d=aa ds):ItD K F (O7 a ob) ds:=λF' H' i s1 s2=>by
 unfold mV at e;split at e
 ·rename_i ks es;split at e
  ·rename_i hok;obtain rfl:=eK e;obtain⟨a',RW,vs,z,h2,h3,h4,h5⟩:=hd;cases z;obtain⟨u,hu⟩:=hF;rw[h2] at hu;cases hu;have hh:=s2 _ _ (s1 _ _ h2);have hz:=j6 (b:=vs) (by rw[h4];exact h3.len);have hl:(ks.zip vs).length=ks.length:=by rw[<-SI,hz]
   refine⟨λd e=>?_,λhle=> .inl ⟨_,hh,by rw[hl];simpa using hle⟩⟩;rw[S2] at e;cases q:ks[i]? with
   |none=>rw[q] at e;cases e
   |some k=>
    rw[q] at e;cases e;have hi:=(SY.mp q).1;refine⟨.inl ⟨_,hh,by rw[hl];exact hi⟩,λx H'' ⟨y1,y2⟩=>?_⟩;subst y1;have hk:=Uk.mp hok k (Th q);rw[Tp] at hk;rcases y2 with⟨az,k',b,q1,q2,rfl,q3⟩ | ⟨az,k',q1,q2,rfl⟩
    ·rw[hh] at q1;cases q1;rw[hz,q] at q2;cases q2;have E:=Ext.tup s2 q3;exact⟨_,E,b,_,rfl,aE,r6 hk.2,by rw[SI];exact Za hk.1⟩
    ·rw[hh] at q1;cases q1
  ·exact(eu e).elim
 ·rename_i ks es;split at e
  ·rename_i hok;obtain rfl:=eK e;obtain⟨a',RW,vs,z,h2,h3,h4,h5⟩:=hd;cases z;obtain⟨u,hu⟩:=hF;rw[h2] at hu;cases hu;have hh:=s2 _ _ (s1 _ _ h2);have hz:=j6 (b:=vs) (by rw[h4];exact h3.len);have hl:(ks.zip vs).length=ks.length:=by rw[<-SI,hz]
   refine⟨λd e=>?_,λhle=> .inr ⟨_,hh,by rw[hl];simpa using hle⟩⟩;rw[S2] at e;cases q:ks[i]? with
   |none=>rw[q] at e;cases e
   |some k=>
    rw[q] at e;cases e;have hi:=(SY.mp q).1;refine⟨.inr ⟨_,hh,by rw[hl];exact hi⟩,λx H'' ⟨y1,y2⟩=>?_⟩;subst y1;have hk:=Uk.mp hok k (Th q);rcases y2 with⟨az,k',b,q1,q2,rfl,q3⟩ | ⟨az,k',q1,q2,rfl⟩
    ·rw[hh] at q1;cases q1
    ·rw[hh] at q1;cases q1;rw[hz,q] at q2;cases q2;exact⟨F',Ext.refl s2,vR hk⟩
  ·exact(eu e).elim
 ·exact(eu e).elim
section
variable{X:Cx}{Xw:Nat->Hp->Prop}{tg l:Expr}{δ:DE}
def DY(h:PD X Xw l δ):zg X Xw tg l (λρ=>δ ρ>>=mV):=by
 intro f8 s σ H R I ⟨F,ρ,S,w⟩ _;refine bY (h f8 s σ H (λv H1=>∃F1 d,Ext F H F1 H1/\Den X.K F1 d v/\WPI X.K Xw F1 H1 (mV d) R) I ⟨F,ρ,S,WPI.bind w⟩) λu s1 ⟨v,H1,I1,r1,F1,d,e1,q1,w1⟩=>?_;rcases(mV d).cs with z | ⟨n,z⟩ | ⟨ds,z⟩
 ·rw[z] at w1;exact w1.elim
 ·exfalso
  unfold mV at z;split at z
  ·split at z<;>cases z
  ·split at z<;>cases z
  ·cases z
 ·rw[z] at w1;obtain⟨a,ob,u',rfl,hF,hn⟩:∃a ob u',v= .ref a/\F1 a=some (.frz ob u')/\∃n,((∃az,H1 a=some (.frz ob (.dT az))/\n=az.length)\/∃az,H1 a=some (.frz ob (.dK az))/\n=az.length):=by
   unfold mV at z;split at z
   ·obtain⟨a,ob,vs,e,h2,_⟩:=q1;exact⟨a,ob,_,e,h2,_, .inl ⟨_,e1.fh _ _ h2,rfl⟩⟩
   ·obtain⟨a,ob,vs,e,h2,_⟩:=q1;exact⟨a,ob,_,e,h2,_, .inr ⟨_,e1.fh _ _ h2,rfl⟩⟩
   ·exact(eu z).elim
  obtain⟨n,hn⟩:=hn;cases (show u=_ from r1);obtain⟨es,ep,lo,ho,hx,hd,hsz,hk⟩:=o_ I1 hn;refine rZ lo ho hx hd ?_;refine⟨s1.heap.objs.size,[s1.heap.objs.size],_,_,H1,rfl,I1.kept (t':=s1.toks) λb o e=>SR _ e,BX a _ ob es ep hd,⟨_,Ta _ rfl,rfl,rfl⟩,λb hb=>?_,w1 _ _ _ (Ext.refl e1.fh) (C7 q1 ⟨_,hF⟩ z)⟩;have e:b=s1.heap.objs.size:=by simpa using hb
  subst e;exact I1.fpOk (SW _) (I1.hok.fresh (SW _))
end
end L3
namespace L3
open PySem
section
variable{prog:To}{w:World}{K:Type}[DecidableEq K]{knd:HeapKind prog w K}{A:T9}{E:Value->SS->Prop}{s:SS}
def qz(hu:knd.room A)(FJ:knd.is s.heap k a)(hm:s.heap.DictOfH knd d xs)(hsz:xs.length<=S9)
 (hQ:∀h',h'.DictOfH knd d (Wz xs k a v)->U8 d s.heap h'->Q () {s with heap:=h'}):wpAny (model prog w) A (Xp d (.ref a) (knd.hash k) v) Q E s:=by
 obtain⟨o,es,ep,ho,hc,hd,he,NQ,hn⟩:=hm;unfold Xp;refine Vg (SH (wpAny_dictFind_heap hu FJ ho hd he NQ hn (λqZ=>?_) λj p hj=>?_))
 ·have e0:=atKey_none_of_get qZ;have hz:es.size<=S9:=by rw[Yg he];exact hsz
  refine SH (wpAny_rule (wpAny_updateDictKeys ho hd (hQ _ ?_ (TN ..))));rw[storedH_new e0];refine⟨_,_,ep+1,VA _ ho (WY (VJ hd _)),hc.mapDictKeys _,VJ hd _,by simp[he,Yz],λx hx=>?_,?_⟩
  ·rcases TH.mp hx with hx | hx
   ·exact knd.keeps (NQ x hx) ho hd (TN ..)
   ·obtain rfl:x=(k,a,v):=by simpa using hx
    exact knd.keeps FJ ho hd (TN ..)
  ·rw[Uj];refine Um.mpr ⟨hn,by simp,λx hx y hy z=>?_⟩;have hy:y=k:=by simpa using hy
   exact not_mem_keys_of_get qZ (by rw[<-hy,<-z];exact hx)
 ·have e0:=atKey_of_get hn hj;refine SH (wpAny_rule (SH (wpAny_updateDict ho hd (wpAny_point (hQ _ ?_ (TN ..))))));rw[storedH_old e0];refine⟨_,_,ep,VA _ ho (WY (Obj.data_mapDict hd _)),hc.mapDict _,Obj.data_mapDict hd _,?_,λx hx=>?_,by rw[keys_map_putAt];exact hn⟩
  ·have:=modify_map_putAt (Yz knd) (λe:Wt=>{e with val:=v}) k v (λ_ _=>rfl) hn hj;rw[<-he] at this;obtain⟨l⟩:=es;simpa using this
  ·obtain⟨y,hy,rfl⟩:=S7.mp hx;unfold putAt;split<;>exact knd.keeps (NQ y hy) ho hd (TN ..)
def cU(xs ys:List (K×Addr×Value)):List (K×Addr×Value):=ys.foldl (λv6 y=>Wz v6 y.1 y.2.1 y.2.2) xs
def xa(xs:List (K×Addr×Value))(k:K)(a:Addr)(v:Value):(Wz xs k a v).length<=xs.length+1:=by
 unfold Wz;split<;>simp
theorem mY:∀(ys xs:List (K×Addr×Value)),(cU xs ys).length<=xs.length+ys.length
 |[],xs=>SW _
 |y::ys,xs=>by
  have h1:=mY ys (Wz xs y.1 y.2.1 y.2.2);have h2:=xa xs y.1 y.2.1 y.2.2;show (cU (Wz xs y.1 y.2.1 y.2.2) ys).length<=_;rw[SO];omega
def t9{xs ys:List (K×Addr×Value)}(h:ys[i]? =some y):cU xs (ys.take (i+1))=Wz (cU xs (ys.take i)) y.1 y.2.1 y.2.2:=by
 rw[Y3,h];unfold cU;rw[List.foldl_append];rfl
theorem mZ:∀(ys v6:List (K×Addr×Value)),((v6++ys).map (·.1)).Nodup->cU v6 ys=v6++ys
 |[],v6,_=>by simp[cU]
 |y::ys,v6,hn=>by
  show cU (Wz v6 y.1 y.2.1 y.2.2) ys=_;have NZ:y.1∉v6.map (·.1):=λh=>by
   rw[Uj] at hn;exact(Um.mp hn).2.2 _ h _ (by simp) rfl
  have e0:atKey v6 y.1=none:=atKey_none_of_get λj p hj=>NZ (S7.mpr ⟨_,Th hj,rfl⟩);rw[storedH_new e0,mZ ys (v6++[(y.1,y.2.1,y.2.2)]) (by simpa using hn)];simp
def tL{id:String}(ho:s.heap.get? o=some ob)(hd:ob.data= .dict es ep)
 (hq:∀e∈es.toList,∃a,e.key= .ref a/\s.TypeIs (.ref a) "tuple")(hh:∀e∈es.toList,(es.filter (·.hash==e.hash)).size<=1)(h:Q es s):wpAny (model prog w) A (WM id o) Q E s:=by
 unfold WM;refine SH (UK ho hd ?_);rw[<-Array.forIn_toList];refine SH (wpAny_forIn_list _ (λW1 _ s'=>s'=s/\∀e∈W1,e∈es.toList) _ ?_ ?_ _ _ ⟨rfl,λ_ h=>h⟩)
 ·rintro e W1 b s' ⟨rfl,hr⟩;obtain⟨a,ea,ta⟩:=hq e (hr e (SM ..));have hf:=hh e (hr e (SM ..));have ki:¬((es.filter (·.hash==e.hash)).size>1):=by omega
  rw[ea];unfold Builtin.Dict.quietEq;refine SH (SH (wpAny_specialOf ta F.slot_tuple_eq.lookup (SQ ?_)));simp only[ki,if_false];have:(some (Value.builtin "tuple.__eq__")==some (Value.builtin "object.__eq__"))=false:=by decide
  simp only[this,WN,if_true];exact SQ ⟨rfl,λx hx=>hr x (SJ _ hx)⟩
 ·rintro b s' ⟨rfl,_⟩;exact SQ h
def pQ(hu:knd.room A)(PB:d≠o)(Rv:(o==UC)=false)(hd:s.heap.DictOfH knd d xs)(ho:s.heap.DictOfH knd o ys)
 (Rh:∀{h:Heap}{k:K}{a:Addr},knd.is h k a->∃ob,h.get? a=some ob/\ob.cls= .type "tuple")(hh:xs=[]->(ys.map λy=>knd.hash y.1).Nodup)(hsz:xs.length+ys.length<=S9)
 (hQ:∀h',h'.DictOfH knd d (cU xs ys)->U8 d s.heap h'->Q () {s with heap:=h'}):wpAny (model prog w) A (Xj nm d o) Q E s:=by
 obtain⟨od,Qt,Qs,A_,rS,nY,Q2,Sq,MS⟩:=id hd;obtain⟨oo,xX,MI,Lo,So,A7,B6,NP,qZ⟩:=id ho;have M2:=Yg B6;unfold Xj;rw[Y7 (by simpa using PB)];unfold V2;rw[Y7 (by rw[Rv];exact Te)];refine SH (SQ (SH (UK Lo A7 ?_)));have loop:∀(body:Nat->PUnit->Sem (ForInStep PUnit)),body=(λi (_:PUnit)=>(do
       let l'<-dictEntries o
       match l'[i]? with
        |some e=>do
         holding [e.key,e.val] (Xp d e.key e.hash e.val)
         let Fy<-dictEpoch o
         if (Fy !=MI)=true then do (unsupported (toString nm++toString ":source-changed-during-callback"):Sem PUnit);pure (Ud Vq) else pure (Ud Vq)
        |_=>do
         (unsupported "internal:dict-merge":Sem PUnit)
         pure (Ud Vq):Sem (ForInStep PUnit)))->wpAny (model prog w) A (forIn [:xX.size] Vq body) (λ_ s'=>Q () s') E s:=by
  rintro _ rfl;rw[Std.Legacy.Range.forIn_eq_forIn_range'];simp only[Std.Legacy.Range.size,Yt,Nat.add_sub_cancel,Nat.div_one];refine wpAny_forIn_list _ (λW1 _ s'=>∃h' i,s'={s with heap:=h'}/\W1=TZ i (xX.size - i)/\i<=xX.size/\h'.DictOfH knd d (cU xs (ys.take i))/\h'.get? o=some oo/\U8 d s.heap h') _ ?_ ?_ _ _
   ⟨s.heap,0,rfl,by simp,TQ _,by simpa[cU] using hd,Lo,X7 _ _⟩
  ·rintro x W1 b s' ⟨h',i,rfl,hr,hi,u6,IZ,FL⟩;have ki:i<xX.size:=by
    by_cases h:i<xX.size
    ·exact h
    ·rw[show xX.size - i=0 by omega] at hr;simp at hr
   rw[show xX.size - i=(xX.size - (i+1))+1 by omega,VB] at hr;injection hr with h1 h2
   subst h1;refine SH (UK IZ A7 ?_);obtain⟨y,hy⟩:∃y,ys[x]? =some y:=⟨_,SK (by omega)⟩
   rw[entry_at B6 x,hy];have Ro:(cU xs (ys.take x)).length<=S9:=by
    have e1:=mY (ys.take x) xs;rw[Vh] at e1;omega
   have Rj:knd.is h' y.1 y.2.1:=knd.keeps (NP y (Th hy)) A_ nY FL;refine SH (Vg (qz hu Rj u6 Ro λPm NL Ls=>?_));have HR:Pm.get? o=some oo:=(Ls.2 o (UW PB)).trans IZ;refine SH (V3 HR A7 ?_);rw[Y7 (by simp)];exact SQ ⟨Pm,x+1,rfl,h2,ki,by rw[t9 hy];exact NL,HR,FL.trans Ls⟩
  ·rintro b s' ⟨h',i,rfl,hr,hi,u6,IZ,FL⟩;have E_:i=xX.size:=by
    by_cases h:i<xX.size
    ·rw[show xX.size - i=(xX.size - (i+1))+1 by omega,VB] at hr;exact nomatch hr
    ·omega
   refine hQ h' ?_ FL;rw[E_,M2,Xk] at u6;exact u6
 have go:wpAny (model prog w) A (do
  let KQ<-dictEpoch o
  let l<-dictEntries o
  forIn [:l.size] Vq λi (_:PUnit)=>(do
   let l'<-dictEntries o
   match l'[i]? with
    |some e=>do
     holding [e.key,e.val] (Xp d e.key e.hash e.val)
     let Fy<-dictEpoch o
     if (Fy !=KQ)=true then do (unsupported (toString nm++toString ":source-changed-during-callback"):Sem PUnit);pure (Ud Vq) else pure (Ud Vq)
    |_=>do
     (unsupported "internal:dict-merge":Sem PUnit)
     pure (Ud Vq):Sem (ForInStep PUnit))
  pure ()) Q E s:=by
  refine SH (V3 Lo A7 (SH (UK Lo A7 (SH ?_))));exact Ux (loop _ rfl) (λ_ _ h=>SQ h) λ_ _ h=>h
 dsimp only
 split
 ·refine SH (UK A_ nY ?_);split
  ·rename_i NM;have Lv:xs=[]:=by
    have h0:Qt= #[]:=YX.mp NM;have:=Yg Q2;rw[h0] at this;exact Wg.mp (by simpa using this.symm)
   subst Lv;have Rq:=hh rfl;refine SH (tL Lo A7 (λe he=>?_) (λe he=>?_) ?_)
   ·rw[B6] at he;obtain⟨y,hy,rfl⟩:=S7.mp he;obtain⟨ob,h1,h2⟩:=Rh (NP y hy);exact⟨y.2.1,rfl,ob,h1,h2⟩
   ·have:(xX.filter (·.hash==e.hash)).size=((ys.map λy=>knd.hash y.1).filter (· ==e.hash)).length:=by
     rw[<-Td,Array.toList_filter,B6,XI,XI,SI,SI];rfl
    rw[this];have hc:=List.nodup_iff_count.mp Rq e.hash;rw[List.count_eq_countP,Xy] at hc;exact hc
   ·have hm:cU ([]:List (K×Addr×Value)) ys=ys:=by
     rw[mZ ys [] (by simpa using qZ)];rfl
    rw[hm] at hQ;split
    ·have RC:xX.size<=S9+1:=by simp at hsz;omega
     refine SH (wpAny_updateDictKeysTo A_ nY (SQ (hQ _ ⟨_,_,Qs+1,VA _ A_ (WY (VJ nY _)),rS.mapDictKeys _,VJ nY _,B6,λx hx=>?_,qZ⟩ (TN ..))) RC);exact knd.keeps (NP x hx) A_ nY (TN ..)
    ·rename_i ib;have h0:xX= #[]:=YX.mp (by simpa using ib);have Rk:ys=[]:=Wg.mp (by rw[<-M2,h0];rfl);subst Rk;exact SQ (hQ _ hd (X7 _ _))
  ·exact go
 ·exact go
end
end L3
namespace L3
open PySem PySem.Spec L2
open PyProof.Rows hiding St
def Hh(h1:(Vu (bF P w)).is h k a):∃ob,h.get? a=some ob/\ob.cls= .type "tuple":=by
 obtain⟨ob,aM,n,q1,q2,_⟩:=h1;exact⟨ob,q1,q2⟩
def ja(az more:List (List Key×V)):List (List Key×V):=more.foldl (λv6 kv=>putK v6 kv.1 kv.2) az
theorem zS:∀{more:List (List Key×V)}{ys:List (List Key×Addr×Value)},KT H more ys->∀{az:List (List Key×V)}{xs:List (List Key×Addr×Value)},KT H az xs->KT H (ja az more) (cU xs ys)
 |_,_, .nil,_,_,q=>q
 |_,_, .cons h t,az,xs,r=>by
  refine zS t ?_;have:=KT.put r _ h.2.1 h.2.2;rw[h.1] at this;show KT H (putK az _ _) (Wz xs _ _ _);rw[h.1];exact this
theorem pI:∀(more az:List (List Key×V)),(ja az more).length<=az.length+more.length
 |[],az=>SW _
 |p::r,az=>by
  have h1:=pI r (putK az p.1 p.2);have h2:=eO az p.1 p.2;show (ja (putK az p.1 p.2) r).length<=_;rw[SO];omega
def fZ(k:List Int):Int:=reduceHash (WZ (k.map hashInt))
def CT(k:List Int):(Vu (bF P w)).hash (pD k)=fZ k:=by
 show reduceHash (WZ ((pD k).map (LH w)))=_;unfold fZ pD;rw[Tf];rfl
section
variable{X:Cx}{f8:List (Addr×Obj)}{σ:St}{H:Hp}{s:SS}{a b:Addr}{A:T9}{E:Value->SS->Prop}
def Ct{ks:List (List Int)}(hu:A.units+2<cLine)(I:Inv X f8 σ H s)(ha:H a=some (.dT az))(hb:Rd H b (.dT more))(NI:a≠b)(hk:more.map (·.1)=ks.map pD)
 (hh:az=[]->(ks.map fZ).Nodup)(hz:az.length+more.length<=S9)(h:∀s',Inv X f8 σ (upd H a (.dT (ja az more))) s'->Q .none s'):
 wpAny (model X.prog X.w) A (call (.builtin "dict.update") [.ref a, .ref b]) Q E s:=by
 obtain⟨z1,lo1,xs,Mf,Pe⟩:=CC I.hok ha;obtain⟨z2,RS,ys,GS,Ft⟩:=vB I.hok hb;have l1:=UU Mf;have l2:=UU GS;have hT:=Pe.typeIs;refine UP XC hT PySem.F.entry_dict_update ?_ (PySem.F.args_dict_update_2 _ _);unfold Builtin.«dict.update»;refine SH ?_;unfold Builtin.Dict.selfAndRest;refine SH (wpAny_notOrdered_dict hT ?_);show wpAny _ _ (pure (a,[Ts b])) _ _ s;refine SQ ?_;show wpAny _ _ (Xd "dict.update" a (.ref b) [] .none) _ _ s;unfold Xd;refine SH (WR Ft.typeIs ?_);rw[Y7 (by decide)];refine SH ?_;unfold Builtin.Dict.merge;refine SH ?_;unfold Builtin.Dict.readDirectly;refine SH (wpAny_isInstance Ft.typeIs isSubtype_dict_dict ?_);simp only[Bool.not_true,Tt,if_false];refine SH (wpAny_specialOf Ft.typeIs PySem.F.slot_dict_iter.lookup (SQ ?_));simp only[beq_self_eq_true,if_true];refine SH (SQ ?_);refine pQ (show A.in1.units<cLine by show A.units+1<cLine;omega) NI RS Pe Ft Hh (λe0=>?_) (by omega) λh' Cu FL=>?_
 ·have e1:az=[]:=Wg.mp (by rw[l1,e0];rfl);have:=hh e1;have e2:(ys.map λy=>(Vu (bF X.prog X.w)).hash y.1)=ks.map fZ:=by
   have e3:more.map (·.1)=ys.map (·.1):=nO (λ_ _ r=>r.1) GS;rw[show (λy:List Key×Addr×Value=>(Vu (bF X.prog X.w)).hash y.1)=(Vu (bF X.prog X.w)).hash∘(·.1) from rfl,<-Tf,<-e3,hk,Tf];exact Ul λk _=>CT k
  rw[e2];exact this
 ·show wpAny _ _ (Builtin.Dict.addKeywords a []>>=_) _ _ _;refine SH (SQ (SQ ⟨.none,rfl,h _ ?_⟩));obtain⟨q,es,ep,hq,h2,h3,h4,_,h5⟩:=Cu;have hl:(ja az more).length<=S9:=by have:=pI more az;omega
  refine k0 I (by rw[ha];exact UL) FL ⟨q,hq⟩ ⟨hl,lo1,_,(zS GS Mf).keeps λc ys ec=>?_,q,es,ep,hq,h2,h3,h4,h5⟩;rw[au (Dv ec ha (λz=>nomatch z))];exact ec
end
def cz(ks:List (List Key))(ds:List D):List (List Key)->List D->List (List Key)×List D
 |k::ks',d::ds'=>cz (eh ks ds k) (c9 ks ds k d) ks' ds'
 |_,_=>(ks,ds)
def EY(ks:List (List Key))(ds:List D):D->Option C
 | .dct ks' ds'=>match fL ks' with
   |some ns=>if ds.length+ds'.length<=lim/\(ks.isEmpty=true->(ns.map fZ).Nodup) then some (.dct (cz ks ds ks' ds').1 (cz ks ds ks' ds').2) else none
   |none=>none
 |_=>none
theorem pO{K:SN}:∀{ks':List (List Key)}{ds':List D}{oQ:List V}{ks:List (List Key)}{ds:List D}{vs:List V},DenL K F ds' oQ->ks'.length=ds'.length->DenL K F ds vs->ks.length=ds.length->
 ∃ws,ja (ks.zip vs) (ks'.zip oQ)=(cz ks ds ks' ds').1.zip ws/\DenL K F (cz ks ds ks' ds').2 ws/\(cz ks ds ks' ds').1.length=(cz ks ds ks' ds').2.length
 |[],[],oQ,ks,ds,vs,h',_,h,hl=>⟨vs,rfl,h,hl⟩
 |k::ks',d::ds',oQ,ks,ds,vs,⟨v,r,e,h1,h2⟩,HN,h,hl=>by
  subst e;obtain⟨ws,e1,e2,e3⟩:=uF h1 k h hl;obtain⟨us,q1,q2,q3⟩:=pO h2 (by simpa using HN) e2 e3;refine⟨us,?_,q2,q3⟩;show ja (putK (ks.zip vs) k v) (ks'.zip r)=_;rw[e1];exact q1
 |[],_::_,_,_,_,_,_,HN,_,_=>by simp at HN
 |_::_,[],_,_,_,_,_,HN,_,_=>by simp at HN
def Ej[DecidableEq κ]{k:κ}(hl:ks.length=ds.length):(c9 ks ds k d).length<=ds.length+1:=by
 unfold c9;split
 ·rw[jo ks ds k d hl];omega
 ·simp
def Ek[DecidableEq κ]{k:κ}(hl:ks.length=ds.length):(eh ks ds k).length=(c9 ks ds k d).length:=by
 unfold c9 eh;split
 ·rw[jo ks ds k d hl];exact hl
 ·simp[hl]
theorem pP:∀{ks':List (List Key)}{ds':List D}{ks:List (List Key)}{ds:List D},ks.length=ds.length->(cz ks ds ks' ds').2.length<=ds.length+ds'.length
 |[],ds',ks,ds,_=>by show ds.length<=_;omega
 |_::_,[],ks,ds,_=>by show ds.length<=_;simp
 |k::ks',d::ds',ks,ds,hl=>by
  have h1:=pP (ks':=ks') (ds':=ds') (ks:=eh ks ds k) (ds:=c9 ks ds k d) (Ek hl);have h2:=Ej (k:=k) (d:=d) hl;show (cz (eh ks ds k) (c9 ks ds k d) ks' ds').2.length<=_;rw[SO];omega
section
variable{X:Cx}{Xw:Nat->Hp->Prop}{o e:Expr}{δ:DE}{pos p v4 aU:Pos}{x:Str}{i:Nat}
def EC(i:Nat)(δ:DE):DS:=λρ=>match BC ρ i with
 |some (.dct ks ds)=>δ ρ>>=λd=>match EY ks ds d with
  |some c'=>aa (.nx (ρ.set i (some (.ow c'))))
  |none=>af
 |_=>af
def JM(hu:X.A.units+2<cLine)(ho:PE X o td)(he:PE X e ty)(m:M1 X o "update" v4 e aU):
 PE X (.Call (.Attribute o "update" v4) [e] [] aU) (λσ H Q=>td σ H λx H1=>∃a,x= .ref a/\O6 H1 a/\ty σ H1 λy H2=>∃(b:Addr) (az more:List (List Key×V)) (ks:List (List Int)),y= .ref b/\H2 a=some (.dT az)/\Rd H2 b (.dT more)/\a≠b/\more.map (·.1)=ks.map pD/\(az=[]->(ks.map fZ).Nodup)/\az.length+more.length<=S9/\Q .non (upd H2 a (.dT (ja az more)))):=by
 intro f8 s σ H Q I h _;refine wpAny_Call_method m.base m.few m.line PySem.F.plainAttrs_dict XC (by rfl) (bY (ho f8 s σ H _ I h) λu s1 ⟨x,H1,I1,rx,a,ex,d,q1⟩=>?_);subst ex;obtain rfl:u=Ts a:=rx;obtain⟨t1,t2,_⟩:=Je I1 d;refine⟨t1,t2,?_⟩;rw[m.trees];refine Wk rfl (WI (VT (bY (he f8 s1 σ H1 _ I1 q1) λiv s2 ⟨y,H2,I2,ry,b,az,more,ks,ey,k1,k2,k3,k4,k5,k6,q2⟩=>Xa ?_)));subst ey;obtain rfl:iv=Ts b:=ry;exact Ct hu I2 k1 k2 k3 k4 k5 k6 λs3 I3=>⟨.non,_,I3,rfl,q2⟩
def GN(hu:X.A.units+64<cLine)(hv:PE X (.Name x p) (gY i))(he:PD X Xw e δ)(m:M1 X (.Name x p) "update" v4 e aU)(hs:Vv (.Call (.Attribute (.Name x p) "update" v4) [e] [] aU) none pos.line X.env=pure false:=by rfl):
 nV X Xw (.Expr (.Call (.Attribute (.Name x p) "update" v4) [e] [] aU) pos) (EC i δ):=λu8 Zx=>PS.weak (lM (JM (by omega) hv he m) hs) λD σ H ⟨F,ρ,s,w⟩=>by
 unfold EC at w;split at w
 ·rename_i ks ds MU;have hi:=sA MU;obtain⟨v,FP,a,oh,rfl,hH,hF,vs,rfl,hd,hl,hz⟩:=s.st.den i _ hi;refine⟨.ref a,FP,a,rfl, .inr ⟨_, .inl hH⟩,F,ρ,s.st,?_⟩;rcases(δ ρ).cs with q | ⟨n,q⟩ | ⟨d,q⟩
  ·rw[q] at w;exact w.elim
  ·rw[q] at w⊢;exact λF' H' e'=>w F' H' (s.ext.trans e')
  ·rw[q] at w⊢;intro u H1 F1 e1 hq;have w:WPS X.K Xw u8 Zx (match EY ks ds d with | some c'=>aa (.nx (ρ.set i (some (.ow c')))) | none=>af) D:=w;cases d with
   |dct ks' ds'=>
    obtain⟨b,ob,oQ,rfl,k2,k3,k4,k5⟩:=hq;cases hc:EY ks ds (.dct ks' ds') with
    |none=>rw[hc] at w;exact w.elim
    |some c'=>
     rw[hc] at w;have hc:(match fL ks' with | some ns=>if ds.length+ds'.length<=lim/\(ks.isEmpty=true->(ns.map fZ).Nodup) then some (C.dct (cz ks ds ks' ds').1 (cz ks ds ks' ds').2) else none | none=>none)=some c':=hc;cases hn:fL ks' with
     |none=>rw[hn] at hc;cases hc
     |some ns=>
      rw[hn] at hc;have hc:(if ds.length+ds'.length<=lim/\(ks.isEmpty=true->(ns.map fZ).Nodup) then some (C.dct (cz ks ds ks' ds').1 (cz ks ds ks' ds').2) else none)=some c':=hc;split at hc
      ·rename_i K8;cases hc;have Pz:=DenL.mono e1.ff hd;have l1:=Pz.len;have l2:=k3.len;have NI:a≠b:=λz=>by
        have:=e1.old hH (λ_ z=>nomatch z);rw[hF,z,k2] at this;cases this
       obtain⟨ws,m1,m2,m3⟩:=pO k3 k4 Pz hl;refine⟨b,ks.zip vs,ks'.zip oQ,ns,rfl,e1.hh _ _ hH, .inr ⟨ob,e1.fh _ _ k2⟩,NI,by rw[j6 (by rw[k4];exact l2),md hn],λz=>K8.2 ?_,?_,?_⟩
       ·have:=j6 (a:=ks) (b:=vs) (by rw[hl];exact l1);rw[z] at this;rw[<-this];rfl
       ·rw[XG,XG];have:=dS;omega
       ·rw[m1];exact w σ F1 _ ((s.ext' e1).chg hi FP ⟨ws,rfl,m2,m3,by have:=pP (ks':=ks') (ds':=ds') hl;omega⟩)
      ·cases hc
   |_=>exact w.elim
 ·exact w.elim
end
section
variable{a:Expr}
end
def ya:List Nat->Hs
 |[]=>K0
 |i::is=>HE (zL i) (ya is)
def yV:List Nat->List D->aO->aO
 |i::is,d::ds,ρ=>yV is ds (ρ.set i (some (.fz d)))
 |_,_,ρ=>ρ
def wI(is:List Nat):D->aO->Option aO
 | .tup ds,ρ=>if ds.length=is.length then some (yV is ds ρ) else none
 |_,_=>none
theorem sS{K:SN}{u8 Zx F H:Hp}{Q:St->Hp->Prop}:∀(is:List Nat) (ds:List D) (vs:List V) (σ:St) (ρ:aO),ds.length=is.length->StOk K u8 Zx F H σ ρ->DenL K F ds vs->(∀σ',StOk K u8 Zx F H σ' (yV is ds ρ)->Q σ' H)->ya is vs σ H Q
 |[],[],vs,σ,ρ,_,s,h,k=>⟨h,k σ s⟩
 |i::is,d::ds,vs,σ,ρ,hl,s,⟨v,r,e,h1,h2⟩,k=>by
  subst e;exact⟨v,r,rfl,sS is ds r _ _ (by simpa using hl) (s.set h1) h2 k⟩
 |[],_::_,_,_,_,hl,_,_,_=>by simp at hl
 |_::_,[],_,_,_,hl,_,_,_=>by simp at hl
def GO{K:SN}{is:List Nat}:zi K (K2 K is.length (ya is)) (wI is):=λu8 Zx F H σ ρ ρ' d v Q s q e k=>by
 unfold wI at e;split at e
 ·rename_i ds;split at e
  ·rename_i hl;cases e;obtain⟨a,vs,rfl,hs,hd,_⟩:=q;exact⟨a,vs,rfl,SqT.of (s.st.fh _ _ hs),by rw[<-hd.len];exact hl,sS is ds vs σ ρ hl s hd k⟩
  ·cases e
 ·cases e
mutual
def HB:D->Bool
 | .non=>true
 | .bl _=>true
 | .int _=>true
 | .str _=>true
 | .tup ds=>vy ds
 | .lst ds=>vy ds
 | .raw _=>false
 | .exc _=>false
 | .scr _=>false
 | .dct _ _=>false
 | .dci _ _=>false
def vy:List D->Bool
 |[]=>true
 |d::ds=>HB d&&vy ds
end
def wx(ρ:aO):Bool:=ρ.all λx=>match x with
 |some (.ow (.lst _))=>false
 |_=>true
def DM{i:Nat}(h:wx ρ=true)(e:ρ[i]? =some (some (.ow (.lst ds)))):False:=by
 have:=Uk.mp h _ (Th e);cases this
section
variable{K:SN}{F H F' H':Hp}{σ:St}{ρ:aO}{h:Heap}{b:Addr}
def OwnAt.dict(S:StE K F H σ ρ)(hd:wx ρ=true)(p:OwnAt σ ρ b):∃o,H b=some o/\((∃x,o= .dT x)\/∃x,o= .dK x):=by
 obtain⟨i,c,h1,h2⟩:=p;obtain⟨v,h3,a,o,rfl,h4,h5,h6⟩:=S.den i _ h1;rw[h3] at h2;cases h2;refine⟨o,h4,?_⟩;cases c with
 |lst ds=>exact(DM hd h1).elim
 |dct ks ds=>obtain⟨vs,rfl,_⟩:=h6;exact .inl ⟨_,rfl⟩
 |dci ks ds=>obtain⟨vs,rfl,_⟩:=h6;exact .inr ⟨_,rfl⟩
open Classical in
def zW(S:StE K F H σ ρ)(hd:wx ρ=true)(E:Ext (fA σ ρ (refA h (OwnAt σ ρ) H) F) (refA h (OwnAt σ ρ) H) F' H'){o:HO}(e:F' a=some o)(ib:∀q u,o≠ .frz q u):(if OwnAt σ ρ a then none else F' a)=some o:=by
 rw[Y7,e];intro hp;obtain⟨o',k1,k2⟩:=OwnAt.dict S hd hp;have k3:fA σ ρ (refA h (OwnAt σ ρ) H) F a=some (i8 ((h.get? a).getD {cls:= .none,data:= .fields #[]}) o'):=by
  unfold fA refA;rw[Y6 hp,Y6 hp,k1];rfl
 have k4:=E.ff a _ k3;rw[e] at k4;rcases k2 with⟨x,rfl⟩ | ⟨x,rfl⟩<;>cases k4<;>exact ib _ _ rfl
open Classical in
mutual
theorem Cv(S:StE K F H σ ρ)(hd:wx ρ=true)(E:Ext (fA σ ρ (refA h (OwnAt σ ρ) H) F) (refA h (OwnAt σ ρ) H) F' H'):∀{d:D}{v:V},HB d=true->Den K F' d v->Den K (λb=>if OwnAt σ ρ b then none else F' b) d v
 | .non,_,_,q=>q
 | .bl _,_,_,q=>q
 | .int _,_,_,q=>q
 | .str _,_,_,q=>q
 | .tup ds,_,f,⟨a,vs,h1,h2,h3,h4⟩=>⟨a,vs,h1,zW S hd E h2 (λ_ _ z=>nomatch z),l8 S hd E f h3,h4⟩
 | .lst ds,_,f,⟨a,vs,h1,h2,h3,h4⟩=>⟨a,vs,h1,zW S hd E h2 (λ_ _ z=>nomatch z),l8 S hd E f h3,h4⟩
 | .raw _,_,f,_=>by cases f
 | .exc _,_,f,_=>by cases f
 | .scr _,_,f,_=>by cases f
 | .dct _ _,_,f,_=>by cases f
 | .dci _ _,_,f,_=>by cases f
theorem l8(S:StE K F H σ ρ)(hd:wx ρ=true)(E:Ext (fA σ ρ (refA h (OwnAt σ ρ) H) F) (refA h (OwnAt σ ρ) H) F' H'):∀{ds:List D}{vs:List V},vy ds=true->DenL K F' ds vs->DenL K (λb=>if OwnAt σ ρ b then none else F' b) ds vs
 |[],_,_,q=>q
 |d::ds,_,f,⟨v,r,h1,h2,h3⟩=>by
  unfold vy at f;rw[Tp] at f;exact⟨v,r,h1,Cv S hd E f.1 h2,l8 S hd E f.2 h3⟩
end
end
def KJ(δ:DE):DE:=λρ=>noex (δ (zJ ρ))>>=pe
def Ks(τ:DT):DT:=λρ=>noex (τ (zJ ρ))
section
variable{a b:Expr}
def uV{x y:Str}(h:x.cps.toList=y.cps.toList):x=y:=by
 obtain⟨⟨a⟩⟩:=x;obtain⟨⟨b⟩⟩:=y;cases (show a=b from h);rfl
end
section
variable{X:Cx}{Xw:Nat->Hp->Prop}{a b e v:Expr}{δs:DA}{pos p:Pos}
def C5:List D->M D
 |[.bl b]=>aa (.int (if b then 1 else 0))
 |_=>af
def rD:CallR X (.type "int") (λxs H Q=>∃b:Bool,xs=[.bl b]/\Q (.int (if b then 1 else 0)) H):=by
 intro f8 s σ H xs us Q I r h;obtain⟨b,rfl,q⟩:=h;obtain⟨u,rfl,r1⟩:=r.one;cases (show u=_ from r1);exact call_int_bool ⟨.int _,H,I.tok _,⟨_,rfl⟩,q⟩
def Gs(hg:Gl X "int")(hm:X.mg "int"=none)(hb:T4 "int"=some (.type "int"))(ha:kU X Xw [e] δs)(he:SX [e] X.env=[(false,eval e X.env)]:=by rfl):PD X Xw (.Call (.Name "int" p) [e] [] pos) (dA C5 δs):=
 sF rD (λXw F H vs ds Q s h w=>by
  unfold C5 at w;split at w
  ·obtain⟨v,rfl,h1⟩:=h.one;exact⟨_,by rw[show v=_ from h1],WP.now w s rfl⟩
  ·exact w.elim) hg hm hb ha (by decide) (by decide) he rfl
end
end L3
namespace L3
open PySem PySem.SetTable
def iK(m b:Nat):Nat->Nat×Nat
 |0=>(b % (m+1),b)
 |k+1=>leap m (iK m b k).1 (iK m b k).2
def Kr(m i:Nat):Nat:=(i*5+1) % (m+1)
def it(m:Nat):Nat->Nat->Nat
 |0,x=>x
 |n+1,x=>Kr m (it m n x)
theorem pB(m:Nat):∀a b x,it m (a+b) x=it m a (it m b x)
 |0,b,x=>by rw[WC];rfl
 |a+1,b,x=>by rw[Y1];show Kr m _=Kr m _;rw[pB m a b x]
theorem Ly(m b:Nat):∀k,(iK m b k).2=b / 32 ^ k
 |0=>by simp[iK]
 |k+1=>by
  show (iK m b k).2 / 32=_;rw[Ly m b k,Yl,Nat.pow_succ]
theorem zP{m b:Nat}(hb:b<2 ^ 64):∀k,(iK m b (k+13)).1=it m k (iK m b 13).1
 |0=>by rw[WC];rfl
 |k+1=>by
  rw[Y1];have hq:(iK m b (k+13)).2 / 32=0:=by
   rw[Ly];refine Nat.div_eq_of_lt ?_;refine Vn (m:=b / 32 ^ 13) ?_ ?_
   ·rw[Nat.pow_add,Nat.mul_comm,<-Yl];exact Nat.div_le_self ..
   ·have:b / 32 ^ 13<1:=Nat.div_lt_of_lt_mul (by omega);omega
  show ((iK m b (k+13)).1*5+1+(iK m b (k+13)).2 / 32) % (m+1)=Kr m _;rw[hq,zP hb k];rfl
def MA(m:Nat):Prop:=m=7\/m=31\/m=127
def Ou(m:Nat):Nat->Nat->List Nat
 |0,_=>[]
 |n+1,x=>x::Ou m n (Kr m x)
theorem yI(m:Nat):∀(n x j:Nat),j∈Ou m n x->∃a,a<n/\it m a x=j
 |0,x,j,h=>by cases h
 |n+1,x,j,h=>by
  rcases S6.mp h with rfl | h
  ·exact⟨0,by omega,rfl⟩
  ·obtain⟨a,ha,e⟩:=yI m n (Kr m x) j h;exact⟨a+1,by omega,by rw[pB m a 1 x];exact e⟩
def Gn(hm:MA m):(∀j,j<m+1->j∈Ou m (m+1) 0)/\it m (m+1) 0=0:=by
 rcases hm with rfl | rfl | rfl
 ·exact⟨by decide+kernel,by decide+kernel⟩
 ·exact⟨by decide+kernel,by decide+kernel⟩
 ·exact⟨by decide+kernel,by decide+kernel⟩
def Qm(hm:MA m)(hi:i<m+1)(hj:j<m+1):∃n,n<=m/\it m n i=j:=by
 obtain⟨h1,h2⟩:=Gn hm;obtain⟨a,ha,rfl⟩:=yI m _ 0 i (h1 i hi);obtain⟨b,hb,rfl⟩:=yI m _ 0 j (h1 j hj);by_cases h:a<=b
 ·exact⟨b - a,by omega,by rw[<-pB,Nat.sub_add_cancel h]⟩
 ·refine⟨m+1 - a+b,by omega,?_⟩;rw[<-pB,show m+1 - a+b+a=b+(m+1) by omega,pB,h2]
def Lx(m b k:Nat):(iK m b k).1<m+1:=by
 cases k with
 |zero=>exact Nat.mod_lt _ (by omega)
 |succ k=>exact Nat.mod_lt _ (by omega)
def reach(hm:MA m)(hb:b<2 ^ 64)(hj:j<m+1):∃k,k<=m+13/\(iK m b k).1=j:=by
 obtain⟨n,hn,e⟩:=Qm hm (Lx m b 13) hj;exact⟨n+13,by omega,by rw[zP hb,e]⟩
def Pc(t:SetTable):Nat->Probe->Probe
 |0,p=>p
 |n+1,p=>Pc t n (t.advance p)
def vals(o:Array (Option Nat))(n:Nat):List Nat:=(S5 n).filterMap λj=>o.getD j none
structure TabOk (t:SetTable) (n:Nat) (ld:Bool):Prop where
 Sv:MA t.mask
 size:t.place.size=n
 Sj:t.dummies= #[]
 room:5*n<3*t.mask
 plain:t.plain=true
 led:t.led=ld
 rise:t.place.toList.Pairwise (· < ·)
def SetH(ld:Bool)(h:Heap)(a:Addr)(xs:List (Int×Value)):Prop:=∃o es ep t,h.get? a=some o/\o.ExactSet/\o.data= .set es ep t/\es.toList.Perm xs/\TabOk t es.size ld
def SetH.at{ld:Bool}{h h':Heap}{a:Addr}{xs:List (Int×Value)}(x:SetH ld h a xs)(e:∀o,h.get? a=some o->h'.get? a=some o):SetH ld h' a xs:=
 let ⟨o,es,ep,t,ho,r⟩:=x
 ⟨o,es,ep,t,e o ho,r⟩
end L3
namespace L3
open PySem PySem.Spec L2 HT
open PyProof.Rows hiding St
theorem items_int{P:To}{w:World}:∀{us:List Value}{ns:List Int},V9 us ns->ItemsAre (intKind P w) ns us
 |_,_, .nil=> .nil
 |_,_, .cons n t h=> .cons (intKind_is _ _ _ _) (items_int h)
end L3
namespace L3
open PySem PySem.SetTable PySem.W PyProof.Rows
def IsSI(h:Heap)(it a:Addr)(sl k n ep:Nat):Prop:=∃o,h.get? it=some o/\o.cls= .type "set_iterator"/\o.data= .fields #[X0 sl,X0 k, .ref a,X0 n,X0 ep]
def IsSI.at{h h':Heap}{it a:Addr}{sl k n ep:Nat}(x:IsSI h it a sl k n ep)(e:∀o,h.get? it=some o->h'.get? it=some o):IsSI h' it a sl k n ep:=let ⟨o,ho,r⟩:=x;⟨o,e o ho,r⟩
end L3
namespace L3
open PySem PySem.Spec L2 HT
open PyProof.Rows hiding St
section
variable{X:Cx}{Xw:Nat->Hp->Prop}{e:Expr}{δs:DA}{pos p:Pos}
def nR:List D->M D
 |[.lst ds]=>match nums ds with
  |some ns=>aa (.int ns.sum)
  |none=>af
 |_=>af
def AV(hc:X.calm=true):CallR X (.builtin "sum") (λxs H Q=>∃(p:Addr) (ns:List Int),xs=[.ref p]/\SqL X.K H p (ns.map V.int)/\Q (.int ns.sum) H):=by
 intro f8 s σ H xs us Q I r h;obtain⟨a,ns,rfl,hq,q⟩:=h;obtain⟨u,rfl,r1⟩:=r.one;cases (show u=_ from r1);obtain⟨aM,rv,pl,hz⟩:=I.list hq;have hi:V9 aM ns:=by simpa using intsAre_of rv
 obtain⟨xs,hx⟩:=hi.allInts.items;refine sum_intListG (I.ok.hd hc) (show s.heap.IsList a (intItems xs) from hx▸pl.isList) λh' tk t' hk=>?_;have e1:ns=xs.toList.map (·.1):=by
  rw[<-nums_intItems,<-hx];exact(show numsOf aM.toArray.toList=ns from hi.numsOf).symm
 rw[show preSum (numAt xs) xs.size=ns.sum by rw[preSum_eq,Vr (by simp),e1]];exact⟨.int ns.sum,H,I.kept hk,⟨_,rfl⟩,q⟩
def oK(hc:X.calm=true)(hg:Gl X "sum")(hm:X.mg "sum"=none)(hb:T4 "sum"=some (.builtin "sum"))(ha:kU X Xw [e] δs)(he:SX [e] X.env=[(false,eval e X.env)]:=by rfl):PD X Xw (.Call (.Name "sum" p) [e] [] pos) (dA nR δs):=
 eQ (AV hc) (λXw F H vs ds Q s h w=>by
  unfold nR at w;split at w
  ·rename_i ds;obtain⟨v,rfl,h1⟩:=h.one;obtain⟨a,ws,rfl,h2,h3,h4⟩:=h1;split at w
   ·rename_i ns Fb;have e:=pw Fb h3;subst e;exact⟨a,ns,rfl,SqL.of (s _ _ h2),WP.now w s rfl⟩
   ·exact w.elim
  ·exact w.elim) hg hm hb ha (by decide) (by decide) he rfl
end
section
variable{prog:To}{w:World}
def SetS(prog:To)(w:World)(h:Heap)(a:Addr)(xs:List Str):Prop:=h.SetOf (strKind prog w) a (λk=>decide (k∈xs)) xs.length
def SetS.at{h h':Heap}{a:Addr}{xs:List Str}(x:SetS prog w h a xs)(e:∀o,h.get? a=some o->h'.get? a=some o):SetS prog w h' a xs:=
 let ⟨o,es,ep,t,ho,r⟩:=x
 ⟨o,es,ep,t,e o ho,r⟩
end
def Ga:List Int->Int
 |[]=>0
 |[x]=>x
 |x::r=>min x (Ga r)
def LK:List D->M D
 |[.lst ds]=>match nums ds with
  |some ns=>if 0<ns.length then aa (.int (Ga ns)) else af
  |none=>af
 |_=>af
end L3
namespace L3
open PySem PySem.Spec L2
open PyProof.Rows hiding St
end L3
namespace L3
open PySem PySem.Spec L2 SeqAt HT
open PyProof.Rows hiding St
section
variable{a:Expr}
end
section
variable{X:Cx}{Xw:Nat->Hp->Prop}{e:Expr}{es:List Expr}{δ:DE}{pos p:Pos}
def vx(i:Nat)(δ:DE):DE:=λρ=>match ir ρ i with
 |some ds=>δ ρ>>=λk=>eC (.lst ds) k
 |none=>af
def DR(hv:PE X (.Name x p) (gY i))(hb:PD X Xw b δ)(hs:g6 b:=by intro _ _;rfl):PD X Xw (.Subscript (.Name x p) b pos) (vx i δ):=
 PE.weak (H8 tZ hv hb hs) λσ H Q ⟨F,ρ,s,w⟩=>by
  unfold vx at w;cases hi:ir ρ i with
  |none=>rw[hi] at w;exact w.elim
  |some ds=>
   rw[hi] at w;have ho:=gM hi;obtain⟨u,hu,_⟩:=s.den i _ ho;refine⟨u,hu,F,ρ,s,WP.mono (WP.bind w) λy H1 ⟨F1,k,e1,q1,w1⟩=>?_⟩;obtain⟨v,h3,a,o,rfl,h4,h5,vs,rfl,h6,h7⟩:=(s.ext e1).den i _ ho;rw[h3] at hu;cases hu;unfold eC at w1;split at w1
   ·rename_i es j ee;cases ee;split at w1
    ·rename_i d e;obtain⟨v,e2,q⟩:=h6.atI e;exact⟨a,vs,j,v,rfl,q1,SqL.of h4,e2,WP.now w1 e1.fh q⟩
    ·exact w1.elim
   ·exact w1.elim
end
end L3
namespace L3
open PySem PySem.Spec L2 HT
open PyProof.Rows hiding St
end L3
namespace L3
open PySem PySem.Spec L2 SeqAt HT
open PyProof.Rows hiding St
abbrev Nh:=List (Key×List Key)
def Fd(ps:Nh):Bool:=decide (ps.length<lim)&&ps.all λp=>decide (p.2.length<lim)
def Hu(ρ:aO):Bool:=ρ.all λx=>match x with | some (.ow _)=>false | some (.ob _ _)=>false | _=>true
structure Nr (K:SN) (u8 Zx G F H:Hp) (σ:St) (ρ:aO) (ni:Nat) (a:Addr) (bs:List Addr) (ps:Nh):Prop where
 ext:Ext u8 Zx F H
 gf:Same G F
 st:StE K F H σ ρ
 len:ρ.length=σ.length
 near:σ[ni]? =some (some (.ref a))
 ha:H a=some (.dK ((ps.map (·.1)).zip (bs.map V.ref)))
 hb:∀(i:Nat) (b:Addr) (p:Key×List Key),bs[i]? =some b->ps[i]? =some p->H b=some (.dK (p.2.map λk=>(k,V.bl true)))
 sz:bs.length=ps.length
 nd:(a::bs).Nodup
 fr:∀b∈a::bs,F b=none/\Zx b=none
 fz:Hu ρ=true
section
variable{K:SN}{u8 Zx G F H:Hp}{σ:St}{ρ:aO}{ni:Nat}{a:Addr}{bs:List Addr}{ps:Nh}
def Nr.at(n:Nr K u8 Zx G F H σ ρ ni a bs ps){b:Addr}(hb:b∈a::bs):∃az,H b=some (.dK az):=by
 rcases S6.mp hb with rfl | hb
 ·exact⟨_,n.ha⟩
 ·obtain⟨i,hi,rfl⟩:=WQ hb;exact⟨_,n.hb i _ (ps[i]'(by rw[<-n.sz];exact hi)) (SK hi) (SK _)⟩
end
end L3
namespace L3
open PySem PySem.SetTable
def tM(m:Nat):SetTable:={mask:=m,place:= #[],dummies:= #[],finger:=0,led:=false,moves:=0,plain:=true}
def pos(m:Nat)(h:Int)(n:Nat):Nat:=(Pc (tM m) n ((tM m).probeStart h)).j
def Ni(m:Nat)(Z:List (Nat×Int)):Prop:=∀x∈Z,∃n,n<10*turns m/\pos m x.2 n=x.1/\∀n',n'<n->∃h',(pos m x.2 n',h')∈Z
def RY(t:SetTable)(es:Array (Int×Value)):List (Nat×Int):=t.place.toList.zip (es.toList.map (·.1))
def SetR(ld:Bool)(h:Heap)(a:Addr)(xs:List (Int×Value)):Prop:=∃o es ep t,h.get? a=some o/\o.ExactSet/\o.data= .set es ep t/\es.toList.Perm xs/\TabOk t es.size ld/\Ni t.mask (RY t es)
def SetR.set:SetR ld h a xs->SetH ld h a xs:=λ⟨o,es,ep,t,a1,a2,a3,a4,a5,_⟩=>⟨o,es,ep,t,a1,a2,a3,a4,a5⟩
def SetR.at(x:SetR ld h a xs)(e:∀o,h.get? a=some o->h'.get? a=some o):SetR ld h' a xs:=
 let ⟨o,es,ep,t,ho,r⟩:=x
 ⟨o,es,ep,t,e o ho,r⟩
end L3
namespace L3
open PySem PySem.Spec L2 SeqAt HT
open PyProof.Rows hiding St
end L3
namespace L3
open PySem PySem.Spec L2 PySem.W
open PyProof.Rows hiding St
def Prs(es:Array Wt)(lo:Addr)(h:Heap)(n:Nat)(as:List Addr):Prop:=as.length=n/\as.Nodup/\∀(j:Nat) (a:Addr),as[j]? =some a->lo<a/\∃e,es[j]? =some e/\h.get? a=some {cls:= .type "tuple",data:= .seq #[e.key,e.val]}
def Prs.keep{es:Array Wt}{lo P8:Addr}{h h':Heap}{n:Nat}{as:List Addr}(p:Prs es lo h n as)(hl:P8<=lo)(hk:∀b o,lo<b->h.get? b=some o->h'.get? b=some o):Prs es P8 h' n as:=⟨p.1,p.2.1,λj a hj=>by
 obtain⟨h1,e,h2,h3⟩:=p.2.2 j a hj;exact⟨Vn hl h1,e,h2,hk a _ h1 h3⟩⟩
end L3
namespace L3
open PySem PySem.Spec L2 PySem.W SeqAt
open PyProof.Rows hiding St
end L3
namespace L3
open PySem PySem.W PyProof.Rows
end L3
namespace L3
open PySem PySem.Spec L2 PySem.W SeqAt
open PyProof.Rows hiding St
end L3
namespace L3
open PySem PySem.Spec L2 SeqAt HT
open PyProof.Rows hiding St
def LL(Zx F H:Hp)(D:Addr)(bs:List Addr):Prop:=H D=some (.lst (bs.map V.ref))/\(∀b∈bs,H b=some (.lst []))/\(D::bs).Nodup/\∀b∈D::bs,F b=none/\Zx b=none
section
variable{Zx F H F' H':Hp}{D:Addr}{bs:List Addr}
def LL.at(l:LL Zx F H D bs){b:Addr}(hb:b∈D::bs):∃xs,H b=some (.lst xs):=(S6.mp hb).elim (λz=>z▸⟨_,l.1⟩) λz=>⟨_,l.2.1 b z⟩
def LL.ext(l:LL Zx F H D bs)(e:Ext F H F' H'):LL Zx F' H' D bs:=⟨e.hh _ _ l.1,λb hb=>e.hh _ _ (l.2.1 b hb),l.2.2.1,λb hb=>by
 obtain⟨xs,hx⟩:=l.at hb;exact⟨by rw[e.old hx λts z=>nomatch z];exact(l.2.2.2 b hb).1,(l.2.2.2 b hb).2⟩⟩
end
structure Nl (K:SN) (u8 Zx G F H:Hp) (σ:St) (ρ:aO) (ni:Nat) (a:Addr) (bs:List Addr) (ps:List (List Int)):Prop where
 ext:Ext u8 Zx F H
 gf:Same G F
 st:StE K F H σ ρ
 len:ρ.length=σ.length
 near:σ[ni]? =some (some (.ref a))
 ha:H a=some (.lst (bs.map V.ref))
 hb:∀(i:Nat) (b:Addr) (p:List Int),bs[i]? =some b->ps[i]? =some p->H b=some (.lst (p.map V.int))
 sz:bs.length=ps.length
 nd:(a::bs).Nodup
 fr:∀b∈a::bs,F b=none/\Zx b=none
 fz:Hu ρ=true
section
variable{K:SN}{u8 Zx G F H:Hp}{σ:St}{ρ:aO}{ni:Nat}{a:Addr}{bs:List Addr}{ps:List (List Int)}
def Nl.at(n:Nl K u8 Zx G F H σ ρ ni a bs ps){b:Addr}(hb:b∈a::bs):∃xs,H b=some (.lst xs):=by
 rcases S6.mp hb with rfl | hb
 ·exact⟨_,n.ha⟩
 ·obtain⟨i,hi,rfl⟩:=WQ hb;exact⟨_,n.hb i _ (ps[i]'(by rw[<-n.sz];exact hi)) (SK hi) (SK _)⟩
end
end L3
namespace L3
open PySem PySem.Spec L2
open PyProof.Rows hiding St
structure StX (K:SN) (u8 Zx F H:Hp) (σ:St) (ρ:aO):Prop where
 ok:StOk K u8 Zx F H σ ρ
 obn:∀(i:Nat) (a:Addr) (o:Ob) (b:Addr),ρ[i]? =some (some (.ob a o))->b∈aW H o a->Zx b=none
section
variable{K:SN}{u8 Zx F H F' H':Hp}{σ:St}{ρ:aO}
theorem StX.den(s:StX K u8 Zx F H σ ρ){i:Nat}{sl:Sl}(h:ρ[i]? =some (some sl)):∃v,σ[i]? =some (some v)/\DenO K F H sl v:=s.ok.st.den i sl h
def StX.at(s:StX K u8 Zx F H σ ρ){i:Nat}{a:Addr}{o:Ob}(h:ρ[i]? =some (some (.ob a o))):σ[i]? =some (some (.ref a))/\ObAt K F H o a:=by
 obtain⟨v,h1,h2,h3⟩:=s.den h;exact⟨by rw[h1,h2],h3⟩
theorem StX.ext'(s:StX K u8 Zx F H σ ρ)(e:Ext F H F' H'):StX K u8 Zx F' H' σ ρ:=⟨s.ok.ext' e,λi a o b h hb=>by
 have h2:=(s.at h).2;have:aW H' o a=aW H o a:=(DenO.ext' (K:=K) (sl:= .ob a o) (v:= .ref a) e ⟨rfl,h2⟩).2;exact s.obn i a o b h (this▸hb)⟩
def StX.tail(s:StX K u8 Zx F H (x::σ) (y::ρ)):StX K u8 Zx F H σ ρ:=
 ⟨⟨s.ok.ext,⟨s.ok.st.fh,λi sl h=>let ⟨v,h1,h2⟩:=s.ok.st.den (i+1) sl (by simpa using h);⟨v,by simpa using h1,h2⟩⟩,by have:=s.ok.len;simpa using this,
  λi c a h1 h2=>s.ok.own (i+1) c a (by simpa using h1) (by simpa using h2),λi j sl kN v v' b h1 h2 h3 h4 h5 h6=>Nat.succ.inj (s.ok.sep (i+1) (j+1) sl kN v v' b (by simpa using h1) (by simpa using h2) (by simpa using h3) (by simpa using h4) h5 h6)⟩,
  λi a o b h hb=>s.obn (i+1) a o b (by simpa using h) hb⟩
def StX.cons(s:StX K u8 Zx F H σ ρ){d:D}{v:V}(h:Den K F d v):StX K u8 Zx F H (some v::σ) (some (.fz d)::ρ):=by
 refine⟨⟨s.ok.ext,⟨s.ok.st.fh,λi sl e=>?_⟩,by simp[s.ok.len],λi c a e e'=>?_,λi j sl kN u u' b e1 e2 e3 e4 h5 h6=>?_⟩,λi a o b e hb=>?_⟩
 ·cases i with
  |zero=>cases e;exact⟨v,rfl,h⟩
  |succ i=>obtain⟨u,h1,h2⟩:=s.ok.st.den i sl (by simpa using e);exact⟨u,by simpa using h1,h2⟩
 ·cases i with
  |zero=>cases e
  |succ i=>exact s.ok.own i c a (by simpa using e) (by simpa using e')
 ·cases i with
  |zero=>cases e1;cases h5
  |succ i=>
   cases j with
   |zero=>cases e2;cases h6
   |succ j=>exact Zd _ (s.ok.sep i j sl kN u u' b (by simpa using e1) (by simpa using e2) (by simpa using e3) (by simpa using e4) h5 h6)
 ·cases i with
  |zero=>cases e
  |succ i=>exact s.obn i a o b (by simpa using e) hb
def StX.store(s:StX K u8 Zx F H (some v::σ) (some r::ρ))(i:Nat):StX K u8 Zx F H (σ.set i (some v)) (ρ.set i (some r)):=by
 have t:=s.tail;have hd:DenO K F H r v:=by
  obtain⟨u,h1,h2⟩:=s.ok.st.den 0 r rfl;cases h1;exact h2
 refine⟨t.ok.put hd t.ok.ext (Same.refl _) (λj sl u hj h1 h2 b hb=>⟨rfl,((t.ok.foot h1 h2).cell b hb).1,λq=>?_⟩) λc b h1 h2=>s.ok.own 0 c b (by rw[h1];rfl) (by rw[h2];rfl),λj a o b e hb=>?_⟩
 ·have:=s.ok.sep 0 (j+1) r sl v u b rfl (by simpa using h1) rfl (by simpa using h2) q hb;cases this
 ·by_cases hj:j=i
  ·subst hj;have hi:j<ρ.length:=by
    have:=(SY.mp e).1;simpa using this
   rw[Tu hi] at e;cases e;exact s.obn 0 a o b rfl hb
  ·rw[TB (UW hj)] at e;exact t.obn j a o b e hb
end
inductive OE where
 |val (r:Sl) (ρ:aO) | ex (n:Nat) (ρ:aO)
inductive TX where
 |val (b:Bool) (ρ:aO) | ex (n:Nat) (ρ:aO)
inductive OX where
 |nx (ρ:aO) | rt (r:Sl) (ρ:aO) | ex (n:Nat) (ρ:aO)
structure XF (α:Type) where
 f:aO->(α->Prop)->Prop
 mono:∀ρ P Q,(∀x,P x->Q x)->f ρ P->f ρ Q
abbrev XE:=XF OE
abbrev XT:=XF TX
abbrev XS:=XF OX
def rK(K:SN)(Xw:Nat->Hp->Prop)(u8 Zx:Hp)(σ:St)(Q:VK):OE->Prop
 | .val r ρ=>∀v F H,StX K u8 Zx F H (some v::σ) (some r::ρ)->Q v H
 | .ex n ρ=>∀F H,StX K u8 Zx F H σ ρ->Xw n H
def vC(K:SN)(Xw:Nat->Hp->Prop)(u8 Zx:Hp)(σ:St)(Q:Bool->Hp->Prop):TX->Prop
 | .val b ρ=>∀F H,StX K u8 Zx F H σ ρ->Q b H
 | .ex n ρ=>∀F H,StX K u8 Zx F H σ ρ->Xw n H
def gB(K:SN)(Xw:Nat->Hp->Prop)(u8 Zx:Hp)(Dn:Ends):OX->Prop
 | .nx ρ=>∀σ F H,StX K u8 Zx F H σ ρ->Dn.nx σ H
 | .rt r ρ=>∀v σ F H,StX K u8 Zx F H (some v::σ) (some r::ρ)->Dn.rt v H
 | .ex n ρ=>∀σ F H,StX K u8 Zx F H σ ρ->Xw n H
def tX(K:SN)(Xw:Nat->Hp->Prop)(u8 Zx:Hp)(χ:XE):TE:=λσ H Q=>∃F ρ,StX K u8 Zx F H σ ρ/\χ.f ρ (rK K Xw u8 Zx σ Q)
def Sb(K:SN)(Xw:Nat->Hp->Prop)(u8 Zx:Hp)(χ:XT):TT:=λσ H Q=>∃F ρ,StX K u8 Zx F H σ ρ/\χ.f ρ (vC K Xw u8 Zx σ Q)
def OU(K:SN)(Xw:Nat->Hp->Prop)(u8 Zx:Hp)(τ:XS):TS:=λDn σ H=>∃F ρ,StX K u8 Zx F H σ ρ/\τ.f ρ (gB K Xw u8 Zx Dn)
def PX(X:Cx)(Xw:Nat->Hp->Prop)(e:Expr)(χ:XE):Prop:=∀u8 Zx,PE X e (tX X.K Xw u8 Zx χ)
def Ng(X:Cx)(Xw:Nat->Hp->Prop)(e:Expr)(χ:XT):Prop:=∀u8 Zx,PT X e (Sb X.K Xw u8 Zx χ)
def zh(X:Cx)(Xw:Nat->Hp->Prop)(st:Stmt)(τ:XS):Prop:=∀u8 Zx,PS X st (OU X.K Xw u8 Zx τ)
def PXSs(X:Cx)(Xw:Nat->Hp->Prop)(st:List Stmt)(τ:XS):Prop:=∀u8 Zx,PSs X st (OU X.K Xw u8 Zx τ)
def Hm(i:Nat)(χ:XE):XS:=⟨λρ Q=>χ.f ρ λx=>match x with | .val r ρ'=>Q (.nx (ρ'.set i (some r))) | .ex n ρ'=>Q (.ex n ρ'),λρ P Q k h=>χ.mono ρ _ _ (λx hx=>by cases x<;>exact k _ hx) h⟩
def O0(χ:XE):XS:=⟨λρ Q=>χ.f ρ λx=>match x with | .val r ρ'=>Q (.rt r ρ') | .ex n ρ'=>Q (.ex n ρ'),λρ P Q k h=>χ.mono ρ _ _ (λx hx=>by cases x<;>exact k _ hx) h⟩
def E4:XS:=⟨λρ Q=>Q (.nx ρ),λρ P Q k h=>k _ h⟩
def bZ(a b:XS):XS:=⟨λρ Q=>a.f ρ λx=>match x with | .nx ρ'=>b.f ρ' Q | x=>Q x,λρ P Q k h=>a.mono ρ _ _ (λx hx=>by
 cases x with
 |nx ρ'=>exact b.mono ρ' _ _ k hx
 |rt r ρ'=>exact k _ hx
 |ex n ρ'=>exact k _ hx) h⟩
def Kd(c:XT)(a b:XS):XS:=⟨λρ Q=>c.f ρ λx=>match x with | .val t ρ'=>if t then a.f ρ' Q else b.f ρ' Q | .ex n ρ'=>Q (.ex n ρ'),λρ P Q k h=>c.mono ρ _ _ (λx hx=>by
 cases x with
 |val t ρ'=>
  cases t
  ·exact b.mono ρ' _ _ k hx
  ·exact a.mono ρ' _ _ k hx
 |ex n ρ'=>exact k _ hx) h⟩
def Hn(δ:DT):XT:=⟨λρ Q=>match δ ρ with | none=>False | some (.ok b)=>Q (.val b ρ) | some (.ex n)=>Q (.ex n ρ),λρ P Q k h=>by
 match δ ρ,h with
 |some (.ok d),h=>exact k _ h
 |some (.ex n),h=>exact k _ h⟩
section
variable{X:Cx}{Xw:Nat->Hp->Prop}{st:Stmt}{W1:List Stmt}{τ τ':XS}{e:Expr}{χ:XE}{δ:DE}{pos pos':Pos}
def Ak{x:Str}{i:Nat}(hN:X.N.Nodup)(hi:X.N[i]? =some x)(hx:Loc X.env.scope x)(he:PX X Xw e χ)(hf:X.fn x=true\/X.env.scope.names.lookup x=some .local:=by first | exact .inl rfl | exact .inr rfl)
 (hs:Wy [.Name x pos'] e pos.line X.env=pure false:=by rfl):zh X Xw (.Assign [.Name x pos'] e pos) (Hm i χ):=λu8 Zx=>PS.weak (mC (he u8 Zx) (bH hN hi hx hf) hs) λD σ H ⟨F,ρ,s,w⟩=>
 ⟨F,ρ,s,χ.mono ρ _ _ (λx hx=>by
  cases x with
  |val r ρ'=>exact λv F' H' st=>hx _ F' H' (st.store i)
  |ex n ρ'=>exact λF' H' st=>hx σ F' H' st) w⟩
def Aj:PXSs X Xw [] E4:=λu8 Zx=>PSs.weak Ae λD σ H ⟨F,ρ,s,w⟩=>w σ F H s
def aJ(h1:zh X Xw st τ)(h2:PXSs X Xw W1 τ'):PXSs X Xw (st::W1) (bZ τ τ'):=λu8 Zx=>PSs.weak (qq (h1 u8 Zx) (h2 u8 Zx)) λD σ H ⟨F,ρ,s,w⟩=>
 ⟨F,ρ,s,τ.mono ρ _ _ (λx hx=>by
  cases x with
  |nx ρ'=>exact λσ' F' H' st=>⟨F',ρ',st,hx⟩
  |rt r ρ'=>exact hx
  |ex n ρ'=>exact hx) w⟩
def iB(h1:zh X Xw st τ):PXSs X Xw [st] τ:=λu8 Zx=>oM (h1 u8 Zx)
def En{c:Expr}{δ:DT}(h:qT X Xw c δ):Ng X Xw c (Hn δ):=λu8 Zx=>λf8 sh σ H Q I ⟨F,ρ,s,w⟩=>by
 refine h f8 sh σ H Q I ⟨F,ρ,s.ok.st,?_⟩;have w:(match δ ρ with | none=>False | some (.ok d)=>vC X.K Xw u8 Zx σ Q (.val d ρ) | some (.ex n)=>vC X.K Xw u8 Zx σ Q (.ex n ρ)):=w
 match δ ρ,w with
 |some (.ok d),w=>exact λH' F' e=>w F' H' (s.ext' e)
 |some (.ex n),w=>exact λF' H' e=>w F' H' (s.ext' e)
def Em{c:Expr}{a b:List Stmt}{tc:XT}(hc:Ng X Xw c tc)(ha:PXSs X Xw a τ)(hb:PXSs X Xw b τ'):zh X Xw (.If c a b pos) (Kd tc τ τ'):=λu8 Zx=>PS.weak (H_ (hc u8 Zx) (ha u8 Zx) (hb u8 Zx)) λD σ H ⟨F,ρ,s,w⟩=>
 ⟨F,ρ,s,tc.mono ρ _ _ (λx hx=>by
  cases x with
  |val t ρ'=>
   cases t
   ·exact λF' H' st=>⟨F',ρ',st,hx⟩
   ·exact λF' H' st=>⟨F',ρ',st,hx⟩
  |ex n ρ'=>exact λF' H' st=>hx σ F' H' st) w⟩
end
inductive ObK:aO->aO->Prop where
 |nil:ObK ρ []
 |cons (h:y=x\/∀a o,y≠some (Sl.ob a o)) (t:ObK ρ ρ'):ObK (x::ρ) (y::ρ')
theorem ObK.at:∀{ρ ρ':aO},ObK ρ ρ'->∀(i:Nat) (a:Addr) (o:Ob),ρ'[i]? =some (some (.ob a o))->ρ[i]? =some (some (.ob a o))
 |_,_, .nil,i,a,o,e=>by simp at e
 |x::_,y::_, .cons h t,0,a,o,e=>by
  have e:y=some (Sl.ob a o):=by simpa using e
  rcases h with h | h
  ·rw[<-h,e];rfl
  ·exact Y9 e (h a o)
 |_,_, .cons h t,i+1,a,o,e=>by
  have:=t.at i a o (by simpa using e);simpa using this
def kS:Option Sl->Option Sl
 |some (.ow _)=>none
 |x=>x
def kO(ρ:aO):aO:=ρ.map kS
def r0{ρ:aO}{i:Nat}{sl:Sl}(h:(kO ρ)[i]? =some (some sl)):ρ[i]? =some (some sl)/\∀c,sl≠ .ow c:=by
 unfold kO at h;rw[S2] at h;cases q:ρ[i]? with
 |none=>rw[q] at h;cases h
 |some x=>
  rw[q] at h;cases x with
  |none=>cases h
  |some y=>
   cases y with
   |fz d=>cases h;exact⟨rfl,λc z=>nomatch z⟩
   |ow c=>cases h
   |ob a o=>cases h;exact⟨rfl,λc z=>nomatch z⟩
def cO(τ:DS):XS:=⟨λρ Q=>match τ ρ with | none=>False | some (.ok (.nx ρ'))=>ObK ρ ρ'/\Q (.nx ρ') | some (.ok (.rt d))=>Q (.rt (.fz d) (kO ρ)) | some (.ex n)=>Q (.ex n (kO ρ)),λρ P Q k h=>by
 match τ ρ,h with
 |some (.ok (.nx ρ')),h=>exact⟨h.1,k _ h.2⟩
 |some (.ok (.rt d)),h=>exact k _ h
 |some (.ex n),h=>exact k _ h⟩
section
variable{K:SN}{u8 Zx F H F' H':Hp}{σ:St}{ρ:aO}
def oU(ρ:aO)(H:Hp)(b:Addr):Prop:=∃(i:Nat) (a:Addr) (o:Ob),ρ[i]? =some (some (.ob a o))/\b∈aW H o a
open Classical in
noncomputable def eZ(F Zx H:Hp)(ρ:aO):Hp:=λb=>if oU ρ H b then H b else join F Zx b
open Classical in
def StX.base(s:StX K u8 Zx F H σ ρ):StOk K F (eZ F Zx H ρ) F H σ ρ/\Same Zx (eZ F Zx H ρ)/\(∀F' H',Ext F (eZ F Zx H ρ) F' H'->Ext u8 Zx F' H')/\∀F' H',Ext F (eZ F Zx H ρ) F' H'->∀(i:Nat) (a:Addr) (o:Ob),ρ[i]? =some (some (.ob a o))->ObAt K F' H' o a/\aW H' o a=aW H o a:=by
 obtain⟨s1,back⟩:=s.ok.rebase;have hj:=mf s.ok;have h0:Same Zx (eZ F Zx H ρ):=λb u e=>by
  unfold eZ;rw[Y7 (λ⟨i,a,o,h1,h2⟩=>by rw[s.obn i a o b h1 h2] at e;cases e)];exact hj b u e
 have cl:∀b,oU ρ H b->F b=none/\∃u,H b=some u/\∀ts,u≠ .tup ts:=λb ⟨i,a,o,h1,h2⟩=>⟨(s.at h1).2.nf b h2,(s.at h1).2.cell b h2⟩
 have sub:Same (join F Zx) (eZ F Zx H ρ):=λb u e=>by
  unfold eZ;by_cases q:oU ρ H b
  ·rw[Y6 q];exact s1.ext.hh b u e
  ·rw[Y7 q];exact e
 refine⟨⟨⟨λb u e=>?_,Same.refl _,s.ok.st.fh,λ_ _=> .inl rfl⟩,s.ok.st,s.ok.len,λi c a e e'=>?_,s.ok.sep⟩,h0,λF' H' x=>back F' H' ⟨sub.trans x.hh,x.ff,x.fh,λb hb=>?_⟩,λF' H' x i a o h=>?_⟩
 ·unfold eZ at e;by_cases q:oU ρ H b
  ·rw[Y6 q] at e;exact e
  ·rw[Y7 q] at e;exact s1.ext.hh b u e
 ·unfold eZ;rw[Y7 (λ⟨j,a',o,h1,h2⟩=>by
   have:=s.ok.sep i j (.ow c) (.ob a' o) (.ref a) (.ref a') a e h1 e' (s.at h1).1 (Tg.mpr rfl) h2;subst this;rw[e] at h1;cases h1)]
  exact s1.own i c a e e'
 ·have E7:eZ F Zx H ρ b≠none:=by
   cases q:join F Zx b with
   |none=>exact Y9 q hb
   |some u=>rw[sub b u q];exact λz=>nomatch z
  rcases x.new b E7 with p | ⟨ts,p⟩
  ·exact .inl p
  ·cases q:join F Zx b with
   |none=>exact Y9 q hb
   |some u=>rw[sub b u q] at p;exact .inr ⟨ts,p⟩
 ·have hh:∀b∈aW H o a,H' b=H b/\F' b=none:=λb hb=>by
   have hF:oU ρ H b:=⟨i,a,o,h,hb⟩
   obtain⟨c1,u,c2,c3⟩:=cl b hF;have hu:eZ F Zx H ρ b=some u:=by unfold eZ;rw[Y6 hF];exact c2
   refine⟨by rw[c2];exact x.hh b u hu,?_⟩;rw[x.old hu c3];exact c1
  exact(s.at h).2.move x.ff (λb hb=>(hh b hb).1) λb hb=>(hh b hb).2
def StX.back(s:StX K u8 Zx F H σ ρ){σ':St}{ρ':aO}(t:StOk K F (eZ F Zx H ρ) F' H' σ' ρ')(k:ObK ρ ρ'):StX K u8 Zx F' H' σ' ρ':=by
 obtain⟨_,h2,h3,h4⟩:=s.base;refine⟨t.unbase h3 h2,λi a o b e hb=>?_⟩;have e':=k.at i a o e;rw[(h4 F' H' t.ext i a o e').2] at hb;exact s.obn i a o b e' hb
def StX.gone(s:StX K u8 Zx F H σ ρ)(x:Ext F (eZ F Zx H ρ) F' H'):StX K u8 Zx F' H' σ (kO ρ):=by
 obtain⟨_,_,h3,h4⟩:=s.base;have ft:∀{i:Nat}{sl:Sl}{v:V},(kO ρ)[i]? =some (some sl)->sl.foot H' v=sl.foot H v:=λ{i sl v} h=>by
  obtain⟨h1,h2⟩:=r0 h;cases sl with
  |fz d=>rfl
  |ow c=>exact Y9 rfl (h2 c)
  |ob a o=>exact(h4 F' H' x i a o h1).2
 refine⟨⟨h3 F' H' x,⟨x.fh,λi sl h=>?_⟩,by simp[kO,s.ok.len],λi c a h=>Y9 rfl ((r0 h).2 c),λi j sl kN v v' b h1 h2 h5 h6 h7 h8=>s.ok.sep i j sl kN v v' b (r0 h1).1 (r0 h2).1 h5 h6 (ft h1▸h7) (ft h2▸h8)⟩,λi a o b h hb=>?_⟩
 ·obtain⟨h1,h2⟩:=r0 h;obtain⟨v,q1,q2⟩:=s.ok.st.den i sl h1;refine⟨v,q1,?_⟩;cases sl with
  |fz d=>exact Den.mono x.ff q2
  |ow c=>exact Y9 rfl (h2 c)
  |ob a o=>exact⟨q2.1,(h4 F' H' x i a o h1).1⟩
 ·have h1:=(r0 h).1;rw[(h4 F' H' x i a o h1).2] at hb;exact s.obn i a o b h1 hb
end
section
variable{X:Cx}{Xw:Nat->Hp->Prop}{st:Stmt}{τ:DS}
def bg(h:nV X Xw st τ):zh X Xw st (cO τ):=λu8 Zx=>λf8 sh σ H D I ⟨F,ρ,s,w⟩=>by
 refine h F (eZ F Zx H ρ) f8 sh σ H D I ⟨F,ρ,s.base.1,?_⟩;have w:(match τ ρ with | none=>False | some (.ok (.nx ρ'))=>ObK ρ ρ'/\gB X.K Xw u8 Zx D (.nx ρ') | some (.ok (.rt d))=>gB X.K Xw u8 Zx D (.rt (.fz d) (kO ρ)) | some (.ex n)=>gB X.K Xw u8 Zx D (.ex n (kO ρ))):=w
 match τ ρ,w with
 |some (.ok (.nx ρ')),w=>exact λσ' F' H' t=>w.2 σ' F' H' (s.back t w.1)
 |some (.ok (.rt d)),w=>exact λv F' H' e q=>w v σ F' H' ((s.gone e).cons q)
 |some (.ex n),w=>exact λF' H' e=>w σ F' H' (s.gone e)
end
def eR(put:D->aO->Option aO)(body:XS):List D->aO->(OX->Prop)->Prop
 |[],ρ,Q=>Q (.nx ρ)
 |d::ds,ρ,Q=>match put d ρ with
  |none=>False
  |some ρ1=>body.f ρ1 λx=>match x with | .nx ρ2=>eR put body ds ρ2 Q | x=>Q x
theorem kR{put:D->aO->Option aO}{body:XS}{P Q:OX->Prop}(k:∀x,P x->Q x):∀(ds:List D) (ρ:aO),eR put body ds ρ P->eR put body ds ρ Q
 |[],ρ,h=>k _ h
 |d::ds,ρ,h=>by
  unfold eR at h⊢
  match put d ρ,h with
  |some ρ1,h=>exact body.mono ρ1 _ _ (λx hx=>by
    cases x with
    |nx ρ2=>exact kR k ds ρ2 hx
    |rt r ρ2=>exact k _ hx
    |ex n ρ2=>exact k _ hx) h
def B1(put:D->aO->Option aO)(δi:DA)(body:XS):XS:=⟨λρ Q=>match δi ρ with | none=>False | some (.ok ds)=>eR put body ds ρ Q | some (.ex n)=>Q (.ex n ρ),λρ P Q k h=>by
 match δi ρ,h with
 |some (.ok ds),h=>exact kR k ds ρ h
 |some (.ex n),h=>exact k _ h⟩
def Kz(K:SN)(g:TG)(put:D->aO->Option aO):Prop:=∀(u8 Zx F H:Hp) (σ:St) (ρ ρ':aO) (d:D) (v:V) (Q:St->Hp->Prop),StX K u8 Zx F H σ ρ->Den K F d v->put d ρ=some ρ'->
 (∀σ',StX K u8 Zx F H σ' ρ'->Q σ' H)->g v σ H Q
def sJ{K:SN}{i:Nat}:Kz K (zL i) (putN i):=λu8 Zx F H σ ρ ρ' d v Q s q e k=>by
 cases e;exact k _ ((s.cons q).store i)
theorem StX.rebase{K:SN}{u8 Zx F H:Hp}(s:StX K u8 Zx F H σ ρ):StX K F (join F Zx) F H σ ρ:=⟨s.ok.rebase.1,λi a o b h hb=>by
 unfold join;rw[(s.at h).2.nf b hb];exact s.obn i a o b h hb⟩
theorem StX.unbase{K:SN}{u8 Zx F U F' H':Hp}(k:∀F' H',Ext F U F' H'->Ext u8 Zx F' H')(s:StX K F U F' H' σ ρ)(h:Same Zx U):StX K u8 Zx F' H' σ ρ:=
 ⟨s.ok.unbase k h,λi a o b e hb=>Same.free h (s.obn i a o b e hb)⟩
def OV(K:SN)(Xw:Nat->Hp->Prop)(τ:XS):TS:=λD σ H=>∃u8 Zx,OU K Xw u8 Zx τ D σ H
section
variable{X:Cx}{Xw:Nat->Hp->Prop}{τ:XS}{pos:Pos}{δi:DA}{g:TG}{put:D->aO->Option aO}
def PXSs.ex{body:List Stmt}(h:PXSs X Xw body τ):PSs X body (OV X.K Xw τ):=λf8 s σ H D I ⟨u8,Zx,w⟩=>h u8 Zx f8 s σ H D I w
def Ai{tg iter:Expr}{body:List Stmt}(hp:Yi (model X.prog X.w) X.A X.env X.xe)(hc:X.calm=true)(hi:zg X Xw tg iter δi)(hg:PG X tg g)(CZ:Kz X.K g put)(hb:PXSs X Xw body τ)
 (hs:∀x,VG iter X.env x=pure x:=by intro _;rfl):zh X Xw (.For tg iter body [] pos) (B1 put δi τ):=λu8 Zx=>PS.weak (Ea hp hc hi hg hb.ex hs) λD σ H ⟨F,ρ,s,w⟩=>by
 refine⟨F,ρ,s.ok.st,?_⟩;have w:(match δi ρ with | none=>False | some (.ok ds)=>eR put τ ds ρ (gB X.K Xw u8 Zx D) | some (.ex n)=>gB X.K Xw u8 Zx D (.ex n ρ)):=w
 match δi ρ,w with
 |some (.ex n),w=>exact λF' H' e'=>w σ F' H' (s.ext' e')
 |some (.ok ds),w=>
  intro J H1 F1 e1 LD;have s0:=s.ext' e1;have s1:=s0.rebase;have back:=s0.ok.rebase.2;have hU:=mf s0.ok;generalize join F1 Zx=U at s1 back hU;refine⟨λi m σ H=>m=ds.length - i/\i<=ds.length/\∃F ρ,StX X.K F1 U F H σ ρ/\eR put τ (ds.drop i) ρ (gB X.K Xw u8 Zx D),⟨ds.length,by simp,TQ _,F1,ρ,s1,by simpa using w⟩,?_⟩;rintro i m σ2 H2 ⟨rfl,Lb,F2,ρ2,s2,w2⟩;by_cases ki:i<ds.length
  ·obtain⟨d,hd⟩:∃d,ds[i]? =some d:=⟨_,SK ki⟩
   obtain⟨K_,C1⟩:=(LD F2 H2 i s2.ok.ext.ff s2.ok.st.fh).1 d hd;have ed:ds.drop i=d::ds.drop (i+1):=by
    obtain⟨hi,e⟩:=SY.mp hd;rw[V1 hi,e]
   rw[ed] at w2;unfold eR at w2;refine .inr ⟨K_,λσ' H'=>∃F' ρ',StX X.K F1 U F' H' σ' ρ'/\eR put τ (ds.drop (i+1)) ρ' (gB X.K Xw u8 Zx D),λσ' H' ⟨F',ρ',h2,h3⟩=>⟨ds.length - (i+1),by omega,rfl,ki,F',ρ',h2,h3⟩,λx H3 y3=>?_⟩;obtain⟨F3,B5,q3⟩:=C1 x H3 y3
   match N5:put d ρ2,w2 with
   |some ρ3,w2=>
    refine CZ F1 U F3 H3 σ2 ρ2 ρ3 d x _ (s2.ext' B5) q3 N5 λσ3 s3=>⟨F1,U,F3,ρ3,s3,?_⟩
    refine τ.mono ρ3 _ _ (λx hx=>?_) w2;cases x with
    |nx ρ'=>exact λσ' F' H' t=>⟨F',ρ',t,hx⟩
    |rt r ρ'=>exact λv σ' F' H' t=>hx v σ' F' H' (t.unbase back hU)
    |ex n ρ'=>exact λσ' F' H' t=>hx σ' F' H' (t.unbase back hU)
  ·have hi:i=ds.length:=by omega
   subst hi;rw[Xm] at w2;exact .inl ⟨(LD F2 H2 ds.length s2.ok.ext.ff s2.ok.st.fh).2 (SW _),w2 σ2 F2 H2 (s2.unbase back hU)⟩
end
section
variable{K:SN}{F H:Hp}
theorem FsAt.get:∀{fs:List (Str×Fv)}{gs:List (Str×V)}{f:Str}{x:Fv},FsAt K F H fs gs->fs.lookup f=some x->∃v,gs.lookup f=some v/\Fe K F H x v
 |[],_,_,_,_,e=>by cases e
 |(n,y)::fs,_,f,x,⟨v,r,h1,h2,h3⟩,e=>by
  subst h1;rw[Ut] at e⊢;by_cases q:(f==n)=true
  ·rw[q] at e⊢;cases e;exact⟨v,rfl,h2⟩
  ·have q:(f==n)=false:=by simpa using q
   rw[q] at e⊢;exact FsAt.get h3 e
theorem FsAt.no:∀{fs:List (Str×Fv)}{gs:List (Str×V)}{f:Str},FsAt K F H fs gs->fs.lookup f=none->gs.lookup f=none
 |[],_,_,h,_=>by cases (show _=_ from h);rfl
 |(n,y)::fs,_,f,⟨v,r,h1,h2,h3⟩,e=>by
  subst h1;rw[Ut] at e⊢;by_cases q:(f==n)=true
  ·rw[q] at e;cases e
  ·have q:(f==n)=false:=by simpa using q
   rw[q] at e⊢;exact FsAt.no h3 e
end
def bJ(ρ:aO)(i:Nat)(C:Addr):Option (Addr×Ob):=match ρ[i]? with
 |some (some (.ob a o))=>if o.c=C then some (a,o) else none
 |_=>none
def jV{ρ:aO}{i:Nat}{C a:Addr}{o:Ob}(h:bJ ρ i C=some (a,o)):ρ[i]? =some (some (.ob a o))/\o.c=C:=by
 unfold bJ at h;split at h
 ·rename_i a' o' e;split at h
  ·rename_i hc;cases h;exact⟨e,hc⟩
  ·cases h
 ·cases h
def StE.ob{K:SN}{F H:Hp}{σ:St}{ρ:aO}(s:StE K F H σ ρ){i:Nat}{C a:Addr}{o:Ob}(h:bJ ρ i C=some (a,o)):σ[i]? =some (some (.ref a))/\ObAt K F H o a/\o.c=C:=by
 obtain⟨h1,h2⟩:=jV h;obtain⟨v,h3,h4,h5⟩:=s.den i _ h1;exact⟨by rw[h3,h4],h5,h2⟩
def iX(C:Addr)(i:Nat)(f:Str):DE:=λρ=>match bJ ρ i C with
 |some (_,o)=>match o.fs.lookup f with
  |some (.fz d)=>aa d
  |_=>af
 |none=>af
section
variable{X:Cx}{Xw:Nat->Hp->Prop}{C:Addr}{i:Nat}{x f:Str}{p pos:Pos}
def eV(c:Cls X.K C)(n:NoAttr X.K C f)(h:PE X (.Name x p) (gY i))(hb:Ug (.Name x p) f X.env (eval (.Name x p) X.env)=eval (.Name x p) X.env:=by rfl):PD X Xw (.Attribute (.Name x p) f pos) (iX C i f):=PE.weak (JF h hb) λσ H Q ⟨F,ρ,s,w⟩=>by
 unfold iX at w;split at w
 ·rename_i a o ho;obtain⟨h1,h2,h3⟩:=s.ob ho;obtain⟨dx,gs,q1,q2,q3,q4⟩:=h2.foot;split at w
  ·rename_i d hd;obtain⟨v,v1,v2⟩:=q3.get hd;exact⟨.ref a,h1,a,C,dx,gs,v,rfl,by rw[q1,h3],c,n,v1,WP.now w s.fh v2⟩
  ·exact w.elim
 ·exact w.elim
end
def M_(K:SN)(cv:Nat->Value)(C:Addr)(m:Nat)(g:Addr->Ob->List D->M D):Sp:=λvs H Q E=>∃F o ds a ws,vs= .ref a::ws/\Same F H/\o.c=C/\ObAt K F H o a/\DenL K F ds ws/\ws.length=m/\WP K (λn H'=>E (cv n) none H') F H (g a o ds) Q
structure ObStep (K:SN) (F H:Hp) (o:Ob) (a:Addr) (F' H':Hp) (o':Ob):Prop where
 hh:∀b u,b∉aW H o a->H b=some u->H' b=some u
 ff:Same F F'
 fh:Same F' H'
 new:∀b,b∉aW H o a->H b≠none->F' b=F b\/∃ts,H b=some (.tup ts)
 ob:ObAt K F' H' o' a
 foot:∀b∈aW H' o' a,b∈aW H o a\/H b=none
def Pb(K:SN)(Xw:Nat->Hp->Prop)(F H:Hp)(o:Ob)(a:Addr)(m:M (D×Ob))(Q:VK):Prop:=match m with
 |none=>False
 |some (.ok (d,o'))=>∀v F' H',ObStep K F H o a F' H' o'->Den K F' d v->Q v H'
 |some (.ex n)=>∀F' H',ObStep K F H o a F' H' o->Xw n H'
def OF(K:SN)(cv:Nat->Value)(C:Addr)(m:Nat)(g:Addr->Ob->List D->M (D×Ob)):Sp:=λvs H Q E=>∃F o ds a ws,vs= .ref a::ws/\Same F H/\o.c=C/\ObAt K F H o a/\DenL K F ds ws/\ws.length=m/\Pb K (λn H'=>E (cv n) none H') F H o a (g a o ds) Q
def dZ(P:To)(w:World)(K:SN)(mg:Str->Option Value)(base:Heap)(cv:Nat->Value)(k:Nat)(C:Addr)(x:Str)(m:Nat)(g:Addr->Ob->List D->M D):Prop:=
 ∃f fd ps,Cls K C/\Meth K C x f/\Binds K fd ps []/\FnOk P w K mg base (iV P w cv) k f fd ps (M_ K cv C m g)
def zf(P:To)(w:World)(K:SN)(mg:Str->Option Value)(base:Heap)(cv:Nat->Value)(k:Nat)(C:Addr)(x:Str)(m:Nat)(g:Addr->Ob->List D->M (D×Ob)):Prop:=
 ∃f fd ps,Cls K C/\Meth K C x f/\Binds K fd ps []/\FnOk P w K mg base (iV P w cv) k f fd ps (OF K cv C m g)
def ba(C:Addr)(i:Nat)(x:Str)(m:Nat)(g:Addr->Ob->List D->M D)(δs:DA):DE:=λρ=>match bJ ρ i C with
 |some (a,o)=>match o.fs.lookup x with
  |none=>δs ρ>>=λds=>if ds.length=m then g a o ds else af
  |some _=>af
 |none=>af
def qM(C:Addr)(i:Nat)(x:Str)(m:Nat)(g:Addr->Ob->List D->M (D×Ob))(δs:DA):XE:=⟨λρ Q=>match bJ ρ i C with
 |some (a,o)=>match o.fs.lookup x with
  |none=>match δs ρ with
   |none=>False
   |some (.ex n)=>Q (.ex n ρ)
   |some (.ok ds)=>ds.length=m/\match g a o ds with
    |none=>False
    |some (.ok (d,o'))=>Q (.val (.fz d) (ρ.set i (some (.ob a o'))))
    |some (.ex n)=>Q (.ex n ρ)
  |some _=>False
 |none=>False,λρ P Q k h=>by
 match bJ ρ i C,h with
 |some (a,o),h=>
  have h:(match o.fs.lookup x with | none=>(match δs ρ with | none=>False | some (.ex n)=>P (.ex n ρ) | some (.ok ds)=>ds.length=m/\match g a o ds with | none=>False | some (.ok (d,o'))=>P (.val (.fz d) (ρ.set i (some (.ob a o')))) | some (.ex n)=>P (.ex n ρ)) | some _=>False):=h;show (match o.fs.lookup x with | none=>(match δs ρ with | none=>False | some (.ex n)=>Q (.ex n ρ) | some (.ok ds)=>ds.length=m/\match g a o ds with | none=>False | some (.ok (d,o'))=>Q (.val (.fz d) (ρ.set i (some (.ob a o')))) | some (.ex n)=>Q (.ex n ρ)) | some _=>False)
  match o.fs.lookup x,h with
  |none,h=>
   match δs ρ,h with
   |some (.ex n),h=>exact k _ h
   |some (.ok ds),h=>
    refine⟨h.1,?_⟩;have h:=h.2
    match g a o ds,h with
    |some (.ok (d,o')),h=>exact k _ h
    |some (.ex n),h=>exact k _ h⟩
section
variable{K:SN}{u8 Zx F H F' H':Hp}{σ:St}{ρ:aO}
def StX.step(s:StX K u8 Zx F H σ ρ){i:Nat}{a:Addr}{o o':Ob}(h:ρ[i]? =some (some (.ob a o)))(t:ObStep K F H o a F' H' o'):StX K u8 Zx F' H' σ (ρ.set i (some (.ob a o'))):=by
 obtain⟨ha,hO⟩:=s.at h;have hn:=λb hb=>s.obn i a o b h hb;have ext:Ext u8 Zx F' H':=⟨λb u e=>t.hh b u (λq=>by rw[hn b q] at e;cases e) (s.ok.ext.hh b u e),s.ok.ext.ff.trans t.ff,t.fh,λb hb=>by
  have nb:b∉aW H o a:=λq=>hb (hn b q);have E7:H b≠none:=by
   cases q:Zx b with
   |none=>exact Y9 q hb
   |some u=>rw[s.ok.ext.hh b u q];exact λz=>nomatch z
  rcases s.ok.ext.new b hb with p | p
  ·rcases t.new b nb E7 with q | ⟨ts,q⟩
   ·exact .inl (q.trans p)
   ·cases z:Zx b with
    |none=>exact Y9 z hb
    |some u=>rw[s.ok.ext.hh b u z] at q;exact .inr ⟨ts,q⟩
  ·exact .inr p⟩
 have keep:∀(j:Nat) (sl:Sl) (v:V),j≠i->ρ[j]? =some (some sl)->σ[j]? =some (some v)->∀b∈sl.foot H v,H' b=H b/\F' b=none/\b∉(Sl.ob a o').foot H' (.ref a):=λj sl v hj h1 h2 b hb=>by
  obtain⟨c1,u,c2,c3⟩:=(s.ok.foot h1 h2).cell b hb;have nb:b∉aW H o a:=λq=>hj (s.ok.sep j i sl (.ob a o) v (.ref a) b h1 h h2 ha hb q);refine⟨by rw[c2];exact t.hh b u nb c2,?_,λq=>?_⟩
  ·rcases t.new b nb (by rw[c2];exact λz=>nomatch z) with q | ⟨ts,q⟩
   ·rw[q];exact c1
   ·rw[c2] at q;cases q;exact Y9 rfl (c3 ts)
  ·rcases t.foot b q with z | z
   ·exact nb z
   ·rw[c2] at z;cases z
 have p:=s.ok.put (i:=i) (nsl:= .ob a o') (nv:= .ref a) ⟨rfl,t.ob⟩ ext t.ff keep (λc b z=>nomatch z);rw[set_same ha] at p;refine⟨p,λj a1 o1 b e hb=>?_⟩;by_cases hj:j=i
 ·subst hj;have hi:j<ρ.length:=(SY.mp h).1;rw[Tu hi] at e;cases e;rcases t.foot b hb with z | z
  ·exact hn b z
  ·exact Same.free s.ok.ext.hh z
 ·rw[TB (UW hj)] at e;obtain⟨e1,e2⟩:=s.at e;have:aW H' o1 a1=aW H o1 a1:=(DenO.move (K:=K) (sl:= .ob a1 o1) (v:= .ref a1) t.ff ⟨rfl,e2⟩ (λb hb=>(keep j _ _ hj e e1 b hb).1) λb hb=>(keep j _ _ hj e e1 b hb).2.1).2;exact s.obn j a1 o1 b e (this▸hb)
end
section
variable{X:Cx}{Xw:Nat->Hp->Prop}{cv:Nat->Value}{k m i:Nat}{C:Addr}{x y:Str}{p v4 pos:Pos}{e:Expr}{es:List Expr}{δs:DA}{pl:Sem Bool}
def Gu{g:Addr->Ob->List D->M D}(F:dZ X.prog X.w X.K X.mg X.base cv k C x m g)(hr:Room k X.A)(hx:Passes (iV X.prog X.w cv) X (L3.EX cv Xw))(h:PE X (.Name y p) (gY i))(ha:kU X Xw (e::es) δs)
 (lY:SX (e::es) X.env=(false,eval e X.env)::SX es X.env:=by rfl)(iY:(Uv pos (SX es X.env)).any (·.1)=false:=by rfl)
 (ht:eval (.Call (.Attribute (.Name y p) x v4) (e::es) [] pos) X.env=(do
  let ov<-eval (.Name y p) X.env
  XQ v4.atName
  let (f,first)<-holding [ov] (Wo ov x pl)
  Xq pos f first (Uv pos (SX (e::es) X.env)) (UQ pos (Ub [] X.env))):=by rfl):
 PD X Xw (.Call (.Attribute (.Name y p) x v4) (e::es) [] pos) (ba C i x m g δs):=by
 obtain⟨f,fd,ps,hc,hm,hb,hF⟩:=F;refine PE.weak (Ad h hc hm hF hr hb .nil hx ha lY iY ht) λσ H Q ⟨F,ρ,s,w⟩=>?_;unfold ba at w;split at w
 ·rename_i a o ho;obtain⟨h1,h2,h3⟩:=s.ob ho;obtain⟨dx,gs,q1,q2,q3,q4⟩:=h2.foot;split at w
  ·rename_i qZ;refine⟨.ref a,h1,a,dx,gs,rfl,by rw[q1,h3],q3.no qZ,F,ρ,s,WPL.mono (WP.bindL w) λvs H2 ⟨F2,ds,e2,r2,w2⟩=>?_⟩;split at w2
   ·rename_i hl;refine⟨F2,o,ds,a,vs++[],rfl,e2.fh,h3,(DenO.ext (K:=X.K) (sl:= .ob a o) (v:= .ref a) e2 ⟨rfl,h2⟩).2,by rw[TM];exact r2,by rw[TM,<-r2.len];exact hl,WP.xw w2 λn H h=>⟨n,rfl,h⟩⟩
   ·exact w2.elim
  ·exact w.elim
 ·exact w.elim
def bf{g:Addr->Ob->List D->M D}(F:dZ X.prog X.w X.K X.mg X.base cv k C x 0 g)(hr:Room k X.A)(hx:Passes (iV X.prog X.w cv) X (L3.EX cv Xw))(h:PE X (.Name y p) (gY i))
 (ht:eval (.Call (.Attribute (.Name y p) x v4) [] [] pos) X.env=(do
  let ov<-eval (.Name y p) X.env
  XQ v4.atName
  let (f,first)<-holding [ov] (Wo ov x pl)
  Xq pos f first (Uv pos (SX [] X.env)) (UQ pos (Ub [] X.env))):=by rfl):
 PD X Xw (.Call (.Attribute (.Name y p) x v4) [] [] pos) (ba C i x 0 g aN):=by
 obtain⟨f,fd,ps,hc,hm,hb,hF⟩:=F;refine PE.weak (D8 h hc hm hF hr hb .nil hx ht) λσ H Q ⟨F,ρ,s,w⟩=>?_;unfold ba at w;split at w
 ·rename_i a o ho;obtain⟨h1,h2,h3⟩:=s.ob ho;obtain⟨dx,gs,q1,q2,q3,q4⟩:=h2.foot;split at w
  ·rename_i qZ;have w:WP X.K Xw F H (g a o []) Q:=w;exact⟨.ref a,h1,a,dx,gs,rfl,by rw[q1,h3],q3.no qZ,F,o,[],a,[],rfl,s.fh,h3,h2,rfl,rfl,WP.xw w λn H h=>⟨n,rfl,h⟩⟩
  ·exact w.elim
 ·exact w.elim
end
section
variable{K:SN}{u8 Zx F H F' H':Hp}{σ:St}{ρ:aO}
def StX.consOb(s:StX K u8 Zx F H σ ρ)(e:Ext F H F' H'){x:Addr}{o':Ob}(ob:ObAt K F' H' o' x)(nw:∀b∈aW H' o' x,H b=none):StX K u8 Zx F' H' (some (.ref x)::σ) (some (.ob x o')::ρ):=by
 have t:=s.ext' e;have ft:∀{i:Nat}{sl:Sl}{v:V},ρ[i]? =some (some sl)->σ[i]? =some (some v)->∀b∈sl.foot H' v,b∉aW H' o' x:=λh1 h2 b hb q=>by
  have e1:=((s.ok.foot h1 h2).ext' e).2;obtain⟨_,u,c2,_⟩:=(s.ok.foot h1 h2).cell b (e1▸hb);rw[nw b q] at c2;cases c2
 refine⟨⟨t.ok.ext,⟨t.ok.st.fh,λi sl h=>?_⟩,by simp[t.ok.len],λi c a h h'=>?_,λi j sl kN u u' b h1 h2 h3 h4 h5 h6=>?_⟩,λi a o b h hb=>?_⟩
 ·cases i with
  |zero=>cases h;exact⟨_,rfl,rfl,ob⟩
  |succ i=>obtain⟨u,q1,q2⟩:=t.ok.st.den i sl (by simpa using h);exact⟨u,by simpa using q1,q2⟩
 ·cases i with
  |zero=>cases h
  |succ i=>exact t.ok.own i c a (by simpa using h) (by simpa using h')
 ·cases i with
  |zero=>
   cases j with
   |zero=>rfl
   |succ j=>cases h1;exact Y9 h5 (ft (by simpa using h2) (by simpa using h4) b h6)
  |succ i=>
   cases j with
   |zero=>cases h2;exact Y9 h6 (ft (by simpa using h1) (by simpa using h3) b h5)
   |succ j=>exact Zd _ (t.ok.sep i j sl kN u u' b (by simpa using h1) (by simpa using h2) (by simpa using h3) (by simpa using h4) h5 h6)
 ·cases i with
  |zero=>cases h;exact Same.free s.ok.ext.hh (nw b hb)
  |succ i=>exact t.obn i a o b (by simpa using h) hb
theorem StE.set{d:D}{v:V}{i:Nat}(s:StE K F H σ ρ)(hl:ρ.length=σ.length)(h:Den K F d v):StE K F H (σ.set i (some v)) (ρ.set i (some (.fz d))):=⟨s.fh,λj sl e=>by
 by_cases hj:j=i
 ·subst hj;have hi:j<ρ.length:=by
   have:=(SY.mp e).1;simpa using this
  rw[Tu hi] at e;cases e;exact⟨v,Tu (by omega),h⟩
 ·rw[TB (UW hj)] at e;obtain⟨u,h1,h2⟩:=s.den j sl e;exact⟨u,by rw[TB (UW hj)];exact h1,h2⟩⟩
end
section
variable{X:Cx}{Xw:Nat->Hp->Prop}{cv:Nat->Value}{k m i:Nat}{C:Addr}{x y:Str}{p v4 pos:Pos}{e:Expr}{es:List Expr}{δs:DA}{pl:Sem Bool}
def E3{g:M (D×Ob)}{u8 Zx F H:Hp}{σ:St}{ρ:aO}{a:Addr}{o:Ob}{Q:VK}(s:StX X.K u8 Zx F H σ ρ)(h:ρ[i]? =some (some (.ob a o)))
 (w:match g with | none=>False | some (.ok (d,o'))=>rK X.K Xw u8 Zx σ Q (.val (.fz d) (ρ.set i (some (.ob a o')))) | some (.ex n)=>rK X.K Xw u8 Zx σ Q (.ex n ρ)):Pb X.K (λn H'=>L3.EX cv Xw (cv n) none H') F H o a g Q:=by
 match g,w with
 |some (.ok (d,o')),w=>exact λv F' H' t q=>w v F' H' ((s.step h t).cons q)
 |some (.ex n),w=>exact λF' H' t=>⟨n,rfl,w F' H' (by have:=s.step h t;rw[set_same h] at this;exact this)⟩
def Ah{g:Addr->Ob->List D->M (D×Ob)}(F:zf X.prog X.w X.K X.mg X.base cv k C x m g)(hr:Room k X.A)(hx:Passes (iV X.prog X.w cv) X (L3.EX cv Xw))(h:PE X (.Name y p) (gY i))(ha:kU X Xw (e::es) δs)
 (lY:SX (e::es) X.env=(false,eval e X.env)::SX es X.env:=by rfl)(iY:(Uv pos (SX es X.env)).any (·.1)=false:=by rfl)
 (ht:eval (.Call (.Attribute (.Name y p) x v4) (e::es) [] pos) X.env=(do
  let ov<-eval (.Name y p) X.env
  XQ v4.atName
  let (f,first)<-holding [ov] (Wo ov x pl)
  Xq pos f first (Uv pos (SX (e::es) X.env)) (UQ pos (Ub [] X.env))):=by rfl):
 PX X Xw (.Call (.Attribute (.Name y p) x v4) (e::es) [] pos) (qM C i x m g δs):=by
 obtain⟨f,fd,ps,hc,hm,hb,hF⟩:=F;refine λu8 Zx=>PE.weak (Ad h hc hm hF hr hb .nil hx ha lY iY ht) λσ H Q ⟨F,ρ,s,w⟩=>?_;unfold qM at w
 dsimp only at w
 split at w
 ·rename_i a o ho;obtain⟨h1,h2,h3⟩:=s.ok.st.ob ho;obtain⟨dx,gs,q1,q2,q3,q4⟩:=h2.foot;split at w
  ·rename_i qZ;refine⟨.ref a,h1,a,dx,gs,rfl,by rw[q1,h3],q3.no qZ,F,ρ,s.ok.st,?_⟩
   match δs ρ,w with
   |some (.ex n),w=>exact λF' H' e'=>w F' H' (s.ext' e')
   |some (.ok ds),w=>
    intro vs H2 F2 e2 r2;exact⟨F2,o,ds,a,vs++[],rfl,e2.fh,h3,(DenO.ext (K:=X.K) (sl:= .ob a o) (v:= .ref a) e2 ⟨rfl,h2⟩).2,by rw[TM];exact r2,by rw[TM,<-r2.len];exact w.1,E3 (s.ext' e2) (jV ho).1 w.2⟩
  ·exact w.elim
 ·exact w.elim
def MakeM(P:To)(w:World)(K:SN)(mg:Str->Option Value)(base:Heap)(cv:Nat->Value)(k:Nat)(C:Addr)(x:Str)(m:Nat)(g:Addr->Ob->List D->M (D×Ob)):Prop:=
 ∃f fd ps,Mk K C f/\mg x=some (.ref C)/\Binds K fd ps []/\FnOk P w K mg base (iV P w cv) k f fd ps (OF K cv C m g)
def AE(C:Addr)(m:Nat)(g:Addr->Ob->List D->M (D×Ob))(δs:DA):XE:=⟨λρ Q=>match δs ρ with
 |none=>False
 |some (.ex n)=>Q (.ex n ρ)
 |some (.ok ds)=>ds.length=m/\∀a,match g a ⟨C,[]⟩ ds with
  |none=>False
  |some (.ok (d,o'))=>d= .non/\Q (.val (.ob a o') ρ)
  |some (.ex n)=>Q (.ex n ρ),λρ P Q k h=>by
 match δs ρ,h with
 |some (.ex n),h=>exact k _ h
 |some (.ok ds),h=>
  refine⟨h.1,λa=>?_⟩;have h:=h.2 a
  match g a ⟨C,[]⟩ ds,h with
  |some (.ok (d,o')),h=>exact⟨h.1,k _ h.2⟩
  |some (.ex n),h=>exact k _ h⟩
def Ag{g:Addr->Ob->List D->M (D×Ob)}(F:MakeM X.prog X.w X.K X.mg X.base cv k C x m g)(hr:Room (k+1) X.A)(hx:Passes (iV X.prog X.w cv) X (L3.EX cv Xw))(hg:Gl X x)(ha:kU X Xw (e::es) δs)
 (ma:(x==("__debug__":Str))=false:=by decide)(he:SX (e::es) X.env=(false,eval e X.env)::SX es X.env:=by rfl)(iY:(Uv pos (SX es X.env)).any (·.1)=false:=by rfl):
 PX X Xw (.Call (.Name x p) (e::es) [] pos) (AE C m g δs):=by
 obtain⟨f,fd,ps,hM,hm,hb,hF⟩:=F;refine λu8 Zx=>PE.weak (GC hM hF hr hg hm hb .nil hx ha ma he iY) λσ H Q ⟨F,ρ,s,w⟩=>?_;have w:(match δs ρ with
  |none=>False
  |some (.ex n)=>rK X.K Xw u8 Zx σ Q (.ex n ρ)
  |some (.ok ds)=>ds.length=m/\∀a,match g a ⟨C,[]⟩ ds with
   |none=>False
   |some (.ok (d,o'))=>d= .non/\rK X.K Xw u8 Zx σ Q (.val (.ob a o') ρ)
   |some (.ex n)=>rK X.K Xw u8 Zx σ Q (.ex n ρ)):=w
 refine⟨F,ρ,s.ok.st,?_⟩
 match δs ρ,w with
 |some (.ex n),w=>exact λF' H' e'=>w F' H' (s.ext' e')
 |some (.ok ds),w=>
  intro vs H2 F2 e2 r2 a dx HF MP ib;have s2:=s.ext' e2;have na:F2 a=none:=Same.free s2.ok.st.fh HF;have M0:F2 dx=none:=Same.free s2.ok.st.fh MP;have hl:∀b,b≠a->b≠dx->upd (upd H2 dx (.own a)) a (.ins C dx []) b=H2 b:=λb h1 h2=>by rw[au h1,au h2]
  have fH:Same F2 (upd (upd H2 dx (.own a)) a (.ins C dx [])):=λb u q=>by
   rw[hl b (λz=>by rw[z,na] at q;cases q) (λz=>by rw[z,M0] at q;cases q)];exact s2.ok.st.fh b u q
  have ft:aW (upd (upd H2 dx (.own a)) a (.ins C dx [])) ⟨C,[]⟩ a=[a,dx]:=by unfold aW;rw[aE];rfl
  have RX:ObAt X.K F2 (upd (upd H2 dx (.own a)) a (.ins C dx [])) ⟨C,[]⟩ a:=⟨⟨dx,[],aE,by rw[au ib,aE],rfl⟩,λb hb=>by
   rw[ft] at hb;rcases S6.mp hb with rfl | hb
   ·exact na
   ·rw[Tg.mp hb];exact M0,by rw[ft];simp[UW ib]⟩
  have Ny:∀{F' H':Hp}{o':Ob},ObStep X.K F2 (upd (upd H2 dx (.own a)) a (.ins C dx [])) ⟨C,[]⟩ a F' H' o'->Ext F2 H2 F' H'/\∀b∈aW H' o' a,H2 b=none:=λ{F' H' o'} t=>by
   have nn:∀b,H2 b≠none->b≠a/\b≠dx/\b∉aW (upd (upd H2 dx (.own a)) a (.ins C dx [])) ⟨C,[]⟩ a:=λb hb=>by
    have h1:b≠a:=λz=>hb (by rw[z];exact HF);have h2:b≠dx:=λz=>hb (by rw[z];exact MP);exact⟨h1,h2,by rw[ft];simp[h1,h2]⟩
   refine⟨⟨λb u q=>?_,t.ff,t.fh,λb hb=>?_⟩,λb hb=>?_⟩
   ·obtain⟨h1,h2,h3⟩:=nn b (by rw[q];exact λz=>nomatch z);exact t.hh b u h3 (by rw[hl b h1 h2];exact q)
   ·obtain⟨h1,h2,h3⟩:=nn b hb;have:=t.new b h3 (by rw[hl b h1 h2];exact hb);rw[hl b h1 h2] at this;exact this
   ·rcases t.foot b hb with q | q
    ·rw[ft] at q;rcases S6.mp q with rfl | q
     ·exact HF
     ·rw[Tg.mp q];exact MP
    ·by_cases h1:b=a
     ·rw[h1];exact HF
     ·by_cases h2:b=dx
      ·rw[h2];exact MP
      ·rw[hl b h1 h2] at q;exact q
  refine⟨F2,⟨C,[]⟩,ds,a,vs++[],rfl,fH,rfl,RX,by rw[TM];exact r2,by rw[TM,<-r2.len];exact w.1,?_⟩;have w2:=w.2 a
  match g a ⟨C,[]⟩ ds,w2 with
  |some (.ok (d,o')),w2=>exact λv F' H' t q=>⟨by rw[w2.1] at q;exact q,w2.2 (.ref a) F' H' (s2.consOb (Ny t).1 t.ob (Ny t).2)⟩
  |some (.ex n),w2=>exact λF' H' t=>⟨n,rfl,w2 F' H' (s2.ext' (Ny t).1)⟩
end
def bL(n:Nat)(a:Addr)(o:Ob)(ds:List D):aO:=some (.ob a o)::(ds.map (λd=>some (Sl.fz d))++Tc (n - (ds.length+1)) none)
def jZ{n i:Nat}{a:Addr}{o:Ob}{ds:List D}{sl:Sl}(e:(bL n a o ds)[i]? =some (some sl)):(i=0/\sl= .ob a o)\/∃j d,i=j+1/\ds[j]? =some d/\sl= .fz d:=by
 cases i with
 |zero=>cases e;exact .inl ⟨rfl,rfl⟩
 |succ j=>
  have e:(ds.map (λd=>some (Sl.fz d))++Tc (n - (ds.length+1)) none)[j]? =some (some sl):=by simpa[bL] using e
  by_cases hj:j<ds.length
  ·rw[S_ (by simpa using hj),S2] at e;cases q:ds[j]? with
   |none=>rw[q] at e;cases e
   |some d=>rw[q] at e;cases e;exact .inr ⟨j,d,rfl,q,rfl⟩
  ·rw[Ti (by simpa using hj),T_] at e;split at e<;>cases e
section
variable{K:SN}{F H:Hp}
def EK{N:List Str}{ws:List V}{a:Addr}:(L2.start N (.ref a::ws))[0]? =some (some (.ref a)):=by unfold L2.start;rfl
def mK{N:List Str}{a:Addr}{o:Ob}{ds:List D}{ws:List V}(fh:Same F H)(ho:ObAt K F H o a)(hd:DenL K F ds ws):StE K F H (L2.start N (.ref a::ws)) (bL N.length a o ds):=⟨fh,λi sl e=>by
 rcases jZ e with⟨rfl,rfl⟩ | ⟨j,d,rfl,q,rfl⟩
 ·exact⟨.ref a,EK,rfl,ho⟩
 ·obtain⟨v,e1,e2⟩:=hd.get q;have hj:=(SY.mp e1).1;refine⟨v,?_,e2⟩;unfold L2.start;rw[SU,U0,Tx,S_ (by simpa using hj),S2,e1];rfl⟩
def se{N:List Str}{a:Addr}{o:Ob}{ds:List D}{ws:List V}(hd:DenL K F ds ws):(bL N.length a o ds).length=(L2.start N (.ref a::ws)).length:=by
 have:=hd.len;unfold bL L2.start;simp only[SO,S1,SI,U7];omega
def less(H:Hp)(o:Ob)(a:Addr):Hp:=λb=>if b∈aW H o a then none else H b
def BV{N:List Str}{a:Addr}{o:Ob}{ds:List D}{ws:List V}(fh:Same F H)(ho:ObAt K F H o a)(hd:DenL K F ds ws):StX K F (less H o a) F H (L2.start N (.ref a::ws)) (bL N.length a o ds):=by
 have zero:∀{i:Nat}{sl:Sl}{v:V}{b:Addr},(bL N.length a o ds)[i]? =some (some sl)->b∈sl.foot H v->i=0:=λ{i sl v b} e hb=>by
  rcases jZ e with⟨h,_⟩ | ⟨j,d,_,_,rfl⟩
  ·exact h
  ·cases hb
 refine⟨⟨⟨λb u e=>?_,Same.refl _,fh,λb hb=> .inl rfl⟩,mK fh ho hd,se hd,λi c b e=>?_,λi j sl kN v v' b e1 e2 _ _ h5 h6=>by rw[zero e1 h5,zero e2 h6]⟩,λi a' o' b e hb=>?_⟩
 ·unfold less at e;split at e
  ·cases e
  ·exact e
 ·rcases jZ e with⟨_,z⟩ | ⟨_,_,_,_,z⟩<;>cases z
 ·rcases jZ e with⟨_,z⟩ | ⟨_,_,_,_,z⟩
  ·cases z;unfold less;rw[Y6 hb]
  ·cases z
def StX.done{o o':Ob}{a:Addr}{F' H':Hp}{σ:St}{ρ:aO}(s:StX K F (less H o a) F' H' σ ρ){i:Nat}(h:ρ[i]? =some (some (.ob a o'))):ObStep K F H o a F' H' o' where
 hh:=λb u nb e=>s.ok.ext.hh b u (by unfold less;rw[Y7 nb];exact e)
 ff:=s.ok.ext.ff
 fh:=s.ok.st.fh
 new:=λb nb hb=>by
  have e:less H o a b=H b:=by unfold less;rw[Y7 nb]
  have:=s.ok.ext.new b (by rw[e];exact hb);rw[e] at this;exact this
 ob:=(s.at h).2
 foot:=λb hb=>by
  have:=s.obn i a o' b h hb;unfold less at this;split at this
  ·rename_i q;exact .inl q
  ·exact .inr this
end
section
variable{P:To}{w:World}{K:SN}{mg:Str->Option Value}{base:Heap}{cv:Nat->Value}{k:Nat}{f C:Addr}{fd:Vi}{N ps:List Str}
def NB{x qual:Str}{st:Stmt}{e:Expr}{pos:Pos}{δ:DE}(Fn:Fun K x qual st f fd)(S:FnScope N ps (ah st))(hb:aH st=[.Return (some e) pos])
 (c6:∀(cP:Value) (A:T9) (outer:List Env) (s:SS) (H:Hp) (E:XK),Room k (A.deeper (Vx qual (ah st) s.heap.objs.size f cP))->
  PD (eT (iV P w cv) P w K mg base N qual (ah st) f cP A outer s H E) (λn H'=>E (cv n) none H') e δ) (m:Nat) (hm:ps.length=m+1):FnOk P w K mg base (iV P w cv) (k+1) f fd ps (M_ K cv C m λa o ds=>δ (bL N.length a o ds)):=by
 obtain⟨oc,od,kV,doc,pm,an,cP,ct,BB,rfl,lk,rS⟩:=Fn.ex;refine rQ lk rS S (λvs H Q E ⟨_,_,_,_,ws,h1,_,_,_,_,hl,_⟩=>by rw[h1,SO,hl,hm]) λA outer s H vs Q E hr xA=>?_;obtain⟨F,o,ds,a,ws,rfl,fh,hc,ho,hd,hl,hw⟩:=xA;rw[hb];exact⟨_,oM (yN (c6 cP A outer s H E hr)),F,_,mK fh ho hd,hw⟩
def KY{x y qual:Str}{st:Stmt}{e e':Expr}{pos pos' uD:Pos}{δ δ':DE}{i:Nat}(Fn:Fun K x qual st f fd)(S:FnScope N ps (ah st))(hb:aH st=[.Assign [.Name y uD] e' pos', .Return (some e) pos])
 (c6:∀(cP:Value) (A:T9) (outer:List Env) (s:SS) (H:Hp) (E:XK),Room k (A.deeper (Vx qual (ah st) s.heap.objs.size f cP))->
  nV (eT (iV P w cv) P w K mg base N qual (ah st) f cP A outer s H E) (λn H'=>E (cv n) none H') (.Assign [.Name y uD] e' pos') (bX i δ')/\PD (eT (iV P w cv) P w K mg base N qual (ah st) f cP A outer s H E) (λn H'=>E (cv n) none H') e δ) (m:Nat) (hm:ps.length=m+1):
 FnOk P w K mg base (iV P w cv) (k+1) f fd ps (M_ K cv C m λa o ds=>δ' (bL N.length a o ds)>>=λd=>δ ((bL N.length a o ds).set i (some (.fz d)))):=by
 obtain⟨oc,od,kV,doc,pm,an,cP,ct,BB,rfl,lk,rS⟩:=Fn.ex;refine rQ lk rS S (λvs H Q E ⟨_,_,_,_,ws,h1,_,_,_,_,hl,_⟩=>by rw[h1,SO,hl,hm]) λA outer s H vs Q E hr xA=>?_;obtain⟨F,o,ds,a,ws,rfl,fh,hc,ho,hd,hl,hw⟩:=xA;rw[hb];obtain⟨b1,b2⟩:=c6 cP A outer s H E hr;refine⟨_,qq (b1 F H) (oM (yN b2)),F,bL N.length a o ds,⟨Ext.refl fh,mK fh ho hd,se hd,λi c b e=>?_,λi j sl kN v v' b e1 e2 _ _ h5 h6=>?_⟩,?_⟩
 ·rcases jZ e with⟨_,z⟩ | ⟨_,_,_,_,z⟩<;>cases z
 ·have zero:∀{i:Nat}{sl:Sl}{v:V},(bL N.length a o ds)[i]? =some (some sl)->b∈sl.foot H v->i=0:=λ{i sl v} e hb=>by
   rcases jZ e with⟨h,_⟩ | ⟨j,d,_,_,rfl⟩
   ·exact h
   ·cases hb
  rw[zero e1 h5,zero e2 h6]
 ·have hw:WP K (λn H'=>E (cv n) none H') F H (δ' (bL N.length a o ds)>>=λd=>δ ((bL N.length a o ds).set i (some (.fz d)))) Q:=hw;show WPS K (λn H'=>E (cv n) none H') F H (δ' (bL N.length a o ds)>>=λd=>aa (.nx ((bL N.length a o ds).set i (some (.fz d))))) _
  match δ' (bL N.length a o ds),hw with
  |none,hw=>exact hw
  |some (.ex n),hw=>exact λF' H' e'=>hw F' H' e'
  |some (.ok d),hw=>exact λσ' F' H' s'=>⟨F',_,s'.st,WP.ext s'.ext (show WP K _ F H (δ ((bL N.length a o ds).set i (some (.fz d)))) Q from hw)⟩
def KW{x qual:Str}{st:Stmt}{τ:XS}{g:Addr->Ob->List D->M (D×Ob)}(Fn:Fun K x qual st f fd)(S:FnScope N ps (ah st))
 (c6:∀(cP:Value) (A:T9) (outer:List Env) (s:SS) (H:Hp) (E:XK),Room k (A.deeper (Vx qual (ah st) s.heap.objs.size f cP))->
  PXSs (eT (iV P w cv) P w K mg base N qual (ah st) f cP A outer s H E) (λn H'=>E (cv n) none H') (aH st) τ) (m:Nat) (hm:ps.length=m+1)
 (hg:∀(a:Addr) (o:Ob) (ds:List D),o.c=C->ds.length=m->match g a o ds with
  |none=>True
  |some (.ok (d,o'))=>τ.f (bL N.length a o ds) λx=>∃(ρ:aO) (i:Nat),ρ[i]? =some (some (Sl.ob a o'))/\(x= .rt (.fz d) ρ\/(d= .non/\x= .nx ρ))
  |some (.ex n)=>τ.f (bL N.length a o ds) λx=>∃(ρ:aO) (i:Nat),ρ[i]? =some (some (Sl.ob a o))/\x= .ex n ρ):FnOk P w K mg base (iV P w cv) (k+1) f fd ps (OF K cv C m g):=by
 obtain⟨oc,od,kV,doc,pm,an,cP,ct,BB,rfl,lk,rS⟩:=Fn.ex;refine rQ lk rS S (λvs H Q E ⟨_,_,_,_,ws,h1,_,_,_,_,hl,_⟩=>by rw[h1,SO,hl,hm]) λA outer s H vs Q E hr xA=>?_;obtain⟨F,o,ds,a,ws,rfl,fh,hc,ho,hd,hl,hw⟩:=xA;refine⟨_,c6 cP A outer s H E hr F (less H o a),F,_,BV fh ho hd,?_⟩;have hg:=hg a o ds hc (hd.len.trans hl);generalize g a o ds=r at hg hw
 match r,hg,hw with
 |some (.ok (d,o')),hg,hw=>
  refine τ.mono _ _ _ (λx hx=>?_) hg;obtain⟨ρ,i,h1,h2⟩:=hx;rcases h2 with rfl | ⟨rfl,rfl⟩
  ·exact λv σ' F' H' t=>hw v F' H' (t.tail.done h1) (by obtain⟨u,q1,q2⟩:=t.ok.st.den 0 _ rfl;cases q1;exact q2)
  ·exact λσ' F' H' t=>hw .non F' H' (t.done h1) rfl
 |some (.ex n),hg,hw=>
  refine τ.mono _ _ _ (λx hx=>?_) hg;obtain⟨ρ,i,h1,rfl⟩:=hx;exact λσ' F' H' t=>hw F' H' (t.done h1)
end
def fR(f:Str)(x:Fv):List (Str×Fv)->List (Str×Fv)
 |[]=>[(f,x)]
 |(g,y)::r=>if g=f then(g,x)::r else(g,y)::fR f x r
def uH:Fv->V->List Addr
 | .ow _, .ref b=>[b]
 |_,_=>[]
def fk(n m:Str)(x:Fv)(v:V)(fs:List (Str×Fv))(gs:List (Str×V)):bG ((n,x)::fs) ((m,v)::gs)=uH x v++bG fs gs:=by
 cases x with
 |fz d=>cases v<;>rfl
 |ow l=>cases v<;>rfl
section
variable{K:SN}{F H:Hp}
theorem FsAt.put{x:Fv}{v:V}{f:Str}(hx:Fe K F H x v):∀{fs:List (Str×Fv)}{gs:List (Str×V)},FsAt K F H fs gs->FsAt K F H (fR f x fs) (dY f v gs)
 |[],_,h=>by cases (show _=_ from h);exact⟨v,[],rfl,hx,rfl⟩
 |(n,y)::fs,_,⟨u,r,h1,h2,h3⟩=>by
  subst h1;unfold fR dY;by_cases q:n=f
  ·rw[Y6 q,Y6 q];exact⟨v,r,rfl,hx,h3⟩
  ·rw[Y7 q,Y7 q];exact⟨u,_,rfl,h2,FsAt.put hx h3⟩
theorem nz{x:Fv}{v:V}{f:Str}:∀{fs:List (Str×Fv)}{gs:List (Str×V)},FsAt K F H fs gs->(∀b∈bG (fR f x fs) (dY f v gs),b∈uH x v\/b∈bG fs gs)/\((∀b∈uH x v,b∉bG fs gs)->(bG fs gs).Nodup->(uH x v).Nodup->(bG (fR f x fs) (dY f v gs)).Nodup)
 |[],_,h=>by
  cases (show _=_ from h);have e:bG (fR f x []) (dY f v [])=uH x v++[]:=fk f f x v [] [];rw[e,TM];exact⟨λb hb=> .inl hb,λ_ _ h=>h⟩
 |(n,y)::fs,_,⟨u,r,h1,h2,h3⟩=>by
  subst h1;unfold fR dY;rw[fk];by_cases q:n=f
  ·rw[Y6 q,Y6 q,fk];refine⟨λb hb=>?_,λk1 k2 k3=>?_⟩
   ·rcases TH.mp hb with z | z
    ·exact .inl z
    ·exact .inr (Tj _ z)
   ·exact Um.mpr ⟨k3,(Um.mp k2).2.1,λb hb c hc e=>k1 b hb (Tj _ (e▸hc))⟩
  ·rw[Y7 q,Y7 q,fk];obtain⟨i1,i2⟩:=nz (x:=x) (v:=v) (f:=f) h3;refine⟨λb hb=>?_,λk1 k2 k3=>?_⟩
   ·rcases TH.mp hb with z | z
    ·exact .inr (UR _ z)
    ·rcases i1 b z with z | z
     ·exact .inl z
     ·exact .inr (Tj _ z)
   ·obtain⟨n1,n2,n3⟩:=Um.mp k2;refine Um.mpr ⟨n1,i2 (λb hb z=>k1 b hb (Tj _ z)) n2 k3,λb hb c hc e=>?_⟩;rcases i1 c hc with z | z
    ·exact k1 c z (UR _ (e▸hb))
    ·exact n3 b hb c z e
theorem ObAt.put{o:Ob}{a dx:Addr}{gs:List (Str×V)}{x:Fv}{v:V}{f:Str}(h:ObAt K F H o a)(ha:H a=some (.ins o.c dx gs)){H1:Hp}(hk:∀b∈aW H o a,H1 b=H b)(hx:Fe K F H1 x v)(hr:∀b∈uH x v,H b=none/\F b=none)(hn:(uH x v).Nodup)(hh:∀b u,H b=some u->H1 b=some u)(fh:Same F H1):
 ObStep K F H o a F (upd H1 a (.ins o.c dx (dY f v gs))) {o with fs:=fR f x o.fs}:=by
 obtain⟨MG,Sn,q1,q2,q3,q4⟩:=h.foot;rw[ha] at q1;cases q1;have nd:=h.nd;rw[q4] at nd;obtain⟨n1,n2⟩:=T8.mp nd;obtain⟨n3,n4⟩:=T8.mp n2;have ib:dx≠a:=λz=>n1 (z▸SM ..);have cell:=h.cell;have r1:∀b∈uH x v,b∉aW H o a:=λb hb q=>by
  obtain⟨u,e,_⟩:=cell b q;rw[(hr b hb).1] at e;cases e
 obtain⟨p1,p2⟩:=nz (x:=x) (v:=v) (f:=f) q3;have fA:F a=none:=h.nf a (by rw[q4];exact SM ..);have ft:aW (upd H1 a (.ins o.c dx (dY f v gs))) {o with fs:=fR f x o.fs} a=a::dx::bG (fR f x o.fs) (dY f v gs):=by unfold aW;rw[aE]
 have sub:∀b∈bG (fR f x o.fs) (dY f v gs),b∈uH x v\/b∈bG o.fs gs:=p1;have na:∀b∈bG (fR f x o.fs) (dY f v gs),b≠a:=λb hb z=>by
  rcases sub b hb with q | q
  ·exact r1 b q (by rw[q4,z];exact SM ..)
  ·exact n1 (z▸SJ _ q)
 have M0:dx∉bG (fR f x o.fs) (dY f v gs):=λhb=>by
  rcases sub dx hb with q | q
  ·exact r1 dx q (by rw[q4];exact SJ _ (SM ..))
  ·exact n3 q
 have nn:(bG (fR f x o.fs) (dY f v gs)).Nodup:=p2 (λb hb q=>r1 b hb (by rw[q4];exact SJ _ (SJ _ q))) n4 hn;have R1:FsAt K F H1 o.fs gs:=q3.move (Same.refl _) λb hb=>hk b (by rw[q4];exact SJ _ (SJ _ hb));refine⟨λb u nb e=>?_,Same.refl _,λb u e=>?_,λb _ _=> .inl rfl,⟨⟨dx,_,aE,?_,?_⟩,?_,?_⟩,?_⟩
 ·rw[au (λz=>nb (by rw[z,q4];exact SM ..))];exact hh b u e
 ·rw[au (λz=>by rw[z,fA] at e;cases e)];exact fh b u e
 ·rw[au ib,hk dx (by rw[q4];exact SJ _ (SM ..))];exact q2
 ·exact(FsAt.put hx R1).move (Same.refl _) λb hb=>au (na b hb)
 ·intro b hb;rw[ft] at hb;rcases S6.mp hb with rfl | hb
  ·exact fA
  ·rcases S6.mp hb with rfl | hb
   ·exact h.nf b (by rw[q4];exact SJ _ (SM ..))
   ·rcases sub b hb with q | q
    ·exact(hr b q).2
    ·exact h.nf b (by rw[q4];exact SJ _ (SJ _ q))
 ·rw[ft];refine T8.mpr ⟨λq=>?_,T8.mpr ⟨M0,nn⟩⟩;rcases S6.mp q with z | z
  ·exact ib z.symm
  ·exact na a z rfl
 ·intro b hb;rw[ft] at hb;rcases S6.mp hb with rfl | hb
  ·exact .inl (by rw[q4];exact SM ..)
  ·rcases S6.mp hb with rfl | hb
   ·exact .inl (by rw[q4];exact SJ _ (SM ..))
   ·rcases sub b hb with q | q
    ·exact .inr (hr b q).1
    ·exact .inl (by rw[q4];exact SJ _ (SJ _ q))
end
def cj(o:Ob)(f:Str)(x:Fv):Ob:={o with fs:=fR f x o.fs}
def j5(C:Addr)(i:Nat)(f:Str)(δ:DE):XS:=⟨λρ Q=>match δ ρ with
 |none=>False
 |some (.ex n)=>Q (.ex n ρ)
 |some (.ok d)=>match bJ ρ i C with
  |some (a,o)=>o.fs.length<100/\Q (.nx (ρ.set i (some (.ob a (cj o f (.fz d))))))
  |none=>False,λρ P Q k h=>by
 match δ ρ,h with
 |some (.ex n),h=>exact k _ h
 |some (.ok d),h=>
  have h:(match bJ ρ i C with | some (a,o)=>o.fs.length<100/\P (.nx (ρ.set i (some (.ob a (cj o f (.fz d)))))) | none=>False):=h;show (match bJ ρ i C with | some (a,o)=>o.fs.length<100/\Q (.nx (ρ.set i (some (.ob a (cj o f (.fz d)))))) | none=>False)
  match bJ ρ i C,h with
  |some (a,o),h=>exact⟨h.1,k _ h.2⟩⟩
def Hk(C:Addr)(i:Nat)(f:Str)(δs:DA):XS:=⟨λρ Q=>match δs ρ with
 |none=>False
 |some (.ex n)=>Q (.ex n ρ)
 |some (.ok ds)=>match bJ ρ i C with
  |some (a,o)=>o.fs.length<100/\ds.length<=lim/\Q (.nx (ρ.set i (some (.ob a (cj o f (.ow ds))))))
  |none=>False,λρ P Q k h=>by
 match δs ρ,h with
 |some (.ex n),h=>exact k _ h
 |some (.ok ds),h=>
  have h:(match bJ ρ i C with | some (a,o)=>o.fs.length<100/\ds.length<=lim/\P (.nx (ρ.set i (some (.ob a (cj o f (.ow ds)))))) | none=>False):=h;show (match bJ ρ i C with | some (a,o)=>o.fs.length<100/\ds.length<=lim/\Q (.nx (ρ.set i (some (.ob a (cj o f (.ow ds)))))) | none=>False)
  match bJ ρ i C,h with
  |some (a,o),h=>exact⟨h.1,h.2.1,k _ h.2.2⟩⟩
def Hj(C:Addr)(i:Nat)(f:Str)(δ:DE):XS:=⟨λρ Q=>match bJ ρ i C with
 |none=>False
 |some (a,o)=>match o.fs.lookup f with
  |some (.ow ds)=>(match δ ρ with
   |none=>False
   |some (.ex n)=>Q (.ex n ρ)
   |some (.ok d)=>ds.length<lim/\Q (.nx (ρ.set i (some (.ob a (cj o f (.ow (ds++[d]))))))))
  |_=>False,λρ P Q k h=>by
 match bJ ρ i C,h with
 |some (a,o),h=>
  have h:(match o.fs.lookup f with | some (.ow ds)=>(match δ ρ with | none=>False | some (.ex n)=>P (.ex n ρ) | some (.ok d)=>ds.length<lim/\P (.nx (ρ.set i (some (.ob a (cj o f (.ow (ds++[d])))))))) | _=>False):=h;show (match o.fs.lookup f with | some (.ow ds)=>(match δ ρ with | none=>False | some (.ex n)=>Q (.ex n ρ) | some (.ok d)=>ds.length<lim/\Q (.nx (ρ.set i (some (.ob a (cj o f (.ow (ds++[d])))))))) | _=>False)
  match o.fs.lookup f,h with
  |some (.ow ds),h=>
   match δ ρ,h with
   |some (.ex n),h=>exact k _ h
   |some (.ok d),h=>exact⟨h.1,k _ h.2⟩⟩
section
variable{K:SN}
theorem FsAt.len{F H:Hp}:∀{fs:List (Str×Fv)}{gs:List (Str×V)},FsAt K F H fs gs->gs.length=fs.length
 |[],_,h=>by cases (show _=_ from h);rfl
 |_::fs,_,⟨_,r,h1,_,h3⟩=>by subst h1;rw[SO,SO,FsAt.len h3]
end
section
variable{X:Cx}{Xw:Nat->Hp->Prop}{C:Addr}{i:Nat}{x f:Str}{p pos v4:Pos}{e:Expr}{δ:DE}
def iA(c:Cls X.K C)(n:NoAttr X.K C f)(h:PE X (.Name x p) (gY i))(he:PD X Xw e δ)(hs:Vv e (some (.Attribute (.Name x p) f v4)) pos.line X.env=pure false:=by rfl):zh X Xw (.Assign [.Attribute (.Name x p) f v4] e pos) (j5 C i f δ):=λu8 Zx=>PS.weak (JR h he hs) λD σ H ⟨F,ρ,s,w⟩=>by
 have w:(match δ ρ with
  |none=>False
  |some (.ex n)=>gB X.K Xw u8 Zx D (.ex n ρ)
  |some (.ok d)=>match bJ ρ i C with
   |some (a,o)=>o.fs.length<100/\gB X.K Xw u8 Zx D (.nx (ρ.set i (some (.ob a (cj o f (.fz d))))))
   |none=>False):=w
 refine⟨F,ρ,s.ok.st,?_⟩
 match δ ρ,w with
 |some (.ex n),w=>exact λF' H' e'=>w σ F' H' (s.ext' e')
 |some (.ok d),w=>
  intro v H1 F1 e1 q;have s1:=s.ext' e1
  match ho:bJ ρ i C,w with
  |some (a,o),w=>
   obtain⟨h1,h2,h3⟩:=s1.ok.st.ob ho;obtain⟨dx,gs,q1,q2,q3,q4⟩:=h2.foot;have st:=ObAt.put (f:=f) (x:= .fz d) (v:=v) (H1:=H1) h2 q1 (λ_ _=>rfl) q (λb hb=>by cases v<;>cases hb) (by cases v<;>exact V0) (λ_ _ e=>e) s1.ok.st.fh;refine⟨.ref a,h1,a,C,dx,gs,rfl,by rw[q1,h3],c,n,by rw[q3.len];omega,?_⟩;have:=w.2 σ F1 _ (s1.step (jV ho).1 st);rw[h3] at this;exact this
end
def MethAt(K:SN)(C:Addr)(x qual:Str)(st:Stmt)(f:Addr):Prop:=Cls K C/\Meth K C x f/\∃fd,Fun K x qual st f fd
def xC(K:SN)(mg:Str->Option Value)(C:Addr)(x qual:Str)(st:Stmt)(f:Addr):Prop:=Mk K C f/\mg x=some (.ref C)/\∃fd,Fun K "__init__" qual st f fd
section
variable{P:To}{w:World}{K:SN}{mg:Str->Option Value}{base:Heap}{cv:Nat->Value}{k m:Nat}{f C:Addr}{N ps:List Str}{x y qual:Str}{st:Stmt}{e e':Expr}{pos pos' uD:Pos}{δ δ':DE}{i:Nat}
def ll(T:MethAt K C x qual st f)(S:FnScope N ps (ah st))(hm:ps.length=m+1)
 (FH:∀(kV doc pm:Value) (an:Option Addr) (cP ct:Value) (us:List Value),us.length=ps.length->Xr (TR x qual (aS st) (aH st) (ah st) .none kV doc pm an cP ct) ⟨us,[]⟩=pure (ps.zip us))
 (hb:aH st=[.Return (some e) pos])
 (c6:∀(cP:Value) (A:T9) (outer:List Env) (s:SS) (H:Hp) (E:XK),Room k (A.deeper (Vx qual (ah st) s.heap.objs.size f cP))->
  PD (eT (iV P w cv) P w K mg base N qual (ah st) f cP A outer s H E) (λn H'=>E (cv n) none H') e δ):dZ P w K mg base cv (k+1) C x m λa o ds=>δ (bL N.length a o ds):=by
 obtain⟨h1,h2,fd,Fn⟩:=T;exact⟨f,fd,ps,h1,h2,Fn.binds FH,NB Fn S hb c6 m hm⟩
def sk(T:MethAt K C x qual st f)(S:FnScope N ps (ah st))(hm:ps.length=m+1)
 (FH:∀(kV doc pm:Value) (an:Option Addr) (cP ct:Value) (us:List Value),us.length=ps.length->Xr (TR x qual (aS st) (aH st) (ah st) .none kV doc pm an cP ct) ⟨us,[]⟩=pure (ps.zip us))
 (hb:aH st=[.Assign [.Name y uD] e' pos', .Return (some e) pos])
 (c6:∀(cP:Value) (A:T9) (outer:List Env) (s:SS) (H:Hp) (E:XK),Room k (A.deeper (Vx qual (ah st) s.heap.objs.size f cP))->
  nV (eT (iV P w cv) P w K mg base N qual (ah st) f cP A outer s H E) (λn H'=>E (cv n) none H') (.Assign [.Name y uD] e' pos') (bX i δ')/\PD (eT (iV P w cv) P w K mg base N qual (ah st) f cP A outer s H E) (λn H'=>E (cv n) none H') e δ):
 dZ P w K mg base cv (k+1) C x m λa o ds=>δ' (bL N.length a o ds)>>=λd=>δ ((bL N.length a o ds).set i (some (.fz d))):=by
 obtain⟨h1,h2,fd,Fn⟩:=T;exact⟨f,fd,ps,h1,h2,Fn.binds FH,KY Fn S hb c6 m hm⟩
def oT(C:Addr)(m n:Nat)(τ:XS)(g:Addr->Ob->List D->M (D×Ob)):Prop:=∀(a:Addr) (o:Ob) (ds:List D),o.c=C->ds.length=m->match g a o ds with
 |none=>True
 |some (.ok (d,o'))=>τ.f (bL n a o ds) λx=>∃(ρ:aO) (i:Nat),ρ[i]? =some (some (Sl.ob a o'))/\(x= .rt (.fz d) ρ\/(d= .non/\x= .nx ρ))
 |some (.ex n')=>τ.f (bL n a o ds) λx=>∃(ρ:aO) (i:Nat),ρ[i]? =some (some (Sl.ob a o))/\x= .ex n' ρ
def Dl{τ:XS}{g:Addr->Ob->List D->M (D×Ob)}(T:MethAt K C x qual st f)(S:FnScope N ps (ah st))(hm:ps.length=m+1)
 (FH:∀(kV doc pm:Value) (an:Option Addr) (cP ct:Value) (us:List Value),us.length=ps.length->Xr (TR x qual (aS st) (aH st) (ah st) .none kV doc pm an cP ct) ⟨us,[]⟩=pure (ps.zip us))
 (hg:oT C m N.length τ g)
 (c6:∀(cP:Value) (A:T9) (outer:List Env) (s:SS) (H:Hp) (E:XK),Room k (A.deeper (Vx qual (ah st) s.heap.objs.size f cP))->
  PXSs (eT (iV P w cv) P w K mg base N qual (ah st) f cP A outer s H E) (λn H'=>E (cv n) none H') (aH st) τ):zf P w K mg base cv (k+1) C x m g:=by
 obtain⟨h1,h2,fd,Fn⟩:=T;exact⟨f,fd,ps,h1,h2,Fn.binds FH,KW Fn S c6 m hm hg⟩
def Dh{τ:XS}{g:Addr->Ob->List D->M (D×Ob)}(T:xC K mg C x qual st f)(S:FnScope N ps (ah st))(hm:ps.length=m+1)
 (FH:∀(kV doc pm:Value) (an:Option Addr) (cP ct:Value) (us:List Value),us.length=ps.length->Xr (TR "__init__" qual (aS st) (aH st) (ah st) .none kV doc pm an cP ct) ⟨us,[]⟩=pure (ps.zip us))
 (hg:oT C m N.length τ g)
 (c6:∀(cP:Value) (A:T9) (outer:List Env) (s:SS) (H:Hp) (E:XK),Room k (A.deeper (Vx qual (ah st) s.heap.objs.size f cP))->
  PXSs (eT (iV P w cv) P w K mg base N qual (ah st) f cP A outer s H E) (λn H'=>E (cv n) none H') (aH st) τ):MakeM P w K mg base cv (k+1) C x m g:=by
 obtain⟨h1,h2,fd,Fn⟩:=T;exact⟨f,fd,ps,h1,h2,Fn.binds FH,KW Fn S c6 m hm hg⟩
def A2:List D->M D
 |[.scr ns]=>if ns.length<=63 then aa (.bl true) else af
 |_=>af
def A3(ns:List Int)(h:ns.length<=63):A2 [.scr ns]=aa (.bl true):=Y6 h
def NA{fd:Vi}{τ:XS}(Fn:Fun K x qual st f fd)(S:FnScope N ps (ah st))(hp:ps.length=1)
 (c6:∀(cP:Value) (A:T9) (outer:List Env) (s:SS) (H:Hp) (E:XK),Room k (A.deeper (Vx qual (ah st) s.heap.objs.size f cP))->
  PXSs (eT (iV P w cv) P w K mg base N qual (ah st) f cP A outer s H E) (λn H'=>E (cv n) none H') (aH st) τ)
 (hg:∀ns:List Int,ns.length<=63->τ.f (some (.fz (.scr ns))::Tc (N.length - 1) none) λx=>∃ρ,x= .rt (.fz (.bl true)) ρ):FnOk P w K mg base (iV P w cv) (k+1) f fd ps (J8 K cv 1 A2):=by
 obtain⟨oc,od,kV,doc,pm,an,cP,ct,BB,rfl,lk,rS⟩:=Fn.ex;refine rQ lk rS S (λvs H Q E ⟨_,_,_,_,hl,_⟩=>hl.trans hp.symm) λA outer s H vs Q E hr xA=>?_;obtain⟨F,ds,fh,hd,hl,hw⟩:=xA;unfold A2 at hw;split at hw
 ·rename_i ns;have st:=EJ (N:=N) fh hd;split at hw
  ·rename_i QA;have st:StOk K F H F H (L2.start N vs) (some (.fz (.scr ns))::Tc (N.length - 1) none):=st;have stx:StX K F H F H (L2.start N vs) (some (.fz (.scr ns))::Tc (N.length - 1) none):=by
    refine⟨st,λi a o b h _=>?_⟩;cases i with
    |zero=>cases h
    |succ i=>
     rw[Tx,T_] at h;split at h<;>cases h
   refine⟨_,c6 cP A outer s H E hr F H,F,_,stx,τ.mono _ _ _ (λx hx=>?_) (hg ns QA)⟩;obtain⟨ρ,rfl⟩:=hx;intro v σ' F' H' t;obtain⟨u,q1,q2⟩:=t.ok.st.den 0 _ rfl;cases q1;exact hw v H' F' t.ok.ext q2
  ·exact hw.elim
 ·exact hw.elim
end
section
variable{X:Cx}{Xw:Nat->Hp->Prop}{st:Stmt}{τ:XS}{e:Expr}
def Hl(τ:XS):XS:=⟨λρ Q=>τ.f ρ λx=>match x with | .ex _ _=>False | x=>Q x,λρ P Q k h=>τ.mono ρ _ _ (λx hx=>by
 cases x with
 |nx ρ'=>exact k _ hx
 |rt r ρ'=>exact k _ hx
 |ex n ρ'=>exact hx) h⟩
def GQ(h:zh X.nox (λ_ _=>False) st τ):zh X Xw st (Hl τ):=λu8 Zx f8 s σ H D I ⟨F,ρ,S,w⟩=>
 Ux (h u8 Zx f8 s σ H D (I.wish _) ⟨F,ρ,S,τ.mono ρ _ _ (λx hx=>by
  cases x with
  |nx ρ'=>exact hx
  |rt r ρ'=>exact hx
  |ex n ρ'=>exact hx.elim) w⟩) (λf s' q=>SP.unwish q) λ_ _ z=>z.elim
def OZ(i:Nat)(τ:XS):XS:=⟨λρ Q=>τ.f (frz i ρ) Q,λρ P Q k h=>τ.mono _ _ _ k h⟩
theorem StX.frz{K:SN}{u8 Zx F H:Hp}{σ:St}{ρ:aO}(s:StX K u8 Zx F H σ ρ)(i:Nat)(obj:Addr->Obj):(∃a o,H a=some o/\DenC K F (ρ[i]?.elim (.lst []) λx=>x.elim (.lst []) λy=>match y with | .ow c=>c | _=> .lst []) o/\σ[i]? =some (some (.ref a))/\StX K u8 Zx (upd F a (i8 (obj a) o)) (upd H a (i8 (obj a) o)) σ (L3.frz i ρ))\/L3.frz i ρ=ρ:=by
 by_cases hc:∃c,ρ[i]? =some (some (.ow c))
 ·obtain⟨c0,hi⟩:=hc;rcases s.ok.frz i obj with⟨a,o,h1,h2,h3,h4⟩ | e
  ·refine .inl ⟨a,o,h1,h2,h3,h4,λj b ob x hj hx=>?_⟩;have e:L3.frz i ρ=ρ.set i (some (.fz c0.d)):=by unfold L3.frz;rw[hi]
   rw[e] at hj;by_cases z:j=i
   ·subst z;rw[Tu (SY.mp hi).1] at hj;cases hj
   ·rw[TB (UW z)] at hj;obtain⟨hs,IX⟩:=s.at hj;obtain⟨dx,gs,f1,f2,f3,f4⟩:=IX.foot;have QS:b≠a:=λq=>z (s.ok.sep j i (.ob b ob) (.ow c0) (.ref b) (.ref a) b hj hi hs h3 (by show b∈aW H ob b;rw[f4];exact SM) (Tg.mpr q));have:aW (upd H a (i8 (obj a) o)) ob b=aW H ob b:=by
     unfold aW;rw[au QS]
    exact s.obn j b ob x hj (this▸hx)
  ·exact .inr e
 ·refine .inr ?_;unfold L3.frz;split
  ·rename_i c h;exact Y9 ⟨c,h⟩ hc
  ·rfl
def GP{i:Nat}(h:zh X Xw st τ):zh X Xw st (OZ i τ):=λu8 Zx f8 sh σ H D I ⟨F,ρ,s,w⟩=>by
 rcases s.frz i (λa=>(sh.heap.get? a).getD {cls:= .none,data:= .fields #[]}) with⟨a,o,ha,hc,hσ,s'⟩ | e
 ·refine h u8 Zx f8 sh σ _ D (L3.Inv.refrz I ha ?_) ⟨_,_,s',w⟩;generalize (ρ[i]?.elim (C.lst []) λx=>x.elim (.lst []) λy=>match y with | .ow c=>c | _=> .lst [])=c at hc;cases c with
  |lst ds=>obtain⟨vs,rfl,_⟩:=hc;exact .inl rfl
  |dct ks ds=>obtain⟨vs,rfl,_⟩:=hc;exact .inr ⟨_,rfl, .inl ⟨_,rfl,rfl⟩⟩
  |dci ks ds=>obtain⟨vs,rfl,_⟩:=hc;exact .inr ⟨_,rfl, .inr ⟨_,rfl,rfl⟩⟩
 ·exact h u8 Zx f8 sh σ H D I ⟨F,ρ,s,by have w:τ.f (frz i ρ) _:=w;rw[e] at w;exact w⟩
end
end L3
namespace L3
open PySem PySem.Spec L2 SeqAt HT
open PyProof.Rows hiding St
open PySem.W (Frag Looks findIn mroIn)
def AD(g:D->D->M D)(χ:XE)(δ:DE):XT:=⟨λρ Q=>χ.f ρ λx=>match x with
 | .val (.fz d) ρ'=>(match δ ρ' with | none=>False | some (.ok d2)=>∃b,g d d2=aa (.bl b)/\Q (.val b ρ') | some (.ex n)=>Q (.ex n ρ'))
 | .val _ _=>False
 | .ex n ρ'=>Q (.ex n ρ'),λρ P Q k h=>χ.mono ρ _ _ (λx hx=>by
 match x,hx with
 | .ex n ρ',hx=>exact k _ hx
 | .val (.fz d) ρ',hx=>
   have hx:(match δ ρ' with | none=>False | some (.ok d2)=>∃b,g d d2=aa (.bl b)/\P (.val b ρ') | some (.ex n)=>P (.ex n ρ')):=hx;show (match δ ρ' with | none=>False | some (.ok d2)=>∃b,g d d2=aa (.bl b)/\Q (.val b ρ') | some (.ex n)=>Q (.ex n ρ'))
   match δ ρ',hx with
   |some (.ok d2),⟨b,h1,h2⟩=>exact⟨b,h1,k _ h2⟩
   |some (.ex n),hx=>exact k _ hx) h⟩
section
variable{X:Cx}{Xw:Nat->Hp->Prop}{a b:Expr}{χ:XE}{δ:DE}{pos:Pos}
def GR{g:D->D->M D}{op:CmpOp}{r:R2}(ho:OpR X (Uc op) r)(hg:xt X.K r g)(ha:PX X Xw a χ)(hb:PD X Xw b δ)(hm:T7 op b=false:=by first | exact yt _ | rfl):Ng X Xw (.Compare a [op] [b] pos) (AD g χ δ):=λu8 Zx=>
 PT.weak (Af ho (ha u8 Zx) hb hm) λσ H Q ⟨F,ρ,s,w⟩=>⟨F,ρ,s,χ.mono ρ _ _ (λx hx=>by
  match x,hx with
  | .ex n ρ',hx=>exact hx
  | .val (.fz d) ρ',hx=>
    intro v F' H' st;have qd:Den X.K F' d v:=by obtain⟨u,q1,q2⟩:=st.ok.st.den 0 _ rfl;cases q1;exact q2
    have st:=st.tail;refine⟨F',ρ',st.ok.st,?_⟩;have hx:(match δ ρ' with | none=>False | some (.ok d2)=>∃b,g d d2=aa (.bl b)/\vC X.K Xw u8 Zx σ Q (.val b ρ') | some (.ex n)=>vC X.K Xw u8 Zx σ Q (.ex n ρ')):=hx
    match δ ρ',hx with
    |some (.ex n),hx=>exact λF2 H2 e2=>hx F2 H2 (st.ext' e2)
    |some (.ok d2),⟨c,h1,h2⟩=>
     intro u H2 F2 e2 q2;refine hg Xw F2 H2 v u d d2 _ e2.fh (Den.mono e2.ff qd) q2 ?_;rw[h1];exact λz H3 F3 e3 q3=>⟨c,q3,h2 F3 H3 ((st.ext' e2).ext' e3)⟩) w⟩
end
end L3
namespace L3
open PySem PySem.Spec PySem.W PySem.Calls L2
open PyProof.Rows hiding St
abbrev Ht(T:Nat)(q:To)(loose:List Str)(XP:(Str->Option Value)->Heap->Prop)(YP:World->Heap->Prop)(l:OpenLaw)(d:DefRec):Prop:=
 ∀(w:World) (u v:SS) (mg mb:Str->Option Value) (b:Addr) (ob:Obj) (pm cd dc:Value) (a:Addr) (us:List Value) (zs:List Int),
  Ground q loose [] XP w u mg mb v.heap->YP w v.heap->v.heap.get? b=some ob->ob.data= .func (docDef d.name d.params d.body d.scope pm cd dc)->
  v.heap.CodeRec cd d.name->mg d.name=some (.ref b)->v.heap.get? a=some {cls:= .type "list",data:= .seq us.toArray}->V9 us zs->(∀n,l.most=some n->zs.length<=n)->v.gens= #[]->T<=v.toks->
  Xf (model l.prog w) XR (.call (.ref b) ⟨[.ref a],[]⟩) (λr s'=>r= .ok (.ret (.bool true))/\OldK v.heap s'.heap/\s'.os=v.os/\W3 s'.gens) v
def RU{r:RowW}(hm:r.makers=[]):r.claim.makers=[]:=by show r.makers.map _=[];rw[hm];rfl
def vL{l:OpenLaw}{T n:Nat}{q:To}{loose:List Str}{Xt:SS->Bool}{XP:(Str->Option Value)->Heap->Prop}{α:Type}{Yf:SS->α}{Ya:World->α}{YP:World->Heap->Prop}{d:DefRec}{N:Nat}
 (left:LeftO l.row.prog q loose Xt Yf Ya N)(hY:∀w s,Yf s=Ya w->YP w s.heap)(QP:∀w s,Yf s=Ya w->T<=s.toks)(QO:∀w h h',YP w h->(∀b o,h.get? b=some o->h'.get? b=some o)->YP w h')
 (hX:∀s,Xt s=true->XP (s.heap.nsMap Tb) s.heap)(QN:∀mg h h',XP mg h->(∀b o,h.get? b=some o->h'.get? b=some o)->XP mg h')
 (IS:defOf q l.row.name=some (d,[]))(hp:l.row.prog.theDef l.row.name=some (d.params,d.body,d.scope))(hk:kwWritten? d.params.kwonlyargs d.params.kw_defaults=some [])(QL:∀s,Xt s=true->RecFacts l.row.records s.heap)(PZ:(!l.row.writes||l.row.records.isEmpty)=true)
 (k1:l.row.wellSaid=true)(ok:(chainsOk q&&opensWell l.row.prog&&(frees l.row.toRowW&&l.row.within.isEmpty))=true)(hb:l.row.prog.bare)(hw:l.row.toRowW.promised)
 (hn:l.most=some n)(QZ:d.params.defaults=[])
 (go:Ht T q loose XP YP l d):l.row.Holds:=by
 obtain⟨c1,c2⟩:=Ue.mp ok;obtain⟨A6,o1⟩:=Ue.mp c1;obtain⟨k5,k6⟩:=Ue.mp c2;obtain⟨PQ,hu,ha,QQ,hm⟩:=frees_parts k5;refine⟨k1,hw,⟨hb,o1,RU hm⟩,hw.witness,λw=>⟨(left.behind hX A6 w).1,λz hz=>?_⟩⟩;obtain⟨Zv,hf,IT,u,hT,RL,Q7,hg,G1,y⟩:=(left.behind (XP:=λmg h=>XP mg h/\RecFacts l.row.records h) (λs hs=>⟨hX s hs,QL s hs⟩) A6 w).2 z hz;have G0:Ground q loose [] XP w u (u.heap.nsMap Tb) (u.heap.nsMap YA) u.heap:=⟨G1.T,G1.B,G1.D,G1.TE,G1.TD,G1.W,G1.X.1,G1.cls,G1.has,G1.apart,G1.once,G1.K⟩
 have RF:=G1.X.2;refine⟨Zv,hf,IT,u,hT,?_,RF.1,RF.2.1,?_⟩
 ·intro m Rm;obtain rfl:m=l.row.name:=by split at Rm<;>simp_all
  exact pinned_of_view hg G0 IS hp hk
 have gn:u.gens= #[]:=Array.eq_empty_of_size_eq_zero (beq_iff_eq.mp Q7);have G:Ground q loose l.row.records XP w u _ _ u.heap:=RF.ground G0;refine ClaimW.callFrom_of_specG (c:=l.row.toRowW.claim) RL gn λargs CY NX ord Lp=>?_;obtain⟨⟨us,v⟩,hl⟩:=Uz.mp (layAllW_isSome (P:=w.params) (ord:=ord) G.has args l.row.args u (pre_splitW CY).1);have kp:=layAllW_keeps _ _ _ hl;have al:=layAllW_rest _ _ _ hl;obtain⟨as,N6,E_,hold⟩:=reads_layAllW Lp _ _ _ hl NX v.heap (λ_ _ e=>e);have L:Laid l.row.records w u v args us as:=⟨⟨ord,Lp,hl⟩,N6,E_,hold,kp,al.1.trans gn,al.2.2.1⟩
 have Zo:=G.keeps QN kp;have tk:T<=v.toks:=Tn (QP w u y) (layAllW_grows _ _ _ hl).toks;obtain⟨b,ob,pm,cd,dc,dV,kV,h1,h2,h3,h4,h5⟩:=Zo.fn IS;obtain rfl:dV= .none:=Dflts.none h5 QZ;obtain rfl:kV= .none:=Dflts.noKw h5;have hi:=ident_freeW hu ha QQ;have PY:l.row.toRowW.claim.within=[]:=List.isEmpty_iff.mp k6;obtain⟨a,vs,ns,rfl,rfl,IY,hints,M2⟩:=Att.script_of hn CY L.well;have run:wpAny (model l.prog w) XR (PySem.call (.ref b) [.ref a]) (λx s'=>GoodWG l.row.toRowW.claim (classAt u.heap) (ExcName.means u.heap) [WData.list (ns.map WData.int)] v (.ok (.ret x)) s') (λe s'=>GoodWG l.row.toRowW.claim (classAt u.heap) (ExcName.means u.heap) [WData.list (ns.map WData.int)] v (.error e) s') v:=
  enter_call (X1 (go w u v _ _ b ob pm cd dc a vs ns Zo (QO _ _ _ (hY w u y) kp) h2 (fd_plain h3) h4 (defOf_name IS▸h1) IY hints (λm hm=>by rw[hn] at hm;cases hm;exact M2) L.gens tk) λr s' hq=>by
   obtain⟨rfl,q2,q3,q4⟩:=hq;exact⟨.inl ⟨.bool true, .bool true,[],rfl,λ_=>rfl, .bool true,Att.post_true l _,λ_=>⟨XX,λ_ hm=>(nomatch hm)⟩⟩,q2,q3,q4⟩)
 refine⟨_,v,hl,SH (wpAny_nsGet Zo.T.g ?_)⟩;rw[show u.heap.nsMap Tb l.row.name=some (.ref b) from h1];exact SH (Ux run (λx s' g=>SQ ⟨_,rfl,
  have y:=g.laid (c:=l.row.toRowW.claim) PQ PY hi L
  ⟨y.1,y.2.1,y.2.2,λq=>⟨namesKept_of hT hg _ kp g.2.1.old,noTable PZ q⟩⟩⟩) λe s' g=>
  have y:=g.laid (c:=l.row.toRowW.claim) PQ PY hi L
  ⟨y.1,y.2.1,y.2.2,λq=>⟨namesKept_of hT hg _ kp g.2.1.old,noTable PZ q⟩⟩)
end L3
namespace L3
open PySem PySem.Spec PySem.W L2 SeqAt HT
open PyProof.Rows hiding St
def Mx{l:OpenLaw}{n k:Nat}{q:To}{loose:List Str}{XP:(Str->Option Value)->Heap->Prop}{YP:World->Heap->Prop}{d:DefRec}{K:YC->Frag}{x:Str}{g:List D->M D}
 (hn:l.most=some n)(Lm:n<=lim)(hr:Room k XR)
 (hY:∀(w:World) (h:Heap),YP w h->(K w.params).In h)(hg:∀ns:List Int,ns.length<=n->g [.scr ns]=aa (.bl true))
 (F:∀(w:World) (mg:Str->Option Value) (b:Addr) (h:Heap),(K w.params).In h->h.Ns Tb mg->mg d.name=some (.ref b)->
  ∃(cv:Nat->Value) (fd:Vi),(∀(s:SS) (u:Value),BindsTo s fd ⟨[u],[]⟩ [(x,u)])/\
   ∀base:Heap,(K w.params).In base->base.Ns Tb mg->FnOk l.prog w (K w.params) mg base (iV l.prog w cv) k b fd [x] (J8 (K w.params) cv 1 g)):
 Ht Ig q loose XP YP l d:=λw u v mg mb b ob pm cd dc a us zs G Y _ _ _ NY IY hints M2 Q8 tk=>by
 have M2:=M2 n hn;have KX:=hY w _ Y;obtain⟨cv,fd,hb,hF⟩:=F w mg b _ KX G.T.g NY
 haveI:Tk v:=⟨tk⟩
 refine Dc KX G.T.g G.T.b G.T.builtins G.T.nolimit Q8 IY hints (Tn M2 (Tn Lm (Va dS))) hr hF hb (λH hO hS=>?_) λH e s' z=>?_
 ·refine⟨H,[.scr zs],λ_ _ e=>e,⟨_,_,rfl,⟨a,rfl,hS,Tn M2 Lm⟩,rfl⟩,rfl,?_⟩;rw[hg zs M2];exact λv H' F' e q=>q
 ·obtain⟨_,_,_,_,_,_,_,_,_,_,_,_,_,_,y⟩:=z
end L3
namespace L3
open PySem PySem.Spec L2 SeqAt HT
open PyProof.Rows hiding St
section
variable{X:Cx}{Xw:Nat->Hp->Prop}{e e2 o:Expr}{δo:DE}{δs:DA}{pos v4 aU p1 p2:Pos}
def yR:D->List D->M D
 | .str x,[.int i, .str f]=>if PadOk i=true/\f.length=1/\(Wb x i (f.cps.getD 0 0)).length<=lim then aa (.str (Wb x i (f.cps.getD 0 0))) else af
 |_,_=>af
def Ds:Ke X "str.rjust" (λx vs H Q=>∃(y:Str) (i:Int) (f:Str),x= .str y/\vs=[.int i, .str f]/\PadOk i=true/\f.length=1/\Q (.str (Wb y i (f.cps.getD 0 0))) H):=by
 intro f8 s σ H x vs v us Q I rx rv h;obtain⟨y,i,f,rfl,rfl,hp,hf,q⟩:=h;obtain⟨t,rfl⟩:=rx;cases rv with
 |cons r1 rv=>
  obtain⟨u,rfl,r2⟩:=Vals.one rv;obtain⟨t1,rfl⟩:=r1;obtain⟨t2,rfl⟩:=r2;exact rjust_fill hp hf λt' k=>⟨.str _,H,I.tok _,⟨_,rfl⟩,q⟩
def DX(ho:PD X Xw o δo)(ha:kU X Xw [e,e2] δs)(dw:Ug o "rjust" X.env (eval o X.env)=eval o X.env:=by rfl)
 (gk:((Uv aU (SX [e,e2] X.env)).all (λx=>!x.1)&&(UQ aU (Ub [] X.env)).all (λx=>x.1.isSome)&&decide ([e,e2].length+([]:List UO).length+(if ([]:List UO).isEmpty then 0 else 1)<30))=true:=by rfl)
 (dz:(v4.endLine==aU.line)=true:=by rfl)(lY:SX [e,e2] X.env=(false,eval e X.env)::SX [e2] X.env:=by rfl)(iY:(Uv aU (SX [e2] X.env)).any (·.1)=false:=by rfl):PD X Xw (.Call (.Attribute o "rjust" v4) [e,e2] [] aU) (dM gm yR δo δs):=
 z7 UX PySem.F.slot_str_rjust PySem.F.type_str_rjust Ds tW (λXw F H x vs d ds Q s hx hv w=>by
  unfold yR at w;split at w
  ·rename_i y i f;obtain⟨v1,ws,rfl,h1,h2⟩:=hv;obtain⟨v2,rfl,h3⟩:=DenL.one h2;split at w
   ·rename_i hc;exact⟨y,i,f,hx.1,by rw[show v1=_ from h1,show v2=_ from h3.1],hc.1,hc.2.1,WP.now w s ⟨rfl,hc.2.2⟩⟩
   ·exact w.elim
  ·exact w.elim) ho ha dw gk dz lY iY
def Mg(z:Str):D->M D
 | .str x=>if x.length<=1000/\(VS x z (S3 "")).length<=lim then aa (.str (VS x z (S3 ""))) else af
 |_=>af
def zB(z:Str)(δo:DE):DE:=λρ=>δo ρ>>=Mg z
def Gv{x z:Str}{t:Tok}{j:Nat}(hg:Gl X x)(hm:X.mg x=some (.str z t))(t0:t≠0)(tk:t<Ig)(hz:(z==S3 "")=false)(ho:PD X Xw o δo)
 (dw:Ug o "replace" X.env (eval o X.env)=eval o X.env:=by rfl)(ma:(x==("__debug__":Str))=false:=by decide)
 (gk:((Uv aU (SX [.Name x p1, .Constant (.str "") j p2] X.env)).all (λx=>!x.1)&&(UQ aU (Ub [] X.env)).all (λx=>x.1.isSome)&&decide (([.Name x p1, .Constant (.str "") j p2]:List Expr).length+([]:List UO).length+(if ([]:List UO).isEmpty then 0 else 1)<30))=true:=by rfl)
 (dz:(v4.endLine==aU.line)=true:=by rfl)(lY:SX [.Name x p1, .Constant (.str "") j p2] X.env=[(false,eval (.Name x p1) X.env),(false,eval (.Constant (.str "") j p2) X.env)]:=by rfl):
 PD X Xw (.Call (.Attribute o "replace" v4) [.Name x p1, .Constant (.str "") j p2] [] aU) (zB z δo):=by
 intro f8 s σ H Q I ⟨F,ρ,S,w⟩ Sy;refine YY dw gk dz rfl (bY (ho f8 s σ H _ I ⟨F,ρ,S,WP.bind w⟩) λv s1 ⟨y,H1,I1,r1,F1,d,e1,q1,w1⟩ _=>?_);cases d with
 |str xx=>
  cases (show _=_ from q1.1);obtain⟨t1,rfl⟩:=r1;obtain⟨h1,h2⟩:=EW I1 (x:= .str xx) ⟨t1,rfl⟩ (show Mw X.K "str" (.str xx) H1 from rfl);refine⟨"str","str.replace",UX,PySem.F.slot_str_replace,PySem.F.type_str_replace,h1,h2,?_⟩;rw[lY];refine Wk rfl (WI ?_);refine VT (oH I1 hg hm ?_ ma);refine VT (YH (k:=j) (pos:=p2) ?_);refine Xa ?_;have Qi:Ig<=s1.toks:=(inferInstance:Tk s1).le;have w1:WP X.K Xw F1 H1 (if xx.length<=1000/\(VS xx z (S3 "")).length<=lim then aa (.str (VS xx z (S3 ""))) else af) Q:=w1;split at w1
  ·rename_i hc;have P9:t<s1.toks:=Tq tk Qi;exact SC.replaceW t0 (WD (Vn (TQ t) P9)) (Tv P9) hz (by have:=hc.1;omega) (by decide) λt' k=>⟨.str _,H1,(I1.tok _).tok _,⟨_,rfl⟩,WP.now w1 e1.fh ⟨rfl,hc.2⟩⟩
  ·exact w1.elim
 |_=>exact w1.elim
def DV{x z:Str}{j:Nat}(hg:Gl X x)(hm:∃t,(Wj 1 t&&Wj (Yj t) Ig)=true/\X.mg x=some (.str z t))(hz:(z==S3 "")=false)(ho:PD X Xw o δo)
 (dw:Ug o "replace" X.env (eval o X.env)=eval o X.env:=by rfl)(ma:(x==("__debug__":Str))=false:=by decide)
 (gk:((Uv aU (SX [.Name x p1, .Constant (.str "") j p2] X.env)).all (λx=>!x.1)&&(UQ aU (Ub [] X.env)).all (λx=>x.1.isSome)&&decide (([.Name x p1, .Constant (.str "") j p2]:List Expr).length+([]:List UO).length+(if ([]:List UO).isEmpty then 0 else 1)<30))=true:=by rfl)
 (dz:(v4.endLine==aU.line)=true:=by rfl)(lY:SX [.Name x p1, .Constant (.str "") j p2] X.env=[(false,eval (.Name x p1) X.env),(false,eval (.Constant (.str "") j p2) X.env)]:=by rfl):
 PD X Xw (.Call (.Attribute o "replace" v4) [.Name x p1, .Constant (.str "") j p2] [] aU) (zB z δo):=by
 obtain⟨t,h1,h2⟩:=hm;obtain⟨a1,a2⟩:=Ue.mp h1;exact Gv hg h2 (WD (WE a1)) (WE a2) hz ho dw ma gk dz lY
end
end L3
namespace L3
open PySem PySem.Spec L2
open PyProof.Rows hiding St
def oR(C:Addr)(i:Nat)(f:Str)(g:Int->Int):XS:=⟨λρ Q=>match bJ ρ i C with
 |some (a,o)=>(match o.fs.lookup f with
  |some (.fz (.int k))=>o.fs.length<100/\Q (.nx (ρ.set i (some (.ob a (cj o f (.fz (.int (g k))))))))
  |_=>False)
 |none=>False,λρ P Q k h=>by
 match bJ ρ i C,h with
 |some (a,o),h=>
  have h:(match o.fs.lookup f with | some (.fz (.int k))=>o.fs.length<100/\P (.nx (ρ.set i (some (.ob a (cj o f (.fz (.int (g k)))))))) | _=>False):=h;show (match o.fs.lookup f with | some (.fz (.int k))=>o.fs.length<100/\Q (.nx (ρ.set i (some (.ob a (cj o f (.fz (.int (g k)))))))) | _=>False)
  match o.fs.lookup f,h with
  |some (.fz (.int k')),h=>exact⟨h.1,k _ h.2⟩⟩
section
variable{X:Cx}{Xw:Nat->Hp->Prop}{C:Addr}{i:Nat}{x f:Str}{p pos v4:Pos}{j:Int}
def yO{op:Operator}{rd:V->V->Hp->VK->Prop}{g:Int->Int}(N4:Ii X op rd)(N6:∀(k:Int) (H:Hp) (Q:VK),Q (.int (g k)) H->rd (.int k) (.int j) H Q)(c:Cls X.K C)(n:NoAttr X.K C f)(h:PE X (.Name x p) (gY i)){e:Expr}(he:PE X e (tC (.int j))):
 zh X Xw (.AugAssign (.Attribute (.Name x p) f v4) op e pos) (oR C i f g):=λu8 Zx=>PS.weak (BK h he N4) λD σ H ⟨F,ρ,s,w⟩=>by
 have w:(match bJ ρ i C with
  |some (a,o)=>(match o.fs.lookup f with
   |some (.fz (.int k))=>o.fs.length<100/\gB X.K Xw u8 Zx D (.nx (ρ.set i (some (.ob a (cj o f (.fz (.int (g k))))))))
   |_=>False)
  |none=>False):=w
 match ho:bJ ρ i C,w with
 |some (a,o),w=>
  have w:(match o.fs.lookup f with
   |some (.fz (.int k))=>o.fs.length<100/\gB X.K Xw u8 Zx D (.nx (ρ.set i (some (.ob a (cj o f (.fz (.int (g k))))))))
   |_=>False):=w
  match hf:o.fs.lookup f,w with
  |some (.fz (.int k)),w=>
   obtain⟨h1,h2,h3⟩:=s.ok.st.ob ho;obtain⟨dx,gs,q1,q2,q3,q4⟩:=h2.foot;obtain⟨v,v1,v2⟩:=q3.get hf;have hv:v= .int k:=v2;subst hv;have st:=ObAt.put (f:=f) (x:= .fz (.int (g k))) (v:= .int (g k)) (H1:=H) h2 q1 (λ_ _=>rfl) rfl (λb hb=>by cases hb) V0 (λ_ _ e=>e) s.ok.st.fh;refine⟨.ref a,h1,a,C,dx,gs, .int k,rfl,by rw[q1,h3],c,n,v1,N6 _ _ _ ⟨dx,gs,by rw[q1,h3],by rw[q3.len];omega,?_⟩⟩;have:=w.2 σ F _ (s.step (jV ho).1 st);rw[h3] at this;exact this
def yP{j0:Nat}{p0:Pos}(c:Cls X.K C)(n:NoAttr X.K C f)(h:PE X (.Name x p) (gY i)):zh X Xw (.AugAssign (.Attribute (.Name x p) f v4) .Add (.Constant (.int j) j0 p0) pos) (oR C i f (· +j)):=
 yO Jc (λk H Q q=>⟨k,j,rfl,rfl,q⟩) c n h D6
end
end L3
namespace L3
open PySem PySem.Spec L2 SeqAt HT
open PyProof.Rows hiding St
section
variable{K:SN}{u8 Zx F H:Hp}{σ:St}{ρ:aO}
def StX.chgL(s:StX K u8 Zx F H σ ρ){i:Nat}{c c₀:C}{a:Addr}{Zj:HO}(hi:ρ[i]? =some (some (.ow c)))(ha:σ[i]? =some (some (.ref a)))(h:DenC K F c₀ Zj):StX K u8 Zx F (upd H a Zj) σ (ρ.set i (some (.ow c₀))):=
 ⟨s.ok.chg hi ha h,λj b o d e hd=>by
  by_cases hj:i=j
  ·subst hj;rw[Tu (SY.mp hi).1] at e;cases e
  ·rw[TB hj] at e;obtain⟨h1,h2⟩:=s.at e;obtain⟨dx,gs,q1,q2,q3,q4⟩:=h2.foot;have ib:b≠a:=λz=>hj (s.ok.sep i j _ _ _ _ a hi e ha h1 (Tg.mpr rfl) (show a∈aW H o b by rw[q4,z];exact SM ..));refine s.obn j b o d e ?_;have:aW (upd H a Zj) o b=aW H o b:=by unfold aW;rw[au ib]
   exact this▸hd⟩
end
def AB(j:Nat)(χ:XE):XS:=⟨λρ Q=>(ir ρ j).isSome=true/\χ.f ρ λx=>match x with
 | .val (.fz d) ρ'=>(match ir ρ' j with | some ds=>ds.length<lim/\Q (.nx (ρ'.set j (some (.ow (.lst (ds++[d])))))) | none=>False)
 | .val _ _=>False
 | .ex n ρ'=>Q (.ex n ρ'),λρ P Q k h=>⟨h.1,χ.mono ρ _ _ (λx hx=>by
 match x,hx with
 | .val (.fz d) ρ',hx=>
   show (match ir ρ' j with | some ds=>ds.length<lim/\Q (.nx (ρ'.set j (some (.ow (.lst (ds++[d])))))) | none=>False);have hx:(match ir ρ' j with | some ds=>ds.length<lim/\P (.nx (ρ'.set j (some (.ow (.lst (ds++[d])))))) | none=>False):=hx
   match ir ρ' j,hx with
   |some ds,hx=>exact⟨hx.1,k _ hx.2⟩
 | .ex n ρ',hx=>exact k _ hx) h.2⟩⟩
section
variable{X:Cx}{Xw:Nat->Hp->Prop}{a e o:Expr}{χ:XE}{δo:DE}{δs:DA}{pos p v4 aU:Pos}{x:Str}{i:Nat}
def El(hv:PE X (.Name x p) (gY i))(he:PX X Xw e χ)(hs:Vv (.Call (.Attribute (.Name x p) "append" v4) [e] [] aU) none pos.line X.env=pure false:=by rfl)
 (dw:Ug (.Name x p) "append" X.env (eval (.Name x p) X.env)=eval (.Name x p) X.env:=by rfl)
 (gk:((Uv aU (SX [e] X.env)).all (λx=>!x.1)&&(UQ aU (Ub [] X.env)).all (λx=>x.1.isSome)&&decide ([e].length+([]:List UO).length+(if ([]:List UO).isEmpty then 0 else 1)<30))=true:=by rfl)
 (dz:(v4.endLine==aU.line)=true:=by rfl)(lY:SX [e] X.env=[(false,eval e X.env)]:=by rfl):zh X Xw (.Expr (.Call (.Attribute (.Name x p) "append" v4) [e] [] aU) pos) (AB i χ):=λu8 Zx=>
 PS.weak (lM (Ac V6 XB XA mj hv (oJ (he u8 Zx) qe lY) dw gk dz lY rfl) hs) λD σ H ⟨F,ρ,s,w⟩=>by
 obtain⟨w1,w2⟩:=w;obtain⟨Si,ho⟩:=Uz.mp w1;have hi:=gM ho;obtain⟨v,FP,a,o,rfl,hH,hF,vs,rfl,hd,hl⟩:=s.ok.st.den i _ hi;refine⟨.ref a,FP, .inl ⟨rfl,vs,SqL.of hH⟩,F,ρ,s,χ.mono ρ _ _ (λx hx=>?_) w2⟩
 match x,hx with
 | .val (.fz d) ρ',hx=>
   have hx:(match ir ρ' i with | some ds=>ds.length<lim/\gB X.K Xw u8 Zx D (.nx (ρ'.set i (some (.ow (.lst (ds++[d])))))) | none=>False):=hx;intro y F1 H1 st;have t:=st.tail
   match h1:ir ρ' i,hx with
   |some ds,hx=>
    have Km:=gM h1;obtain⟨v2,PV,a2,o2,rfl,QF,NF,Sf,rfl,hd2,HP⟩:=t.ok.st.den i _ Km;rw[FP] at PV;cases PV;obtain⟨u,e1,q⟩:=st.ok.st.den 0 (.fz d) rfl;cases e1;have M2:=hd2.len;exact⟨a,Sf,y,rfl,rfl,QF,by have:=dS;have:=hx.1;omega,hx.2 σ F1 _ (t.chgL Km FP ⟨_,rfl,DenL.append hd2 (.cons q .nil),by rw[S1];exact hx.1⟩)⟩
 | .ex n ρ',hx=>exact λF1 H1 st=>hx σ F1 H1 st
def lj:D->List D->M D
 | .str x,[.str y]=>if x.length<=1000/\(U_ x y).length<=lim then aa (.str (U_ x y)) else af
 |_,_=>af
def Bt:Ke X "str.lstrip" (λx vs H Q=>∃y z:Str,x= .str y/\vs=[.str z]/\y.length<=1000/\Q (.str (U_ y z)) H):=by
 intro f8 s σ H x vs v us Q I rx rv h;obtain⟨y,z,rfl,rfl,hl,q⟩:=h;obtain⟨t,rfl⟩:=rx;obtain⟨u,rfl,r1⟩:=Vals.one rv;obtain⟨t2,rfl⟩:=r1;exact call_gives XW (VE _ _ _) PySem.F.entry_str_lstrip (PySem.F.args_str_lstrip_2 _ _) (gives_str_lstrip_chars y z t t2) (post_val_or_made (λ_=>fits_stripped _ _ _ (by rw[VF];omega)) λt' k=>⟨.str _,H,I.tok _,⟨_,rfl⟩,q⟩)
def BF(ho:PD X Xw o δo)(ha:kU X Xw [e] δs)(dw:Ug o "lstrip" X.env (eval o X.env)=eval o X.env:=by rfl)
 (gk:((Uv aU (SX [e] X.env)).all (λx=>!x.1)&&(UQ aU (Ub [] X.env)).all (λx=>x.1.isSome)&&decide ([e].length+([]:List UO).length+(if ([]:List UO).isEmpty then 0 else 1)<30))=true:=by rfl)
 (dz:(v4.endLine==aU.line)=true:=by rfl)(lY:SX [e] X.env=[(false,eval e X.env)]:=by rfl):PD X Xw (.Call (.Attribute o "lstrip" v4) [e] [] aU) (dM gm lj δo δs):=
 z7 UX XW PySem.F.type_str_lstrip Bt tW (λXw F H x vs d ds Q s hx hv w=>by
  unfold lj at w;split at w
  ·rename_i y z;obtain⟨v,rfl,h1⟩:=hv.one;split at w
   ·rename_i hc;exact⟨y,z,hx.1,by rw[show v=_ from h1.1],hc.1,WP.now w s ⟨rfl,hc.2⟩⟩
   ·exact w.elim
  ·exact w.elim) ho ha dw gk dz lY rfl
end
end L3
namespace L3
open PySem PySem.Spec L2
open PyProof.Rows hiding St
inductive Ar where
 |v (δ:DE) | o (i:Nat)
def ArgOk(K:SN)(F:Hp)(σ:St)(ρ:aO):List Ar->List Sl->List V->Prop
 |[],ss,vs=>ss=[]/\vs=[]
 | .v _::as,ss,vs=>∃d v Mn oQ,ss= .fz d::Mn/\vs=v::oQ/\Den K F d v/\ArgOk K F σ ρ as Mn oQ
 | .o i::as,ss,vs=>∃a o v Mn oQ,ss= .ob a o::Mn/\vs=v::oQ/\ρ[i]? =some (some (.ob a o))/\σ[i]? =some (some v)/\ArgOk K F σ ρ as Mn oQ
def objs:List Ar->List Nat
 |[]=>[]
 | .v _::as=>objs as
 | .o i::as=>i::objs as
def Kf(as:List Ar)(k:Nat):Option Nat:=match as[k]? with
 |some (.o i)=>some i
 |_=>none
section
variable{K:SN}{F:Hp}{σ:St}{ρ:aO}
theorem ArgOk.len:∀{as:List Ar}{ss:List Sl}{vs:List V},ArgOk K F σ ρ as ss vs->ss.length=as.length/\vs.length=as.length
 |[],_,_,⟨rfl,rfl⟩=>⟨rfl,rfl⟩
 | .v _::as,_,_,⟨_,_,_,_,rfl,rfl,_,h⟩=>by have:=h.len;simp[this.1,this.2]
 | .o _::as,_,_,⟨_,_,_,_,_,rfl,rfl,_,_,h⟩=>by have:=h.len;simp[this.1,this.2]
theorem ArgOk.at:∀{as:List Ar}{ss:List Sl}{vs:List V}{k:Nat}{sl:Sl},ArgOk K F σ ρ as ss vs->ss[k]? =some sl->
 (Kf as k=none/\∃d v,sl= .fz d/\vs[k]? =some v/\Den K F d v)\/∃i a o v,Kf as k=some i/\i∈objs as/\sl= .ob a o/\ρ[i]? =some (some sl)/\vs[k]? =some v/\σ[i]? =some (some v)
 |[],_,_,k,sl,⟨rfl,rfl⟩,e=>by simp at e
 | .v _::as,_,_,0,sl,⟨d,v,_,_,rfl,rfl,q,h⟩,e=>by
   cases (show some (Sl.fz d)=some sl from e);exact .inl ⟨rfl,d,v,rfl,rfl,q⟩
 | .o i::as,_,_,0,sl,⟨a,o,v,_,_,rfl,rfl,q1,q2,h⟩,e=>by
   cases (show some (Sl.ob a o)=some sl from e);exact .inr ⟨i,a,o,v,rfl,SM,rfl,q1,rfl,q2⟩
 | .v _::as,_,_,k+1,sl,⟨_,_,_,_,rfl,rfl,_,h⟩,e=>by
   rcases h.at (k:=k) (by simpa using e) with⟨z,d,v,z1,z2,z3⟩ | ⟨i,a,o,v,z,z0,z1,z2,z3,z4⟩
   ·exact .inl ⟨by simpa[Kf] using z,d,v,z1,by simpa using z2,z3⟩
   ·exact .inr ⟨i,a,o,v,by simpa[Kf] using z,z0,z1,z2,by simpa using z3,z4⟩
 | .o _::as,_,_,k+1,sl,⟨_,_,_,_,_,rfl,rfl,_,_,h⟩,e=>by
   rcases h.at (k:=k) (by simpa using e) with⟨z,d,v,z1,z2,z3⟩ | ⟨i,a,o,v,z,z0,z1,z2,z3,z4⟩
   ·exact .inl ⟨by simpa[Kf] using z,d,v,z1,by simpa using z2,z3⟩
   ·exact .inr ⟨i,a,o,v,by simpa[Kf] using z,SJ _ z0,z1,z2,by simpa using z3,z4⟩
end
def CallR(P:To)(w:World)(K:SN)(mg:Str->Option Value)(base:Heap)(cv:Nat->Value)(k:Nat)(C:Addr)(x:Str)(m:Nat)(g:Addr->Ob->List D->M D):Prop:=
 ∃f fd ps,mg x=some (.ref f)/\TJ K (.ref f)=true/\Binds K fd ps []/\FnOk P w K mg base (iV P w cv) k f fd ps (M_ K cv C m g)
end L3
namespace L3
def M8(n:Nat)(δs:DA):DS:=λ_=>af
end L3
namespace K1
open PySem PySem.Spec L2 L3
open PyProof.Rows hiding St
def zb:DS:=(bo (d5 (dA iZ (aC (dV 0) (aC (dC (.raw (.ty "int"))) aN))) (HA (dA iZ (aC (dV 0) (aC (dC (.raw (.ty "bool"))) aN))))))
def bA:List D->M D:=cM 1 (zb)
def xk:DS:=(bo (d5 (dA iZ (aC (dV 0) (aC (dC (.raw (.ty "str"))) aN))) (d5 (d2 l_ (dA a7 (aC (dV 0) aN)) (dC (.int 1))) (d2 (pj false) (dV 0) (dC (.str "abcdef"))))))
def cZ:List D->M D:=cM 1 (xk)
def qO:DS:=(bo (aR 0 (λρ=>(aC (dA a7 (aC (d2 aZ (dV 0) (dC (.int 0))) aN)) aN) ρ>>=e_) bb (dA dm (aC (dV 2) (aC (dV 0) aN)))))
def bt:List D->M D:=cM 2 (qO)
def xo:DS:=(bo (d2 fK (d2 aZ (dV 0) (d2 aZ (dV 1) (dC (.int 0)))) (d2 aZ (dV 1) (dC (.int 1)))))
def aV:List D->M D:=cM 2 (xo)
def za:DS:=(a8 (bX 3 (dA B9 (aC (d2 fV (d2 aZ (dV 0) (dC (.int 0))) (d2 aZ (dV 1) (dC (.int 0)))) aN))) (a8 (bX 4 (dA B9 (aC (d2 fV (d2 aZ (dV 0) (dC (.int 1))) (d2 aZ (dV 1) (dC (.int 1)))) aN))) (a8 (iC (eA (d2 l_ (dV 2) (dC (.int 4)))) (bo (d2 l_ (d2 dR (dV 3) (dV 4)) (dC (.int 1)))) di) (bo (d2 l_ (dA yo (aC (dV 3) (aC (dV 4) aN))) (dC (.int 1)))))))
def dQ:List D->M D:=cM 5 (za)
def Ho:DS:=(a8 (EB 1) (a8 (λρ=>noex ((gT (putN 2) (I_ (fc (dV 0)) (λρ=>(dV 0) ρ>>=mV)) (eG [2] (wR 1 (dV 2) (dC (.bl true))))) ρ)) (Ez 1 (bo (dV 1)))))
def hJ:List D->M D:=cM 3 (Ho)
def qQ:DS:=(a8 (iC (eA (d2 l_ (dV 0) (dA fM aN))) (bo (d2 fe (dC (.int 7)) (dV 1))) di) (bo (d2 dR (d2 CO (dV 0) (d2 la (dV 1) (dA a7 (aC (dV 0) aN)))) (d2 fe (dC (.int 6553)) (d2 qY (dV 1) (dA a7 (aC (dV 0) aN)))))))
def fG:List D->M D:=cM 2 (qQ)
def zd:DS:=(bo (d2 fK (d2 aZ (dV 0) (d2 aZ (dV 1) (dC (.int 0)))) (d2 aZ (dV 1) (dC (.int 1)))))
def fI:List D->M D:=cM 2 (zd)
def xl:DS:=(a8 (iC (tJ (cS (ck (dA iZ (aC (dV 0) (aC (dC (.raw (.ty "str"))) aN))))) (cS (eA (xQ (λi j=>decide (i<=j)) (λi j=>decide (i<=j)) (dC (.int 1)) (dA a7 (aC (dV 0) aN)) (dC (.int 8)))))) (bo (dC (.bl false))) di) (bo (dA allM (aC (aR 0 (λρ=>(dV 0) ρ>>=EE) bb (ar 1 cZ (aC (dV 0) aN))) aN))))
def fF:List D->M D:=cM 1 (xl)
def s_:DS:=(a8 (iC (tJ (cS (ck (dA iZ (aC (dV 1) (aC (dC (.raw (.ty "tuple"))) aN))))) (eA (d2 jO (dA a7 (aC (dV 1) aN)) (dC (.int 2))))) (bo (dC (.bl false))) di) (a8 (iC (tJ (cS (ck (ar 1 bA (aC (d2 aZ (dV 1) (dC (.int 0))) aN)))) (cS (ck (ar 1 bA (aC (d2 aZ (dV 1) (dC (.int 1))) aN))))) (bo (dC (.bl false))) di) (bo (d5 (xQ (λi j=>decide (i<=j)) (λi j=>decide (i<j)) (dC (.int 0)) (d2 aZ (dV 1) (dC (.int 0))) (dA a7 (aC (dV 0) aN))) (xQ (λi j=>decide (i<=j)) (λi j=>decide (i<j)) (dC (.int 0)) (d2 aZ (dV 1) (dC (.int 1))) (dA a7 (aC (d2 aZ (dV 0) (dC (.int 0))) aN)))))))
def jN:List D->M D:=cM 2 (s_)
def xq:DS:=(iC (tJ (cS (ck (ar 1 bA (aC (dV 0) aN)))) (eA (d2 (FC true) (dV 0) (dA dm (aC (dC (.int 4)) (aC (dC (.int 8)) aN)))))) (M8 1 (aC (dC (.str "ways are 4 or 8")) aN)) di)
def cw:List D->M D:=cM 1 (xq)
def xj:DS:=(a8 (uL 1) (a8 (λρ=>noex ((gT (putN 2) (λρ=>(aC (dA a7 (aC (dV 0) aN)) aN) ρ>>=e_) (eG [2] (Ex 1 (ar 2 bt (aC (dV 0) (aC (dV 2) aN)))))) ρ)) (Ez 1 (bo (dV 1)))))
def fX:List D->M D:=cM 3 (xj)
def u4:DS:=(a8 (uL 3) (a8 (λρ=>noex ((gT (putN 4) (λρ=>(aC (dA yo (aC (d2 fV (d2 aZ (dV 1) (dC (.int 0))) (dC (.int 1))) (aC (dC (.int 0)) aN))) (aC (dA Bm (aC (d2 dR (d2 aZ (dV 1) (dC (.int 0))) (dC (.int 2))) (aC (dA a7 (aC (dV 0) aN)) aN))) aN)) ρ>>=sR) (eG [4,5] (gT (putN 5) (λρ=>(aC (dA yo (aC (d2 fV (d2 aZ (dV 1) (dC (.int 1))) (dC (.int 1))) (aC (dC (.int 0)) aN))) (aC (dA Bm (aC (d2 dR (d2 aZ (dV 1) (dC (.int 1))) (dC (.int 2))) (aC (dA a7 (aC (d2 aZ (dV 0) (dC (.int 0))) aN)) aN))) aN)) ρ>>=sR) (eG [5] (iC (ck (ar 3 dQ (aC (dV 1) (aC (dA dm (aC (dV 4) (aC (dV 5) aN))) (aC (dV 2) aN))))) (oq 3 (dA dm (aC (dV 4) (aC (dV 5) aN)))) di))))) ρ)) (Ez 3 (bo (dV 3)))))
def df:List D->M D:=cM 6 (u4)
def qS:DS:=(a8 (bX 3 (ar 1 hJ (aC (dV 1) aN))) (a8 (uL 4) (a8 (λρ=>noex ((gT (putN 5) (λρ=>(aC (dA a7 (aC (dV 0) aN)) aN) ρ>>=e_) (eG [5,6] (a8 (bX 6 (ar 2 bt (aC (dV 0) (aC (dV 5) aN)))) (oq 4 (dM gm joinM (dC (.str "")) (aC (aR 0 (fc (dV 6)) bb (Hz (eA (d2 (kE false) (dV 0) (dV 4))) (dV 3) (ar 2 aV (aC (dV 1) (aC (dV 0) aN))))) aN)))))) ρ)) (Ez 4 (bo (dA nS (aC (dV 4) aN)))))))
def bU:List D->M D:=cM 7 (qS)
def nU:DS:=(a8 (bX 3 (d2 la (d2 dR (d2 fe (d2 la (ar 2 fG (aC (dV 0) (aC (dV 1) aN))) (dC (.int 2147483563))) (dC (.int 69069))) (d2 fe (dC (.int 104723)) (d2 dR (dV 1) (dC (.int 1))))) (dC (.int 2147483563)))) (a8 (bX 3 (d2 la (d2 dR (d2 fe (dV 3) (dV 3)) (d2 qY (dV 3) (dC (.int 3)))) (dC (.int 2147483399)))) (bo (d2 la (d2 qY (d2 la (d2 dR (d2 fe (dV 3) (dV 3)) (d2 qY (dV 3) (dC (.int 7)))) (dC (.int 2147483647))) (dC (.int 11))) (dV 2)))))
def aL:List D->M D:=cM 4 (nU)
def qP:DS:=(a8 (iC (tJ (cS (ck (dA iZ (aC (dV 0) (aC (dC (.raw (.ty "tuple"))) aN))))) (cS (eA (xQ (λi j=>decide (i<=j)) (λi j=>decide (i<=j)) (dC (.int 1)) (dA a7 (aC (dV 0) aN)) (dC (.int 8)))))) (bo (dC (.bl false))) di) (a8 (iC (cS (ck (dA allM (aC (aR 0 (gA (dV 0)) bb (ar 1 fF (aC (dV 0) aN))) aN)))) (bo (dC (.bl false))) di) (bo (dA allM (aC (aR 0 (gA (dV 0)) bb (d2 l_ (dA a7 (aC (dV 0) aN)) (dA a7 (aC (d2 aZ (dV 1) (dC (.int 0))) aN)))) aN)))))
def g_:List D->M D:=cM 1 (qP)
def xp:DS:=(iC (cS (ck (ar 2 jN (aC (dV 0) (aC (dV 1) aN))))) (M8 2 (aC (dC (.str "a tuple (row, column) on the board is asked for")) aN)) di)
def fY:List D->M D:=cM 2 (xp)
def u0:DS:=(a8 (bX 3 (ar 2 aV (aC (dV 0) (aC (dV 1) aN)))) (bo (aR 0 (fc (ar 3 df (aC (dV 0) (aC (dV 1) (aC (dV 2) aN))))) (eA (d2 l_ (ar 2 aV (aC (dV 1) (aC (dV 0) aN))) (dV 4))) (dV 0))))
def cy:List D->M D:=cM 4 (u0)
def O3:DE:=aR 0 (λρ=>(aC (dV 4) aN) ρ>>=e_) bb (d2 fK (dV 6) (ar 3 aL (aC (dV 1) (aC (d2 dR (d2 dR (d2 dR (dV 2) (dC (.int 3))) (d2 fe (dC (.int 7)) (dV 8))) (dV 0)) (aC (dA a7 (aC (dV 6) aN)) aN)))))
def O4:DS:=bX 6 (d2 zK (dV 6) (dA dm (aC (dM gm joinM (dC (.str "")) (aC (dV 8) aN)) aN)))
def xm:DS:=(a8 (bX 3 (d2 dR (dC (.int 1)) (ar 3 aL (aC (dV 0) (aC (dV 1) (aC (dV 2) aN)))))) (a8 (bX 4 (d2 dR (dC (.int 1)) (ar 3 aL (aC (dV 0) (aC (d2 dR (dV 1) (dC (.int 1))) (aC (dV 2) aN)))))) (a8 (bX 5 (d2 eC (dA fM (aC (dC (.str "ab")) (aC (dC (.str "abc")) (aC (dC (.str "aab")) (aC (dC (.str "fa")) aN))))) (ar 3 aL (aC (dV 0) (aC (d2 dR (dV 1) (dC (.int 2))) (aC (dC (.int 4)) aN)))))) (a8 (bX 6 (dA dm aN)) (a8 (λρ=>noex ((gT (putN 7) (λρ=>(aC (dV 3) aN) ρ>>=e_) (eG [7,8] (a8 (bX 8 (O3)) (O4)))) ρ)) (bo (dV 6)))))))
def dW:List D->M D:=cM 9 (xm)
def u3:DS:=(iC (cS (ck (ar 1 g_ (aC (dV 0) aN)))) (M8 0 (aC (dC (.str "a tuple of 1 to 8 texts of 1 to 8 letters, all as long, is asked for")) aN)) di)
def a_:List D->M D:=cM 1 (u3)
def J0:DS:=eG [7] (iC (Ks (eA (d2 (kE true) (dV 7) (dV 3)))) (a8 (wR 3 (dV 7) (dV 6)) (oq 5 (dV 7))) di)
def u5:DS:=(a8 (EA 3 (λρ=>(dV 1) ρ>>=λx=>(dC .non) ρ>>=λy=>rJ x y)) (a8 (bX 4 (dA fM (aC (dV 1) aN))) (a8 (λρ=>noex ((ED (ck (dV 4)) (eG [5,6,7] (a8 (uL 5) (a8 (gT (putN 6) (fc (dV 4)) (eG [6,7] (gT (putN 7) (fc (ar 3 cy (aC (dV 0) (aC (dV 6) (aC (dV 2) aN))))) (J0)))) (Ez 5 (bX 4 (dV 5))))))) ρ)) (Ez 3 (bo (dV 3))))))
def bC:List D->M D:=cM 8 (u5)
def ze:DS:=(a8 (rj (ar 1 a_ (aC (dV 0) aN))) (bo (dA nS (aC (aR 0 (gA (dV 0)) bb (AZ (dV 0) (d1 lz (dC (.int 1))))) aN))))
def hZ:List D->M D:=cM 1 (ze)
def Nt:DS:=(eG [4,5] (iC (Ks (eA (d2 (kE true) (dV 4) (dV 3)))) (a8 (bX 5 (dA qD (aC (ar 3 bC (aC (dV 0) (aC (dV 4) (aC (dV 1) aN)))) aN))) (a8 (oq 2 (dV 5)) (EC 3 (ar 1 hJ (aC (dV 5) aN))))) di))
def rn:DS:=(a8 (uL 2) (a8 (EB 3) (a8 (λρ=>noex ((gT (putN 4) (fc (ar 1 fX (aC (dV 0) aN))) Nt) ρ)) (Ez 2 (bo (dV 2))))))
def bP:List D->M D:=cM 6 (rn)
def B2:DS:=(a8 (rj (ar 1 a_ (aC (dV 0) aN))) (a8 (rj (ar 1 cw (aC (dV 1) aN))) (bo (ar 2 bP (aC (dV 0) (aC (dV 1) aN))))))
def gD:List D->M D:=cM 2 (B2)
def xu(C:Addr)(w:D)(l:List D)(p:Nat):Ob:=⟨C,[("ways", .fz w),("stages", .fz (.lst l)),("place", .fz (.int (p:Int)))]⟩
def FD(o:Ob):Option (D×List D×Nat):=match o.fs with
 |[(x, .fz w),(y, .fz (.lst l)),(z, .fz (.int (.ofNat p)))]=>if x="ways"/\y="stages"/\z="place"/\p<l.length/\l.length<=100 then some (w,l,p) else none
 |_=>none
def mO{α:Type}(o:Ob)(x:Str)(m:M α):M α:=match o.fs.lookup x with
 |none=>m
 |some _=>af
def Jp(g:Addr->Ob->List D->M (D×Ob)):Addr->Ob->List D->M (D×Ob):=λa o ds=>noex (g a o ds)
def aw(CK CG:Addr):Addr->Ob->List D->M D:=λa o ds=>(d2 eC (iX CG 0 "stages") (iX CG 0 "place")) (bL 1 a o ds)
def fi(CK CG:Addr):Addr->Ob->List D->M D:=λa o ds=>(dA dm (aC (iX CG 0 "place") (aC (d2 fV (d2 fV (dA a7 (aC (iX CG 0 "stages") aN)) (dC (.int 1))) (iX CG 0 "place")) aN))) (bL 1 a o ds)
def oA:DS:=(a8 (bX 2 (dM gm joinM (dC (.str "")) (aC (aR 0 (gA (dV 0)) bb (d2 fK (dV 0) (dV 2))) aN))) (bo (dM gm yR (zB "." (dV 2)) (aC (dA a7 (aC (dV 0) aN)) (aC (dC (.str ".")) aN)))))
def dH:List D->M D:=cM 3 (oA)
def qR:DS:=(bo (dA nR (aC (aR 0 (gA (dV 0)) bb (d2 fV (dA a7 (aC (dV 0) aN)) (dM gm kY (dV 0) (aC (dC (.str ".")) aN)))) aN)))
def bT:List D->M D:=cM 1 (qR)
def zc:DS:=(a8 (λρ=>noex ((gT (putN 1) (λρ=>(aC (dA a7 (aC (d2 aZ (dV 0) (dC (.int 0))) aN)) aN) ρ>>=e_) (eG [1,2] (a8 (bX 2 (dM gm joinM (dC (.str "")) (aC (aR 0 (gA (dV 0)) bb (d2 fK (dV 0) (dV 2))) aN))) (iC (eA (d2 (pj false) (dC (.str ".")) (dM gm lj (dV 2) (aC (dC (.str ".")) aN)))) (bo (dC (.bl false))) di)))) ρ)) (bo (dC (.bl true))))
def eB:List D->M D:=cM 3 (zc)
def cx(CK CG:Addr):Addr->Ob->List D->M D:=λa o ds=>(ar 1 bT (aC (ba CG 0 "rows" 0 (aw CK CG) aN) aN)) (bL 1 a o ds)
def bI(CK CG:Addr):Addr->Ob->List D->M D:=λa o ds=>(d2 fV (ar 1 bT (aC (d2 eC (iX CG 0 "stages") (dV 1)) aN)) (ar 1 bT (aC (d2 eC (iX CG 0 "stages") (d2 dR (dV 1) (dC (.int 1)))) aN))) (bL 2 a o ds)
def qN:DS:=(bo (d5 (d2 Kj (dA a7 (aC (dV 1) aN)) (dC (.int 1))) (d2 jO (ar 2 aV (aC (dV 0) (aC (d2 eC (dV 1) (dC (.int 0))) aN))) (dC (.str ".")))))
def bS:List D->M D:=cM 2 (qN)
def E5:DS:=(a8 (bX 1 (aR 0 (λρ=>(aC (dA a7 (aC (d2 aZ (dV 0) (dC (.int 0))) aN)) aN) ρ>>=e_) bb (ar 2 dH (aC (dV 1) (aC (dV 0) aN))))) (a8 (uL 2) (a8 (λρ=>noex ((gT (putN 3) (λρ=>(aC (dA a7 (aC (dV 0) aN)) aN) ρ>>=e_) (eG [3] (oq 2 (dM gm joinM (dC (.str "")) (aC (aR 0 (fc (dV 1)) bb (d2 fK (dV 0) (dV 4))) aN))))) ρ)) (Ez 2 (bo (dA nS (aC (dV 2) aN)))))))
def i7:List D->M D:=cM 4 (E5)
def cQ(CK CG:Addr):Addr->Ob->List D->M D:=λa o ds=>(aR 0 (λρ=>(aC (iX CG 0 "place") aN) ρ>>=e_) bb (ba CG 1 "taken_behind" 1 (bI CK CG) (aC (dV 0) aN))) (bL 2 a o ds)>>=λd=>(dA nR (aC (aR 0 (fc (dV 1)) bb (d2 fe (dV 0) (dV 0))) aN)) ((bL 2 a o ds).set 1 (some (.fz d)))
def c5(CK CG:Addr):Addr->Ob->List D->M (D×Ob):=Jp λa o ds=>match ds,o.fs with
 |[b,w],[]=>a_ [b]>>=λ_=>cw [w]>>=λ_=>aa (.non,xu o.c w [b] 0)
 |_,_=>af
def jK(CK CG:Addr):XS:=(bZ (cO (rj (ar 1 a_ (aC (dV 1) aN)))) (bZ (cO (rj (ar 1 cw (aC (dV 2) aN)))) (bZ (j5 CG 0 "ways" (dV 2)) (bZ (j5 CG 0 "stages" (dA fM (aC (dV 1) aN))) (j5 CG 0 "place" (dC (.int 0)))))))
def oB:DS:=(a8 (rj (ar 2 fY (aC (dV 0) (aC (dV 1) aN)))) (a8 (bX 3 (dA qD (aC (ar 3 bC (aC (dV 0) (aC (dV 1) (aC (dV 2) aN)))) aN))) (a8 (iC (cS (ck (ar 2 bS (aC (dV 0) (aC (dV 3) aN))))) (M8 2 (aC (dC (.str "a cell with a letter, of a patch of two cells or more, is asked for")) aN)) di) (bo (dV 3)))))
def b0:List D->M D:=cM 4 (oB)
def bx(CK CG:Addr):Addr->Ob->List D->M (D×Ob):=Jp λa o ds=>match ds,FD o with
 |[c],some (w,l,p)=>(match l[p]? with
  |some b=>b0 [b,c,w]>>=λpt=>(match pt with
   | .lst q=>noex (bU [b, .lst q, .str "."])>>=λb1=>noex (i7 [b1])>>=λb2=>aa (.int q.length,xu o.c w (l.take (p+1)++[b2]) (p+1))
   |_=>af)
  |none=>af)
 |_,_=>af
def jL(CK CG:Addr):XS:=(bZ (cO (bX 2 (ar 3 b0 (aC (ba CG 0 "rows" 0 (aw CK CG) aN) (aC (dV 1) (aC (iX CG 0 "ways") aN)))))) (bZ (cO (bX 3 (ar 1 i7 (aC (ar 3 bU (aC (ba CG 0 "rows" 0 (aw CK CG) aN) (aC (dV 2) (aC (dC (.str ".")) aN)))) aN)))) (bZ (j5 CG 0 "stages" (d2 CN (Nv (iX CG 0 "stages") oN (oS (d2 dR (iX CG 0 "place") (dC (.int 1))))) (dA fM (aC (dV 3) aN)))) (bZ (oR CG 0 "place" (· +1)) (cO (bo (dA a7 (aC (dV 2) aN))))))))
def b5(CK CG:Addr):Addr->Ob->List D->M D:=λa o ds=>(ar 2 bP (aC (ba CG 0 "rows" 0 (aw CK CG) aN) (aC (iX CG 0 "ways") aN))) (bL 2 a o ds)>>=λd=>(aR 0 (fc (dV 1)) (ck (ar 2 bS (aC (ba CG 1 "rows" 0 (aw CK CG) aN) (aC (dV 0) aN)))) (d2 eC (dV 0) (dC (.int 0)))) ((bL 2 a o ds).set 1 (some (.fz d)))
def j7(CK CG:Addr):XS:=(bZ (cO (bX 1 (ar 3 dW (aC (dV 0) (aC (dC (.int 0)) (aC (dC (.int 5)) aN)))))) (bZ (cO (bX 2 (d2 eC (dA fM (aC (dC (.int 4)) (aC (dC (.int 8)) aN))) (ar 3 aL (aC (dV 0) (aC (dC (.int 60)) (aC (dC (.int 2)) aN))))))) (bZ (Hm 3 (AE CG 2 (c5 CK CG) (aC (dV 1) (aC (dV 2) aN)))) (bZ (Hm 4 (AE CG 2 (c5 CK CG) (aC (ar 1 hZ (aC (dV 1) aN)) (aC (dV 2) aN)))) (bZ (cO (iC (eA (d2 jO (ba CG 3 "rows" 0 (aw CK CG) aN) (dV 1))) (bo (dC (.bl false))) di)) (bZ (cO (iC (eA (d2 jO (ba CG 3 "can_take" 0 (b5 CK CG) aN) (aR 0 (fc (ar 2 gD (aC (dV 1) (aC (dV 2) aN)))) (eA (d2 Kj (dA a7 (aC (dV 0) aN)) (dC (.int 1)))) (d2 eC (dV 0) (dC (.int 0)))))) (bo (dC (.bl false))) di)) (bZ (cO (uL 5)) (bZ (Hl (B1 (putN 6) (λρ=>(aC (dC (.int 12)) aN) ρ>>=e_) (bZ (cO (bX 7 (ba CG 3 "can_take" 0 (b5 CK CG) aN))) (Kd (Hn (eA (d2 jO (dV 7) (dA fM aN)))) (bZ (cO (BP (wI [8,9]) (d2 eC (dV 7) (ar 3 aL (aC (dV 0) (aC (d2 dR (dC (.int 70)) (dV 6)) (aC (dA a7 (aC (dV 7) aN)) aN))))))) (bZ (cO (bX 10 (ba CG 3 "rows" 0 (aw CK CG) aN))) (bZ (cO (bX 11 (ar 2 fI (aC (dV 10) (aC (dA dm (aC (dV 8) (aC (dV 9) aN))) aN))))) (bZ (cO (bX 12 (ba CG 3 "left" 0 (cx CK CG) aN))) (bZ (AB 5 (qM CG 3 "take" 1 (bx CK CG) (aC (dA dm (aC (dV 8) (aC (dV 9) aN))) aN))) (bZ (Kd (AD jO (qM CG 4 "take" 1 (bx CK CG) (aC (dA dm (aC (dV 8) (aC (d2 fV (d2 fV (dA a7 (aC (d2 aZ (dV 1) (dC (.int 0))) aN)) (dC (.int 1))) (dV 9)) aN))) aN)) (vx 5 (d1 lz (dC (.int 1))))) (cO (bo (dC (.bl false)))) E4) (bZ (cO (iC (eA (d2 jO (ba CG 3 "left" 0 (cx CK CG) aN) (d2 fV (dV 12) (vx 5 (d1 lz (dC (.int 1))))))) (bo (dC (.bl false))) di)) (bZ (cO (iC (eA (d2 jO (ba CG 4 "rows" 0 (aw CK CG) aN) (dA nS (aC (aR 0 (gA (ba CG 3 "rows" 0 (aw CK CG) aN)) bb (AZ (dV 0) (d1 lz (dC (.int 1))))) aN)))) (bo (dC (.bl false))) di)) (bZ (cO (iC (cS (ck (ar 1 eB (aC (ba CG 3 "rows" 0 (aw CK CG) aN) aN)))) (bo (dC (.bl false))) di)) (B1 (putN 13) (λρ=>(dC (.str "abcf")) ρ>>=EE) (bZ (cO (bX 14 (KJ (d2 fe (d2 eC (dV 5) (d1 lz (dC (.int 1)))) (dA C5 (aC (d2 l_ (dV 13) (dV 11)) aN)))))) (cO (iC (eA (d2 jO (dM gm kY (dM gm joinM (dC (.str "")) (aC (ba CG 3 "rows" 0 (aw CK CG) aN) aN)) (aC (dV 13) aN)) (d2 fV (dM gm kY (dM gm joinM (dC (.str "")) (aC (dV 10) aN)) (aC (dV 13) aN)) (dV 14)))) (bo (dC (.bl false))) di))))))))))))) E4)))) (bZ (OZ 5 (cO (iC (eA (d2 jO (ba CG 3 "points" 0 (cQ CK CG) aN) (dA nR (aC (aR 0 (fc (dV 5)) bb (d2 fe (dV 0) (dV 0))) aN)))) (bo (dC (.bl false))) di))) (bZ (cO (iC (eA (d2 jO (ba CG 3 "steps" 0 (fi CK CG) aN) (dA dm (aC (dA a7 (aC (dV 5) aN)) (aC (dC (.int 0)) aN))))) (bo (dC (.bl false))) di)) (cO (bo (d5 (d2 l_ (d2 dR (dA nR (aC (dV 5) aN)) (ba CG 3 "left" 0 (cx CK CG) aN)) (d2 fe (dA a7 (aC (dV 1) aN)) (dA a7 (aC (d2 aZ (dV 1) (dC (.int 0))) aN)))) (d2 l_ (ba CG 4 "points" 0 (cQ CK CG) aN) (ba CG 3 "points" 0 (cQ CK CG) aN)))))))))))))))
structure Bl (K:SN) (mg:Str->Option Value) (base:Heap) (cv:Nat->Value) (cA:Nat->Addr) (Cp:Addr):Prop where
 len:mg "len"=none
 isinstance:mg "isinstance"=none
 all:mg "all"=none
 abs:mg "abs"=none
 max:mg "max"=none
 min:mg "min"=none
 sum:mg "sum"=none
 range:mg "range"=none
 str:mg "str"=none
 int:mg "int"=none
 bool:mg "bool"=none
 tuple:mg "tuple"=none
 sorted:mg "sorted"=none
 LETTERS:∃t,mg "LETTERS"=some (.str "abcdef" t)
 MOST_ROWS:∃t,mg "MOST_ROWS"=some (.int 8 t)
 MOST_COLUMNS:∃t,mg "MOST_COLUMNS"=some (.int 8 t)
 EMPTY:∃t,mg "EMPTY"=some (.str "." t)
 EMPTYt:∃t,(Wj 1 t&&Wj (Yj t) Ig)=true/\mg "EMPTY"=some (.str "." t)
structure Bo (K:SN) (CK CG:Addr):Prop where
 cGame:Cls K CG
 nGame_stages:NoAttr K CG "stages"
 nGame_place:NoAttr K CG "place"
 nGame_ways:NoAttr K CG "ways"
section
variable{P:To}{w:World}{K:SN}{mg:Str->Option Value}{base:Heap}{cv:Nat->Value}{cA:Nat->Addr}{Cp:Addr}{f:Addr}
variable{CK CG:Addr}
abbrev ju:Stmt:=(aG (top 39)).getD 1 (.Pass ⟨0,0,0,0⟩)
def m8:List Str:=["self"]
def nE:List Str:=["self"]
def mR{j k:Nat}{A:T9}(r:Room k A)(h:j<=k:=by decide):Room j A:=r.mono h
def cB{N Q:List Str}{sc:Scope}(k:sc.kind= .function:=by rfl)(c:sc.isCoroutine=false:=by rfl)(g:sc.isGenerator=false:=by rfl)(p:N.take Q.length=Q:=by rfl)(h:N.Nodup/\(∀x∈Q,sc.names.lookup x=some .local\/sc.names.lookup x=some .cell)/\∀y∈sc.names,y.2≠ .free:=by decide+kernel):FnScope N Q sc:=⟨k,c,g,h.1,p,h.2.1,h.2.2⟩
def uP:FnScope m8 nE (ah ju):=cB
def um(B:Bl K mg base cv cA Cp)(O:Bo K CK CG)(T:MethAt K CG "rows" "Game.rows" ju f):dZ P w K mg base cv 1 CG "rows" 0 (aw CK CG):=
 ll (N:=m8) (ps:=nE) T uP rfl (λ_ _ _ _ _ _ us hl=>match us,hl with | [_],_=>rfl) rfl (λ_ _ _ _ _ _ hr=>
  (gp (eV O.cGame O.nGame_stages (pv 0)) (eV O.cGame O.nGame_place (pv 0))))
abbrev iD:Stmt:=(aG (top 39)).getD 9 (.Pass ⟨0,0,0,0⟩)
def lq:List Str:=["self"]
def lD:List Str:=["self"]
def rk:FnScope lq lD (ah iD):=cB
def q_(B:Bl K mg base cv cA Cp)(O:Bo K CK CG)(T:MethAt K CG "steps" "Game.steps" iD f):dZ P w K mg base cv 1 CG "steps" 0 (fi CK CG):=
 ll (N:=lq) (ps:=lD) T rk rfl (λ_ _ _ _ _ _ us hl=>match us,hl with | [_],_=>rfl) rfl (λ_ _ _ _ _ _ hr=>
  (fP (ab (eV O.cGame O.nGame_place (pv 0)) (ab (eW (eW (bj rfl B.len (ab (eV O.cGame O.nGame_stages (pv 0)) ag)) aj) (eV O.cGame O.nGame_place (pv 0))) ag))))
abbrev kK:Stmt:=top 11
def pT:List Str:=["thing"]
def p9:List Str:=["thing"]
def wW:FnScope pT p9 (ah kK):=cB
def wk(B:Bl K mg base cv cA Cp)(T:bO K mg "is_whole" kK f):aq P w K mg base cv 1 "is_whole" 1 (bA):=
 aD (N:=pT) (ps:=p9) T wW (λ_ _ _ _ _ _ us hl=>match us,hl with | [_],_=>rfl) λ_ _ _ _ _ _ hr=>
  (ak (aB (mw (mx rfl B.isinstance rfl (ab (ae (pv 0)) (ab (sG rfl B.int rfl) ag))) (qj (JC (mx rfl B.isinstance rfl (ab (ae (pv 0)) (ab (sG rfl B.bool rfl) ag))))))))
abbrev jy:Stmt:=top 12
def ng:List Str:=["thing"]
def nI:List Str:=["thing"]
def uQ:FnScope ng nI (ah jy):=cB
def ur(B:Bl K mg base cv cA Cp)(T:bO K mg "is_letter" jy f):aq P w K mg base cv 1 "is_letter" 1 (cZ):=
 aD (N:=ng) (ps:=nI) T uQ (λ_ _ _ _ _ _ us hl=>match us,hl with | [_],_=>rfl) λ_ _ _ _ _ _ hr=>
  (ak (aB (mw (mx rfl B.isinstance rfl (ab (ae (pv 0)) (ab (sG rfl B.str rfl) ag))) (mw (qh hr.units (bj rfl B.len (ab (ae (pv 0)) ag)) aj) (qj (Jz (ae (pv 0)) (lJ rfl B.LETTERS (by decide))))))))
abbrev ej:Stmt:=top 19
def d7:List Str:=["board","row"]
def jj:List Str:=["board","row"]
def ou:FnScope d7 jj (ah ej):=cB
def n_(B:Bl K mg base cv cA Cp)(T:bO K mg "cells_of_row" ej f):aq P w K mg base cv 1 "cells_of_row" 2 (bt):=
 aD (N:=d7) (ps:=jj) T ou (λ_ _ _ _ _ _ us hl=>match us,hl with | [_,_],_=>rfl) λ_ _ _ _ _ _ hr=>
  (ak (aB (cp (tn:=["column"]) (n:=0) (aY (N:=d7) (osc:=(ah ej)) rfl rfl (by decide+kernel)) rfl rfl (cb rfl B.range (ab (bj rfl B.len (ab (bD (ae (pv 0)) aj) ag)) ag)) (λ_ _ _ _ _ _ _=>bN (show Ua (((["column"]:List Str))++cg ["column"] d7) by decide+kernel) rfl rfl) (λ_ _ _ _ _ _=>bM) (λ_ _ _ _ _ _=>(fP (ab (ae (pv 2)) (ab (ae (pv 0)) ag)))))))
abbrev jA:Stmt:=top 21
def nj:List Str:=["board","cell"]
def nL:List Str:=["board","cell"]
def uR:FnScope nj nL (ah jA):=cB
def uw(B:Bl K mg base cv cA Cp)(T:bO K mg "letter_of" jA f):aq P w K mg base cv 1 "letter_of" 2 (aV):=
 aD (N:=nj) (ps:=nL) T uR (λ_ _ _ _ _ _ us hl=>match us,hl with | [_,_],_=>rfl) λ_ _ _ _ _ _ hr=>
  (ak (aB (my (bD (ae (pv 0)) (bD (ae (pv 1)) aj)) (bD (ae (pv 1)) aj))))
abbrev kJ:Stmt:=top 22
def pS:List Str:=["one","other","ways","down","along"]
def p7:List Str:=["one","other","ways"]
def jF:FnScope pS p7 (ah kJ):=cB
def wg(B:Bl K mg base cv cA Cp)(T:bO K mg "are_next" kJ f):aq P w K mg base cv 1 "are_next" 3 (dQ):=
 aD (N:=pS) (ps:=p7) T jF (λ_ _ _ _ _ _ us hl=>match us,hl with | [_,_,_],_=>rfl) λ_ _ _ _ _ _ hr=>
  (ao (aT jF.nd rfl (.inl rfl) (DP rfl B.abs (ab (eW (bD (ae (pv 0)) aj) (bD (ae (pv 1)) aj)) ag) rfl)) (ao (aT jF.nd rfl (.inl rfl) (DP rfl B.abs (ab (eW (bD (ae (pv 0)) aj) (bD (ae (pv 1)) aj)) ag) rfl)) (ao (bW (Ef hr.units (ae (pv 2)) aj) (ak (aB (qh hr.units (cE (ae (pv 3)) (ae (pv 4))) aj))) bu) (ak (aB (qh hr.units (yL rfl rfl B.max rfl (ab (ae (pv 3)) (ab (ae (pv 4)) ag))) aj))))))
abbrev uM:Stmt:=top 24
def zU:List Str:=["things","found","thing"]
def z6:List Str:=["things"]
def qy:FnScope zU z6 (ah uM):=cB
def DI(B:Bl K mg base cv cA Cp)(T:bO K mg "keyed" uM f):aq P w K mg base cv 1 "keyed" 1 (hJ):=
 aD (N:=zU) (ps:=z6) T qy (λ_ _ _ _ _ _ us hl=>match us,hl with | [_],_=>rfl) λ_ _ _ _ _ _ hr=>
  (ao (wF qy.nd rfl (.inl rfl)) (ao (fm (eg TY rfl (Gw (c8 (ae (pv 0))) (DY (ae (pv 0)))) (bH qy.nd rfl (.inl rfl)) c_ (cJ (ak (wG hr.units (pv 1) (ae (pv 2)) eP))))) (ak (gb (i:=1) (aB (ae (pv 1)))))))
abbrev dO:Stmt:=top 36
def dJ:List Str:=["rows","column","signs"]
def iT:List Str:=["rows","column"]
def gV:FnScope dJ iT (ah dO):=cB
def mn(B:Bl K mg base cv cA Cp)(T:bO K mg "fallen_column" dO f):aq P w K mg base cv 1 "fallen_column" 2 (dH):=
 aD (N:=dJ) (ps:=iT) T gV (λ_ _ _ _ _ _ us hl=>match us,hl with | [_,_],_=>rfl) λ_ _ _ _ _ _ hr=>
  (ao (aT gV.nd rfl (.inl rfl) (iw d_ (ab (cp (tn:=["row"]) (n:=0) (aY (N:=dJ) (osc:=(ah dO)) rfl rfl (by decide+kernel)) rfl rfl (ix (ae (pv 0))) (λ_ _ _ _ _ _ _=>bN (show Ua (((["row"]:List Str))++cg ["row"] dJ) by decide+kernel) rfl rfl) (λ_ _ _ _ _ _=>bM) (λ_ _ _ _ _ _=>(my (ae (pv 0)) (ae (pv 2))))) ag))) (ak (aB (DX (DV rfl B.EMPTYt rfl (ae (pv 2))) (ab (bj rfl B.len (ab (ae (pv 0)) ag)) (ab (lJ rfl B.EMPTY (by decide)) ag))))))
abbrev ek:Stmt:=top 38
def d8:List Str:=["rows"]
def jk:List Str:=["rows"]
def oy:FnScope d8 jk (ah ek):=cB
def oa(B:Bl K mg base cv cA Cp)(T:bO K mg "many_letters" ek f):aq P w K mg base cv 1 "many_letters" 1 (bT):=
 aD (N:=d8) (ps:=jk) T oy (λ_ _ _ _ _ _ us hl=>match us,hl with | [_],_=>rfl) λ_ _ _ _ _ _ hr=>
  (ak (aB (oK rfl rfl B.sum rfl (ab (cp (tn:=["row"]) (n:=0) (aY (N:=d8) (osc:=(ah ek)) rfl rfl (by decide+kernel)) rfl rfl (ix (ae (pv 0))) (λ_ _ _ _ _ _ _=>bN (show Ua (((["row"]:List Str))++cg ["row"] d8) by decide+kernel) rfl rfl) (λ_ _ _ _ _ _=>bM) (λ_ _ _ _ _ _=>(eW (bj rfl B.len (ab (ae (pv 0)) ag)) (uB (ae (pv 0)) (ab (lJ rfl B.EMPTY (by decide)) ag))))) ag))))
abbrev kL:Stmt:=top 41
def pU:List Str:=["_law_script","_law_k"]
def p_:List Str:=["_law_script","_law_k"]
def wX:FnScope pU p_ (ah kL):=cB
def wm(B:Bl K mg base cv cA Cp)(T:bO K mg "_law_cell" kL f):aq P w K mg base cv 1 "_law_cell" 2 (fG):=
 aD (N:=pU) (ps:=p_) T wX (λ_ _ _ _ _ _ us hl=>match us,hl with | [_,_],_=>rfl) λ_ _ _ _ _ _ hr=>
  (ao (bW (Ef hr.units (ae (pv 0)) (kI ag)) (ak (aB (fO aj (ae (pv 1))))) bu) (ak (aB (cE (JA (ae (pv 0)) (mz (ae (pv 1)) (bj rfl B.len (ab (ae (pv 0)) ag)))) (fO aj (uC (ae (pv 1)) (bj rfl B.len (ab (ae (pv 0)) ag))))))))
abbrev kM:Stmt:=top 44
def pV:List Str:=["_law_board_here","_law_cell_here"]
def qb:List Str:=["_law_board_here","_law_cell_here"]
def wY:FnScope pV qb (ah kM):=cB
def wq(B:Bl K mg base cv cA Cp)(T:bO K mg "_law_sign" kM f):aq P w K mg base cv 1 "_law_sign" 2 (fI):=
 aD (N:=pV) (ps:=qb) T wY (λ_ _ _ _ _ _ us hl=>match us,hl with | [_,_],_=>rfl) λ_ _ _ _ _ _ hr=>
  (ak (aB (my (bD (ae (pv 0)) (bD (ae (pv 1)) aj)) (bD (ae (pv 1)) aj))))
abbrev iE:Stmt:=top 45
def il:List Str:=["_law_rows","_law_column","_law_signs"]
def qa:List Str:=["_law_rows"]
def jG:FnScope il qa (ah iE):=cB
def wo(B:Bl K mg base cv cA Cp)(T:bO K mg "_law_feet" iE f):aq P w K mg base cv 1 "_law_feet" 1 (eB):=
 aD (N:=il) (ps:=qa) T jG (λ_ _ _ _ _ _ us hl=>match us,hl with | [_],_=>rfl) λ_ _ _ _ _ _ hr=>
  (ao (fm (eg TY rfl (cb rfl B.range (ab (bj rfl B.len (ab (bD (ae (pv 0)) aj) ag)) ag)) (bH jG.nd rfl (.inr rfl)) c_ (cJ (ao (aT jG.nd rfl (.inl rfl) (iw d_ (ab (cp (tn:=["_law_row"]) (n:=0) (aY (N:=il) (osc:=(ah iE)) rfl rfl (by decide+kernel)) rfl rfl (ix (ae (pv 0))) (λ_ _ _ _ _ _ _=>bN (show Ua (((["_law_row"]:List Str))++cg ["_law_row"] il) by decide+kernel) rfl rfl) (λ_ _ _ _ _ _=>bM) (λ_ _ _ _ _ _=>(my (ae (pv 0)) (ae (pv 2))))) ag))) (ak (bW (JT d_ (BF (ae (pv 2)) (ab d_ ag))) (ak (aB eP)) bu)))))) (ak (aB eP)))
abbrev jt:Stmt:=(aG (top 39)).getD 4 (.Pass ⟨0,0,0,0⟩)
def m7:List Str:=["self"]
def nB:List Str:=["self"]
def uO:FnScope m7 nB (ah jt):=cB
def uk(B:Bl K mg base cv cA Cp)(O:Bo K CK CG)(d3:aq P w K mg base cv 1 "many_letters" 1 bT)(a6:dZ P w K mg base cv 1 CG "rows" 0 (aw CK CG))(T:MethAt K CG "left" "Game.left" jt f):dZ P w K mg base cv 2 CG "left" 0 (cx CK CG):=
 ll (N:=m7) (ps:=nB) T uO rfl (λ_ _ _ _ _ _ us hl=>match us,hl with | [_],_=>rfl) rfl (λ_ _ _ _ _ _ hr=>
  (bK d3 (mR hr) rfl aX (ab (bf a6 (mR hr) aX (pv 0)) ag) rfl))
abbrev dr:Stmt:=(aG (top 39)).getD 5 (.Pass ⟨0,0,0,0⟩)
def e7:List Str:=["self","place"]
def e9:List Str:=["self","place"]
def jE:FnScope e7 e9 (ah dr):=cB
def jh(B:Bl K mg base cv cA Cp)(O:Bo K CK CG)(d3:aq P w K mg base cv 1 "many_letters" 1 bT)(T:MethAt K CG "taken_behind" "Game.taken_behind" dr f):dZ P w K mg base cv 2 CG "taken_behind" 1 (bI CK CG):=
 ll (N:=e7) (ps:=e9) T jE rfl (λ_ _ _ _ _ _ us hl=>match us,hl with | [_,_],_=>rfl) rfl (λ_ _ _ _ _ _ hr=>
  (eW (bK d3 (mR hr) rfl aX (ab (gp (eV O.cGame O.nGame_stages (pv 0)) (ae (pv 1))) ag) rfl) (bK d3 (mR hr) rfl aX (ab (gp (eV O.cGame O.nGame_stages (pv 0)) (cE (ae (pv 1)) aj)) ag) rfl)))
abbrev lR:Stmt:=top 13
def lr:List Str:=["thing"]
def wz:List Str:=["thing"]
def BQ:FnScope lr wz (ah lR):=cB
def By(B:Bl K mg base cv cA Cp)(vi:aq P w K mg base cv 1 "is_letter" 1 cZ)(T:bO K mg "is_row" lR f):aq P w K mg base cv 2 "is_row" 1 (fF):=
 aD (N:=lr) (ps:=wz) T BQ (λ_ _ _ _ _ _ us hl=>match us,hl with | [_],_=>rfl) λ_ _ _ _ _ _ hr=>
  (ao (bW (PDW.t (qm (dh (cV (mx rfl B.isinstance rfl (ab (ae (pv 0)) (ab (sG rfl B.str rfl) ag))))) (lL (dh (Ed sy sy aj (bj rfl B.len (ab (ae (pv 0)) ag)) (z9 rfl B.MOST_COLUMNS)))))) (ak (aB eP)) bu) (ak (aB (yK rfl rfl B.all rfl (ab (cp (tn:=["sign"]) (n:=0) (aY (N:=lr) (osc:=(ah lR)) rfl rfl (by decide+kernel)) rfl rfl (Ab (ae (pv 0))) (λ_ _ _ _ _ _ _=>bN (show Ua (((["sign"]:List Str))++cg ["sign"] lr) by decide+kernel) rfl rfl) (λ_ _ _ _ _ _=>bM) (λ_ _ _ _ _ _=>(bK vi (mR hr) rfl b8 (ab (ae (pv 0)) ag) rfl))) ag)))))
abbrev mI:Stmt:=top 15
def sr:List Str:=["board","thing"]
def sD:List Str:=["board","thing"]
def yT:FnScope sr sD (ah mI):=cB
def yD(B:Bl K mg base cv cA Cp)(g7:aq P w K mg base cv 1 "is_whole" 1 bA)(T:bO K mg "is_cell" mI f):aq P w K mg base cv 2 "is_cell" 2 (jN):=
 aD (N:=sr) (ps:=sD) T yT (λ_ _ _ _ _ _ us hl=>match us,hl with | [_,_],_=>rfl) λ_ _ _ _ _ _ hr=>
  (ao (bW (PDW.t (qm (dh (cV (mx rfl B.isinstance rfl (ab (ae (pv 1)) (ab (sG rfl B.tuple rfl) ag))))) (lL (lO hr.units (bj rfl B.len (ab (ae (pv 1)) ag)) aj)))) (ak (aB eP)) bu) (ao (bW (PDW.t (qm (dh (cV (bK g7 (mR hr) rfl aX (ab (bD (ae (pv 1)) aj) ag) rfl))) (lL (dh (cV (bK g7 (mR hr) rfl aX (ab (bD (ae (pv 1)) aj) ag) rfl)))))) (ak (aB eP)) bu) (ak (aB (mw (DQ sy H0 aj (bD (ae (pv 1)) aj) (bj rfl B.len (ab (ae (pv 0)) ag))) (qj (DQ sy H0 aj (bD (ae (pv 1)) aj) (bj rfl B.len (ab (bD (ae (pv 0)) aj) ag)))))))))
abbrev jC:Stmt:=top 18
def nq:List Str:=["thing"]
def nN:List Str:=["thing"]
def uT:FnScope nq nN (ah jC):=cB
def uy(B:Bl K mg base cv cA Cp)(g7:aq P w K mg base cv 1 "is_whole" 1 bA)(T:bO K mg "need_ways" jC f):aq P w K mg base cv 2 "need_ways" 1 (cw):=
 aD (N:=nq) (ps:=nN) T uT (λ_ _ _ _ _ _ us hl=>match us,hl with | [_],_=>rfl) λ_ _ _ _ _ _ hr=>
  (ak (bW (PDW.t (qm (dh (cV (bK g7 (mR hr) rfl aX (ab (ae (pv 0)) ag) rfl))) (lL (BM (ae (pv 0)) (fP (ab aj (ab aj ag))))))) (ak jY) bu))
abbrev jw:Stmt:=top 20
def m_:List Str:=["board","found","row"]
def nH:List Str:=["board"]
def iL:FnScope m_ nH (ah jw):=cB
def uq(B:Bl K mg base cv cA Cp)(fC:aq P w K mg base cv 1 "cells_of_row" 2 bt)(T:bO K mg "all_cells" jw f):aq P w K mg base cv 2 "all_cells" 1 (fX):=
 aD (N:=m_) (ps:=nH) T iL (λ_ _ _ _ _ _ us hl=>match us,hl with | [_],_=>rfl) λ_ _ _ _ _ _ hr=>
  (ao (iy iL.nd rfl (.inl rfl)) (ao (fm (eg TY rfl (cb rfl B.range (ab (bj rfl B.len (ab (ae (pv 0)) ag)) ag)) (bH iL.nd rfl (.inl rfl)) c_ (cJ (ak (GL (pv 1) (bK fC (mR hr) rfl b8 (ab (ae (pv 0)) (ab (ae (pv 2)) ag)) rfl)))))) (ak (gb (i:=1) (aB (ae (pv 1)))))))
abbrev iH:Stmt:=top 23
def lx:List Str:=["board","cell","ways","found","row","column"]
def lH:List Str:=["board","cell","ways"]
def eL:FnScope lx lH (ah iH):=cB
def rh(B:Bl K mg base cv cA Cp)(xJ:aq P w K mg base cv 1 "are_next" 3 dQ)(T:bO K mg "next_cells" iH f):aq P w K mg base cv 2 "next_cells" 3 (df):=
 aD (N:=lx) (ps:=lH) T eL (λ_ _ _ _ _ _ us hl=>match us,hl with | [_,_,_],_=>rfl) λ_ _ _ _ _ _ hr=>
  (ao (iy eL.nd rfl (.inl rfl)) (ao (fm (eg TY rfl (ql rfl B.range (ab (yL rfl rfl B.max rfl (ab (eW (bD (ae (pv 1)) aj) aj) (ab aj ag))) (ab (DU rfl rfl B.min rfl (ab (cE (bD (ae (pv 1)) aj) aj) (ab (bj rfl B.len (ab (ae (pv 0)) ag)) ag))) ag))) (bH eL.nd rfl (.inl rfl)) c_ (cJ (ak (eg TY rfl (ql rfl B.range (ab (yL rfl rfl B.max rfl (ab (eW (bD (ae (pv 1)) aj) aj) (ab aj ag))) (ab (DU rfl rfl B.min rfl (ab (cE (bD (ae (pv 1)) aj) aj) (ab (bj rfl B.len (ab (bD (ae (pv 0)) aj) ag)) ag))) ag))) (bH eL.nd rfl (.inl rfl)) c_ (cJ (ak (bW (cV (bK xJ (mR hr) rfl b8 (ab (ae (pv 1)) (ab (fP (ab (ae (pv 4)) (ab (ae (pv 5)) ag))) (ab (ae (pv 2)) ag))) rfl)) (ak (lN (pv 3) (fP (ab (ae (pv 4)) (ab (ae (pv 5)) ag))))) bu)))))))) (ak (gb (i:=3) (aB (ae (pv 3)))))))
abbrev el:Stmt:=top 25
def d9:List Str:=["board","some","letter","marked","told","row","places"]
def jl:List Str:=["board","some","letter"]
def cN:FnScope d9 jl (ah el):=cB
def oe(B:Bl K mg base cv cA Cp)(tw:aq P w K mg base cv 1 "keyed" 1 hJ)(fC:aq P w K mg base cv 1 "cells_of_row" 2 bt)(dU:aq P w K mg base cv 1 "letter_of" 2 aV)(T:bO K mg "with_letters" el f):aq P w K mg base cv 2 "with_letters" 3 (bU):=
 aD (N:=d9) (ps:=jl) T cN (λ_ _ _ _ _ _ us hl=>match us,hl with | [_,_,_],_=>rfl) λ_ _ _ _ _ _ hr=>
  (ao (aT cN.nd rfl (.inr rfl) (bK tw (mR hr) rfl aX (ab (ae (pv 1)) ag) rfl)) (ao (iy cN.nd rfl (.inl rfl)) (ao (fm (eg TY rfl (cb rfl B.range (ab (bj rfl B.len (ab (ae (pv 0)) ag)) ag)) (bH cN.nd rfl (.inl rfl)) c_ (cJ (ao (aT cN.nd rfl (.inl rfl) (bK fC (mR hr) rfl b8 (ab (ae (pv 0)) (ab (ae (pv 5)) ag)) rfl)) (ak (lN (pv 4) (iw d_ (ab (cp (tn:=["cell"]) (n:=0) (aY (N:=d9) (osc:=(ah el)) rfl rfl (by decide+kernel)) rfl rfl (c8 (ae (pv 6))) (λ_ _ _ _ _ _ _=>bN (show Ua (((["cell"]:List Str))++cg ["cell"] d9) by decide+kernel) rfl rfl) (λ_ _ _ _ _ _=>bM) (λ_ _ _ _ _ _=>(LX (JS hr.units (ae (pv 0)) (ae (pv 4))) (ae (pv 3)) (bK dU (mR hr) rfl b8 (ab (ae (pv 1)) (ab (ae (pv 0)) ag)) rfl)))) ag)))))))) (ak (gb (i:=4) (aB (lK rfl B.tuple rfl (ab (ae (pv 4)) ag))))))))
abbrev fS:Stmt:=top 34
def jb:List Str:=["rows","patch"]
def ji:List Str:=["rows","patch"]
def ot:FnScope jb ji (ah fS):=cB
def n9(B:Bl K mg base cv cA Cp)(dU:aq P w K mg base cv 1 "letter_of" 2 aV)(T:bO K mg "can_be_taken" fS f):aq P w K mg base cv 2 "can_be_taken" 2 (bS):=
 aD (N:=jb) (ps:=ji) T ot (λ_ _ _ _ _ _ us hl=>match us,hl with | [_,_],_=>rfl) λ_ _ _ _ _ _ hr=>
  (ak (aB (mw (LW (bj rfl B.len (ab (ae (pv 1)) ag)) aj) (qj (LY hr.units (bK dU (mR hr) rfl aX (ab (ae (pv 0)) (ab (gp (ae (pv 1)) aj) ag)) rfl) (lJ rfl B.EMPTY (by decide)))))))
abbrev jx:Stmt:=top 37
def gL:List Str:=["rows","columns","told","row"]
def wy:List Str:=["rows"]
def j2:FnScope gL wy (ah jx):=cB
def Bx(B:Bl K mg base cv cA Cp)(nW:aq P w K mg base cv 1 "fallen_column" 2 dH)(T:bO K mg "fallen" jx f):aq P w K mg base cv 2 "fallen" 1 (i7):=
 aD (N:=gL) (ps:=wy) T j2 (λ_ _ _ _ _ _ us hl=>match us,hl with | [_],_=>rfl) λ_ _ _ _ _ _ hr=>
  (ao (jm (tn:=["column"]) (n:=0) j2.nd rfl (.inl rfl) (aY (N:=gL) (osc:=(ah jx)) rfl rfl (by decide+kernel)) rfl rfl (cb rfl B.range (ab (bj rfl B.len (ab (bD (ae (pv 0)) aj) ag)) ag)) (λ_ _ _ _ _ _ _=>bN (show Ua (((["column"]:List Str))++cg ["column"] gL) by decide+kernel) rfl rfl) (λ_ _ _ _ _ _=>bM) (λ_ _ _ _ _ _=>(bK nW (mR hr) rfl b8 (ab (ae (pv 1)) (ab (ae (pv 0)) ag)) rfl))) (ao (iy j2.nd rfl (.inl rfl)) (ao (fm (eg TY rfl (cb rfl B.range (ab (bj rfl B.len (ab (ae (pv 0)) ag)) ag)) (bH j2.nd rfl (.inr rfl)) c_ (cJ (ak (lN (pv 2) (iw d_ (ab (cp (tn:=["signs"]) (n:=0) (aY (N:=gL) (osc:=(ah jx)) rfl rfl (by decide+kernel)) rfl rfl (c8 (ae (pv 1))) (λ_ _ _ _ _ _ _=>bN (show Ua (((["signs"]:List Str))++cg ["signs"] gL) by decide+kernel) rfl rfl) (λ_ _ _ _ _ _=>bM) (λ_ _ _ _ _ _=>(my (ae (pv 0)) (ae (pv 4))))) ag))))))) (ak (gb (i:=2) (aB (lK rfl B.tuple rfl (ab (ae (pv 2)) ag))))))))
abbrev jz:Stmt:=top 42
def nh:List Str:=["_law_script","_law_k","_law_many","_law_cell_here"]
def nK:List Str:=["_law_script","_law_k","_law_many"]
def iM:FnScope nh nK (ah jz):=cB
def uv(B:Bl K mg base cv cA Cp)(xM:aq P w K mg base cv 1 "_law_cell" 2 fG)(T:bO K mg "_law_drawn" jz f):aq P w K mg base cv 2 "_law_drawn" 3 (aL):=
 aD (N:=nh) (ps:=nK) T iM (λ_ _ _ _ _ _ us hl=>match us,hl with | [_,_,_],_=>rfl) λ_ _ _ _ _ _ hr=>
  (ao (aT iM.nd rfl (.inl rfl) (mz (cE (fO (mz (bK xM (mR hr) rfl aX (ab (ae (pv 0)) (ab (ae (pv 1)) ag)) rfl) aj) aj) (fO aj (cE (ae (pv 1)) aj))) aj)) (ao (aT iM.nd rfl (.inl rfl) (mz (cE (fO (ae (pv 3)) (ae (pv 3))) (uC (ae (pv 3)) aj)) aj)) (ak (aB (mz (uC (mz (cE (fO (ae (pv 3)) (ae (pv 3))) (uC (ae (pv 3)) aj)) aj) aj) (ae (pv 2)))))))
abbrev dE:Stmt:=(aG (top 39)).getD 6 (.Pass ⟨0,0,0,0⟩)
def cR:List Str:=["self","taken"]
def km:List Str:=["self"]
def jD:FnScope cR km (ah dE):=cB
def p5(B:Bl K mg base cv cA Cp)(O:Bo K CK CG)(j8:dZ P w K mg base cv 2 CG "taken_behind" 1 (bI CK CG))(T:MethAt K CG "points" "Game.points" dE f):dZ P w K mg base cv 3 CG "points" 0 (cQ CK CG):=
 sk (N:=cR) (ps:=km) T jD rfl (λ_ _ _ _ _ _ us hl=>match us,hl with | [_],_=>rfl) rfl (λ_ _ _ _ _ _ hr=>
  ⟨(jm (tn:=["place"]) (n:=0) jD.nd rfl (.inl rfl) (aY (N:=cR) (osc:=(ah dE)) rfl rfl (by decide+kernel)) rfl rfl (cb rfl B.range (ab (eV O.cGame O.nGame_place (pv 0)) ag)) (λ_ _ _ _ _ _ _=>bN (show Ua (((["place"]:List Str))++cg ["place"] cR) by decide+kernel) rfl rfl) (λ_ _ _ _ _ _=>bM) (λ_ _ _ _ _ _=>(Gu j8 (mR hr) b8 (pv 1) (ab (ae (pv 0)) ag)))),(oK rfl rfl B.sum rfl (ab (cp (tn:=["many"]) (n:=0) (aY (N:=cR) (osc:=(ah dE)) rfl rfl (by decide+kernel)) rfl rfl (c8 (ae (pv 1))) (λ_ _ _ _ _ _ _=>bN (show Ua (((["many"]:List Str))++cg ["many"] cR) by decide+kernel) rfl rfl) (λ_ _ _ _ _ _=>bM) (λ_ _ _ _ _ _=>(fO (ae (pv 0)) (ae (pv 0))))) ag))⟩)
abbrev fT:Stmt:=top 14
def eF:List Str:=["thing"]
def p8:List Str:=["thing"]
def wV:FnScope eF p8 (ah fT):=cB
def wj(B:Bl K mg base cv cA Cp)(Cg:aq P w K mg base cv 2 "is_row" 1 fF)(T:bO K mg "is_board" fT f):aq P w K mg base cv 3 "is_board" 1 (g_):=
 aD (N:=eF) (ps:=p8) T wV (λ_ _ _ _ _ _ us hl=>match us,hl with | [_],_=>rfl) λ_ _ _ _ _ _ hr=>
  (ao (bW (PDW.t (qm (dh (cV (mx rfl B.isinstance rfl (ab (ae (pv 0)) (ab (sG rfl B.tuple rfl) ag))))) (lL (dh (Ed sy sy aj (bj rfl B.len (ab (ae (pv 0)) ag)) (z9 rfl B.MOST_ROWS)))))) (ak (aB eP)) bu) (ao (bW (dh (cV (yK rfl rfl B.all rfl (ab (cp (tn:=["row"]) (n:=0) (aY (N:=eF) (osc:=(ah fT)) rfl rfl (by decide+kernel)) rfl rfl (ix (ae (pv 0))) (λ_ _ _ _ _ _ _=>bN (show Ua (((["row"]:List Str))++cg ["row"] eF) by decide+kernel) rfl rfl) (λ_ _ _ _ _ _=>bM) (λ_ _ _ _ _ _=>(bK Cg (mR hr) rfl b8 (ab (ae (pv 0)) ag) rfl))) ag)))) (ak (aB eP)) bu) (ak (aB (yK rfl rfl B.all rfl (ab (cp (tn:=["row"]) (n:=0) (aY (N:=eF) (osc:=(ah fT)) rfl rfl (by decide+kernel)) rfl rfl (ix (ae (pv 0))) (λ_ _ _ _ _ _ _=>bN (show Ua (((["row"]:List Str))++cg ["row"] eF) by decide+kernel) rfl rfl) (λ_ _ _ _ _ _=>bM) (λ_ _ _ _ _ _=>(qh hr.units (bj rfl B.len (ab (ae (pv 0)) ag)) (bj rfl B.len (ab (bD (ae (pv 1)) aj) ag))))) ag))))))
abbrev jB:Stmt:=top 17
def nk:List Str:=["board","thing"]
def nM:List Str:=["board","thing"]
def uS:FnScope nk nM (ah jB):=cB
def ux(B:Bl K mg base cv cA Cp)(AN:aq P w K mg base cv 2 "is_cell" 2 jN)(T:bO K mg "need_cell" jB f):aq P w K mg base cv 3 "need_cell" 2 (fY):=
 aD (N:=nk) (ps:=nM) T uS (λ_ _ _ _ _ _ us hl=>match us,hl with | [_,_],_=>rfl) λ_ _ _ _ _ _ hr=>
  (ak (bW (dh (cV (bK AN (mR hr) rfl aX (ab (ae (pv 0)) (ab (ae (pv 1)) ag)) rfl))) (ak jY) bu))
abbrev fo:Stmt:=top 28
def fj:List Str:=["board","cell","ways","letter"]
def lF:List Str:=["board","cell","ways"]
def ku:FnScope fj lF (ah fo):=cB
def ra(B:Bl K mg base cv cA Cp)(dU:aq P w K mg base cv 1 "letter_of" 2 aV)(tB:aq P w K mg base cv 2 "next_cells" 3 df)(T:bO K mg "like_cells" fo f):aq P w K mg base cv 3 "like_cells" 3 (cy):=
 aD (N:=fj) (ps:=lF) T ku (λ_ _ _ _ _ _ us hl=>match us,hl with | [_,_,_],_=>rfl) λ_ _ _ _ _ _ hr=>
  (ao (aT ku.nd rfl (.inr rfl) (bK dU (mR hr) rfl aX (ab (ae (pv 0)) (ab (ae (pv 1)) ag)) rfl)) (ak (aB (cp (tn:=["near"]) (n:=0) (aY (N:=fj) (osc:=(ah fo)) rfl rfl (by decide+kernel)) rfl rfl (c8 (bK tB (mR hr) rfl aX (ab (ae (pv 0)) (ab (ae (pv 1)) (ab (ae (pv 2)) ag))) rfl)) (λ_ _ _ _ _ _ _=>bN (show Ua (((["near"]:List Str))++cg ["near"] fj) by decide+kernel) rfl rfl) (λ_ _ _ _ _ _=>(qG (Ef hr.units (bK dU (mR hr) rfl b8 (ab (ae (pv 1)) (ab (ae (pv 0)) ag)) rfl) (ae (pv 4))))) (λ_ _ _ _ _ _=>(ae (pv 0)))))))
abbrev gg:Stmt:=top 43
def f7:List Str:=["_law_script","_law_at","_law_most","_law_rows","_law_wide","_law_alphabet","_law_found","_law_row","_law_signs"]
def nJ:List Str:=["_law_script","_law_at","_law_most"]
def b9:FnScope f7 nJ (ah gg):=cB
def uu(B:Bl K mg base cv cA Cp)(cW:aq P w K mg base cv 2 "_law_drawn" 3 aL)(T:bO K mg "_law_board" gg f):aq P w K mg base cv 3 "_law_board" 3 (dW):=
 aD (N:=f7) (ps:=nJ) T b9 (λ_ _ _ _ _ _ us hl=>match us,hl with | [_,_,_],_=>rfl) λ_ _ _ _ _ _ hr=>
  (ao (aT b9.nd rfl (.inl rfl) (cE aj (bK cW (mR hr) rfl aX (ab (ae (pv 0)) (ab (ae (pv 1)) (ab (ae (pv 2)) ag))) rfl))) (ao (aT b9.nd rfl (.inl rfl) (cE aj (bK cW (mR hr) rfl aX (ab (ae (pv 0)) (ab (cE (ae (pv 1)) aj) (ab (ae (pv 2)) ag))) rfl))) (ao (aT b9.nd rfl (.inr rfl) (gp (kI (ab d_ (ab d_ (ab d_ (ab d_ ag))))) (bK cW (mR hr) rfl aX (ab (ae (pv 0)) (ab (cE (ae (pv 1)) aj) (ab aj ag))) rfl))) (ao (aT b9.nd rfl (.inl rfl) (fP ag)) (ao (fm (eg TY rfl (cb rfl B.range (ab (ae (pv 3)) ag)) (bH b9.nd rfl (.inr rfl)) c_ (cJ (ao (jm (tn:=["_law_k"]) (n:=0) b9.nd rfl (.inl rfl) (aY (N:=f7) (osc:=(ah gg)) rfl rfl (by decide+kernel)) rfl rfl (cb rfl B.range (ab (ae (pv 4)) ag)) (λ_ _ _ _ _ _ _=>bN (show Ua (((["_law_k"]:List Str))++cg ["_law_k"] f7) by decide+kernel) rfl rfl) (λ_ _ _ _ _ _=>bM) (λ_ _ _ _ _ _=>(my (ae (pv 6)) (bK cW (mR hr) rfl b8 (ab (ae (pv 1)) (ab (cE (cE (cE (ae (pv 2)) aj) (fO aj (ae (pv 8)))) (ae (pv 0))) (ab (bj rfl B.len (ab (ae (pv 6)) ag)) ag))) rfl)))) (ak (aT b9.nd rfl (.inl rfl) (Gr (ae (pv 6)) (fP (ab (iw d_ (ab (ae (pv 8)) ag)) ag))))))))) (ak (aB (ae (pv 6)))))))))
abbrev iG:Stmt:=top 16
def lu:List Str:=["thing"]
def lG:List Str:=["thing"]
def rl:FnScope lu lG (ah iG):=cB
def rf(B:Bl K mg base cv cA Cp)(xK:aq P w K mg base cv 3 "is_board" 1 g_)(T:bO K mg "need_board" iG f):aq P w K mg base cv 4 "need_board" 1 (a_):=
 aD (N:=lu) (ps:=lG) T rl (λ_ _ _ _ _ _ us hl=>match us,hl with | [_],_=>rfl) λ_ _ _ _ _ _ hr=>
  (ak (bW (dh (cV (bK xK (mR hr) rfl aX (ab (ae (pv 0)) ag) rfl))) (ak jY) bu))
abbrev iI:Stmt:=top 29
def ly:List Str:=["board","start","ways","back","ring","further","cell","near"]
def lI:List Str:=["board","start","ways"]
def cf:FnScope ly lI (ah iI):=cB
def ri(B:Bl K mg base cv cA Cp)(tx:aq P w K mg base cv 3 "like_cells" 3 cy)(T:bO K mg "steps_back" iI f):aq P w K mg base cv 4 "steps_back" 3 (bC):=
 aD (N:=ly) (ps:=lI) T cf (λ_ _ _ _ _ _ us hl=>match us,hl with | [_,_,_],_=>rfl) λ_ _ _ _ _ _ hr=>
  (ao (Ec cf.nd rfl (.inl rfl) (BG hr.units (ae (pv 1)) JB)) (ao (aT cf.nd rfl (.inl rfl) (kI (ab (ae (pv 1)) ag))) (ao (fm (BL TY (cV (ae (pv 4))) (cJ (ao (iy cf.nd rfl (.inl rfl)) (ao (eg TY rfl (c8 (ae (pv 4))) (bH cf.nd rfl (.inl rfl)) c_ (cJ (ak (eg TY rfl (c8 (bK tx (mR hr) rfl b8 (ab (ae (pv 0)) (ab (ae (pv 6)) (ab (ae (pv 2)) ag))) rfl)) (bH cf.nd rfl (.inl rfl)) c_ (cJ (ak (bW (D1 (sH hr.units (ae (pv 7)) (ae (pv 3)))) (ao (wG hr.units (pv 3) (ae (pv 7)) (ae (pv 6))) (ak (lN (pv 5) (ae (pv 7))))) bu))))))) (ak (gb (i:=5) (aT cf.nd rfl (.inl rfl) (ae (pv 5)))))))))) (ak (gb (i:=3) (aB (ae (pv 3))))))))
abbrev js:Stmt:=(aG (top 39)).getD 0 (.Pass ⟨0,0,0,0⟩)
def m6:List Str:=["self","board","ways"]
def nA:List Str:=["self","board","ways"]
def uN:FnScope m6 nA (ah js):=cB
def uh(B:Bl K mg base cv cA Cp)(O:Bo K CK CG)(d4:aq P w K mg base cv 4 "need_board" 1 a_)(i5:aq P w K mg base cv 2 "need_ways" 1 cw)(hg:oT CG 2 3 (jK CK CG) (c5 CK CG))(T:xC K mg CG "Game" "Game.__init__" js f):MakeM P w K mg base cv 5 CG "Game" 2 (c5 CK CG):=
 Dh (N:=m6) (ps:=nA) T uN rfl (λ_ _ _ _ _ _ us hl=>match us,hl with | [_,_,_],_=>rfl) hg (λ_ _ _ _ _ _ hr=>
  (aJ (bg (jX (bK d4 (mR hr) rfl aX (ab (ae (pv 1)) ag) rfl))) (aJ (bg (jX (bK i5 (mR hr) rfl aX (ab (ae (pv 2)) ag) rfl))) (aJ (iA O.cGame O.nGame_ways (pv 0) (ae (pv 2))) (aJ (iA O.cGame O.nGame_stages (pv 0) (kI (ab (ae (pv 1)) ag))) (iB (iA O.cGame O.nGame_place (pv 0) aj)))))))
abbrev iF:Stmt:=top 26
def ip:List Str:=["board"]
def qc:List Str:=["board"]
def wZ:FnScope ip qc (ah iF):=cB
def wt(B:Bl K mg base cv cA Cp)(d4:aq P w K mg base cv 4 "need_board" 1 a_)(T:bO K mg "mirrored" iF f):aq P w K mg base cv 5 "mirrored" 1 (hZ):=
 aD (N:=ip) (ps:=qc) T wZ (λ_ _ _ _ _ _ us hl=>match us,hl with | [_],_=>rfl) λ_ _ _ _ _ _ hr=>
  (ao (jX (bK d4 (mR hr) rfl aX (ab (ae (pv 0)) ag) rfl)) (ak (aB (lK rfl B.tuple rfl (ab (cp (tn:=["row"]) (n:=0) (aY (N:=ip) (osc:=(ah iF)) rfl rfl (by decide+kernel)) rfl rfl (ix (ae (pv 0))) (λ_ _ _ _ _ _ _=>bN (show Ua (((["row"]:List Str))++cg ["row"] ip) by decide+kernel) rfl rfl) (λ_ _ _ _ _ _=>bM) (λ_ _ _ _ _ _=>(DW (ae (pv 0)) (qi aj)))) ag)))))
abbrev gr:Stmt:=top 30
def kj:List Str:=["board","ways","found","seen","cell","patch"]
def kq:List Str:=["board","ways"]
def da:FnScope kj kq (ah gr):=cB
def p6(B:Bl K mg base cv cA Cp)(vh:aq P w K mg base cv 2 "all_cells" 1 fX)(g8:aq P w K mg base cv 4 "steps_back" 3 bC)(tw:aq P w K mg base cv 1 "keyed" 1 hJ)(T:bO K mg "all_patches" gr f):aq P w K mg base cv 5 "all_patches" 2 (bP):=
 aD (N:=kj) (ps:=kq) T da (λ_ _ _ _ _ _ us hl=>match us,hl with | [_,_],_=>rfl) λ_ _ _ _ _ _ hr=>
  (ao (iy da.nd rfl (.inl rfl)) (ao (wF da.nd rfl (.inl rfl)) (ao (fm (eg TY rfl (c8 (bK vh (mR hr) rfl b8 (ab (ae (pv 0)) ag) rfl)) (bH da.nd rfl (.inl rfl)) c_ (cJ (ak (bW (D1 (sH hr.units (ae (pv 4)) (ae (pv 3)))) (ao (aT da.nd rfl (.inl rfl) (Aa rfl rfl B.sorted rfl (ab (bK g8 (mR hr) rfl b8 (ab (ae (pv 0)) (ab (ae (pv 4)) (ab (ae (pv 1)) ag))) rfl) ag))) (ao (lN (pv 2) (ae (pv 5))) (ak (GN hr.units (pv 3) (bK tw (mR hr) rfl b8 (ab (ae (pv 5)) ag) rfl) ⟨rfl,rfl,rfl,rfl⟩)))) bu))))) (ak (gb (i:=2) (aB (ae (pv 2))))))))
abbrev eX:Stmt:=top 35
def iR:List Str:=["rows","cell","ways","patch"]
def iU:List Str:=["rows","cell","ways"]
def gW:FnScope iR iU (ah eX):=cB
def mq(B:Bl K mg base cv cA Cp)(vk:aq P w K mg base cv 3 "need_cell" 2 fY)(g8:aq P w K mg base cv 4 "steps_back" 3 bC)(fB:aq P w K mg base cv 2 "can_be_taken" 2 bS)(T:bO K mg "patch_to_take" eX f):aq P w K mg base cv 5 "patch_to_take" 3 (b0):=
 aD (N:=iR) (ps:=iU) T gW (λ_ _ _ _ _ _ us hl=>match us,hl with | [_,_,_],_=>rfl) λ_ _ _ _ _ _ hr=>
  (ao (jX (bK vk (mR hr) rfl aX (ab (ae (pv 0)) (ab (ae (pv 1)) ag)) rfl)) (ao (aT gW.nd rfl (.inl rfl) (Aa rfl rfl B.sorted rfl (ab (bK g8 (mR hr) rfl aX (ab (ae (pv 0)) (ab (ae (pv 1)) (ab (ae (pv 2)) ag))) rfl) ag))) (ao (bW (dh (cV (bK fB (mR hr) rfl aX (ab (ae (pv 0)) (ab (ae (pv 3)) ag)) rfl))) (ak jY) bu) (ak (aB (ae (pv 3)))))))
abbrev jv:Stmt:=(aG (top 39)).getD 2 (.Pass ⟨0,0,0,0⟩)
def m9:List Str:=["self","cell","patch","then"]
def nG:List Str:=["self","cell"]
def iJ:FnScope m9 nG (ah jv):=cB
def uo(B:Bl K mg base cv cA Cp)(O:Bo K CK CG)(nX:aq P w K mg base cv 5 "patch_to_take" 3 b0)(Cf:aq P w K mg base cv 2 "fallen" 1 i7)(a6:dZ P w K mg base cv 1 CG "rows" 0 (aw CK CG))(o3:aq P w K mg base cv 2 "with_letters" 3 bU)(hg:oT CG 1 4 (jL CK CG) (bx CK CG))(T:MethAt K CG "take" "Game.take" jv f):zf P w K mg base cv 6 CG "take" 1 (bx CK CG):=
 Dl (N:=m9) (ps:=nG) T iJ rfl (λ_ _ _ _ _ _ us hl=>match us,hl with | [_,_],_=>rfl) hg (λ_ _ _ _ _ _ hr=>
  (aJ (bg (aT iJ.nd rfl (.inl rfl) (bK nX (mR hr) rfl aX (ab (bf a6 (mR hr) aX (pv 0)) (ab (ae (pv 1)) (ab (eV O.cGame O.nGame_ways (pv 0)) ag))) rfl))) (aJ (bg (aT iJ.nd rfl (.inl rfl) (bK Cf (mR hr) rfl aX (ab (bK o3 (mR hr) rfl aX (ab (bf a6 (mR hr) aX (pv 0)) (ab (ae (pv 2)) (ab (lJ rfl B.EMPTY (by decide)) ag))) rfl) ag) rfl))) (aJ (iA O.cGame O.nGame_stages (pv 0) (Gq (LZ (eV O.cGame O.nGame_stages (pv 0)) DZ (D0 (cE (eV O.cGame O.nGame_place (pv 0)) aj))) (kI (ab (ae (pv 3)) ag)))) (aJ (yP O.cGame O.nGame_place (pv 0)) (iB (bg (aB (bj rfl B.len (ab (ae (pv 2)) ag))))))))))
abbrev dN:Stmt:=(aG (top 39)).getD 3 (.Pass ⟨0,0,0,0⟩)
def dI:List Str:=["self","found"]
def iS:List Str:=["self"]
def gU:FnScope dI iS (ah dN):=cB
def mm(B:Bl K mg base cv cA Cp)(O:Bo K CK CG)(gj:aq P w K mg base cv 5 "all_patches" 2 bP)(a6:dZ P w K mg base cv 1 CG "rows" 0 (aw CK CG))(fB:aq P w K mg base cv 2 "can_be_taken" 2 bS)(T:MethAt K CG "can_take" "Game.can_take" dN f):dZ P w K mg base cv 6 CG "can_take" 0 (b5 CK CG):=
 sk (N:=dI) (ps:=iS) T gU rfl (λ_ _ _ _ _ _ us hl=>match us,hl with | [_],_=>rfl) rfl (λ_ _ _ _ _ _ hr=>
  ⟨(aT gU.nd rfl (.inl rfl) (bK gj (mR hr) rfl aX (ab (bf a6 (mR hr) aX (pv 0)) (ab (eV O.cGame O.nGame_ways (pv 0)) ag)) rfl)),(cp (tn:=["patch"]) (n:=0) (aY (N:=dI) (osc:=(ah dN)) rfl rfl (by decide+kernel)) rfl rfl (c8 (ae (pv 1))) (λ_ _ _ _ _ _ _=>bN (show Ua (((["patch"]:List Str))++cg ["patch"] dI) by decide+kernel) rfl rfl) (λ_ _ _ _ _ _=>(qG (cV (bK fB (mR hr) rfl b8 (ab (bf a6 (mR hr) b8 (pv 1)) (ab (ae (pv 0)) ag)) rfl)))) (λ_ _ _ _ _ _=>(gp (ae (pv 0)) aj)))⟩)
abbrev mJ:Stmt:=top 31
def su:List Str:=["board","ways"]
def sE:List Str:=["board","ways"]
def yU:FnScope su sE (ah mJ):=cB
def yE(B:Bl K mg base cv cA Cp)(d4:aq P w K mg base cv 4 "need_board" 1 a_)(i5:aq P w K mg base cv 2 "need_ways" 1 cw)(gj:aq P w K mg base cv 5 "all_patches" 2 bP)(T:bO K mg "patches" mJ f):aq P w K mg base cv 6 "patches" 2 (gD):=
 aD (N:=su) (ps:=sE) T yU (λ_ _ _ _ _ _ us hl=>match us,hl with | [_,_],_=>rfl) λ_ _ _ _ _ _ hr=>
  (ao (jX (bK d4 (mR hr) rfl aX (ab (ae (pv 0)) ag) rfl)) (ao (jX (bK i5 (mR hr) rfl aX (ab (ae (pv 1)) ag) rfl)) (ak (aB (bK gj (mR hr) rfl aX (ab (ae (pv 0)) (ab (ae (pv 1)) ag)) rfl)))))
abbrev b6:Stmt:=top 46
def dX:List Str:=["_law_script","_law_board_here","_law_ways","_law_game","_law_other","_law_told","_law_k","_law_some","_law_row","_law_column","_law_before","_law_sign_here","_law_left","_law_letter","_law_gone"]
def mr:List Str:=["_law_script"]
def bc:FnScope dX mr (ah b6):=cB
def we{fd:Vi}(B:Bl K mg base cv cA Cp)(O:Bo K CK CG)(mP:MakeM P w K mg base cv 5 CG "Game" 2 (c5 CK CG))(vj:aq P w K mg base cv 3 "_law_board" 3 dW)(cW:aq P w K mg base cv 2 "_law_drawn" 3 aL)(xP:aq P w K mg base cv 5 "mirrored" 1 hZ)(a6:dZ P w K mg base cv 1 CG "rows" 0 (aw CK CG))(iP:dZ P w K mg base cv 6 CG "can_take" 0 (b5 CK CG))(gi:dZ P w K mg base cv 3 CG "points" 0 (cQ CK CG))(tu:dZ P w K mg base cv 1 CG "steps" 0 (fi CK CG))(xO:aq P w K mg base cv 1 "_law_sign" 2 fI)(i4:dZ P w K mg base cv 2 CG "left" 0 (cx CK CG))(AO:aq P w K mg base cv 6 "patches" 2 gD)(mQ:zf P w K mg base cv 6 CG "take" 1 (bx CK CG))(xN:aq P w K mg base cv 1 "_law_feet" 1 eB)(Fn:Fun K "law" "law" b6 f fd)(hg:∀ns:List Int,ns.length<=63->(j7 CK CG).f (some (.fz (.scr ns))::Tc (15 - 1) none) λx=>∃ρ,x= .rt (.fz (.bl true)) ρ):FnOk P w K mg base (iV P w cv) 7 f fd mr (J8 K cv 1 A2):=
 NA (N:=dX) (ps:=mr) (τ:=j7 CK CG) Fn bc rfl (λ_ _ _ _ _ _ hr=>
  (aJ (bg (aT bc.nd rfl (.inl rfl) (bK vj (mR hr) rfl aX (ab (ae (pv 0)) (ab aj (ab aj ag))) rfl))) (aJ (bg (aT bc.nd rfl (.inl rfl) (gp (kI (ab aj (ab aj ag))) (bK cW (mR hr) rfl aX (ab (ae (pv 0)) (ab aj (ab aj ag))) rfl)))) (aJ (Ak bc.nd rfl (.inl rfl) (Ag mP (mR hr) aX rfl (ab (ae (pv 1)) (ab (ae (pv 2)) ag)))) (aJ (Ak bc.nd rfl (.inl rfl) (Ag mP (mR hr) aX rfl (ab (bK xP (mR hr) rfl aX (ab (ae (pv 1)) ag) rfl) (ab (ae (pv 2)) ag)))) (aJ (bg (bW (lO hr.units (bf a6 (mR hr) aX (pv 3)) (ae (pv 1))) (ak (aB eP)) bu)) (aJ (bg (bW (lO hr.units (bf iP (mR hr) aX (pv 3)) (cp (tn:=["_law_some"]) (n:=0) (aY (N:=dX) (osc:=(ah b6)) rfl rfl (by decide+kernel)) rfl rfl (c8 (bK AO (mR hr) rfl aX (ab (ae (pv 1)) (ab (ae (pv 2)) ag)) rfl)) (λ_ _ _ _ _ _ _=>bN (show Ua (((["_law_some"]:List Str))++cg ["_law_some"] dX) by decide+kernel) rfl rfl) (λ_ _ _ _ _ _=>(qG (L6 (bj rfl B.len (ab (ae (pv 0)) ag)) aj))) (λ_ _ _ _ _ _=>(gp (ae (pv 0)) aj)))) (ak (aB eP)) bu)) (aJ (bg (iy bc.nd rfl (.inl rfl))) (aJ (GQ (Ai TY rfl (cb rfl B.range (ab aj ag)) (bH bc.nd rfl (.inl rfl)) sJ (aJ (bg (aT bc.nd rfl (.inl rfl) (bf iP (mR hr) b8 (pv 3)))) (iB (Em (En (lO hr.units (ae (pv 7)) (kI ag))) (aJ (bg (GK (gp (ae (pv 7)) (bK cW (mR hr) rfl b8 (ab (ae (pv 0)) (ab (cE aj (ae (pv 6))) (ab (bj rfl B.len (ab (ae (pv 7)) ag)) ag))) rfl)) (JO rfl (wB (bH bc.nd rfl (.inl rfl)) (wB (bH bc.nd rfl (.inl rfl)) GD))) (GO (is:=[8,9])))) (aJ (bg (aT bc.nd rfl (.inl rfl) (bf a6 (mR hr) b8 (pv 3)))) (aJ (bg (aT bc.nd rfl (.inl rfl) (bK xO (mR hr) rfl b8 (ab (ae (pv 10)) (ab (fP (ab (ae (pv 8)) (ab (ae (pv 9)) ag))) ag)) rfl))) (aJ (bg (aT bc.nd rfl (.inl rfl) (bf i4 (mR hr) b8 (pv 3)))) (aJ (El (pv 5) (Ah mQ (mR hr) b8 (pv 3) (ab (fP (ab (ae (pv 8)) (ab (ae (pv 9)) ag))) ag))) (aJ (Em (GR (yF hr.units) yH (Ah mQ (mR hr) b8 (pv 4) (ab (fP (ab (ae (pv 8)) (ab (eW (eW (bj rfl B.len (ab (bD (ae (pv 1)) aj) ag)) aj) (ae (pv 9))) ag))) ag)) (DR (pv 5) (qi aj))) (iB (bg (aB eP))) Aj) (aJ (bg (bW (lO hr.units (bf i4 (mR hr) b8 (pv 3)) (eW (ae (pv 12)) (DR (pv 5) (qi aj)))) (ak (aB eP)) bu)) (aJ (bg (bW (lO hr.units (bf a6 (mR hr) b8 (pv 4)) (lK rfl B.tuple rfl (ab (cp (tn:=["_law_line"]) (n:=0) (aY (N:=dX) (osc:=(ah b6)) rfl rfl (by decide+kernel)) rfl rfl (ix (bf a6 (mR hr) b8 (pv 3))) (λ_ _ _ _ _ _ _=>bN (show Ua (((["_law_line"]:List Str))++cg ["_law_line"] dX) by decide+kernel) rfl rfl) (λ_ _ _ _ _ _=>bM) (λ_ _ _ _ _ _=>(DW (ae (pv 0)) (qi aj)))) ag))) (ak (aB eP)) bu)) (aJ (bg (bW (dh (cV (bK xN (mR hr) rfl b8 (ab (bf a6 (mR hr) b8 (pv 3)) ag) rfl))) (ak (aB eP)) bu)) (iB (Ai TY rfl (Ab d_) (bH bc.nd rfl (.inl rfl)) sJ (aJ (bg (aT bc.nd rfl (.inl rfl) (L0 (fO (gp (ae (pv 5)) (qi aj)) (Gs rfl B.int rfl (ab (qh hr.units (ae (pv 13)) (ae (pv 11))) ag)))))) (iB (bg (bW (lO hr.units (uB (iw d_ (ab (bf a6 (mR hr) b8 (pv 3)) ag)) (ab (ae (pv 13)) ag)) (eW (uB (iw d_ (ab (ae (pv 10)) ag)) (ab (ae (pv 13)) ag)) (ae (pv 14)))) (ak (aB eP)) bu))))))))))))))) Aj))))) (aJ (GP (i:=5) (bg (bW (lO hr.units (bf gi (mR hr) aX (pv 3)) (oK rfl rfl B.sum rfl (ab (cp (tn:=["_law_many"]) (n:=0) (aY (N:=dX) (osc:=(ah b6)) rfl rfl (by decide+kernel)) rfl rfl (c8 (ae (pv 5))) (λ_ _ _ _ _ _ _=>bN (show Ua (((["_law_many"]:List Str))++cg ["_law_many"] dX) by decide+kernel) rfl rfl) (λ_ _ _ _ _ _=>bM) (λ_ _ _ _ _ _=>(fO (ae (pv 0)) (ae (pv 0))))) ag))) (ak (aB eP)) bu))) (aJ (bg (bW (lO hr.units (bf tu (mR hr) aX (pv 3)) (fP (ab (bj rfl B.len (ab (ae (pv 5)) ag)) (ab aj ag)))) (ak (aB eP)) bu)) (iB (bg (aB (mw (qh hr.units (cE (oK rfl rfl B.sum rfl (ab (ae (pv 5)) ag)) (bf i4 (mR hr) aX (pv 3))) (fO (bj rfl B.len (ab (ae (pv 1)) ag)) (bj rfl B.len (ab (bD (ae (pv 1)) aj) ag)))) (qj (qh hr.units (bf gi (mR hr) aX (pv 4)) (bf gi (mR hr) aX (pv 3))))))))))))))))))) hg
end
end K1
namespace K1
open PySem L2 L3
def Dr{ds:List D}(h:ds.length<=lim):fM ds=aa (.lst ds):=Y6 h
def cH:lim=4096:=rfl
def gu{i:Nat}{x:α}(h:xs[i]? =some x):L2.atI xs (i:Int)=some x:=by
 obtain⟨hi,e⟩:=SY.mp h;unfold L2.atI Fc;rw[Y6 (Int.natCast_nonneg i),Y6 (by exact Int.ofNat_lt.mpr hi)];exact h
def ax{δs:DA}(h:δs ρ=aa ds)(hl:ds.length=m):ar m g δs ρ=g ds:=by
 unfold ar;rw[h];exact Y6 hl
def ay{ρ:aO}(h1:a ρ=aa x)(h2:r ρ=aa xs):aC a r ρ=aa (x::xs):=by
 unfold aC;rw[h1,ai,h2];rfl
def aF{ρ:aO}{x y:D}(h1:a ρ=aa x)(h2:b ρ=aa y):d2 g a b ρ=g x y:=by
 unfold d2;rw[h1,ai,h2];rfl
def bz{ρ:aO}{xs:List D}(h:a ρ=aa xs):dA g a ρ=g xs:=by
 unfold dA;rw[h];rfl
def gH{i j:Int}(h:0<j):la (.int i) (.int j)=aa (.int (i % j)):=by
 show (if decide (0<j)=true then _ else _)=_;rw[Y6 (Y8 h)]
def k_{i j:Int}(h:0<j)(h2:j<1073741824):qY (.int i) (.int j)=aa (.int (i / j)):=by
 show (if decide (0<j/\j<1073741824)=true then _ else _)=_;rw[Y6 (Y8 ⟨h,h2⟩)]
def gJ{i j:Int}(h:(-(2 ^ 64)<i/\i<2 ^ 64)\/(-(2 ^ 64)<j/\j<2 ^ 64)):fe (.int i) (.int j)=aa (.int (i*j)):=by
 show (if decide _=true then _ else _)=_;rw[Y6 (Y8 h)]
def fJ{i j:Int}:dR (.int i) (.int j)=aa (.int (i+j)):=rfl
def Ck(ns:List Int)(hl:ns.length<=63)(k:Nat):∃v,fG [.scr ns, .int (k:Int)]=aa (.int v):=by
 cases ns with
 |nil=>
  refine⟨7*(k:Int),?_⟩;rfl
 |cons n r=>
  have hp:0<(n::r).length:=Nat.succ_pos _;generalize e:(n::r)=ns at*;have he:pb 6 (.scr ns) (.lst [])=some false:=by subst e;rfl
  obtain⟨y,hy⟩:∃y,ns[k % ns.length]? =some y:=⟨_,SK (Nat.mod_lt _ hp)⟩
  have PM:(0:Int)<(ns.length:Int):=by omega
  have h1:la (.int (k:Int)) (.int (ns.length:Int))=aa (.int ((k % ns.length:Nat):Int)):=gH PM;have h2:qY (.int (k:Int)) (.int (ns.length:Int))=aa (.int ((k:Int) / (ns.length:Int))):=k_ PM (by omega);have h3:CO (.scr ns) (.int ((k % ns.length:Nat):Int))=aa (.int y):=by
   show (match L2.atI ns ((k % ns.length:Nat):Int) with | some n=>aa (D.int n) | none=>af)=_;rw[gu hy]
  have h4:fe (.int 6553) (.int ((k:Int) / (ns.length:Int)))=aa (.int (6553*((k:Int) / (ns.length:Int)))):=gJ (.inl ⟨by decide,by decide⟩);refine⟨y+6553*((k:Int) / (ns.length:Int)),?_⟩;simp only[fG,qQ,cM,a8,iC,bo,di,eA,d2,dV,dC,dA,aC,aN,fM,a7,B3,l_,he,ai,h1,h2,h3,h4,SU,Vk,U0,Ui,SO,US,Tw,Tx,cH,Nat.reduceAdd,TQ,if_true,Tt,if_false,dR,gI]
def fv(ns:List Int)(hl:ns.length<=63)(k m:Nat)(hm:0<m):∃v:Nat,v<m/\aL [.scr ns, .int (k:Int), .int (m:Int)]=aa (.int (v:Int)):=by
 obtain⟨c,hc⟩:=Ck ns hl k;have b1:=XY (c % 2147483563*69069+104723*((k:Int)+1)) (b:=2147483563) (by decide);have b2:=W_ (c % 2147483563*69069+104723*((k:Int)+1)) (b:=2147483563) (by decide);generalize hx:(c % 2147483563*69069+104723*((k:Int)+1)) % 2147483563=x at b1 b2;have b3:=XY (x*x+x / 3) (b:=2147483399) (by decide);have b4:=W_ (x*x+x / 3) (b:=2147483399) (by decide);generalize hy:(x*x+x / 3) % 2147483399=y at b3 b4;have m1:fe (.int (c % 2147483563)) (.int 69069)=_:=gJ (.inr ⟨by decide,by decide⟩);have m2:fe (.int 104723) (.int ((k:Int)+1))=_:=gJ (.inl ⟨by decide,by decide⟩);have m3:fe (.int x) (.int x)=_:=gJ (.inl ⟨by omega,by omega⟩);have m4:fe (.int y) (.int y)=_:=gJ (.inl ⟨by omega,by omega⟩);have hM:(0:Int)<(m:Int):=Int.ofNat_lt.mpr hm;have n1:=XY ((y*y+y / 7) % 2147483647 / 11) (b:=(m:Int)) (by omega);have n2:=W_ ((y*y+y / 7) % 2147483647 / 11) hM;have q1:la (.int c) (.int 2147483563)=_:=gH (by decide);have q2:la (.int (c % 2147483563*69069+104723*((k:Int)+1))) (.int 2147483563)=_:=gH (by decide);have q3:qY (.int x) (.int 3)=_:=k_ (by decide) (by decide);have q4:la (.int (x*x+x / 3)) (.int 2147483399)=_:=gH (by decide);have q5:qY (.int y) (.int 7)=_:=k_ (by decide) (by decide);have q6:la (.int (y*y+y / 7)) (.int 2147483647)=_:=gH (by decide);have q7:qY (.int ((y*y+y / 7) % 2147483647)) (.int 11)=_:=k_ (by decide) (by decide);have q8:la (.int ((y*y+y / 7) % 2147483647 / 11)) (.int (m:Int))=_:=gH hM;refine⟨((y*y+y / 7) % 2147483647 / 11 % (m:Int)).toNat,by omega,?_⟩;rw[Int.toNat_of_nonneg n1];rw[hx] at q2;rw[hy] at q4;simp only[aL,nU,cM,a8,bX,bo,ar,d2,dV,dC,dA,aC,aN,ai,hc,SU,Vk,U0,Ui,SO,US,Tw,Tx,Tc,W6,VY,Nat.reduceAdd,Nat.reduceSub,if_true,fJ,m1,m2,m3,m4,q1,q2,q3,q4,q5,q6,q7,q8]
def lB{α:Type}(a:α):noex (aa a)=aa a:=rfl
theorem vI{I:Nat->aO->Prop}:∀(ds:List D) (i:Nat) (ρ:aO),I i ρ->
 (∀j d,ds[j]? =some d->∀ρ,I (i+j) ρ->∃ρ1 ρ2,put d ρ=some ρ1/\body ρ1=aa (.nx ρ2)/\I (i+j+1) ρ2)->∃ρ',forL put body ds ρ=aa (.nx ρ')/\I (i+ds.length) ρ'
 |[],i,ρ,h,_=>⟨ρ,rfl,h⟩
 |d::ds,i,ρ,h,step=>by
  obtain⟨ρ1,ρ2,e1,e2,h2⟩:=step 0 d rfl ρ h;obtain⟨ρ',e3,h3⟩:=vI (I:=I) ds (i+1) ρ2 h2 λj d' hd ρ hI=>by
   have:=step (j+1) d' hd ρ (by rw[show i+(j+1)=i+1+j by omega];exact hI);rw[show i+(j+1)+1=i+1+j+1 by omega] at this;exact this
  refine⟨ρ',?_,?_⟩
  ·show (match put d ρ with | none=>af | some ρ1=>body ρ1>>=λo=>match o with | .nx ρ2=>forL put body ds ρ2 | .rt v=>aa (.rt v))=_;rw[e1];show (body ρ1>>=λo=>match o with | .nx ρ2=>forL put body ds ρ2 | .rt v=>aa (.rt v))=_;rw[e2];exact e3
  ·rw[show i+(d::ds).length=i+1+ds.length by simp;omega];exact h3
theorem rF{Pr:D->Prop}:∀(ds:List D),(∀d∈ds,∃y,f d=aa (some y)/\Pr y)->∃ys,cX f ds=aa ys/\ys.length=ds.length/\∀y∈ys,Pr y
 |[],_=>⟨[],rfl,rfl,λ_ h=>by cases h⟩
 |d::ds,h=>by
  obtain⟨y,e,hy⟩:=h d (SM ..);obtain⟨ys,e2,hl,hp⟩:=rF ds λd' hd=>h d' (SJ _ hd);refine⟨y::ys,?_,by simp[hl],λz hz=>?_⟩
  ·rw[dP,e,ai,e2];rfl
  ·cases hz with
   |head=>exact hy
   |tail _ hz=>exact hp z hz
theorem gz{g:D->D}:∀(ds:List D),(∀d∈ds,f d=aa (some (g d)))->cX f ds=aa (ds.map g)
 |[],_=>rfl
 |d::ds,h=>by
  rw[dP,h d (SM ..),ai,gz ds λd' hd=>h d' (SJ _ hd)];rfl
def FQ(x:Str):Bool:=!(T6 ("abcdef":Str) x 0 ("abcdef":Str).length 1).isEmpty
structure Row (W:Nat) (r:Str):Prop where
 len:r.length=W
 let':∀c∈r.cps.toList,FQ ⟨#[c]⟩=true
structure Good (bd:List Str) (W:Nat):Prop where
 r1:1<=bd.length
 r5:bd.length<=5
 w1:1<=W
 w5:W<=5
 rows:∀r∈bd,Row W r
abbrev lE(c:Nat):Prop:=FQ ⟨#[c]⟩=true/\c≠101/\c≠100
def Ql(r:Str):Prop:=∀c∈r.cps.toList,c≠101
def MB(r:Str):Prop:=∀c∈r.cps.toList,c≠101/\c≠100
theorem xg:∀(ys:List D),(∀y∈ys,∃c,y= .str ⟨#[c]⟩/\lE c)->∃xs,kQ ys=some xs/\xs.length=ys.length/\(xs.map (·.length)).sum=ys.length/\Row ys.length (dq xs)/\MB (dq xs)
 |[],_=>⟨[],rfl,rfl,rfl,⟨rfl,λc h=>by cases h⟩,λc h=>by cases h⟩
 |y::ys,h=>by
  obtain⟨c,e,hc⟩:=h y (SM ..);obtain⟨xs,e1,e2,e3,e4,e5⟩:=xg ys λz hz=>h z (SJ _ hz);subst e;have E_:∀z,z∈((⟨#[c]⟩:Str)++dq xs).cps.toList->z=c\/z∈(dq xs).cps.toList:=λz hz=>by
   have:((⟨#[c]⟩:Str)++dq xs).cps= #[c]++(dq xs).cps:=rfl;rw[this] at hz;simpa using hz
  refine⟨⟨#[c]⟩::xs,?_,by simp[e2],?_,⟨?_,λz hz=>?_⟩,λz hz=>?_⟩
  ·show (kQ ys).map _=_;rw[e1];rfl
  ·rw[SU,Vb,e3];show 1+ys.length=_;simp;omega
  ·show ((⟨#[c]⟩:Str)++dq xs).length=_;rw[jI,e4.len];show 1+ys.length=_;simp;omega
  ·rcases E_ z hz with rfl | q
   ·exact hc.1
   ·exact e4.let' z q
  ·rcases E_ z hz with rfl | q
   ·exact hc.2
   ·exact e5 z q
def Eu{n:Nat}{d:D}(h:d∈gR lo n):∃i:Nat,i<n/\d= .int (lo+(i:Int)):=by
 unfold gR at h;obtain⟨i,hi,e⟩:=S7.mp h;exact⟨i,TL.mp hi,e.symm⟩
def GV{n j:Nat}{d:D}(h:(gR lo n)[j]? =some d):j<n/\d= .int (lo+(j:Int)):=by
 unfold gR at h;rw[S2] at h;by_cases hj:j<n
 ·rw[VQ hj] at h;cases h;exact⟨hj,rfl⟩
 ·rw[Wv (by simpa using hj)] at h;cases h
def jq(lo:Int)(n:Nat):(gR lo n).length=n:=by simp[gR]
abbrev iW(w:Nat):D:= .int w
abbrev fz(d:D):Option Sl:=some (.fz d)
def fE{ρ:aO}{d:D}:fW 0 bb δe ρ d=(δe (fz d::ρ)>>=λy=>aa (some y)):=rfl
def xR{ρ:aO}{d:D}:fW 0 δt δe ρ d=(δt (fz d::ρ)>>=λb=>if b then δe (fz d::ρ)>>=λy=>aa (some y) else aa none):=rfl
def aA{ρ ρ':aO}{o:M Out}(h:a ρ=aa (.nx ρ'))(h2:b ρ'=o):a8 a b ρ=o:=by
 unfold a8;rw[h];exact h2
def ei{ρ:aO}{d:D}(h:a ρ=aa (.rt d)):a8 a b ρ=aa (.rt d):=by
 unfold a8;rw[h];rfl
def aQ{ρ:aO}{d:D}(h:δ ρ=aa d):bX i δ ρ=aa (.nx (ρ.set i (fz d))):=by
 unfold bX;rw[h];rfl
def gc{ρ:aO}{o:M Out}(h:c ρ=aa true)(h2:a ρ=o):iC c a b ρ=o:=by
 unfold iC;rw[h];exact h2
def dD{ρ:aO}{o:M Out}(h:c ρ=aa false)(h2:b ρ=o):iC c a b ρ=o:=by
 unfold iC;rw[h];exact h2
def aI{ρ:aO}{d:D}(h:δ ρ=aa d):bo δ ρ=aa (.rt d):=by
 unfold bo;rw[h];rfl
def gS{ρ:aO}{d:D}(h:δ ρ=aa d):rj δ ρ=aa (.nx ρ):=by
 unfold rj;rw[h];rfl
def bh{ds:List D}{d:D}(h:τ (ds.map (λd=>some (Sl.fz d))++Tc (n - ds.length) none)=aa (.rt d)):cM n τ ds=aa d:=by
 unfold cM;rw[h];rfl
def As{ds:List D}{ρ:aO}(h:τ (ds.map (λd=>some (Sl.fz d))++Tc (n - ds.length) none)=aa (.nx ρ)):cM n τ ds=aa .non:=by
 unfold cM;rw[h];rfl
def Ey{ρ:aO}(h:δi ρ=aa ds)(h2:forL put b ds ρ=aa o):noex (gT put δi b ρ)=aa o:=by
 unfold gT;rw[h,ai,h2];rfl
def cF{τ:DS}{ρ ρ':aO}(h:τ ρ=aa (.nx ρ')):eG is τ ρ=aa (.nx (fgt is ρ')):=by
 unfold eG;rw[h];rfl
def bw{δe:DE}(h:δi ρ=aa ds)(h2:cX (fW n δt δe ρ) ds=aa ys)(h3:ys.length<=lim):aR n δi δt δe ρ=aa (.lst ys):=by
 unfold aR;rw[h,ai,h2,lB,ai,Dr h3]
def mH{n:Nat}(h:n<=4096):e_ [.int (n:Int)]=aa (gR 0 n):=by
 show (if -4096<=(n:Int)/\(n:Int)<=4096 then aa (gR 0 (n:Int).toNat) else af)=_;rw[Y6 ⟨by omega,by omega⟩];rfl
structure Alpha (al:Str):Prop where
 pos:0<al.length
 ok:∀c∈al.cps.toList,lE c
def Ij:Alpha "ab"/\Alpha "abc"/\Alpha "aab"/\Alpha "fa":=by
 refine⟨⟨by decide+kernel,?_⟩,⟨by decide+kernel,?_⟩,⟨by decide+kernel,?_⟩,⟨by decide+kernel,?_⟩⟩<;>decide+kernel
def CP{i:Nat}(h:i<x.length):∃c,c∈x.cps.toList/\x.cps.toList[i]? =some c/\fK (.str x) (.int (i:Int))=aa (.str ⟨#[c]⟩):=by
 have h:i<x.cps.toList.length:=by rw[Td];exact h
 refine⟨x.cps.toList[i],UY h,SK h,?_⟩;show (match L2.atI x.cps.toList (i:Int) with | some c=>aa (D.str ⟨#[c]⟩) | none=>af)=_;rw[gu (SK h)]
abbrev brd(bd:List Str):D:= .tup (bd.map D.str)
abbrev sgn(at' mo:Nat)(ns:List Int)(W:Nat)(al:Str)(bd:List Str)(R:Nat)(x7 x8:Option Sl):aO:=[fz (.scr ns),fz (.int (at':Int)),fz (.int (mo:Int)),fz (.int (R:Int)),fz (.int (W:Int)),fz (.str al),fz (brd bd),x7,x8]
def BR(at' mo:Nat)(ns:List Int)(hl:ns.length<=63)(al:Str)(ha:Alpha al)(j W R:Nat)(hW:W<=5)(bd:List Str)(x8:Option Sl):
 ∃ys,O3 (sgn at' mo ns W al bd R (fz (.int (0+(j:Int)))) x8)=aa (.lst ys)/\ys.length=W/\∀y∈ys,∃c,y= .str ⟨#[c]⟩/\lE c:=by
 obtain⟨ys,e,HN,hp⟩:=rF (f:=fW 0 bb (d2 fK (dV 6) (ar 3 aL (aC (dV 1) (aC (d2 dR (d2 dR (d2 dR (dV 2) (dC (.int 3))) (d2 fe (dC (.int 7)) (dV 8))) (dV 0)) (aC (dA a7 (aC (dV 6) aN)) aN)))))
  (sgn at' mo ns W al bd R (fz (.int (0+(j:Int)))) x8)) (Pr:=λy=>∃c,y= .str ⟨#[c]⟩/\lE c) (gR 0 W) λd hd=>by
  obtain⟨i,hi,rfl⟩:=Eu hd;obtain⟨v,hv,e⟩:=fv ns hl (at'+3+7*j+i) al.length ha.pos;obtain⟨c,hc,_,e2⟩:=CP hv;refine⟨.str ⟨#[c]⟩,?_,c,rfl,ha.ok c hc⟩;rw[fE];have k:(at':Int)+3+7*(0+(j:Int))+(0+(i:Int))=((at'+3+7*j+i:Nat):Int):=by omega
  have m1:fe (.int 7) (.int (0+(j:Int)))=aa (.int (7*(0+(j:Int)))):=gJ (.inl ⟨by decide,by decide⟩);simp only[ar,d2,dV,dC,dA,aC,aN,ai,SO,US,Tw,Tx,Nat.reduceAdd,if_true,fJ,m1,k,a7,e,e2]
 refine⟨ys,bw (mH (n:=W) (by omega)) e (by rw[HN,jq,cH];omega),by rw[HN,jq],hp⟩
def Fl(at' mo:Nat)(ns:List Int)(W:Nat)(al:Str)(bd:List Str)(R:Nat)(x7:Option Sl)(ys:List D)(hb:bd.length<=5)(hy:ys.length<=5)(s3:∀y∈ys,∃c,y= .str ⟨#[c]⟩/\lE c):
 ∃r,(Row ys.length r/\MB r)/\O4 (sgn at' mo ns W al bd R x7 (fz (.lst ys)))=aa (.nx (sgn at' mo ns W al (bd++[r]) R x7 (fz (.lst ys)))):=by
 obtain⟨xs,t1,t2,t3,t4⟩:=xg ys s3;refine⟨dq xs,t4,?_⟩;have jn:joinM (.str "") [.lst ys]=aa (.str (dq xs)):=by
  show (match kQ ys with | some (xs:List Str)=>if ("":Str).length=0/\(xs.map (λx:Str=>x.length)).sum<=lim then aa (D.str (dq xs)) else af | none=>af)=_;rw[t1];show (if ("":Str).length=0/\(xs.map (λx:Str=>x.length)).sum<=lim then aa (D.str (dq xs)) else af)=_;rw[Y6 ⟨rfl,by rw[t3,cH];omega⟩]
 have ct:zK (brd bd) (.tup [.str (dq xs)])=aa (brd (bd++[dq xs])):=by
  show (if (bd.map D.str).length+1<=lim then aa (D.tup (bd.map D.str++[.str (dq xs)])) else af)=_;rw[Y6 (by rw[SI,cH];omega)];simp[brd]
 refine(aQ (d:=brd (bd++[dq xs])) ?_).trans rfl;simp only[d2,dV,dC,dA,aC,aN,dM,gm,ai,Tw,Tx,if_true,jn,dm,SO,US,cH,Nat.reduceAdd,Nat.reduceLeDiff,ct]
def xH(ns:List Int)(hl:ns.length<=63)(at' mo:Nat)(m0:0<mo)(m5:mo<=5):∃bd W,Good bd W/\(∀r∈bd,MB r)/\bd.length<=mo/\W<=mo/\dW [.scr ns, .int (at':Int), .int (mo:Int)]=aa (brd bd):=by
 obtain⟨r,hr,e1⟩:=fv ns hl at' mo m0;obtain⟨c,hc,e2⟩:=fv ns hl (at'+1) mo m0;obtain⟨a,ha,e3⟩:=fv ns hl (at'+2) 4 (by decide);obtain⟨al,K5,e4⟩:∃al,Alpha al/\eC (.lst [.str "ab", .str "abc", .str "aab", .str "fa"]) (.int (a:Int))=aa (.str al):=by
  obtain⟨a1,a2,a3,a4⟩:=Ij
  match a,ha with
  |0,_=>exact⟨_,a1,rfl⟩
  |1,_=>exact⟨_,a2,rfl⟩
  |2,_=>exact⟨_,a3,rfl⟩
  |3,_=>exact⟨_,a4,rfl⟩
 have k1:(1:Int)+(r:Int)=((r+1:Nat):Int):=by omega
 have k2:(1:Int)+(c:Int)=((c+1:Nat):Int):=by omega
 have B4:aL [.scr ns, .int (at':Int), .int (mo:Int)]=aa (.int (r:Int)):=e1;have Kh:aL [.scr ns, .int ((at':Int)+1), .int (mo:Int)]=aa (.int (c:Int)):=e2;have MH:aL [.scr ns, .int ((at':Int)+2), .int 4]=aa (.int (a:Int)):=e3;obtain⟨ρ',f1,bd,f2,f3,f4⟩:=vI (put:=putN 7) (body:=eG [7,8] (a8 (bX 8 O3) O4))
  (I:=λi ρ=>∃bd,ρ=sgn at' mo ns (c+1) al bd (r+1) none none/\bd.length=i/\∀z∈bd,Row (c+1) z/\MB z)
  (gR 0 (r+1)) 0 (sgn at' mo ns (c+1) al [] (r+1) none none) ⟨[],rfl,rfl,λ_ h=>by cases h⟩ λj d hd ρ ⟨bd,hρ,hb,hw⟩=>by
   obtain⟨hj,rfl⟩:=GV hd;subst hρ;obtain⟨ys,s1,s2,s3⟩:=BR at' mo ns hl al K5 j (c+1) (r+1) (by omega) bd none;obtain⟨Kp,t1,t2⟩:=Fl at' mo ns (c+1) al bd (r+1) (fz (.int (0+(j:Int)))) ys (by omega) (by omega) s3;refine⟨_,_,rfl,cF (aA (aQ s1) t2),bd++[Kp],rfl,by simp[hb],λz hz=>?_⟩;rcases TH.mp hz with h | h
   ·exact hw z h
   ·have h:z=Kp:=by simpa using h
    subst h;rw[s2] at t1;exact t1
 refine⟨bd,c+1,⟨by rw[f3,jq];omega,by rw[f3,jq];omega,by omega,by omega,λr q=>(f4 r q).1⟩,λr q=>(f4 r q).2,by rw[f3,jq];omega,by omega,?_⟩;subst f2;refine bh ?_;refine aA (aQ (d:= .int ((r+1:Nat):Int)) ?_) ?_
 ·simp only[ar,d2,dV,dC,aC,aN,ai,SU,Vk,U0,Ui,SO,US,Tw,Tx,Nat.reduceAdd,if_true,fJ,B4,k1]
 refine aA (aQ (d:= .int ((c+1:Nat):Int)) ?_) ?_
 ·simp only[ar,d2,dV,dC,aC,aN,ai,SU,Vk,U0,Ui,SO,US,Tc,W6,VY,Nat.reduceSub,Tw,Tx,Nat.reduceAdd,if_true,fJ,Kh,k2]
 refine aA (aQ (d:= .str al) ?_) ?_
 ·simp only[ar,d2,dV,dC,dA,aC,aN,ai,SU,Vk,U0,Ui,SO,US,Tc,W6,VY,Nat.reduceSub,Tw,Tx,Nat.reduceAdd,if_true,fJ,MH,fM,cH,Nat.reduceLeDiff,e4]
 refine aA (aQ rfl) ?_;refine aA (Ey (mH (by omega)) f1) ?_;exact aI rfl
def xG(ns:List Int)(hl:ns.length<=63)(at' mo:Nat)(m0:0<mo)(m5:mo<=5):∃bd W,Good bd W/\(∀r∈bd,Ql r)/\bd.length<=mo/\W<=mo/\dW [.scr ns, .int (at':Int), .int (mo:Int)]=aa (brd bd):=
 let ⟨bd,W,h1,h3,h2⟩:=xH ns hl at' mo m0 m5
 ⟨bd,W,h1,λr hr c hc=>(h3 r hr c hc).1,h2⟩
def xI(ns:List Int)(hl:ns.length<=63)(at' mo:Nat)(m0:0<mo)(m5:mo<=5):∃bd W,Good bd W/\bd.length<=mo/\W<=mo/\dW [.scr ns, .int (at':Int), .int (mo:Int)]=aa (brd bd):=
 let ⟨bd,W,h1,_,h2⟩:=xG ns hl at' mo m0 m5
 ⟨bd,W,h1,h2⟩
def Plain:D->Prop
 | .non | .bl _ | .int _ | .str _ | .tup _ | .lst _=>True
 |_=>False
def isStr:D->Bool
 | .str _=>true
 |_=>false
def isTup:D->Bool
 | .tup _=>true
 |_=>false
def f6{d:D}(h:Plain d):iZ [d, .raw (.ty "str")]=aa (.bl (isStr d)):=by
 cases d<;>first | rfl | exact h.elim
def oG{d:D}(h:Plain d):iZ [d, .raw (.ty "tuple")]=aa (.bl (isTup d)):=by
 cases d<;>first | rfl | exact h.elim
def t7:D->Bool
 | .str x=>(x.length==1)&&FQ x
 |_=>false
def kB{i:Nat}{d:D}(h:ρ[i]? =some (fz d)):dV i ρ=aa d:=by
 unfold dV;rw[h]
def eq_int(i j:Int):l_ (.int i) (.int j)=aa (.bl (i==j)):=rfl
def ne_int(i j:Int):jO (.int i) (.int j)=aa (.bl (!(i==j))):=rfl
def len_str(x:Str):a7 [.str x]=aa (.int (x.length:Int)):=rfl
def in_str(x:Str):pj false (.str x) (.str "abcdef")=aa (.bl (FQ x)):=rfl
def nr(a b:Nat):((a:Int)==(b:Int))=(a==b):=by
 by_cases h:a=b
 ·subst h;simp
 ·have h2:¬(a:Int)=(b:Int):=by omega
  rw[Zc.mpr h,Zc.mpr h2]
def F8(h:Plain d){i:Nat}{ρ:aO}(hρ:ρ[i]? =some (fz d)):
 d5 (dA iZ (aC (dV i) (aC (dC (.raw (.ty "str"))) aN))) (d5 (d2 l_ (dA a7 (aC (dV i) aN)) (dC (.int 1))) (d2 (pj false) (dV i) (dC (.str "abcdef")))) ρ=aa (.bl (t7 d)):=by
 have hv:=kB hρ;have e1:=nr;cases d with
 |str x=>
  have k:((x.length:Int)==1)=(x.length==1):=nr x.length 1;simp only[d5,dA,aC,aN,dC,d2,hv,ai,f6 h,isStr,B3,if_true,len_str,eq_int,k,in_str,t7];cases x.length==1<;>rfl
 |non=>simp only[d5,dA,aC,aN,dC,d2,hv,ai,f6 h,isStr,B3,if_false,Tt,t7]
 |bl b=>simp only[d5,dA,aC,aN,dC,d2,hv,ai,f6 h,isStr,B3,if_false,Tt,t7]
 |int b=>simp only[d5,dA,aC,aN,dC,d2,hv,ai,f6 h,isStr,B3,if_false,Tt,t7]
 |tup b=>simp only[d5,dA,aC,aN,dC,d2,hv,ai,f6 h,isStr,B3,if_false,Tt,t7]
 |lst b=>simp only[d5,dA,aC,aN,dC,d2,hv,ai,f6 h,isStr,B3,if_false,Tt,t7]
 |raw _=>exact h.elim
 |exc _=>exact h.elim
 |scr _=>exact h.elim
 |dct _ _=>exact h.elim
 |dci _ _=>exact h.elim
def q0{d:D}(h:Plain d):cZ [d]=aa (.bl (t7 d)):=bh (aI (F8 h rfl))
def jQ(x:Str):Bool:=x.cps.toList.all λc=>FQ ⟨#[c]⟩
def oj:D->Bool
 | .str x=>(decide (1<=x.length)&&decide (x.length<=8))&&jQ x
 |_=>false
def AK(l:List Bool):bools (l.map D.bl)=some l:=by
 induction l with
 |nil=>rfl
 |cons b r ih=>show (bools (r.map D.bl)).map _=_;rw[ih];rfl
def all_map(l:List Bool):allM [.lst (l.map D.bl)]=aa (.bl (l.all id)):=by
 show (match bools (l.map D.bl) with | some bs=>aa (D.bl (bs.all id)) | none=>af)=_;rw[AK]
def Cm{ρ:aO}{n:Nat}(h:δ ρ=aa (.int (n:Int))):
 eA (xQ (λi j=>decide (i<=j)) (λi j=>decide (i<=j)) (dC (.int 1)) δ (dC (.int 8))) ρ=aa (decide (1<=n)&&decide (n<=8)):=by
 have k1:decide ((1:Int)<=(n:Int))=decide (1<=n):=by by_cases h:1<=n<;>simp[h]<;>omega
 have k2:decide ((n:Int)<=8)=decide (n<=8):=by by_cases h:n<=8<;>simp[h]<;>omega
 simp only[eA,xQ,dC,h,ai,k1,k2,gI,B3];cases decide (1<=n)<;>rfl
def yf(h:Plain d):fF [d]=aa (.bl (oj d)):=by
 refine bh ?_;have hρ:([d].map (λd=>some (Sl.fz d))++Tc (1 - [d].length) none)=[fz d]:=rfl;rw[hρ];have hv:dV 0 [fz d]=aa d:=rfl;have no:isStr d=false->xl [fz d]=aa (.rt (.bl false)):=λhs=>by
  refine ei (gc ?_ (aI rfl));simp only[tJ,cS,ck,dA,aC,aN,dC,hv,ai,f6 h,hs,xf,WN,if_true]
 cases d with
 |str x=>
  have hi:ck (dA iZ (aC (dV 0) (aC (dC (.raw (.ty "str"))) aN))) [fz (.str x)]=aa true:=by
   simp only[ck,dA,aC,aN,dC,hv,ai,f6 h,isStr,xf]
  have hl:dA a7 (aC (dV 0) aN) [fz (.str x)]=aa (.int (x.length:Int)):=rfl;have hc:=Cm hl;by_cases hr:(decide (1<=x.length)&&decide (x.length<=8))=true
  ·rw[hr] at hc;refine aA (dD ?_ rfl) (aI ?_)
   ·unfold tJ cS;rw[hi,ai,ai,hc];rfl
   ·have hb:x.length<=8:=by simp only[Tp,Zb] at hr;exact hr.2
    have cm:aR 0 (λρ=>(dV 0) ρ>>=EE) bb (ar 1 cZ (aC (dV 0) aN)) [fz (.str x)]=aa (.lst ((x.cps.toList.map λc=>FQ ⟨#[c]⟩).map D.bl)):=by
     refine bw rfl ?_ ?_
     ·have:=gz (f:=fW 0 bb (ar 1 cZ (aC (dV 0) aN)) [fz (.str x)]) (g:=λd=>D.bl (t7 d)) (signs x) λd hd=>by
       rw[fE];obtain⟨c,_,rfl⟩:=S7.mp hd;show (cZ [.str ⟨#[c]⟩]>>=λy=>aa (some y))=_;rw[q0 (d:= .str ⟨#[c]⟩) trivial];rfl
      rw[this];unfold signs;rw[Tf,Tf];congr 1
     ·rw[SI,SI,Td,cH];exact Tn hb (by decide)
    rw[bz (ay cm rfl),all_map];show aa (D.bl ((x.cps.toList.map λc=>FQ ⟨#[c]⟩).all id))=aa (D.bl ((decide (1<=x.length)&&decide (x.length<=8))&&jQ x));rw[hr];unfold jQ;rw[VZ];rfl
  ·have hr:(decide (1<=x.length)&&decide (x.length<=8))=false:=by simpa using hr
   rw[hr] at hc;have:oj (.str x)=false:=by
    show ((decide (1<=x.length)&&decide (x.length<=8))&&jQ x)=false;rw[hr];rfl
   rw[this];refine ei (gc ?_ (aI rfl));unfold tJ cS;rw[hi,ai,ai,hc];rfl
 |non=>exact no rfl
 |bl b=>exact no rfl
 |int b=>exact no rfl
 |tup b=>exact no rfl
 |lst b=>exact no rfl
 |raw _=>exact h.elim
 |exc _=>exact h.elim
 |scr _=>exact h.elim
 |dct _ _=>exact h.elim
 |dci _ _=>exact h.elim
def kG:D->Nat
 | .str x=>x.length
 |_=>0
def oZ:D->Bool
 | .tup ds=>(decide (1<=ds.length)&&decide (ds.length<=8))&&(ds.all oj&&ds.all λd=>kG d==kG (ds.headD .non))
 |_=>false
def Plain2:D->Prop
 | .tup ds=>∀d∈ds,Plain d
 |d=>Plain d
def Plain2.plain{d:D}(h:Plain2 d):Plain d:=by
 cases d<;>first | exact h | exact trivial
def RN{i:Nat}{ds:List D}(h:ρ[i]? =some (fz (.tup ds))):gA (dV i) ρ=aa ds:=by
 unfold gA;rw[kB h];rfl
def F7{ds:List D}:a7 [.tup ds]=aa (.int (ds.length:Int)):=rfl
def Og{r:List D}(h:ds=d::r):aZ (.tup ds) (.int 0)=aa d:=by
 subst h;show (match L2.atI (d::r) ((0:Nat):Int) with | some d=>aa d | none=>af)=_;rw[gu (x:=d) rfl]
def GX{d:D}(h:oj d=true):∃x,d= .str x:=by
 cases d<;>first | exact⟨_,rfl⟩ | cases h
def A1{d:D}(h:Plain d):tJ (cS (ck (dA iZ (aC (dV 0) (aC (dC (.raw (.ty "tuple"))) aN))))) (cS (eA (xQ (λi j=>decide (i<=j)) (λi j=>decide (i<=j)) (dC (.int 1)) (dA a7 (aC (dV 0) aN)) (dC (.int 8))))) [fz d]=
 aa (match d with | .tup ds=>!(decide (1<=ds.length)&&decide (ds.length<=8)) | _=>true):=by
 have hv:dV 0 [fz d]=aa d:=rfl;have no:isTup d=false->tJ (cS (ck (dA iZ (aC (dV 0) (aC (dC (.raw (.ty "tuple"))) aN))))) (cS (eA (xQ (λi j=>decide (i<=j)) (λi j=>decide (i<=j)) (dC (.int 1)) (dA a7 (aC (dV 0) aN)) (dC (.int 8))))) [fz d]=aa true:=λhs=>by
  simp only[tJ,cS,ck,dA,aC,aN,dC,hv,ai,oG h,hs,xf,WN,if_true]
 cases d with
 |tup ds=>
  have hi:ck (dA iZ (aC (dV 0) (aC (dC (.raw (.ty "tuple"))) aN))) [fz (.tup ds)]=aa true:=by
   simp only[ck,dA,aC,aN,dC,hv,ai,oG h,isTup,xf]
  have hl:dA a7 (aC (dV 0) aN) [fz (.tup ds)]=aa (.int (ds.length:Int)):=rfl;unfold tJ cS;rw[hi,ai,ai,Cm hl];rfl
 |non=>exact no rfl
 |bl b=>exact no rfl
 |int b=>exact no rfl
 |str b=>exact no rfl
 |lst b=>exact no rfl
 |raw _=>exact h.elim
 |exc _=>exact h.elim
 |scr _=>exact h.elim
 |dct _ _=>exact h.elim
 |dci _ _=>exact h.elim
def all_rows(h:∀d∈ds,Plain d)(hl:ds.length<=8):dA allM (aC (aR 0 (gA (dV 0)) bb (ar 1 fF (aC (dV 0) aN))) aN) [fz (.tup ds)]=aa (.bl (ds.all oj)):=by
 have cm:aR 0 (gA (dV 0)) bb (ar 1 fF (aC (dV 0) aN)) [fz (.tup ds)]=aa (.lst ((ds.map oj).map D.bl)):=by
  refine bw (ds:=ds) rfl ?_ (by rw[SI,SI,cH];omega);rw[Tf];refine gz (g:=D.bl∘oj) ds λd hd=>?_;rw[fE];show (fF [d]>>=λy=>aa (some y))=_;rw[yf (h d hd)];rfl
 rw[bz (ay cm rfl),all_map,VZ];rfl
def all_lens(hs:∀d∈ds,∃x,d= .str x)(h0:1<=ds.length)(hl:ds.length<=8):
 dA allM (aC (aR 0 (gA (dV 0)) bb (d2 l_ (dA a7 (aC (dV 0) aN)) (dA a7 (aC (d2 aZ (dV 1) (dC (.int 0))) aN)))) aN) [fz (.tup ds)]=aa (.bl (ds.all λd=>kG d==kG (ds.headD .non))):=by
 obtain⟨d0,r,e0⟩:∃d0 r,ds=d0::r:=by
  cases ds with
  |nil=>simp at h0
  |cons a r=>exact⟨a,r,rfl⟩
 have hh:ds.headD .non=d0:=by rw[e0];rfl
 obtain⟨x0,P2⟩:=hs d0 (by rw[e0];exact SM ..);have cm:aR 0 (gA (dV 0)) bb (d2 l_ (dA a7 (aC (dV 0) aN)) (dA a7 (aC (d2 aZ (dV 1) (dC (.int 0))) aN))) [fz (.tup ds)]=aa (.lst ((ds.map λd=>kG d==kG (ds.headD .non)).map D.bl)):=by
  refine bw (ds:=ds) rfl ?_ (by rw[SI,SI,cH];omega);rw[Tf];refine gz (g:=D.bl∘λd=>kG d==kG (ds.headD .non)) ds λd hd=>?_;rw[fE];obtain⟨x,rfl⟩:=hs d hd;have k:((x.length:Int)==(x0.length:Int))=(x.length==x0.length):=nr _ _;have i0:aZ (.tup ds) (.int 0)=aa (.str x0):=by rw[Og e0,P2]
  have Q9:ds.headD .non= .str x0:=by rw[hh,P2]
  simp only[d2,dA,aC,aN,dC,dV,ai,Tw,Tx,len_str,i0,eq_int,k,Y5,kG,Q9]
 rw[bz (ay cm rfl),all_map,VZ];rfl
def tY{d:D}(h:Plain2 d):g_ [d]=aa (.bl (oZ d)):=by
 refine bh ?_;have hρ:([d].map (λd=>some (Sl.fz d))++Tc (1 - [d].length) none)=[fz d]:=rfl;rw[hρ];have hf:=A1 h.plain;have no:(∀ds,d≠ .tup ds)->qP [fz d]=aa (.rt (.bl (oZ d))):=λhn=>by
  cases d<;>first | exact Y9 rfl (hn _) | exact ei (gc hf (aI rfl))
 cases d with
 |tup ds=>
  have hf:_=aa (!(decide (1<=ds.length)&&decide (ds.length<=8))):=hf;by_cases hr:(decide (1<=ds.length)&&decide (ds.length<=8))=true
  ·rw[hr] at hf;have hb:=hr;simp only[Tp,Zb] at hb;have e:oZ (.tup ds)=(ds.all oj&&ds.all λd=>kG d==kG (ds.headD .non)):=by
    show ((decide (1<=ds.length)&&decide (ds.length<=8))&&_)=_;rw[hr,W9]
   rw[e];have a1:=all_rows h hb.2;refine aA (dD hf rfl) ?_;cases hc:ds.all oj with
   |false=>
    rw[hc] at a1;refine ei (gc ?_ (aI rfl));unfold cS ck;rw[a1];rfl
   |true=>
    rw[hc] at a1;refine aA (dD ?_ rfl) (aI ?_)
    ·unfold cS ck;rw[a1];rfl
    ·rw[W9];exact all_lens (λd hd=>GX (Uk.mp hc d hd)) hb.1 hb.2
  ·have hr:(decide (1<=ds.length)&&decide (ds.length<=8))=false:=by simpa using hr
   rw[hr] at hf;have e:oZ (.tup ds)=false:=by
    show ((decide (1<=ds.length)&&decide (ds.length<=8))&&_)=_;rw[hr];rfl
   rw[e];exact ei (gc hf (aI rfl))
 |non=>exact no λ_ z=>by cases z
 |bl b=>exact no λ_ z=>by cases z
 |int b=>exact no λ_ z=>by cases z
 |str b=>exact no λ_ z=>by cases z
 |lst b=>exact no λ_ z=>by cases z
 |raw _=>exact h.elim
 |exc _=>exact h.elim
 |scr _=>exact h.elim
 |dct _ _=>exact h.elim
 |dci _ _=>exact h.elim
structure Ln (V:Nat) (r:Str):Prop where
 len:r.length=V
structure Brd (ob:List Str) (V:Nat):Prop where
 r1:1<=ob.length
 r8:ob.length<=8
 w1:1<=V
 w8:V<=8
 rows:∀r∈ob,Ln V r
def Good.brd(hg:Good bd W):Brd bd W:=⟨hg.r1,by have:=hg.r5;omega,hg.w1,by have:=hg.w5;omega,λr hr=>⟨(hg.rows r hr).len⟩⟩
def Brd.board{V:Nat}(h:Brd ob V)(hl:∀r∈ob,∀c∈r.cps.toList,FQ ⟨#[c]⟩=true):oZ (brd ob)=true:=by
 have N8:∀r∈ob,oj (.str r)=true:=λr hr=>by
  have q:=h.rows r hr;show ((decide (1<=r.length)&&decide (r.length<=8))&&jQ r)=true;rw[q.len];have a:decide (1<=V)=true:=Y8 h.w1;have b:decide (V<=8)=true:=Y8 h.w8;rw[a,b];show jQ r=true;exact Uk.mpr λc hc=>hl r hr c hc
 have h0:kG ((ob.map D.str).headD .non)=V:=by
  have:=h.r1;have hr:=h.rows;cases ob with
  |nil=>simp at this
  |cons x l=>exact(hr x (SM ..)).len
 show ((decide (1<=(ob.map D.str).length)&&decide ((ob.map D.str).length<=8))&&((ob.map D.str).all oj&&(ob.map D.str).all λd=>kG d==kG ((ob.map D.str).headD .non)))=true;rw[h0,SI,Y8 h.r1,Y8 h.r8];have a:(ob.map D.str).all oj=true:=Uk.mpr λd hd=>by
  obtain⟨r,hr,rfl⟩:=S7.mp hd;exact N8 r hr
 have b:((ob.map D.str).all λd=>kG d==V)=true:=Uk.mpr λd hd=>by
  obtain⟨r,hr,rfl⟩:=S7.mp hd;show (r.length==V)=true;rw[(h.rows r hr).len];simp
 rw[a,b];rfl
def AM:Plain2 (brd bd):=λd hd=>by
 obtain⟨r,_,rfl⟩:=S7.mp hd;trivial
def l7(h:δ ρ=aa (.bl b)):ck δ ρ=aa b:=by
 unfold ck;rw[h];rfl
def ke(h:δ ρ=aa (.bl b)):eA δ ρ=aa b:=by
 unfold eA;rw[h];rfl
def tI(h:τ ρ=aa b):cS τ ρ=aa (!b):=by
 unfold cS;rw[h];rfl
def zA(h1:a ρ=aa (.bl p))(h2:c ρ=aa (.bl q)):d5 a c ρ=aa (.bl (p&&q)):=by
 unfold d5;rw[h1,ai];cases p
 ·rfl
 ·exact h2
def KH(h:c ρ=aa p):Hz c a b ρ=if p then a ρ else b ρ:=by
 unfold Hz;rw[h];rfl
def tR{V:Nat}(h:Good ob V):a_ [brd ob]=aa .non:=by
 refine As (dD (tI (l7 (b:=true) ?_)) rfl);refine(ax (ds:=[brd ob]) rfl rfl).trans ?_;rw[tY AM,h.brd.board λr hr=>(h.rows r hr).let']
structure Wd (ob:List Str) (V:Nat):Prop where
 r1:1<=ob.length
 r8:ob.length<=8
 w1:1<=V
 w8:V<=8
 rows:∀r∈ob,Ln V r
def Brd.wd{V:Nat}(h:Brd ob V):Wd ob V:=⟨h.r1,h.r8,h.w1,h.w8,λr hr=>⟨(h.rows r hr).len⟩⟩
def Wd.len0{V:Nat}(h:Wd ob V)(hρ:ρ[i]? =some (fz (brd ob))):dA a7 (aC (d2 aZ (dV i) (dC (.int 0))) aN) ρ=aa (.int (V:Int)):=by
 have h1:=h.r1;have hr:=h.rows;obtain⟨x,l,e⟩:∃x l,ob=x::l:=by
  cases ob with
  |nil=>simp at h1
  |cons x l=>exact⟨x,l,rfl⟩
 have hx:x.length=V:=(hr x (by rw[e];exact SM ..)).len;have i0:aZ (brd ob) (.int 0)=aa (.str x):=Og (show ob.map D.str=D.str x::l.map D.str by rw[e];rfl);have k:=aF (g:=aZ) (kB hρ) (show dC (.int 0) ρ=aa (.int 0) from rfl);rw[i0] at k;rw[bz (ay k rfl)];show aa (D.int (x.length:Int))=_;rw[hx]
theorem Brd.len0{V:Nat}(h:Brd ob V)(hρ:ρ[i]? =some (fz (brd ob))):dA a7 (aC (d2 aZ (dV i) (dC (.int 0))) aN) ρ=aa (.int (V:Int)):=h.wd.len0 hρ
def De(hρ:ρ[i]? =some (fz (brd bd))):dA a7 (aC (dV i) aN) ρ=aa (.int (bd.length:Int)):=by
 have:a7 [brd bd]=aa (.int (bd.length:Int)):=by
  show aa (D.int ((bd.map D.str).length:Int))=_;rw[SI]
 simp only[dA,aC,aN,kB hρ,ai,this]
def iN:D->Bool
 | .int _=>true
 |_=>false
def sZ(h:Plain d):bA [d]=aa (.bl (iN d)):=by
 cases d<;>first | rfl | exact h.elim
def KC(R W:Nat):D->D->Bool
 | .int a, .int b=>(decide (0<=a)&&decide (a<(R:Int)))&&(decide (0<=b)&&decide (b<(W:Int)))
 |_,_=>false
def Hy(R W:Nat):D->Bool
 | .tup [u,v]=>KC R W u v
 |_=>false
def KG(h:δ ρ=aa (.int i))(h2:ε ρ=aa (.int n)):
 xQ (λi j=>decide (i<=j)) (λi j=>decide (i<j)) (dC (.int 0)) δ ε ρ=aa (.bl (decide (0<=i)&&decide (i<n))):=by
 simp only[xQ,dC,h,h2,ai,gI];cases decide (0<=i)<;>rfl
def LF:aZ (.tup [d,e]) (.int 0)=aa d/\aZ (.tup [d,e]) (.int 1)=aa e:=⟨rfl,rfl⟩
def vO(hg:Brd bd W)(h:Plain2 d):jN [brd bd,d]=aa (.bl (Hy bd.length W d)):=by
 refine bh ?_;have hρ:([brd bd,d].map (λd=>some (Sl.fz d))++Tc (2 - [brd bd,d].length) none)=[fz (brd bd),fz d]:=rfl;rw[hρ];have hv:dV 1 [fz (brd bd),fz d]=aa d:=rfl;have no:isTup d=false->s_ [fz (brd bd),fz d]=aa (.rt (.bl false)):=λhs=>by
  refine ei (gc ?_ (aI rfl));simp only[tJ,cS,ck,dA,aC,aN,dC,hv,ai,oG h.plain,hs,xf,WN,if_true]
 cases d with
 |tup ds=>
  have hi:cS (ck (dA iZ (aC (dV 1) (aC (dC (.raw (.ty "tuple"))) aN)))) [fz (brd bd),fz (.tup ds)]=aa false:=by
   simp only[cS,ck,dA,aC,aN,dC,hv,ai,oG h.plain,isTup,xf,Bool.not_true]
  have k:((ds.length:Int)==2)=(ds.length==2):=nr ds.length 2;have hl:tJ (cS (ck (dA iZ (aC (dV 1) (aC (dC (.raw (.ty "tuple"))) aN))))) (eA (d2 jO (dA a7 (aC (dV 1) aN)) (dC (.int 2)))) [fz (brd bd),fz (.tup ds)]=aa (!(ds.length==2)):=by
   unfold tJ;rw[hi];simp only[eA,d2,dA,aC,aN,dC,hv,ai,F7,ne_int,k,B3,Tt,if_false]
  match ds,h,hl with
  |[],h,hl=>exact ei (gc hl (aI rfl))
  |[_],h,hl=>exact ei (gc hl (aI rfl))
  |_::_::_::_,h,hl=>
   refine ei (gc (hl.trans ?_) (aI rfl));simp
  |[u,v],h,hl=>
   refine aA (dD hl rfl) ?_;have pu:Plain u:=h u (by simp);have pv:Plain v:=h v (by simp);have w1:ar 1 bA (aC (d2 aZ (dV 1) (dC (.int 0))) aN) [fz (brd bd),fz (.tup [u,v])]=aa (.bl (iN u)):=sZ pu;have w2:ar 1 bA (aC (d2 aZ (dV 1) (dC (.int 1))) aN) [fz (brd bd),fz (.tup [u,v])]=aa (.bl (iN v)):=sZ pv;have hw:tJ (cS (ck (ar 1 bA (aC (d2 aZ (dV 1) (dC (.int 0))) aN)))) (cS (ck (ar 1 bA (aC (d2 aZ (dV 1) (dC (.int 1))) aN)))) [fz (brd bd),fz (.tup [u,v])]=aa (!(iN u&&iN v)):=by
    unfold tJ cS ck;rw[w1,w2];simp only[ai,xf];cases iN u<;>cases iN v<;>rfl
   have bad:(iN u&&iN v)=false->a8 (iC (tJ (cS (ck (ar 1 bA (aC (d2 aZ (dV 1) (dC (.int 0))) aN)))) (cS (ck (ar 1 bA (aC (d2 aZ (dV 1) (dC (.int 1))) aN))))) (bo (dC (.bl false))) di) (bo (d5 (xQ (λi j=>decide (i<=j)) (λi j=>decide (i<j)) (dC (.int 0)) (d2 aZ (dV 1) (dC (.int 0))) (dA a7 (aC (dV 0) aN))) (xQ (λi j=>decide (i<=j)) (λi j=>decide (i<j)) (dC (.int 0)) (d2 aZ (dV 1) (dC (.int 1))) (dA a7 (aC (d2 aZ (dV 0) (dC (.int 0))) aN))))) [fz (brd bd),fz (.tup [u,v])]=aa (.rt (.bl false)):=λhz=>by
    rw[hz] at hw;exact ei (gc hw (aI rfl))
   match u,v,hw,bad with
   | .int a, .int b,hw,bad=>
     refine aA (dD hw rfl) (aI ?_);obtain⟨x0,r,e0⟩:∃x0 r,bd=x0::r:=by
      have:=hg.r1;cases bd with
      |nil=>simp at this
      |cons x r=>exact⟨x,r,rfl⟩
     have hx:x0.length=W:=(hg.rows x0 (by rw[e0];simp)).len;have l0:dA a7 (aC (dV 0) aN) [fz (brd bd),fz (.tup [.int a, .int b])]=aa (.int (bd.length:Int)):=by
      show aa (D.int ((bd.map D.str).length:Int))=_;rw[SI]
     have l1:dA a7 (aC (d2 aZ (dV 0) (dC (.int 0))) aN) [fz (brd bd),fz (.tup [.int a, .int b])]=aa (.int (W:Int)):=by
      have i0:aZ (brd bd) (.int 0)=aa (.str x0):=Og (by rw[e0];rfl);simp only[dA,aC,aN,d2,dC,dV,Tw,ai,i0,len_str,hx]
     have c1:=KG (δ:=d2 aZ (dV 1) (dC (.int 0))) rfl l0;have c2:=KG (δ:=d2 aZ (dV 1) (dC (.int 1))) rfl l1;unfold d5;rw[c1,ai];show (if (decide (0<=a)&&decide (a<(bd.length:Int)))=true then _ else _)=aa (D.bl ((decide (0<=a)&&decide (a<(bd.length:Int)))&&(decide (0<=b)&&decide (b<(W:Int)))));cases (decide (0<=a)&&decide (a<(bd.length:Int)))
     ·rfl
     ·rw[Y6 rfl,c2,W9]
   | .non,_,_,bad=>exact bad rfl
   | .bl _,_,_,bad=>exact bad rfl
   | .str _,_,_,bad=>exact bad rfl
   | .tup _,_,_,bad=>exact bad rfl
   | .lst _,_,_,bad=>exact bad rfl
   | .raw _,_,_,_=>exact pu.elim
   | .exc _,_,_,_=>exact pu.elim
   | .scr _,_,_,_=>exact pu.elim
   | .int a, .non,_,bad=>exact bad rfl
   | .int a, .bl _,_,bad=>exact bad rfl
   | .int a, .str _,_,bad=>exact bad rfl
   | .int a, .tup _,_,bad=>exact bad rfl
   | .int a, .lst _,_,bad=>exact bad rfl
   | .int a, .raw _,_,_=>exact pv.elim
   | .int a, .exc _,_,_=>exact pv.elim
   | .int a, .scr _,_,_=>exact pv.elim
 |non=>exact no rfl
 |bl b=>exact no rfl
 |int b=>exact no rfl
 |str b=>exact no rfl
 |lst b=>exact no rfl
 |raw _=>exact h.elim
 |exc _=>exact h.elim
 |scr _=>exact h.elim
 |dct _ _=>exact h.elim
 |dci _ _=>exact h.elim
abbrev Cell:=Nat×Nat
def cD(c:Cell):D:= .tup [.int (c.1:Int), .int (c.2:Int)]
def On(R W:Nat)(c:Cell):Prop:=c.1<R/\c.2<W
instance {R W:Nat}{c:Cell}:Decidable (On R W c):=by unfold On;infer_instance
def Ce:Plain2 (cD c):=λd hd=>by
 have:d= .int (c.1:Int)\/d= .int (c.2:Int):=by simpa[cD] using hd
 rcases this with rfl | rfl<;>trivial
def Fm(h:On R W c):Hy R W (cD c)=true:=by
 show ((decide ((0:Int)<=(c.1:Int))&&decide ((c.1:Int)<(R:Int)))&&(decide ((0:Int)<=(c.2:Int))&&decide ((c.2:Int)<(W:Int))))=true;obtain⟨h1,h2⟩:=h;simp;omega
def Brd.nc(hg:Brd bd W)(h:On bd.length W c):fY [brd bd,cD c]=aa .non:=by
 refine As (dD (tI (l7 (b:=true) ?_)) rfl);refine(ax (ds:=[brd bd,cD c]) rfl rfl).trans ?_;rw[vO hg Ce,Fm h]
def Ways(w:Nat):Prop:=w=4\/w=8
def Ways.nw(h:Ways w):cw [iW w]=aa .non:=by
 rcases h with rfl | rfl<;>rfl
def ch(x:Str)(j:Nat):Nat:=x.cps.toList.getD j 0
def at2(bd:List Str)(i j:Nat):Nat:=ch (bd.getD i ⟨#[]⟩) j
abbrev lt(bd:List Str)(c:Cell):Nat:=at2 bd c.1 c.2
def sg(n:Nat):D:= .str ⟨#[n]⟩
def oO{c:Nat}(h:c<x.length):fK (.str x) (.int (c:Int))=aa (sg (ch x c)):=by
 have h':c<x.cps.toList.length:=by rw[Td];exact h
 show (match L2.atI x.cps.toList (c:Int) with | some c=>aa (D.str ⟨#[c]⟩) | none=>af)=_;rw[gu (SK h')];unfold sg ch;rw[S0,SK h'];rfl
def getD_mem{bd:List Str}(h:i<bd.length):bd.getD i ⟨#[]⟩∈bd:=by
 rw[S0,SK h];exact UY h
def C9{i:Nat}(h:i<bd.length):aZ (brd bd) (.int (i:Int))=aa (.str (bd.getD i ⟨#[]⟩)):=by
 show (match L2.atI (bd.map D.str) (i:Int) with | some d=>aa d | none=>af)=_;rw[gu ?_];rw[S2,SK h,S0,SK h];rfl
def eI(hg:Brd bd W)(h:On bd.length W c):aV [brd bd,cD c]=aa (sg (lt bd c)):=by
 refine bh (aI ?_);refine(aF ((aF rfl rfl).trans (C9 h.1)) rfl).trans ?_;exact oO (by rw[(hg.rows _ (getD_mem h.1)).len];exact h.2)
def HD(a b:Nat):l_ (sg a) (sg b)=aa (.bl (decide (a=b))):=by
 show aa (D.bl (decide ((⟨#[a]⟩:Str)=⟨#[b]⟩)))=_;congr 2;by_cases h:a=b
 ·subst h;simp
 ·have:¬((⟨#[a]⟩:Str)=⟨#[b]⟩):=λz=>by
   injection z with z
   exact h (by simpa using z)
  rw[Y_ h,Y_ this]
def iQ(a b:Nat):Nat:=max a b - min a b
def ml(w:Nat)(a b:Cell):Bool:=if w=4 then decide (iQ a.1 b.1+iQ a.2 b.2=1) else decide (max (iQ a.1 b.1) (iQ a.2 b.2)=1)
def zj(a b:Nat):B9 [.int ((a:Int) - (b:Int))]=aa (.int (iQ a b:Int)):=by
 show aa (D.int _)=_;congr 2;unfold iQ;omega
def tj(hw:Ways w)(a b:Cell):dQ [cD a,cD b,iW w]=aa (.bl (ml w a b)):=by
 refine bh ?_;refine aA ((aQ (zj a.1 b.1)).trans rfl) ?_;refine aA ((aQ (zj a.2 b.2)).trans rfl) ?_;rcases hw with rfl | rfl
 ·refine ei (gc (ke rfl) (aI ?_));show aa (D.bl (((iQ a.1 b.1:Int)+(iQ a.2 b.2:Int))==1))=_;unfold ml;rw[Y6 rfl];congr 2;have:((iQ a.1 b.1:Int)+(iQ a.2 b.2:Int))=((iQ a.1 b.1+iQ a.2 b.2:Nat):Int):=by omega
  rw[this];have e:=nr (iQ a.1 b.1+iQ a.2 b.2) 1;exact e.trans rfl
 ·refine aA (dD (ke rfl) rfl) (aI ?_);show aa (D.bl ((if (iQ a.1 b.1:Int)<(iQ a.2 b.2:Int) then(iQ a.2 b.2:Int) else(iQ a.1 b.1:Int))==1))=_;have hn:ml 8 a b=decide (max (iQ a.1 b.1) (iQ a.2 b.2)=1):=rfl;rw[hn];congr 2;have:(if (iQ a.1 b.1:Int)<(iQ a.2 b.2:Int) then(iQ a.2 b.2:Int) else(iQ a.1 b.1:Int))=((max (iQ a.1 b.1) (iQ a.2 b.2):Nat):Int):=by split<;>omega
  rw[this];have e:=nr (max (iQ a.1 b.1) (iQ a.2 b.2)) 1;exact e.trans rfl
def DC(w:Nat)(a b:Cell):ml w a b=ml w b a:=by
 have e:∀x y:Nat,iQ x y=iQ y x:=λx y=>by unfold iQ;rw[Nat.max_comm,Nat.min_comm]
 unfold ml;rw[e a.1,e a.2]
def gG(h1:put d ρ=some ρ1)(h2:body ρ1=aa (.nx ρ2)):forL put body (d::ds) ρ=forL put body ds ρ2:=by
 show (match put d ρ with | none=>af | some ρ1=>body ρ1>>=λo=>match o with | .nx ρ2=>forL put body ds ρ2 | .rt v=>aa (.rt v))=_;rw[h1];show (body ρ1>>=λo=>match o with | .nx ρ2=>forL put body ds ρ2 | .rt v=>aa (.rt v))=_;rw[h2];rfl
section
variable{α σ:Type}{put:D->aO->Option aO}{body:DS}
theorem l9(Zf:α->D)(mk:σ->aO)(step:σ->α->σ)(I:σ->Prop):∀(xs:List α) (s:σ),I s->(∀s,I s->∀x∈xs,I (step s x)/\∃ρ1,put (Zf x) (mk s)=some ρ1/\body ρ1=aa (.nx (mk (step s x))))->
 I (xs.foldl step s)/\forL put body (xs.map Zf) (mk s)=aa (.nx (mk (xs.foldl step s)))
 |[],s,h,_=>⟨h,rfl⟩
 |x::xs,s,h,st=>by
  obtain⟨h2,ρ1,e1,e2⟩:=st s h x (SM ..);obtain⟨h3,e3⟩:=l9 Zf mk step I xs (step s x) h2 λs hs y hy=>st s hs y (SJ _ hy);exact⟨h3,(gG e1 e2).trans e3⟩
theorem gF(Zf:α->D)(mk:List D->aO)(g:α->List D):∀(xs:List α) (v6:List D),(v6++xs.flatMap g).length<=B->(∀x∈xs,∀v6,(v6++g x).length<=B->∃ρ1,put (Zf x) (mk v6)=some ρ1/\body ρ1=aa (.nx (mk (v6++g x))))->
 forL put body (xs.map Zf) (mk v6)=aa (.nx (mk (v6++xs.flatMap g)))
 |[],v6,_,_=>by simp;rfl
 |x::xs,v6,hB,st=>by
  have Po:((v6++g x)++xs.flatMap g).length<=B:=by simpa[UT,Xc] using hB
  obtain⟨ρ1,e1,e2⟩:=st x (SM ..) v6 (Tn (by simp only[S1];omega) Po);have e3:=gF Zf mk g xs (v6++g x) Po λy hy=>st y (SJ _ hy);rw[SU,gG e1 e2,e3,UT,Xc]
end
def kr(h:δi ρ=aa ds)(h2:forL put b ds ρ=m):gT put δi b ρ=m:=by
 unfold gT;rw[h];exact h2
def f9{τ:DS}(h:τ ρ=aa o):(λρ=>noex (τ ρ)) ρ=aa o:=by
 show noex (τ ρ)=_;rw[h];rfl
def wQ(lo n:Nat):gR (lo:Int) n=(TZ lo n).map λ(k:Nat)=>D.int (k:Int):=by
 unfold gR;rw[WK];have:∀(n a:Nat),(TZ a n).map (λ(i:Nat)=>D.int ((lo:Int)+(i:Int)))=(TZ (lo+a) n).map λ(k:Nat)=>D.int (k:Int):=by
  intro n;induction n with
  |zero=>intro a;rfl
  |succ n ih=>
   intro a;rw[VB,VB,SU,SU,ih (a+1)];rfl
 exact this n 0
def BO(h:δ ρ=aa (.int (n:Int)))(hn:n<=4096):(aC δ aN ρ>>=e_)=aa ((S5 n).map λ(k:Nat)=>D.int (k:Int)):=by
 rw[ay h rfl,ai,mH hn,show gR 0 n=gR ((0:Nat):Int) n from rfl,wQ,WK]
def Mi(h:δ ρ=aa (.int (i:Int)))(h2:ε ρ=aa (.int (j:Int)))(hi:i<=4096)(hj:j<=4096):(aC δ (aC ε aN) ρ>>=sR)=aa ((TZ i (j - i)).map λ(k:Nat)=>D.int (k:Int)):=by
 rw[ay h (ay h2 rfl),ai];show (if (-4096<=(i:Int)/\(i:Int)<=4096)/\(-4096<=(j:Int)/\(j:Int)<=4096) then aa (gR (i:Int) ((j:Int) - (i:Int)).toNat) else af)=_;rw[Y6 ⟨⟨by omega,by omega⟩,by omega,by omega⟩,show ((j:Int) - (i:Int)).toNat=j - i by omega,wQ]
def cK(W r:Nat):List Cell:=(S5 W).map λk=>(r,k)
def bq(R W:Nat):List Cell:=(S5 R).flatMap (cK W)
def bB:c∈bq R W↔On R W c:=by
 unfold bq cK On;simp only[List.mem_flatMap,TL,S7];constructor
 ·rintro⟨r,hr,k,hk,rfl⟩;exact⟨hr,hk⟩
 ·rintro⟨h1,h2⟩;exact⟨c.1,h1,c.2,h2,rfl⟩
def c7(R W:Nat):(bq R W).length=R*W:=by
 unfold bq;have:∀l:List Nat,(l.flatMap (cK W)).length=l.length*W:=by
  intro l;induction l with
  |nil=>simp
  |cons a l ih=>rw[UT,S1,ih,SO,Nat.succ_mul];simp[cK];omega
 rw[this,UG]
def gw(hg:Brd bd W)(r:Nat):bt [brd bd, .int (r:Int)]=aa (.lst ((cK W r).map cD)):=by
 have:=hg.w8;refine bh (aI (bw (BO (hg.len0 rfl) (by omega)) ?_ (by simp[cK,cH];omega)));rw[show (cK W r).map cD=((S5 W).map λ(k:Nat)=>D.int (k:Int)).map (λe=> .tup [.int (r:Int),e]) by simp[cK,Tf];intro a _;rfl];exact gz _ λe _=>rfl
def qV(hg:Brd bd W):fX [brd bd]=aa (.lst ((bq bd.length W).map cD)):=by
 have h8:=hg.r8;have w8:=hg.w8;have hm:bd.length*W<=64:=V8 h8 w8;have MQ:(S5 bd.length).flatMap (λr=>(cK W r).map cD)=(bq bd.length W).map cD:=by
  unfold bq;rw[List.map_flatMap]
 have e:=gF (put:=putN 2) (body:=eG [2] (Ex 1 (ar 2 bt (aC (dV 0) (aC (dV 2) aN))))) (λ(k:Nat)=>D.int (k:Int)) (λv6=>[fz (brd bd),some (.ow (.lst v6)),none]) (λr=>(cK W r).map cD) (S5 bd.length) []
  (by rw[Ui,MQ,SI,c7];exact hm) λr hr v6 hB=>by
   refine⟨[fz (brd bd),some (.ow (.lst v6)),fz (.int (r:Int))],rfl,?_⟩;refine(cF (ρ':=[fz (brd bd),some (.ow (.lst (v6++(cK W r).map cD))),fz (.int (r:Int))]) ?_).trans rfl;show (bt [brd bd, .int (r:Int)]>>=λd=>lstM d>>=λes=>if v6.length+es.length<=lim then aa (Out.nx (List.set [fz (brd bd),some (.ow (.lst v6)),fz (.int (r:Int))] 1 (some (.ow (.lst (v6++es)))))) else af)=_;rw[gw hg,ai];show (if v6.length+((cK W r).map cD).length<=lim then aa (Out.nx [fz (brd bd),some (.ow (.lst (v6++(cK W r).map cD))),fz (.int (r:Int))]) else af)=_;rw[Y6 (by rw[S1] at hB;rw[cH];omega)]
 rw[Ui,MQ] at e;refine bh (aA rfl (aA (f9 (kr (BO (De rfl) (by omega)) e)) ?_));rfl
def lA(R W w:Nat)(c:Cell):List Cell:=
 (TZ (c.1 - 1) (min (c.1+2) R - (c.1 - 1))).flatMap λr=>((TZ (c.2 - 1) (min (c.2+2) W - (c.2 - 1))).map λk=>(r,k)).filter (ml w c)
def si(hw:Ways w):x∈lA R W w c↔On R W x/\ml w c x=true:=by
 unfold lA On;simp only[List.mem_flatMap,T1,S7,List.mem_range'_1];constructor
 ·rintro⟨r,⟨h1,h2⟩,⟨k,⟨h3,h4⟩,rfl⟩,h5⟩;refine⟨⟨?_,?_⟩,h5⟩
  ·show r<R;omega
  ·show k<W;omega
 ·rintro⟨⟨h1,h2⟩,h5⟩;have h6:iQ c.1 x.1<=1/\iQ c.2 x.2<=1:=by
   unfold ml at h5;rcases hw with rfl | rfl
   ·have h5:=Za h5;exact⟨h5▸Nat.le_add_right ..,h5▸Nat.le_add_left ..⟩
   ·have h5:=Za h5;exact⟨h5▸Nat.le_max_left ..,h5▸Nat.le_max_right ..⟩
  have g:∀{a b B:Nat},iQ a b<=1->b<B->a - 1<=b/\b<a - 1+(min (a+2) B - (a - 1)):=λ{a b B} h k=>by
   have h1:b<=a+1/\a<=b+1:=by unfold iQ at h;omega
   have h2:min (a+2) B=a+2\/min (a+2) B=B:=by omega
   omega
  exact⟨x.1,g h6.1 h1,⟨x.2,g h6.2 h2,rfl⟩,h5⟩
def sd(R W w:Nat)(c:Cell):(lA R W w c).length<=9:=by
 unfold lA;rw[YG];have h:∀r,(((TZ (c.2 - 1) (min (c.2+2) W - (c.2 - 1))).map λk=>(r,k)).filter (ml w c)).length<=3:=λr=>by
  refine Tn (TV ..) ?_;rw[SI,W7];omega
 have:∀(l:List Nat),(l.map λr=>(((TZ (c.2 - 1) (min (c.2+2) W - (c.2 - 1))).map λk=>(r,k)).filter (ml w c)).length).sum<=3*l.length:=by
  intro l;induction l with
  |nil=>simp
  |cons a l ih=>rw[SU,Vb,SO];have:=h a;omega
 refine Tn (this _) ?_;rw[W7];omega
abbrev nc(b c w:D)(v6:List D)(x4 x5:Option Sl):aO:=[fz b,fz c,fz w,some (.ow (.lst v6)),x4,x5]
def pW(hg:Brd bd W)(hw:Ways w)(hc:On bd.length W c):df [brd bd,cD c,iW w]=aa (.lst ((lA bd.length W w c).map cD)):=by
 have h8:=hg.r8;have w8:=hg.w8;obtain⟨c1,c2⟩:=hc;have Lk:∀n:Nat,yo [.int ((n:Int) - 1), .int 0]=aa (.int ((n - 1:Nat):Int)):=λn=>by
  show aa (D.int (if (0:Int)>(n:Int) - 1 then 0 else(n:Int) - 1))=_;congr 2;split<;>omega
 have Ll:∀n m:Nat,Bm [.int ((n:Int)+2), .int (m:Int)]=aa (.int ((min (n+2) m:Nat):Int)):=λn m=>by
  show aa (D.int (if (m:Int)<(n:Int)+2 then(m:Int) else(n:Int)+2))=_;congr 2;split<;>omega
 have inner:∀(r:Nat) (v6:List D),v6.length<=16->forL (putN 5) (eG [5] (iC (ck (ar 3 dQ (aC (dV 1) (aC (dA dm (aC (dV 4) (aC (dV 5) aN))) (aC (dV 2) aN))))) (oq 3 (dA dm (aC (dV 4) (aC (dV 5) aN)))) di))
  ((TZ (c.2 - 1) (min (c.2+2) W - (c.2 - 1))).map λ(k:Nat)=>D.int (k:Int)) (nc (brd bd) (cD c) (iW w) v6 (fz (.int (r:Int))) none)=
  aa (.nx (nc (brd bd) (cD c) (iW w) (v6++(TZ (c.2 - 1) (min (c.2+2) W - (c.2 - 1))).flatMap λk=>if ml w c (r,k) then [cD (r,k)] else []) (fz (.int (r:Int))) none)):=λr v6 CS=>by
  refine gF (λ(k:Nat)=>D.int (k:Int)) (λv6=>nc (brd bd) (cD c) (iW w) v6 (fz (.int (r:Int))) none) (λk=>if ml w c (r,k) then [cD (r,k)] else []) (B:=64) _ v6 ?_ λk hk v6 hB=>?_
  ·rw[S1,YG];have:∀l:List Nat,(l.map λk=>(if ml w c (r,k) then [cD (r,k)] else []).length).sum<=l.length:=by
    intro l;induction l with
    |nil=>simp
    |cons a l ih=>rw[SU,Vb,SO];split<;>simp<;>omega
   have h2:=this (TZ (c.2 - 1) (min (c.2+2) W - (c.2 - 1)));rw[W7] at h2;omega
  ·refine⟨nc (brd bd) (cD c) (iW w) v6 (fz (.int (r:Int))) (fz (.int (k:Int))),rfl,?_⟩;have ht:ck (ar 3 dQ (aC (dV 1) (aC (dA dm (aC (dV 4) (aC (dV 5) aN))) (aC (dV 2) aN)))) (nc (brd bd) (cD c) (iW w) v6 (fz (.int (r:Int))) (fz (.int (k:Int))))=aa (ml w c (r,k)):=
    l7 ((ax rfl rfl).trans (tj hw c (r,k)))
   cases hn:ml w c (r,k) with
   |true=>
    rw[hn] at ht;rw[hn,Y6 rfl,S1] at hB;refine(cF (ρ':=nc (brd bd) (cD c) (iW w) (v6++[cD (r,k)]) (fz (.int (r:Int))) (fz (.int (k:Int)))) (gc ht ?_)).trans rfl;show (if v6.length<lim then aa (Out.nx (nc (brd bd) (cD c) (iW w) (v6++[cD (r,k)]) (fz (.int (r:Int))) (fz (.int (k:Int))))) else af)=_;rw[Y6 (by rw[cH];simp at hB;omega)]
   |false=>
    rw[hn] at ht;refine(cF (dD ht rfl)).trans ?_;simp;rfl
 have flt:∀r,((TZ (c.2 - 1) (min (c.2+2) W - (c.2 - 1))).flatMap λk=>if ml w c (r,k) then [cD (r,k)] else [])=(((TZ (c.2 - 1) (min (c.2+2) W - (c.2 - 1))).map λk=>(r,k)).filter (ml w c)).map cD:=λr=>by
  generalize TZ (c.2 - 1) (min (c.2+2) W - (c.2 - 1))=l;induction l with
  |nil=>rfl
  |cons a l ih=>
   rw[UT,ih,SU,VC];cases ml w c (r,a)<;>rfl
 have tot:(TZ (c.1 - 1) (min (c.1+2) bd.length - (c.1 - 1))).flatMap (λr=>(((TZ (c.2 - 1) (min (c.2+2) W - (c.2 - 1))).map λk=>(r,k)).filter (ml w c)).map cD)=(lA bd.length W w c).map cD:=by
  unfold lA;rw[List.map_flatMap]
 have outer:=gF (put:=putN 4) (body:=eG [4,5] (gT (putN 5) (λρ=>(aC (dA yo (aC (d2 fV (d2 aZ (dV 1) (dC (.int 1))) (dC (.int 1))) (aC (dC (.int 0)) aN))) (aC (dA Bm (aC (d2 dR (d2 aZ (dV 1) (dC (.int 1))) (dC (.int 2))) (aC (dA a7 (aC (d2 aZ (dV 0) (dC (.int 0))) aN)) aN))) aN)) ρ>>=sR) (eG [5] (iC (ck (ar 3 dQ (aC (dV 1) (aC (dA dm (aC (dV 4) (aC (dV 5) aN))) (aC (dV 2) aN))))) (oq 3 (dA dm (aC (dV 4) (aC (dV 5) aN)))) di))))
  (λ(k:Nat)=>D.int (k:Int)) (λv6=>nc (brd bd) (cD c) (iW w) v6 none none) (λr=>(((TZ (c.2 - 1) (min (c.2+2) W - (c.2 - 1))).map λk=>(r,k)).filter (ml w c)).map cD) (TZ (c.1 - 1) (min (c.1+2) bd.length - (c.1 - 1))) []
  (by rw[Ui,tot,SI];have:=sd bd.length W w c;omega) λr hr v6 hB=>by
   refine⟨nc (brd bd) (cD c) (iW w) v6 (fz (.int (r:Int))) none,rfl,?_⟩;have e:=inner r v6 (by rw[S1] at hB;omega);rw[flt r] at e;refine(cF (kr (Mi ?_ ?_ (by omega) (by omega)) e)).trans rfl
   ·exact(bz rfl).trans (Lk c.2)
   ·refine(bz ?_).trans (Ll c.2 W);exact ay (show d2 dR (d2 aZ (dV 1) (dC (.int 1))) (dC (.int 2)) (nc (brd bd) (cD c) (iW w) v6 (fz (.int (r:Int))) none)=aa (.int ((c.2:Int)+2)) from rfl) (ay (hg.len0 rfl) rfl)
 rw[Ui,tot] at outer;refine bh (aA rfl (aA (f9 (kr (Mi ?_ ?_ (by omega) (by omega)) outer)) ?_))
 ·exact(bz rfl).trans (Lk c.1)
 ·refine(bz ?_).trans (Ll c.1 bd.length);exact ay (show d2 dR (d2 aZ (dV 1) (dC (.int 0))) (dC (.int 2)) (nc (brd bd) (cD c) (iW w) [] none none)=aa (.int ((c.1:Int)+2)) from rfl) (ay (De rfl) rfl)
 ·rfl
def bp(bd:List Str)(W w:Nat)(c:Cell):List Cell:=(lA bd.length W w c).filter λx=>decide (lt bd x=lt bd c)
def eE(hw:Ways w):x∈bp bd W w c↔On bd.length W x/\ml w c x=true/\lt bd x=lt bd c:=by
 unfold bp;rw[T1,si hw,Zb,and_assoc]
def Bi(bd:List Str)(W w:Nat)(c:Cell):(bp bd W w c).length<=9:=Tn (TV ..) (sd ..)
theorem rG(Zf:α->D)(p:α->Bool):∀(xs:List α),(∀x∈xs,f (Zf x)=aa (if p x then some (Zf x) else none))->cX f (xs.map Zf)=aa ((xs.filter p).map Zf)
 |[],_=>rfl
 |x::xs,h=>by
  rw[SU,dP,h x (SM ..),ai,rG Zf p xs λy hy=>h y (SJ _ hy),VC];cases p x<;>rfl
def pL(hg:Brd bd W)(hw:Ways w)(hc:On bd.length W c):cy [brd bd,cD c,iW w]=aa (.lst ((bp bd W w c).map cD)):=by
 refine bh (aA (ρ':=[fz (brd bd),fz (cD c),fz (iW w),fz (sg (lt bd c))]) ((aQ ((ax rfl rfl).trans (eI hg hc))).trans rfl) (aI ?_));refine bw ?_ (rG cD _ _ λx hx=>?_) (by rw[SI,cH];exact Tn (Bi bd W w c) (by decide))
 ·show (ar 3 df _ _>>=lstM)=_;have e:ar 3 df (aC (dV 0) (aC (dV 1) (aC (dV 2) aN))) [fz (brd bd),fz (cD c),fz (iW w),fz (sg (lt bd c))]=aa (.lst ((lA bd.length W w c).map cD)):=pW hg hw hc;rw[e];rfl
 ·have RI:=(si hw).mp hx;rw[xR];have e:eA (d2 l_ (ar 2 aV (aC (dV 1) (aC (dV 0) aN))) (dV 4)) (fz (cD x)::[fz (brd bd),fz (cD c),fz (iW w),fz (sg (lt bd c))])=aa (decide (lt bd x=lt bd c)):=by
   refine ke ?_;exact(aF ((ax rfl rfl).trans (eI hg RI.1)) rfl).trans (HD _ _)
  rw[e,ai];cases decide (lt bd x=lt bd c)<;>rfl
end K1
namespace K1
section
variable{α:Type}[DecidableEq α]
structure Bk (α:Type) where
 ks:List α
 ps:List (Option α)
 fu:List α
def eM(c:α)(s:Bk α)(x:α):Bk α:=if x∈s.ks then s else⟨s.ks++[x],s.ps++[some c],s.fu++[x]⟩
variable(nb:α->List α)
def mN(s:Bk α)(c:α):Bk α:=(nb c).foldl (eM c) s
def cT(s:Bk α)(P3:List α):Bk α:=P3.foldl (mN nb) s
def Rb(a:α):Nat->α->Prop
 |0,x=>x=a
 |k+1,x=>Rb a k x\/∃y,Rb a k y/\x∈nb y
variable{nb}{a:α}
def Rb.mono(h:i<=j)(r:Rb nb a i x):Rb nb a j x:=by
 induction h with
 |refl=>exact r
 |step _ ih=>exact .inl ih
structure Grown (P:α->α->Prop) (s t:Bk α):Prop where
 ex:∃fs:List (α×α),t.ks=s.ks++fs.map (·.1)/\t.ps=s.ps++fs.map (λp=>some p.2)/\t.fu=s.fu++fs.map (·.1)/\(∀p∈fs,P p.2 p.1)
 nd:s.ks.Nodup->t.ks.Nodup
def Grown.refl(s:Bk α):Grown P s s:=⟨⟨[],by simp,by simp,by simp,λ_ h=>by cases h⟩,id⟩
def Grown.trans(h1:Grown P s t)(h2:Grown P t u):Grown P s u:=by
 obtain⟨fs,a1,a2,a3,a4⟩:=h1.ex;obtain⟨gs,b1,b2,b3,b4⟩:=h2.ex;refine⟨⟨fs++gs,by rw[b1,a1];simp,by rw[b2,a2];simp,by rw[b3,a3];simp,λp hp=>?_⟩,λh=>h2.nd (h1.nd h)⟩;rcases TH.mp hp with h | h
 ·exact a4 p h
 ·exact b4 p h
def ve(s:Bk α)(h:P c x):Grown P s (eM c s x):=by
 unfold eM;split
 ·exact Grown.refl s
 ·rename_i hx;refine⟨⟨[(x,c)],rfl,rfl,rfl,λp hp=>?_⟩,λhn=>?_⟩
  ·have:p=(x,c):=by simpa using hp
   subst this;exact h
  ·refine Um.mpr ⟨hn,by simp,λy hy z hz e=>?_⟩;have hz:z=x:=by simpa using hz
   rw[e,hz] at hy;exact hx hy
def AJ(s:Bk α):y∈(eM c s x).ks↔y∈s.ks\/y=x:=by
 unfold eM;split
 ·rename_i hx;exact⟨.inl,λh=>h.elim id λe=>by rw[e];exact hx⟩
 ·simp
theorem foldStep:∀(l:List α) (s:Bk α),(∀x∈l,P c x)->Grown P s (l.foldl (eM c) s)/\∀y,y∈(l.foldl (eM c) s).ks↔y∈s.ks\/y∈l
 |[],s,_=>⟨Grown.refl s,λy=>by simp⟩
 |x::l,s,h=>by
  obtain⟨h1,h2⟩:=foldStep l (eM c s x) λy hy=>h y (SJ _ hy);refine⟨(ve s (h x (SM ..))).trans h1,λy=>?_⟩;rw[XH,h2 y,AJ];simp[or_assoc]
theorem vH:∀(l:List α) (s:Bk α),(∀c∈l,∀x∈nb c,P c x)->Grown P s (cT nb s l)/\∀y,y∈(cT nb s l).ks↔y∈s.ks\/∃c∈l,y∈nb c
 |[],s,_=>⟨Grown.refl s,λy=>by simp[cT]⟩
 |c::l,s,h=>by
  obtain⟨g1,m1⟩:=foldStep (nb c) s (h c (SM ..));obtain⟨g2,m2⟩:=vH l (mN nb s c) λc' hc=>h c' (SJ _ hc);refine⟨g1.trans g2,λy=>?_⟩;show y∈(cT nb (mN nb s c) l).ks↔_;rw[m2 y];show (y∈((nb c).foldl (eM c) s).ks\/_)↔_;rw[m1 y];simp[or_assoc]
structure Rng (nb:α->List α) (a:α) (k:Nat) (ks:List α) (ps:List (Option α)) (P3:List α):Prop where
 len:ks.length=ps.length
 nd:ks.Nodup
 mem:∀x,x∈ks↔Rb nb a k x
 rg:∀x,x∈P3↔Rb nb a k x/\∀j,Rb nb a j x->k<=j
 par:∀x p,(x,some p)∈ks.zip ps->x∈nb p/\p∈ks/\∀j,Rb nb a j x->∃i,j=i+1/\Rb nb a i p
 non:∀x,(x,none)∈ks.zip ps->x=a
 sz:k<=ks.length/\(P3≠[]->k+1<=ks.length)
def Rng.zero(nb:α->List α)(a:α):Rng nb a 0 [a] [none] [a] where
 len:=rfl
 nd:=by simp
 mem:=λx=>by simp[Rb]
 rg:=λx=>by simp[Rb]
 par:=λx p h=>by simp at h
 non:=λx h=>by simpa using h
 sz:=⟨by simp,λ_=>by simp⟩
def Rng.next(h:Rng nb a k ks ps P3)(hr:P3≠[]):Rng nb a (k+1) (cT nb ⟨ks,ps,[]⟩ P3).ks (cT nb ⟨ks,ps,[]⟩ P3).ps (cT nb ⟨ks,ps,[]⟩ P3).fu:=by
 obtain⟨g,m⟩:=vH (P:=λc x=>c∈P3/\x∈nb c) P3 ⟨ks,ps,[]⟩ λc hc x hx=>⟨hc,hx⟩
 obtain⟨fs,e1,e2,e3,e4⟩:=g.ex;have MS:=g.nd h.nd;have hm:∀x,x∈(cT nb ⟨ks,ps,[]⟩ P3).ks↔Rb nb a (k+1) x:=λx=>by
  rw[m x];show (x∈ks\/_)↔(Rb nb a k x\/_);constructor
  ·rintro(q | ⟨c,hc,hx⟩)
   ·exact .inl ((h.mem x).mp q)
   ·exact .inr ⟨c,((h.rg c).mp hc).1,hx⟩
  ·rintro(q | ⟨y,hy,hx⟩)
   ·exact .inl ((h.mem x).mpr q)
   ·by_cases hk:∀j,Rb nb a j y->k<=j
    ·exact .inr ⟨y,(h.rg y).mpr ⟨hy,hk⟩,hx⟩
    ·refine .inl ((h.mem x).mpr ?_);obtain⟨j,hj⟩:=X8.mp hk;obtain⟨NR,Ra⟩:=Yk.mp hj;exact Rb.mono (i:=j+1) (by omega) (.inr ⟨y,NR,hx⟩)
 have B4:(cT nb ⟨ks,ps,[]⟩ P3).ks=ks++fs.map (·.1):=e1;have Kh:(cT nb ⟨ks,ps,[]⟩ P3).ps=ps++fs.map (λp=>some p.2):=e2;have MH:(cT nb ⟨ks,ps,[]⟩ P3).fu=fs.map (·.1):=e3;have new:∀x,x∈fs.map (·.1)->¬Rb nb a k x:=λx hx hk=>by
  rw[B4] at MS;exact(Um.mp MS).2.2 x ((h.mem x).mpr hk) x hx rfl
 have LI:∀x,¬Rb nb a k x->∀j,Rb nb a j x->k+1<=j:=λx hx j hj=>by
  by_cases Rc:k+1<=j
  ·exact Rc
  ·exact Y9 (Rb.mono (by omega) hj) hx
 have Lw:(cT nb ⟨ks,ps,[]⟩ P3).ks.zip (cT nb ⟨ks,ps,[]⟩ P3).ps=ks.zip ps++fs.map λp=>(p.1,some p.2):=by
  rw[B4,Kh,List.zip_append h.len];congr 1;rw[List.zip_map']
 refine⟨?_,MS,hm,λx=>?_,λx p hp=>?_,λx hx=>?_,?_⟩
 ·rw[B4,Kh,S1,S1,SI,SI,h.len]
 ·rw[MH];constructor
  ·intro hx;exact⟨(hm x).mp (by rw[B4];exact Tj _ hx),LI x (new x hx)⟩
  ·rintro⟨h1,h2⟩;have h3:=(hm x).mpr h1;rw[B4] at h3;rcases TH.mp h3 with q | q
   ·have:=h2 k ((h.mem x).mp q);omega
   ·exact q
 ·rw[Lw] at hp;rcases TH.mp hp with q | q
  ·obtain⟨q1,q2,q3⟩:=h.par x p q;exact⟨q1,by rw[B4];exact UR _ q2,q3⟩
  ·obtain⟨f,hf,e⟩:=S7.mp q;cases e;obtain⟨f1,f2⟩:=e4 f hf;have hc:=(h.rg f.2).mp f1;refine⟨f2,by rw[B4];exact UR _ ((h.mem _).mpr hc.1),λj hj=>?_⟩;have:=LI f.1 (new f.1 (S7.mpr ⟨f,hf,rfl⟩)) j hj;exact⟨j - 1,by omega,Rb.mono (by omega) hc.1⟩
 ·rw[Lw] at hx;rcases TH.mp hx with q | q
  ·exact h.non x q
  ·obtain⟨f,hf,e⟩:=S7.mp q;cases e
 ·have hs:=h.sz.2 hr;rw[B4,S1,SI];refine⟨by omega,λib=>?_⟩;have:fs≠[]:=λz=>ib (by rw[MH,z];rfl);have:=YF.mpr this;omega
def Rng.last(h:Rng nb a k ks ps []):∀x,x∈ks↔∃j,Rb nb a j x:=by
 have none:∀x,¬(Rb nb a k x/\∀j,Rb nb a j x->k<=j):=λx q=>by
  have:=(h.rg x).mpr q;cases this
 have hk:∀x,Rb nb a k x->∃i,i<k/\Rb nb a i x:=λx hx=>by
  by_cases q:∀j,Rb nb a j x->k<=j
  ·exact Y9 ⟨hx,q⟩ (none x)
  ·obtain⟨j,hj⟩:=X8.mp q;obtain⟨NR,Ra⟩:=Yk.mp hj;exact⟨j,by omega,NR⟩
 have all:∀j x,Rb nb a j x->Rb nb a k x:=by
  intro j;induction j with
  |zero=>intro x hx;exact Rb.mono (TQ _) hx
  |succ j ih=>
   rintro x (q | ⟨y,hy,hx⟩)
   ·exact ih x q
   ·obtain⟨i,hi,hr⟩:=hk y (ih y hy);exact Rb.mono (i:=i+1) (by omega) (.inr ⟨y,hr,hx⟩)
 exact λx=>⟨λq=>⟨k,(h.mem x).mp q⟩,λ⟨j,hj⟩=>(h.mem x).mpr (all j x hj)⟩
def fN{l U:List α}(hn:l.Nodup)(h:∀x∈l,x∈U):l.length<=U.length:=by
 induction l generalizing U with
 |nil=>simp
 |cons a l ih=>
  rw[T8] at hn;have hl:∀x∈l,x∈U.erase a:=λx hx=>by
   have ib:x≠a:=λz=>hn.1 (by rw[<-z];exact hx);exact(List.mem_erase_of_ne ib).mpr (h x (SJ _ hx))
  have h1:=ih hn.2 hl;have h2:=Yc (h a (SM ..));have h3:=List.length_pos_of_mem (h a (SM ..));rw[SO];omega
end
end K1
namespace K1
open PySem L2 L3
def keyOf(c:Cell):List Key:=[.inl (c.1:Int), .inl (c.2:Int)]
def jP(h:keyOf a=keyOf b):a=b:=by
 unfold keyOf at h;injection h with h1 h2
 injection h1 with h1
 injection h2 with h2 _
 injection h2 with h2
 exact W4 (WH h1) (WH h2)
def t6(c:Cell):nZ (cD c)=some (keyOf c):=rfl
theorem j4:∀{ks:List Cell}{ds:List D},c∉ks->gZ (ks.map keyOf) ds (keyOf c)=none
 |[],_,_=>by simp[gZ]
 |k::ks,[],_=>by simp[gZ]
 |k::ks,d::ds,h=>by
  rw[SU];unfold gZ;rw[Y7 (λz=>h (by rw[jP z];exact SM ..))];exact j4 λz=>h (SJ _ z)
theorem mL:∀{ks:List Cell}{ds:List D},ks.length=ds.length->c∈ks->∃d,gZ (ks.map keyOf) ds (keyOf c)=some d/\(c,d)∈ks.zip ds
 |[],_,_,h=>by cases h
 |k::ks,[],hl,_=>by simp at hl
 |k::ks,d::ds,hl,h=>by
  rw[SU];unfold gZ;by_cases hk:k=c
  ·subst hk;rw[Y6 rfl];exact⟨d,rfl,by simp⟩
  ·rw[Y7 (λz=>hk (jP z))];have hc:c∈ks:=by
    rcases S6.mp h with q | q
    ·exact Y9 q.symm hk
    ·exact q
   obtain⟨d',e1,e2⟩:=mL (by simpa using hl) hc;exact⟨d',e1,by simp[e2]⟩
def tV{ks:List Cell}(hl:ks.length=ds.length):kE neg (cD c) (.dct (ks.map keyOf) ds)=aa (.bl (if neg then !decide (c∈ks) else decide (c∈ks))):=by
 show (match (nZ (cD c)).map (gZ (ks.map keyOf) ds) with | some o=>aa (D.bl (if neg then !o.isSome else o.isSome)) | none=>af)=_;rw[t6];show aa (D.bl (if neg then !(gZ (ks.map keyOf) ds (keyOf c)).isSome else(gZ (ks.map keyOf) ds (keyOf c)).isSome))=_;by_cases h:c∈ks
 ·obtain⟨d,e,_⟩:=mL hl h;rw[e,Y8 h];rfl
 ·rw[j4 h,Y_ h];rfl
def wH(h:c∉ks)(hl:ds.length<lim):qt (.dct (ks.map keyOf) ds) (cD c) d=some (.dct ((ks++[c]).map keyOf) (ds++[d])):=by
 show (match nZ (cD c) with | some kk=>if ds.length<lim then some (C.dct (eh (ks.map keyOf) ds kk) (c9 (ks.map keyOf) ds kk d)) else none | none=>none)=_;rw[t6];show (if ds.length<lim then some (C.dct (eh (ks.map keyOf) ds (keyOf c)) (c9 (ks.map keyOf) ds (keyOf c) d)) else none)=_;rw[Y6 hl];unfold eh c9;rw[j4 h];simp
def Ie(h:τ (zJ ρ)=aa b):Ks τ ρ=aa b:=by
 unfold Ks;rw[h];rfl
def KL(h:δ (zJ ρ)=aa d)(hf:zH d=true):KJ δ ρ=aa d:=by
 unfold KJ;rw[h];show pe d=_;unfold pe;rw[hf];rfl
def E2(h1:c ρ=aa true)(h2:body ρ=aa (.nx ρ'))(h3:eY c body n ρ'=m):eY c body (n+1) ρ=m:=by
 show (c ρ>>=λb=>if b then body ρ>>=λo=>match o with | .nx ρ'=>eY c body n ρ' | .rt d=>aa (.rt d) else aa (.nx ρ))=_;rw[h1,ai,Y6 rfl,h2];exact h3
def E0(h1:c ρ=aa false):eY c body (n+1) ρ=aa (.nx ρ):=by
 show (c ρ>>=λb=>if b then body ρ>>=λo=>match o with | .nx ρ'=>eY c body n ρ' | .rt d=>aa (.rt d) else aa (.nx ρ))=_;rw[h1];rfl
def DN:Option Cell->D
 |none=> .non
 |some c=>cD c
abbrev Hw(ks:List Cell)(ps:List (Option Cell)):C:= .dct (ks.map keyOf) (ps.map DN)
abbrev Cb(ks:List Cell)(ps:List (Option Cell)):D:= .dct (ks.map keyOf) (ps.map DN)
abbrev sb(b s w:D)(ks:List Cell)(ps:List (Option Cell))(x4 x5 x6 x7:Option Sl):aO:=[fz b,fz s,fz w,some (.ow (Hw ks ps)),x4,x5,x6,x7]
structure Bok (R W:Nat) (s:Bk Cell):Prop where
 len:s.ks.length=s.ps.length
 nd:s.ks.Nodup
 on:∀x∈s.ks,On R W x
 fu:s.fu.length<=s.ks.length
def Bok.le(h:Bok R W s):s.ks.length<=R*W:=by
 rw[<-c7 R W];exact fN h.nd λx hx=>bB.mpr (h.on x hx)
def Bok.step(h:Bok R W s)(hx:On R W x):Bok R W (eM c s x):=by
 unfold eM;split
 ·exact h
 ·rename_i hn;refine⟨by simp[h.len],?_,λy hy=>?_,by simp;exact h.fu⟩
  ·refine Um.mpr ⟨h.nd,by simp,λy hy z hz e=>?_⟩;have hz:z=x:=by simpa using hz
   rw[e,hz] at hy;exact hn hy
  ·rcases TH.mp hy with q | q
   ·exact h.on y q
   ·have:y=x:=by simpa using q
    rw[this];exact hx
def G2(hg:Brd bd W)(h:Bok bd.length W s):
 J0 (sb (brd bd) (cD a) w s.ks s.ps r (some (.ow (.lst (s.fu.map cD)))) (fz (cD c)) (fz (cD x)))=aa (.nx (sb (brd bd) (cD a) w (eM c s x).ks (eM c s x).ps r (some (.ow (.lst ((eM c s x).fu.map cD)))) (fz (cD c)) none)):=by
 have hle:=h.le;have hm:bd.length*W<=64:=V8 hg.r8 hg.w8;have ht:Ks (eA (d2 (kE true) (dV 7) (dV 3))) (sb (brd bd) (cD a) w s.ks s.ps r (some (.ow (.lst (s.fu.map cD)))) (fz (cD c)) (fz (cD x)))=aa (!decide (x∈s.ks)):=
  Ie (ke ((aF rfl rfl).trans (tV (by rw[SI];exact h.len))))
 by_cases hx:x∈s.ks
 ·rw[Y8 hx] at ht;have e:eM c s x=s:=Y6 hx;rw[e];exact(cF (dD ht rfl)).trans rfl
 ·rw[Y_ hx] at ht;have e:eM c s x=⟨s.ks++[x],s.ps++[some c],s.fu++[x]⟩:=Y7 hx;rw[e];refine(cF (ρ':=sb (brd bd) (cD a) w (s.ks++[x]) (s.ps++[some c]) r (some (.ow (.lst ((s.fu++[x]).map cD)))) (fz (cD c)) (fz (cD x))) (gc ht (aA (ρ':=sb (brd bd) (cD a) w (s.ks++[x]) (s.ps++[some c]) r (some (.ow (.lst (s.fu.map cD)))) (fz (cD c)) (fz (cD x))) ?_ ?_))).trans rfl
  ·show (match qt (Hw s.ks s.ps) (cD x) (cD c) with | some c'=>aa (Out.nx (List.set (sb (brd bd) (cD a) w s.ks s.ps r (some (.ow (.lst (s.fu.map cD)))) (fz (cD c)) (fz (cD x))) 3 (some (.ow c')))) | none=>af)=_;rw[wH hx (by rw[SI,<-h.len,cH];omega)];rw[show s.ps.map DN++[cD c]=(s.ps++[some c]).map DN by simp[DN]];rfl
  ·show (if (s.fu.map cD).length<lim then aa (Out.nx (sb (brd bd) (cD a) w (s.ks++[x]) (s.ps++[some c]) r (some (.ow (.lst (s.fu.map cD++[cD x])))) (fz (cD c)) (fz (cD x)))) else af)=_;have:=h.fu;rw[Y6 (by rw[SI,cH];omega)];rw[show s.fu.map cD++[cD x]=(s.fu++[x]).map cD by simp]
def Mm:DS:=eG [6,7] (gT (putN 7) (fc (ar 3 cy (aC (dV 0) (aC (dV 6) (aC (dV 2) aN))))) J0)
def Au(hg:Brd bd W)(hw:Ways w)(hc:On bd.length W c)(h:Bok bd.length W s):
 Bok bd.length W (mN (bp bd W w) s c)/\Mm (sb (brd bd) (cD a) (iW w) s.ks s.ps r (some (.ow (.lst (s.fu.map cD)))) (fz (cD c)) none)=
  aa (.nx (sb (brd bd) (cD a) (iW w) (mN (bp bd W w) s c).ks (mN (bp bd W w) s c).ps r (some (.ow (.lst ((mN (bp bd W w) s c).fu.map cD)))) none none)):=by
 obtain⟨h1,e⟩:=l9 (put:=putN 7) cD (λs:Bk Cell=>sb (brd bd) (cD a) (iW w) s.ks s.ps r (some (.ow (.lst (s.fu.map cD)))) (fz (cD c)) none) (eM c) (Bok bd.length W) (bp bd W w c) s h λs hs x hx=>
  ⟨hs.step ((eE hw).mp hx).1,_,rfl,G2 hg hs⟩
 refine⟨h1,(cF (kr ?_ e)).trans rfl⟩;show (ar 3 cy (aC (dV 0) (aC (dV 6) (aC (dV 2) aN))) (sb (brd bd) (cD a) (iW w) s.ks s.ps r (some (.ow (.lst (s.fu.map cD)))) (fz (cD c)) none)>>=lstM)=_;have e2:ar 3 cy (aC (dV 0) (aC (dV 6) (aC (dV 2) aN))) (sb (brd bd) (cD a) (iW w) s.ks s.ps r (some (.ow (.lst (s.fu.map cD)))) (fz (cD c)) none)=aa (.lst ((bp bd W w c).map cD)):=pL hg hw hc;rw[e2];rfl
def Ml:DS:=eG [5,6,7] (a8 (uL 5) (a8 (gT (putN 6) (fc (dV 4)) Mm) (Ez 5 (bX 4 (dV 5)))))
def GZ(hg:Brd bd W)(hw:Ways w)(hr:∀c∈P3,On bd.length W c)(h:Bok bd.length W s)(hf:s.fu=[]):
 Bok bd.length W (cT (bp bd W w) s P3)/\Ml (sb (brd bd) (cD a) (iW w) s.ks s.ps (fz (.lst (P3.map cD))) none none none)=
  aa (.nx (sb (brd bd) (cD a) (iW w) (cT (bp bd W w) s P3).ks (cT (bp bd W w) s P3).ps (fz (.lst ((cT (bp bd W w) s P3).fu.map cD))) none none none)):=by
 obtain⟨h1,e⟩:=l9 (put:=putN 6) cD (λs:Bk Cell=>sb (brd bd) (cD a) (iW w) s.ks s.ps (fz (.lst (P3.map cD))) (some (.ow (.lst (s.fu.map cD)))) none none) (mN (bp bd W w)) (Bok bd.length W) P3 s h λs hs c hc=>
  ⟨(Au (a:=a) (r:=fz (.lst (P3.map cD))) hg hw (hr c hc) hs).1,_,rfl,(Au hg hw (hr c hc) hs).2⟩
 refine⟨h1,(cF (ρ':=sb (brd bd) (cD a) (iW w) (cT (bp bd W w) s P3).ks (cT (bp bd W w) s P3).ps (fz (.lst ((cT (bp bd W w) s P3).fu.map cD))) (fz (.lst ((cT (bp bd W w) s P3).fu.map cD))) none none) ?_).trans rfl⟩;refine aA rfl (aA (ρ':=sb (brd bd) (cD a) (iW w) (cT (bp bd W w) s P3).ks (cT (bp bd W w) s P3).ps (fz (.lst (P3.map cD))) (some (.ow (.lst ((cT (bp bd W w) s P3).fu.map cD)))) none none) ?_ rfl);rw[hf] at e;exact kr rfl e
theorem wU(hg:Brd bd W)(hw:Ways w)(ha:On bd.length W a):∀(fuel k:Nat) (ks:List Cell) (ps:List (Option Cell)) (P3:List Cell),bd.length*W+2<=fuel+k->Rng (bp bd W w) a k ks ps P3->(∀x∈ks,On bd.length W x)->
 ∃k' ks' M7,Rng (bp bd W w) a k' ks' M7 []/\(∀x∈ks',On bd.length W x)/\eY (ck (dV 4)) Ml fuel (sb (brd bd) (cD a) (iW w) ks ps (fz (.lst (P3.map cD))) none none none)=aa (.nx (sb (brd bd) (cD a) (iW w) ks' M7 (fz (.lst [])) none none none))
 |0,k,ks,ps,P3,hf,hR,zN=>by
  have h1:ks.length<=bd.length*W:=by
   rw[<-c7 bd.length W];exact fN hR.nd λx hx=>bB.mpr (zN x hx)
  have:=hR.sz.1;omega
 |fuel+1,k,ks,ps,[],hf,hR,zN=>⟨k,ks,ps,hR,zN,E0 rfl⟩
 |fuel+1,k,ks,ps,c::P3,hf,hR,zN=>by
  have ib:c::P3≠[]:=by simp
  have hN:=hR.next ib;have N7:∀x∈c::P3,On bd.length W x:=λx hx=>zN x ((hR.mem x).mpr ((hR.rg x).mp hx).1);obtain⟨hb,e⟩:=GZ hg hw N7 (s:=⟨ks,ps,[]⟩) ⟨hR.len,hR.nd,zN,TQ _⟩ rfl;obtain⟨k',ks',M7,q1,q2,q3⟩:=wU hg hw ha fuel (k+1) _ _ _ (by omega) hN hb.on;exact⟨k',ks',M7,q1,q2,E2 rfl e q3⟩
def jH(hg:Brd bd W)(hw:Ways w)(ha:On bd.length W a):
 ∃k ks ps,Rng (bp bd W w) a k ks ps []/\(∀x∈ks,On bd.length W x)/\bC [brd bd,cD a,iW w]=aa (Cb ks ps):=by
 have hm:bd.length*W<=64:=V8 hg.r8 hg.w8;obtain⟨k,ks,ps,h1,h2,h3⟩:=wU hg hw ha lim 0 [a] [none] [a] (by rw[cH];omega) (Rng.zero _ _) (λx hx=>(show x=a by simpa using hx)▸ha);refine⟨k,ks,ps,h1,h2,bh (aA rfl (aA rfl (aA (f9 h3) rfl)))⟩
def kf[DecidableEq α](n:Nat)(Zf:α->D):Prop:=∀k x y,pb (n+k) (Zf x) (Zf y)=some (decide (x=y))
def k7(n:Nat)(i j:Int):pb n (.int i) (.int j)=some (i==j):=by cases n<;>rfl
def Fz(n:Nat)(i j:Str):pb n (.str i) (.str j)=some (i==j):=by cases n<;>rfl
theorem tO[DecidableEq α](h:∀x y,f (Zf x) (Zf y)=some (decide (x=y))):∀(xs ys:List α),tN f (xs.map Zf) (ys.map Zf)=some (decide (xs=ys))
 |[],[]=>rfl
 |[],_::_=>by simp[tN]
 |_::_,[]=>by simp[tN]
 |x::xs,y::ys=>by
  rw[SU,SU];show (match f (Zf x) (Zf y),tN f (xs.map Zf) (ys.map Zf) with | some b,some r=>some (b&&r) | _,_=>none)=_;rw[h,tO h xs ys];show some (decide (x=y)&&decide (xs=ys))=_;congr 1;by_cases h1:x=y<;>by_cases h2:xs=ys<;>simp[h1,h2]
def Iy:kf 1 cD:=λk a b=>by
 rw[Nat.add_comm];show (match pb k (.int (a.1:Int)) (.int (b.1:Int)),tN (pb k) [.int (a.2:Int)] [.int (b.2:Int)] with | some b,some r=>some (b&&r) | _,_=>none)=_;rw[k7];show (match some ((a.1:Int)==(b.1:Int)),(match pb k (.int (a.2:Int)) (.int (b.2:Int)),tN (pb k) [] [] with | some b,some r=>some (b&&r) | _,_=>none) with | some b,some r=>some (b&&r) | _,_=>none)=_;rw[k7];show some (((a.1:Int)==(b.1:Int))&&(((a.2:Int)==(b.2:Int))&&true))=_;rw[nr,nr,Yd];congr 1;obtain⟨a1,a2⟩:=a;obtain⟨b1,b2⟩:=b;by_cases h1:a1=b1<;>by_cases h2:a2=b2<;>simp[h1,h2]
def Fx[DecidableEq α](h:kf n Zf):kf (n+1) (λl:List α=> .lst (l.map Zf)):=λk x y=>by
 rw[show n+1+k=(n+k)+1 by omega];exact tO (h k) x y
def zE[DecidableEq α](h:kf n Zf):kf (n+1) (λl:List α=> .tup (l.map Zf)):=λk x y=>by
 rw[show n+1+k=(n+k)+1 by omega];exact tO (h k) x y
def zD:kf 0 D.str:=λk x y=>by
 rw[Fz];congr 1
def Fw:kf 0 D.int:=λk x y=>by
 rw[k7];congr 1
def Fu:kf 1 brd:=zE zD
def Nw[DecidableEq α](h:kf n Zf)(hn:n<=6)(x y:α):l_ (Zf x) (Zf y)=aa (.bl (decide (x=y))):=by
 have:=h (6 - n) x y;rw[show n+(6 - n)=6 by omega] at this;unfold l_;rw[this]
def xU[DecidableEq α](h:kf n Zf)(hn:n<=6)(x y:α):jO (Zf x) (Zf y)=aa (.bl (!decide (x=y))):=by
 have:=h (6 - n) x y;rw[show n+(6 - n)=6 by omega] at this;unfold jO;rw[this]
abbrev cL(l:List Cell):D:= .lst (l.map cD)
def HY(a b:List Cell):jO (cL a) (cL b)=aa (.bl (!decide (a=b))):=xU (Fx Iy) (by decide) a b
def ic(c:Cell):List Int:=[(c.1:Int),(c.2:Int)]
def Cq(a b:Cell):Bool:=if a.1=b.1 then decide (a.2<b.2) else decide (a.1<b.1)
def FT(k:Cell):List Cell->List Cell
 |[]=>[k]
 |x::r=>if Cq k x then k::x::r else x::FT k r
def nP:List Cell->List Cell
 |[]=>[]
 |k::r=>FT k (nP r)
def yj(a b:Cell):eD (ic a) (ic b)=Cq a b:=by
 show (if (a.1:Int)=(b.1:Int) then(if (a.2:Int)=(b.2:Int) then false else decide ((a.2:Int)<(b.2:Int))) else decide ((a.1:Int)<(b.1:Int)))=_;unfold Cq;by_cases h:a.1=b.1
 ·rw[Y6 h,Y6 (by omega)];by_cases h2:a.2=b.2
  ·rw[Y6 (by omega),h2];simp
  ·rw[Y7 (by omega)];by_cases h3:a.2<b.2
   ·rw[Y8 h3,Y8 (by omega)]
   ·rw[Y_ h3,Y_ (by omega)]
 ·rw[Y7 h,Y7 (by omega)];by_cases h3:a.1<b.1
  ·rw[Y8 h3,Y8 (by omega)]
  ·rw[Y_ h3,Y_ (by omega)]
theorem C4(k:Cell):∀l:List Cell,insI (ic k) (l.map ic)=(FT k l).map ic
 |[]=>rfl
 |x::r=>by
  rw[SU];unfold insI FT;rw[yj];cases Cq k x with
  |true=>rfl
  |false=>rw[Y7 (by decide),Y7 (by decide),SU,C4 k r]
theorem oP:∀l:List Cell,sortI (l.map ic)=(nP l).map ic
 |[]=>rfl
 |k::r=>by
  rw[SU];unfold sortI nP;rw[oP r,C4]
def tU(h:ic a=ic b):a=b:=by
 unfold ic at h;injection h with h1 h2
 injection h2 with h2 _
 exact W4 (WH h1) (WH h2)
def sj:x∈nP l↔x∈l:=by
 have h:=gX (x:=ic x) (l:=l.map ic);rw[oP] at h;constructor
 ·intro hx;obtain⟨y,hy,e⟩:=S7.mp (h.mp (S7.mpr ⟨x,hx,rfl⟩));rw[<-tU e];exact hy
 ·intro hx;obtain⟨y,hy,e⟩:=S7.mp (h.mpr (S7.mpr ⟨x,hx,rfl⟩));rw[<-tU e];exact hy
def RiseC(l:List Cell):Prop:=l.Pairwise λa b=>Cq a b=true
def uK:xD (l.map ic)↔RiseC l:=by
 unfold xD RiseC;rw[Vt];constructor<;>intro h<;>refine Ws ?_ h<;>intro a b q
 ·rw[<-yj];exact q
 ·rw[yj];exact q
def v3{l:List Cell}(h:l.Nodup):(l.map ic).Nodup:=by
 unfold Ua at h⊢;rw[Vt];exact Ws (λh z=>h (tU z)) h
def qC{l:List Cell}(h:l.Nodup):RiseC (nP l):=by
 have:=kP (v3 h);rw[oP] at this;exact uK.mp this
def BN(ha:RiseC a)(hb:RiseC b)(h:∀x,x∈a↔x∈b):a=b:=by
 have e:=qx (uK.mpr ha) (uK.mpr hb) λx=>by
  constructor
  ·intro hx;obtain⟨y,hy,rfl⟩:=S7.mp hx;exact S7.mpr ⟨y,(h y).mp hy,rfl⟩
  ·intro hx;obtain⟨y,hy,rfl⟩:=S7.mp hx;exact S7.mpr ⟨y,(h y).mpr hy,rfl⟩
 have inj:∀(a b:List Cell),a.map ic=b.map ic->a=b:=by
  intro a;induction a with
  |nil=>intro b h;cases b with
   |nil=>rfl
   |cons=>simp at h
  |cons x a ih=>intro b h;cases b with
   |nil=>simp at h
   |cons y b=>
    rw[SU,SU] at h;injection h with h1 h2
    rw[tU h1,ih b h2]
 exact inj a b e
def RiseC.nodup(h:RiseC l):l.Nodup:=by
 refine Ws ?_ h;intro a b q z;subst z;unfold Cq at q;rw[Y6 rfl] at q;have:=Za q;omega
theorem me:∀ks:List Cell,fL (ks.map keyOf)=some (ks.map ic)
 |[]=>rfl
 |k::r=>by
  show (match rW (keyOf k),fL (r.map keyOf) with | some x,some xs=>some (x::xs) | _,_=>none)=_;rw[me r];rfl
def LR{ks:List Cell}(h:ks.Nodup)(hl:ks.length<64):jg (ks.map ic)=true:=by
 unfold jg;rw[SI,Y8 (v3 h),Y8 hl];simp;intro a b _ z;cases z
def w9(h:ks.Nodup)(hl:ks.length<64):qD [.dct (ks.map keyOf) ds]=aa (cL (nP ks)):=by
 show (match fL (ks.map keyOf) with | some ks=>if jg ks&&ks.all (λk=>decide (k.length<=lim)) then aa (D.lst ((sortI ks).map tupI)) else af | none=>af)=_;rw[me];show (if jg (ks.map ic)&&(ks.map ic).all (λk=>decide (k.length<=lim)) then aa (D.lst ((sortI (ks.map ic)).map tupI)) else af)=_;rw[LR h hl];have:(ks.map ic).all (λk=>decide (k.length<=lim))=true:=by
  simp;intro a b _;show 2<=lim
  decide
 rw[this,Yd,Y6 rfl,oP,Tf];rfl
def Cn(bd:List Str)(W w:Nat)(a b:Cell):Prop:=∃j,Rb (bp bd W w) a j b
def Cn.refl:Cn bd W w a a:=⟨0,rfl⟩
def yk(hw:Ways w)(ha:On bd.length W a)(h:b∈bp bd W w a):a∈bp bd W w b:=by
 obtain⟨h1,h2,h3⟩:=(eE hw).mp h;exact(eE hw).mpr ⟨ha,by rw[DC];exact h2,h3.symm⟩
theorem Ao(hw:Ways w)(ha:On bd.length W a):∀{j:Nat},Rb (bp bd W w) a j b->On bd.length W b
 |0,h=>by rw[show b=a from h];exact ha
 |j+1, .inl h=>Ao hw ha h
 |j+1, .inr ⟨y,_,hy⟩=>((eE hw).mp hy).1
theorem qu(h:c∈bp bd W w a):∀{j:Nat},Rb (bp bd W w) c j b->Rb (bp bd W w) a (j+1) b
 |0,q=> .inr ⟨a,rfl,by rw[show b=c from q];exact h⟩
 |j+1, .inl q=> .inl (qu h q)
 |j+1, .inr ⟨y,q,hy⟩=> .inr ⟨y,qu h q,hy⟩
theorem uG(hw:Ways w)(ha:On bd.length W a):∀{j:Nat},Rb (bp bd W w) a j b->Rb (bp bd W w) b j a
 |0,h=>show a=b from(show b=a from h).symm
 |j+1, .inl h=> .inl (uG hw ha h)
 |j+1, .inr ⟨y,q,hy⟩=>qu (yk hw (Ao hw ha q) hy) (uG hw ha q)
theorem qw(h:Rb (bp bd W w) a i b):∀{j:Nat},Rb (bp bd W w) b j c->Rb (bp bd W w) a (i+j) c
 |0,q=>by rw[show c=b from q];exact h
 |j+1, .inl q=> .inl (qw h q)
 |j+1, .inr ⟨y,q,hy⟩=> .inr ⟨y,qw h q,hy⟩
theorem mD(hw:Ways w):∀{j:Nat},Rb (bp bd W w) a j b->lt bd b=lt bd a
 |0,h=>by rw[show b=a from h]
 |j+1, .inl h=>mD hw h
 |j+1, .inr ⟨y,q,hy⟩=>((eE hw).mp hy).2.2.trans (mD hw q)
section
variable{bd:List Str}{W w:Nat}{a b c:Cell}
def Cn.on(hw:Ways w)(ha:On bd.length W a)(h:Cn bd W w a b):On bd.length W b:=let ⟨_,q⟩:=h;Ao hw ha q
def Cn.symm(hw:Ways w)(ha:On bd.length W a)(h:Cn bd W w a b):Cn bd W w b a:=let ⟨j,q⟩:=h;⟨j,uG hw ha q⟩
def Cn.trans(h:Cn bd W w a b)(h2:Cn bd W w b c):Cn bd W w a c:=let ⟨i,q⟩:=h;let ⟨j,r⟩:=h2;⟨i+j,qw q r⟩
def Cn.letter(hw:Ways w)(h:Cn bd W w a b):lt bd b=lt bd a:=let ⟨_,q⟩:=h;mD hw q
end
structure IsPatch (bd:List Str) (W w:Nat) (a:Cell) (P:List Cell):Prop where
 rise:RiseC P
 mem:∀x,x∈P↔Cn bd W w a x
def IsPatch.one(h:IsPatch bd W w a P)(h2:IsPatch bd W w a Q):P=Q:=BN h.rise h2.rise λx=>(h.mem x).trans (h2.mem x).symm
def kX{bd:List Str}{ks:List Cell}(hn:ks.Nodup)(zN:∀x∈ks,On bd.length W x):ks.length<=bd.length*W:=by
 rw[<-c7 bd.length W];exact fN hn λx hx=>bB.mpr (zN x hx)
end K1
namespace K1
open PySem L2 L3 HT
def du(l:List Nat):Str:=⟨l.toArray⟩
def fU(l:List Nat):(du l).cps.toList=l:=by simp[du]
def F4(l:List Nat):(du l).length=l.length:=by simp[du,Str.length]
def oW(x y:Str):(x++y).cps.toList=x.cps.toList++y.cps.toList:=by
 show (x.cps++y.cps).toList=_;simp
theorem Ay:∀l:List Nat,kQ (l.map sg)=some (l.map λc=>(⟨#[c]⟩:Str))
 |[]=>rfl
 |c::r=>by
  show (kQ (r.map sg)).map _=_;rw[Ay r];rfl
theorem zu:∀l:List Nat,dq (l.map λc=>(⟨#[c]⟩:Str))=du l
 |[]=>rfl
 |c::r=>by
  refine uV ?_;show ((⟨#[c]⟩:Str)++dq (r.map λc=>(⟨#[c]⟩:Str))).cps.toList=_;rw[oW,zu r,fU,fU];rfl
theorem EL:∀l:List Nat,((l.map λc=>(⟨#[c]⟩:Str)).map (·.length)).sum=l.length
 |[]=>rfl
 |c::r=>by
  show 1+((r.map λc=>(⟨#[c]⟩:Str)).map (·.length)).sum=_;rw[EL r,SO];omega
def t5{l:List Nat}(h:l.length<=4096):joinM (.str "") [.lst (l.map sg)]=aa (.str (du l)):=by
 show (match kQ (l.map sg) with | some (xs:List Str)=>if ("":Str).length=0/\(xs.map λx:Str=>x.length).sum<=lim then aa (D.str (dq xs)) else af | none=>af)=_;rw[Ay];show (if ("":Str).length=0/\((l.map λc=>(⟨#[c]⟩:Str)).map λx:Str=>x.length).sum<=lim then aa (D.str (dq (l.map λc=>(⟨#[c]⟩:Str)))) else af)=_;rw[Y6 ⟨rfl,by have:=EL l;rw[cH];exact Tn (Yu this) h⟩,zu]
def FR(c:Nat):FQ ⟨#[c]⟩=decide (c∈[97,98,99,100,101,102]):=Yp "abcdef" c
def Jd(l:List Nat)(c:Nat)(neg:Bool):pj neg (sg c) (.str (du l))=aa (.bl (if neg then !decide (c∈l) else decide (c∈l))):=by
 have:=Yp (du l) c;rw[fU] at this;show aa (D.bl (if neg then !(!(T6 (du l) ⟨#[c]⟩ 0 (du l).length 1).isEmpty) else !(T6 (du l) ⟨#[c]⟩ 0 (du l).length 1).isEmpty))=_;rw[this]
abbrev ME:List Nat:=[97,98,99,100,101,102]
def GW{W:Nat}{r:Str}(h:Row W r){c:Nat}(hc:c∈r.cps.toList):c∈[97,98,99,100,101,102]:=by
 have:=h.let' c hc;rw[FR] at this;exact Za this
def qU(bd:List Str):List Nat:=(bd.map (·.cps.toList)).flatten
def FX{bd:List Str}{W:Nat}(hg:Brd bd W){i:Nat}{ρ:aO}(h0:ρ[i]? =some (fz (brd bd))):dM gm joinM (dC (.str "")) (aC (dV i) aN) ρ=aa (.str (du (qU bd))):=by
 have h8:=hg.r8;have w8:=hg.w8;show (if gm (.str "") then((aC (dV i) aN) ρ>>=λds=>joinM (.str "") ds) else af)=_;rw[Y6 (show gm (.str "")=true from rfl),ay (kB h0) (xs:=[]) rfl,ai];show (match kQ (bd.map D.str) with | some (xs:List Str)=>if ("":Str).length=0/\(xs.map λx:Str=>x.length).sum<=lim then aa (D.str (dq xs)) else af | none=>af)=_;have e1:∀xs:List Str,kQ (xs.map D.str)=some xs:=by
  intro xs;induction xs with
  |nil=>rfl
  |cons x r ih=>show (kQ (r.map D.str)).map _=_;rw[ih];rfl
 rw[e1];have e2:∀xs:List Str,(dq xs).cps.toList=(xs.map (·.cps.toList)).flatten:=by
  intro xs;induction xs with
  |nil=>rfl
  |cons x r ih=>show (x++dq r).cps.toList=_;rw[oW,ih];rfl
 have e3:∀xs:List Str,(∀x∈xs,x.length<=8)->(xs.map λx:Str=>x.length).sum<=xs.length*8:=by
  intro xs;induction xs with
  |nil=>exact λ_=>TQ _
  |cons x r ih=>
   intro h;have:=ih λy hy=>h y (SJ _ hy);have:=h x (SM ..);rw[SU,Vb,SO,YT];omega
 have e4:=e3 bd λx hx=>by rw[(hg.rows x hx).len];exact w8
 show (if ("":Str).length=0/\(bd.map λx:Str=>x.length).sum<=lim then aa (D.str (dq bd)) else af)=_;rw[Y6 ⟨rfl,by rw[cH];omega⟩];congr 2;refine uV ?_;rw[e2,fU];rfl
def vU{bd:List Str}{c:Nat}:c∈qU bd↔∃r∈bd,c∈r.cps.toList:=by
 unfold qU;rw[List.mem_flatten];constructor
 ·rintro⟨l,hl,h⟩;obtain⟨r,hr,rfl⟩:=S7.mp hl;exact⟨r,hr,h⟩
 ·rintro⟨r,hr,h⟩;exact⟨_,S7.mpr ⟨r,hr,rfl⟩,h⟩
def Ca{bd:List Str}{W:Nat}(hg:Good bd W){c:Nat}(h:c∈qU bd):c∈ME:=by
 obtain⟨r,hr,h⟩:=vU.mp h;exact GW (hg.rows r hr) h
def F_{bd:List Str}{W:Nat}(hg:Brd bd W){c:Cell}(hc:On bd.length W c):lt bd c∈qU bd:=by
 have h1:c.1<bd.length:=hc.1;have hr:(bd.getD c.1 ⟨#[]⟩).cps.toList.length=W:=(hg.rows _ (getD_mem h1)).len;have h2:c.2<(bd.getD c.1 ⟨#[]⟩).cps.toList.length:=by rw[hr];exact hc.2
 refine vU.mpr ⟨_,getD_mem h1,?_⟩;show ch (bd.getD c.1 ⟨#[]⟩) c.2∈_;generalize bd.getD c.1 ⟨#[]⟩=r at h2;unfold ch;rw[S0,SK h2];exact UY h2
def kW{bd:List Str}{i j:Nat}(hi:i<bd.length)(hj:j<bd[i].cps.toList.length):at2 bd i j=bd[i].cps.toList[j]:=by
 unfold at2 ch;rw[S0 (l:=bd),SK hi,YR,S0,SK hj,YR]
def yb{α:Type}{l:List α}{i:Nat}{x:α}(h:l[i]? =some x)(hi:i<l.length):l[i]=x:=by
 rw[SK hi] at h;exact Tr h
def zt{a b:List Str}{W:Nat}(ha:∀r∈a,r.length=W)(hb:∀r∈b,r.length=W)(hl:a.length=b.length)(h:∀i j,i<a.length->j<W->at2 a i j=at2 b i j):a=b:=by
 refine UM hl λi h1 h2=>?_;have w1:a[i].cps.toList.length=W:=ha _ (UY h1);have w2:b[i].cps.toList.length=W:=hb _ (UY h2);refine uV (UM (by rw[w1,w2]) λj q1 q2=>?_);rw[<-kW h1 q1,<-kW h2 q2];exact h i j h1 (by omega)
end K1
namespace K1
open PySem L2 L3
def Nq(w:Nat):List Cell->Bool
 |a::b::r=>ml w a b&&Nq w (b::r)
 |_=>true
def vc:L2.atI (l++[x]) (-1)=some x:=by
 unfold L2.atI Fc;rw[Y7 (by decide)];have: -((l++[x]).length:Int)<= -1:=by simp;omega
 rw[Y6 this];have e:((-1:Int)+((l++[x]).length:Int)).toNat=l.length:=by simp;omega
 show (l++[x])[((-1:Int)+((l++[x]).length:Int)).toNat]? =some x;rw[e];simp
abbrev wr(bd w a b k t:D):aO:=[fz bd,fz w,fz a,fz b,fz k,fz t]
theorem cY(Zf:α->D)(g:α->D):∀(xs:List α),(∀x∈xs,f (Zf x)=aa (some (g x)))->cX f (xs.map Zf)=aa (xs.map g)
 |[],_=>rfl
 |x::xs,h=>by
  rw[SU,dP,h x (SM ..),ai,cY Zf g xs λy hy=>h y (SJ _ hy)];rfl
def de(ks:List Cell)(c:Cell):List Cell:=if c∈ks then ks else ks++[c]
def bV(l:List Cell):List Cell:=l.foldl de []
def aP(ks:List Cell):List D:=ks.map λ_=> .bl true
def B_:x∈de ks c↔x∈ks\/x=c:=by
 unfold de;split
 ·rename_i h;exact⟨.inl,λq=>q.elim id λe=>by rw[e];exact h⟩
 ·simp
theorem ph:∀(l ks:List Cell),(ks.Nodup->(l.foldl de ks).Nodup)/\(∀x,x∈l.foldl de ks↔x∈ks\/x∈l)/\(l.foldl de ks).length<=ks.length+l.length
 |[],ks=>⟨id,λx=>by simp,by simp⟩
 |c::l,ks=>by
  obtain⟨h1,h2,h3⟩:=ph l (de ks c);refine⟨λhn=>h1 ?_,λx=>?_,?_⟩
  ·unfold de;split
   ·exact hn
   ·rename_i hc;refine Um.mpr ⟨hn,by simp,λy hy z hz e=>?_⟩;have hz:z=c:=by simpa using hz
    rw[e,hz] at hy;exact hc hy
  ·rw[XH,h2 x,B_];simp[or_assoc]
  ·rw[XH,SO];have:(de ks c).length<=ks.length+1:=by unfold de;split<;>simp
   omega
def jR:x∈bV l↔x∈l:=by
 unfold bV;rw[(ph l []).2.1 x];simp
def Du(l:List Cell):(bV l).Nodup:=(ph l []).1 V0
def Bh(l:List Cell):(bV l).length<=l.length:=by have:=(ph l []).2.2;simpa[bV] using this
theorem sP:∀{ks:List (List Key)}{l:List Cell},ks.length=l.length->oi ks (aP l) k (.bl true)=aP l
 |[],[],_=>rfl
 |k'::ks,c::l,h=>by
  show (if k'=k then D.bl true else D.bl true)::oi ks (aP l) k (.bl true)=_;rw[sP (by simpa using h)];split<;>rfl
 |[],_::_,h=>by simp at h
 |_::_,[],h=>by simp at h
def Ei(hl:ks.length<lim):qt (.dct (ks.map keyOf) (aP ks)) (cD c) (.bl true)=some (.dct ((de ks c).map keyOf) (aP (de ks c))):=by
 have M2:(aP ks).length=ks.length:=by simp[aP]
 unfold de;by_cases h:c∈ks
 ·rw[Y6 h];show (match nZ (cD c) with | some kk=>if (aP ks).length<lim then some (C.dct (eh (ks.map keyOf) (aP ks) kk) (c9 (ks.map keyOf) (aP ks) kk (.bl true))) else none | none=>none)=_;rw[t6];show (if (aP ks).length<lim then some (C.dct (eh (ks.map keyOf) (aP ks) (keyOf c)) (c9 (ks.map keyOf) (aP ks) (keyOf c) (.bl true))) else none)=_;rw[Y6 (by rw[M2];exact hl)];obtain⟨d,e,_⟩:=mL M2.symm h;unfold eh c9;rw[e];show some (C.dct (ks.map keyOf) (oi (ks.map keyOf) (aP ks) (keyOf c) (.bl true)))=_;rw[sP (by simp)]
 ·rw[Y7 h,wH h (by rw[M2];exact hl)];simp[aP]
abbrev yg(l:List Cell):D:= .dct ((bV l).map keyOf) (aP (bV l))
def r9(hl:l.length<4000):hJ [cL l]=aa (yg l):=by
 have e:∀(xs ks:List Cell),ks.length+xs.length<4000->forL (putN 2) (eG [2] (wR 1 (dV 2) (dC (.bl true)))) (xs.map cD) [fz (cL l),some (.ow (.dct (ks.map keyOf) (aP ks))),none]=aa (.nx [fz (cL l),some (.ow (.dct ((xs.foldl de ks).map keyOf) (aP (xs.foldl de ks)))),none]):=by
  intro xs;induction xs with
  |nil=>intro ks _;rfl
  |cons x xs ih=>
   intro ks hk;rw[SO] at hk;have hle:(de ks x).length<=ks.length+1:=by unfold de;split<;>simp
   refine(gG rfl ?_).trans (ih (de ks x) (by omega));refine(cF (ρ':=[fz (cL l),some (.ow (.dct ((de ks x).map keyOf) (aP (de ks x)))),fz (cD x)]) ?_).trans rfl;show (match qt (.dct (ks.map keyOf) (aP ks)) (cD x) (.bl true) with | some c'=>aa (Out.nx [fz (cL l),some (.ow c'),fz (cD x)]) | none=>af)=_;rw[Ei (by rw[cH];omega)]
 refine bh (aA rfl (aA (f9 (kr rfl (e l [] (by simpa using hl)))) rfl))
end K1
namespace K1
open PySem L2 L3 HT
def zT(R W:Nat)(g:Nat->Nat->Nat):List Str:=(S5 R).map λi=>du ((S5 W).map (g i))
def ub(R W:Nat)(g:Nat->Nat->Nat):(zT R W g).length=R:=by simp[zT]
def jU{R W:Nat}{g:Nat->Nat->Nat}:∀r∈zT R W g,r.length=W:=λr hr=>by
 obtain⟨i,_,rfl⟩:=S7.mp hr;rw[F4,SI,UG]
def Dq{R W:Nat}{g:Nat->Nat->Nat}{i j:Nat}(hi:i<R)(hj:j<W):at2 (zT R W g) i j=g i j:=by
 have h1:i<(zT R W g).length:=by rw[ub];exact hi
 have e0:(zT R W g)[i]? =some (du ((S5 W).map (g i))):=by
  unfold zT;rw[S2,VQ hi];rfl
 have e1:(zT R W g)[i].cps.toList=(S5 W).map (g i):=by rw[yb e0 h1,fU]
 have h2:j<(zT R W g)[i].cps.toList.length:=by rw[e1,SI,UG];exact hj
 rw[kW h1 h2];have:(zT R W g)[i].cps.toList[j]? =some (g i j):=by rw[e1,S2,VQ hj];rfl
 exact yb this h2
def zm{bd:List Str}{W i j:Nat}(hg:Good bd W)(hi:i<bd.length)(hj:j<W):at2 bd i j∈ME:=Ca hg (F_ (c:=(i,j)) hg.brd ⟨hi,hj⟩)
def lP(bd:List Str)(W:Nat)(some:List Cell)(c:Nat):List Str:=zT bd.length W λi j=>if (i,j)∈some then c else at2 bd i j
def oz{bd:List Str}{W:Nat}(hg:Brd bd W){so:D}{l ks:List Cell}{ds:List D}(hk:hJ [so]=aa (.dct (ks.map keyOf) ds))(hl:ks.length=ds.length)(hm:∀x,x∈ks↔x∈l)(c:Nat):bU [brd bd,so,sg c]=aa (brd (lP bd W l c)):=by
 have h8:=hg.r8;have w8:=hg.w8;have row:∀{i:Nat},i<bd.length->∀{x4 x5:Option Sl},dM gm joinM (dC (.str "")) (aC (aR 0 (fc (dV 6)) bb (Hz (eA (d2 (kE false) (dV 0) (dV 4))) (dV 3) (ar 2 aV (aC (dV 1) (aC (dV 0) aN))))) aN) [fz (brd bd),fz so,fz (sg c),fz (.dct (ks.map keyOf) ds),x4,x5,fz (.lst ((cK W i).map cD))]=aa (.str (du ((S5 W).map λj=>if (i,j)∈l then c else at2 bd i j))):=by
  intro i hi x4 x5;have cm:aR 0 (fc (dV 6)) bb (Hz (eA (d2 (kE false) (dV 0) (dV 4))) (dV 3) (ar 2 aV (aC (dV 1) (aC (dV 0) aN)))) [fz (brd bd),fz so,fz (sg c),fz (.dct (ks.map keyOf) ds),x4,x5,fz (.lst ((cK W i).map cD))]=aa (.lst (((S5 W).map λj=>if (i,j)∈l then c else at2 bd i j).map sg)):=by
   refine bw (ds:=(cK W i).map cD) rfl ?_ (by simp[cH];omega);unfold cK;rw[Tf,Tf];refine cY (cD∘λk=>(i,k)) _ _ λj hj=>?_;have hj:=TL.mp hj;have hc:On bd.length W (i,j):=⟨hi,hj⟩
   rw[fE];have e1:eA (d2 (kE false) (dV 0) (dV 4)) (fz (cD (i,j))::[fz (brd bd),fz so,fz (sg c),fz (.dct (ks.map keyOf) ds),x4,x5,fz (.lst ((cK W i).map cD))])=aa (decide ((i,j)∈ks)):=ke ((aF (x:=cD (i,j)) (y:= .dct (ks.map keyOf) ds) rfl rfl).trans (tV hl));have e2:Hz (eA (d2 (kE false) (dV 0) (dV 4))) (dV 3) (ar 2 aV (aC (dV 1) (aC (dV 0) aN))) (fz (cD (i,j))::[fz (brd bd),fz so,fz (sg c),fz (.dct (ks.map keyOf) ds),x4,x5,fz (.lst ((cK W i).map cD))])=aa (sg (if (i,j)∈l then c else at2 bd i j)):=by
    rw[KH e1];by_cases h:(i,j)∈l
    ·rw[Y6 h,Y6 (Y8 ((hm _).mpr h))];rfl
    ·rw[Y7 h,Y7 (λz=>h ((hm _).mp (Za z)))];exact(ax (ds:=[brd bd,cD (i,j)]) rfl rfl).trans (eI hg hc)
   exact(Zd (· >>=λy=>aa (some y)) e2).trans rfl
  show (if gm (.str "") then((aC _ aN) [fz (brd bd),fz so,fz (sg c),fz (.dct (ks.map keyOf) ds),x4,x5,fz (.lst ((cK W i).map cD))]>>=λds=>joinM (.str "") ds) else af)=_;rw[Y6 (show gm (.str "")=true from rfl),ay cm (xs:=[]) rfl,ai];exact t5 (by simp;omega)
 have lp:=gF (put:=putN 5) (body:=eG [5,6] (a8 (bX 6 (ar 2 bt (aC (dV 0) (aC (dV 5) aN)))) (oq 4 (dM gm joinM (dC (.str "")) (aC (aR 0 (fc (dV 6)) bb (Hz (eA (d2 (kE false) (dV 0) (dV 4))) (dV 3) (ar 2 aV (aC (dV 1) (aC (dV 0) aN))))) aN))))) (λ(k:Nat)=>D.int (k:Int)) (λv6=>[fz (brd bd),fz so,fz (sg c),fz (.dct (ks.map keyOf) ds),some (.ow (.lst v6)),none,none]) (λi=>[.str (du ((S5 W).map λj=>if (i,j)∈l then c else at2 bd i j))]) (B:=100) (S5 bd.length) [] (by
  have:∀l':List Nat,(l'.flatMap λi=>[D.str (du ((S5 W).map λj=>if (i,j)∈l then c else at2 bd i j))]).length=l'.length:=by
   intro l';induction l' with
   |nil=>rfl
   |cons a l' ih=>rw[UT,S1,ih,SO];simp;omega
  rw[Ui,this,UG];omega) λi hi v6 ha=>by
  have hi:=TL.mp hi;refine⟨[fz (brd bd),fz so,fz (sg c),fz (.dct (ks.map keyOf) ds),some (.ow (.lst v6)),fz (.int (i:Int)),none],rfl,?_⟩;refine(cF (ρ':=[fz (brd bd),fz so,fz (sg c),fz (.dct (ks.map keyOf) ds),some (.ow (.lst (v6++[.str (du ((S5 W).map λj=>if (i,j)∈l then c else at2 bd i j))]))),fz (.int (i:Int)),fz (.lst ((cK W i).map cD))]) (aA (ρ':=[fz (brd bd),fz so,fz (sg c),fz (.dct (ks.map keyOf) ds),some (.ow (.lst v6)),fz (.int (i:Int)),fz (.lst ((cK W i).map cD))]) ((aQ ((ax (ds:=[brd bd, .int (i:Int)]) rfl rfl).trans (gw hg i))).trans rfl) ?_)).trans rfl;show (dM gm joinM _ _ _>>=λd=>if v6.length<lim then aa (Out.nx _) else af)=_;rw[row hi,ai,Y6 (by rw[cH];rw[S1] at ha;simp at ha;omega)];rfl
 refine bh (aA (ρ':=[fz (brd bd),fz so,fz (sg c),fz (.dct (ks.map keyOf) ds),none,none,none]) ((aQ ((ax (ds:=[so]) rfl rfl).trans hk)).trans rfl) (aA (ρ':=[fz (brd bd),fz so,fz (sg c),fz (.dct (ks.map keyOf) ds),some (.ow (.lst [])),none,none]) rfl (aA (f9 (kr (BO (n:=bd.length) (De (i:=0) rfl) (by omega)) lp)) (aI ?_))));refine(bz (xs:=[.lst ((S5 bd.length).flatMap λi=>[.str (du ((S5 W).map λj=>if (i,j)∈l then c else at2 bd i j))])]) rfl).trans ?_;show aa (D.tup _)=aa (D.tup ((lP bd W l c).map D.str));unfold lP zT;rw[Tf];have:∀l':List Nat,(l'.flatMap λi=>[D.str (du ((S5 W).map λj=>if (i,j)∈l then c else at2 bd i j))])=l'.map (D.str∘λi=>du ((S5 W).map λj=>if (i,j)∈l then c else at2 bd i j)):=by
  intro l';induction l' with
  |nil=>rfl
  |cons a l' ih=>rw[UT,ih];rfl
 rw[this]
def mM{bd:List Str}{W:Nat}(hg:Brd bd W){l:List Cell}(hl:l.length<4000)(c:Nat):bU [brd bd,cL l,sg c]=aa (brd (lP bd W l c)):=
 oz hg (r9 hl) (by simp[aP]) (λx=>jR) c
def uE{bd:List Str}{W:Nat}{l:List Cell}{c i j:Nat}(hi:i<bd.length)(hj:j<W):at2 (lP bd W l c) i j=if (i,j)∈l then c else at2 bd i j:=Dq hi hj
def fQ(bd:List Str)(W:Nat)(l:List Cell)(c:Nat):(lP bd W l c).length=bd.length:=ub ..
end K1
namespace K1
open PySem L2 L3
def yi(l:List Cell):a7 [cL l]=aa (.int (l.length:Int)):=by
 show aa (D.int ((l.map cD).length:Int))=_;rw[SI]
def qI(f:Cell->D)(x:Cell)(d:D):Cell->D:=λy=>if y=x then d else f y
theorem Az:∀{ks:List Cell},x∈ks->gZ (ks.map keyOf) (ks.map f) (keyOf x)=some (f x)
 |y::ks,h=>by
  show (if keyOf y=keyOf x then some (f y) else gZ (ks.map keyOf) (ks.map f) (keyOf x))=_;by_cases e:y=x
  ·subst e;rw[Y6 rfl]
  ·rw[Y7 (λz=>e (jP z))];rcases S6.mp h with q | q
   ·exact Y9 q.symm e
   ·exact Az q
theorem Ap:∀{ks:List Cell},oi (ks.map keyOf) (ks.map f) (keyOf x) d=ks.map (qI f x d)
 |[]=>rfl
 |y::ks=>by
  show (if keyOf y=keyOf x then d else f y)::oi (ks.map keyOf) (ks.map f) (keyOf x) d=_;rw[Ap,SU];congr 1;unfold qI;by_cases e:y=x
  ·subst e;rw[Y6 rfl,Y6 rfl]
  ·rw[Y7 (λz=>e (jP z)),Y7 e]
def J4(hg:Wd bd W)(hx:On bd.length W x)(hb:dV b ρ=aa (brd bd))(hi:dV i ρ=aa (cD x)):d2 fK (d2 aZ (dV b) (d2 aZ (dV i) (dC (.int 0)))) (d2 aZ (dV i) (dC (.int 1))) ρ=aa (sg (lt bd x)):=by
 have h1:d2 aZ (dV i) (dC (.int 0)) ρ=aa (.int (x.1:Int)):=(aF hi rfl).trans LF.1;have h2:d2 aZ (dV i) (dC (.int 1)) ρ=aa (.int (x.2:Int)):=(aF hi rfl).trans LF.2;refine(aF ((aF hb h1).trans (C9 hx.1)) h2).trans (oO ?_);rw[(hg.rows _ (getD_mem hx.1)).len];exact hx.2
def G5(hg:Brd bd W)(hx:On bd.length W x)(hb:dV b ρ=aa (brd bd))(hi:dV i ρ=aa (cD x)):d2 fK (d2 aZ (dV b) (d2 aZ (dV i) (dC (.int 0)))) (d2 aZ (dV i) (dC (.int 1))) ρ=aa (sg (lt bd x)):=J4 hg.wd hx hb hi
def rank(W:Nat)(x:Cell):Nat:=x.1*W+x.2
def gx(ha:On R W a)(hb:On R W b):Cq a b=true↔rank W a<rank W b:=by
 unfold Cq rank;have h1:=ha.2;have h2:=hb.2;by_cases h:a.1=b.1
 ·rw[Y6 h,Zb,h];omega
 ·rw[Y7 h,Zb];constructor
  ·intro q;have:(a.1+1)*W<=b.1*W:=YD _ q;rw[YT,Nat.one_mul] at this;omega
  ·intro q;refine Classical.byContradiction λz=>?_;have:(b.1+1)*W<=a.1*W:=YD _ (by omega);rw[YT,Nat.one_mul] at this;omega
def Ep(ha:On R W a)(hb:On R W b)(h:rank W a=rank W b):a=b:=by
 have n1:¬Cq a b=true:=λz=>by have:=(gx ha hb).mp z;omega
 have n2:¬Cq b a=true:=λz=>by have:=(gx hb ha).mp z;omega
 unfold Cq at n1 n2;obtain⟨a1,a2⟩:=a;obtain⟨b1,b2⟩:=b;simp only at n1 n2;by_cases h1:a1=b1
 ·rw[Y6 h1,Zb] at n1;rw[Y6 h1.symm,Zb] at n2;rw[Prod.mk.injEq];exact⟨h1,by omega⟩
 ·rw[Y7 h1,Zb] at n1;rw[Y7 (UW h1),Zb] at n2;omega
section
variable{W:Nat}
def mu(R W:Nat)(L:Cell->Cell):Nat:=((bq R W).map λx=>rank W (L x)).sum
end
def Of(h:δ ρ=aa (cL l)):fc δ ρ=aa (l.map cD):=by
 show (δ ρ>>=lstM)=_;rw[h];rfl
def i6(R W:Nat):RiseC (bq R W):=by
 unfold RiseC bq cK;rw[List.pairwise_flatMap];constructor
 ·intro r _;rw[Vt];exact List.pairwise_lt_range.imp λh=>by show (if _ then _ else _)=true;rw[Y6 rfl,Zb];exact h
 ·refine List.pairwise_lt_range.imp λ{a b} h x hx y hy=>?_;obtain⟨i,_,rfl⟩:=S7.mp hx;obtain⟨j,_,rfl⟩:=S7.mp hy;show (if a=b then _ else decide (a<b))=true;rw[Y7 (by omega),Zb];exact h
section
variable{bd:List Str}{W w:Nat}
def Least(bd:List Str)(W w:Nat)(x m:Cell):Prop:=Cn bd W w x m/\∀z,Cn bd W w x z->rank W m<=rank W z
end
def K6:((bq 8 8).map λc=>fZ (ic c)).Nodup:=by decide+kernel
theorem sv:∀{l:List α},(l.map f).Nodup->∀a∈l,∀b∈l,f a=f b->a=b
 |x::l,h,a,ha,b,hb,e=>by
  rw[SU,T8] at h;by_cases h1:a=x
  ·by_cases h2:b=x
   ·rw[h1,h2]
   ·have hb:b∈l:=(S6.mp hb).resolve_left h2;exact Y9 (S7.mpr ⟨b,hb,by rw[<-h1];exact e.symm⟩) h.1
  ·have ha:a∈l:=(S6.mp ha).resolve_left h1;by_cases h2:b=x
   ·exact Y9 (S7.mpr ⟨a,ha,by rw[<-h2];exact e⟩) h.1
   ·exact sv h.2 a ha b ((S6.mp hb).resolve_left h2) e
def FF(hR:R<=8)(hW:W<=8){l:List Cell}(hn:l.Nodup)(zN:∀x∈l,On R W x):(l.map λc=>fZ (ic c)).Nodup:=by
 have h8:∀x∈l,x∈bq 8 8:=λx hx=>bB.mpr ⟨by have:=(zN x hx).1;omega,by have:=(zN x hx).2;omega⟩;rw[Ua,Vt];refine List.Pairwise.imp_of_mem (λ{a b} ha hb h z=>h ?_) hn;exact sv K6 a (h8 a ha) b (h8 b hb) z
def JV{ks:List Cell}{f:Cell->D}{x:Cell}{d:D}:eh (ks.map keyOf) (ks.map f) (keyOf x)=(de ks x).map keyOf/\c9 (ks.map keyOf) (ks.map f) (keyOf x) d=(de ks x).map (qI f x d):=by
 unfold de eh c9;by_cases h:x∈ks
 ·rw[Az h,Y6 h];exact⟨rfl,Ap⟩
 ·rw[j4 h,Y7 h];have e1:ks.map f=ks.map (qI f x d):=Ul λy hy=>by
   unfold qI;rw[Y7 (λz:y=x=>h (z▸hy))]
  have e2:(ks++[x]).map (qI f x d)=ks.map (qI f x d)++[d]:=by
   rw[Uj];congr 1;show [qI f x d x]=[d]
   unfold qI;rw[Y6 rfl]
  exact⟨by rw[Uj];rfl,by rw[e2,<-e1];rfl⟩
theorem pR:∀(l ks:List Cell),cz (ks.map keyOf) (aP ks) (l.map keyOf) (aP l)=((l.foldl de ks).map keyOf,aP (l.foldl de ks))
 |[],ks=>rfl
 |x::l,ks=>by
  show cz (eh (ks.map keyOf) (aP ks) (keyOf x)) (c9 (ks.map keyOf) (aP ks) (keyOf x) (.bl true)) (l.map keyOf) (aP l)=_;have h:=JV (ks:=ks) (f:=λ_=>D.bl true) (x:=x) (d:= .bl true);have e:qI (λ_=>D.bl true) x (.bl true)=λ_=>D.bl true:=by
   funext y;unfold qI;split<;>rfl
  rw[e] at h;rw[show aP ks=ks.map (λ_=>D.bl true) from rfl,h.1,h.2];exact pR l (de ks x)
def CL{l ks:List Cell}(h:ks.Nodup):(l.foldl de ks).Nodup:=(ph l ks).1 h
section
open Classical
variable{bd:List Str}{W w:Nat}
noncomputable def av(bd:List Str)(W w:Nat)(m:Cell):List Cell:=(bq bd.length W).filter λx=>decide (Cn bd W w m x)
noncomputable def d6(bd:List Str)(W w:Nat)(l:List Cell):List Cell:=l.filter λx=>decide (Least bd W w x x)
def cu(hw:Ways w){m:Cell}(hm:On bd.length W m):IsPatch bd W w m (av bd W w m):=by
 refine⟨(i6 _ _).filter _,λx=>?_⟩;unfold av;rw[T1,bB,Zb];exact⟨λh=>h.2,λh=>⟨h.on hw hm,h⟩⟩
theorem Least.on(hw:Ways w){x m:Cell}(hx:On bd.length W x)(h:Least bd W w x m):On bd.length W m:=h.1.on hw hx
def Least.move(hw:Ways w){x y m:Cell}(hx:On bd.length W x)(h:Least bd W w x m)(hy:Cn bd W w x y):Least bd W w y m:=
 ⟨(hy.symm hw hx).trans h.1,λz hz=>h.2 z (hy.trans hz)⟩
def Least.self(hw:Ways w){x m:Cell}(hx:On bd.length W x)(h:Least bd W w x m):Least bd W w m m:=h.move hw hx h.1
variable(L:Cell->Cell)
def Bf(hw:Ways w):∃L:Cell->Cell,∀x,On bd.length W x->Least bd W w x (L x):=by
 have h:∀x,∃m,On bd.length W x->Least bd W w x m:=λx=>by
  by_cases hx:On bd.length W x
  ·have hP:=cu hw hx;cases hp:av bd W w x with
   |nil=>have:=(hP.mem x).mpr Cn.refl;rw[hp] at this;cases this
   |cons m r=>
    rw[hp] at hP;have hm:=(hP.mem m).mp (SM ..);refine⟨m,λ_=>⟨hm,λz hz=>?_⟩⟩;rcases S6.mp ((hP.mem z).mpr hz) with rfl | RK
    ·exact SW _
    ·exact Va ((gx (hm.on hw hx) (hz.on hw hx)).mp ((Uh.mp hP.rise).1 z RK))
  ·exact⟨x,λz=>Y9 z hx⟩
 exact⟨λx=>Classical.choose (h x),λx=>Classical.choose_spec (h x)⟩
noncomputable def qf(bd:List Str)(W w:Nat):D:= .lst ((d6 bd W w (bq bd.length W)).map λm=>cL (av bd W w m))
end
section
open Classical
variable{bd:List Str}{W w:Nat}
noncomputable def AH(bd:List Str)(W w:Nat)(s:List Cell):List D:=(d6 bd W w s).map λm=>cL (av bd W w m)
noncomputable def Ik(bd:List Str)(W w:Nat)(s ks:List Cell)(x4 x5:Option Sl):aO:=[fz (brd bd),fz (iW w),some (.ow (.lst (AH bd W w s))),some (.ow (.dct (ks.map keyOf) (aP ks))),x4,x5]
structure Seen (bd:List Str) (W w:Nat) (s ks:List Cell):Prop where
 nd:ks.Nodup
 on:∀y∈ks,On bd.length W y
 mem:∀y,y∈ks↔∃m∈d6 bd W w s,Cn bd W w m y
def EZ(h0:ρ[i]? =some (some (.ow (.dct (ks.map keyOf) (aP ks)))))(hd:δ ρ=aa (yg l))(hz:ks.length+l.length<=4096)(hh:ks=[]->((bV l).map λc=>fZ (ic c)).Nodup):
 EC i δ ρ=aa (.nx (ρ.set i (some (.ow (.dct (((bV l).foldl de ks).map keyOf) (aP ((bV l).foldl de ks))))))):=by
 unfold EC BC;rw[h0];show (δ ρ>>=λd=>match EY (ks.map keyOf) (aP ks) d with | some c'=>aa (Out.nx (ρ.set i (some (.ow c')))) | none=>af)=_;rw[hd,ai];have:EY (ks.map keyOf) (aP ks) (yg l)=some (.dct (((bV l).foldl de ks).map keyOf) (aP ((bV l).foldl de ks))):=by
  show (match fL ((bV l).map keyOf) with | some ns=>if (aP ks).length+(aP (bV l)).length<=lim/\((ks.map keyOf).isEmpty=true->(ns.map fZ).Nodup) then some (C.dct (cz (ks.map keyOf) (aP ks) ((bV l).map keyOf) (aP (bV l))).1 (cz (ks.map keyOf) (aP ks) ((bV l).map keyOf) (aP (bV l))).2) else none | none=>none)=_;rw[me];show (if (aP ks).length+(aP (bV l)).length<=lim/\((ks.map keyOf).isEmpty=true->(((bV l).map ic).map fZ).Nodup) then some (C.dct (cz (ks.map keyOf) (aP ks) ((bV l).map keyOf) (aP (bV l))).1 (cz (ks.map keyOf) (aP ks) ((bV l).map keyOf) (aP (bV l))).2) else none)=_;have c1:(aP ks).length+(aP (bV l)).length<=lim:=by
   have:=Bh l;unfold aP;rw[SI,SI,cH];omega
  have c2:(ks.map keyOf).isEmpty=true->(((bV l).map ic).map fZ).Nodup:=λz=>by
   rw[Tf];exact hh (by cases ks with | nil=>rfl | cons _ _=>cases z)
  rw[Y6 ⟨c1,c2⟩,pR]
 rw[this]
def w6(hg:Brd bd W)(hs:bd.length*W<64)(hw:Ways w)(hx:On bd.length W x)(h0:dV 0 ρ=aa (brd bd))(h1:dV 1 ρ=aa (iW w))(h4:dV 4 ρ=aa (cD x)):
 dA qD (aC (ar 3 bC (aC (dV 0) (aC (dV 4) (aC (dV 1) aN)))) aN) ρ=aa (cL (av bd W w x)):=by
 obtain⟨k,ks,ps,q1,q2,q3⟩:=jH hg hw hx;have e1:ar 3 bC (aC (dV 0) (aC (dV 4) (aC (dV 1) aN))) ρ=aa (Cb ks ps):=(ax (ay h0 (ay h4 (ay h1 rfl))) rfl).trans q3;refine(bz (ay e1 rfl)).trans ((w9 q1.nd (Vn (kX q1.nd q2) hs)).trans ?_);have:nP ks=av bd W w x:=IsPatch.one ⟨qC q1.nd,λx=>sj.trans (q1.last x)⟩ (cu hw hx);rw[this]
def ik(s:List Cell)(x:Cell):d6 bd W w (s++[x])=if Least bd W w x x then d6 bd W w s++[x] else d6 bd W w s:=by
 unfold d6;rw[List.filter_append];by_cases h:Least bd W w x x
 ·rw[Y6 h,List.filter_cons_of_pos (by rw[Zb];exact h),List.filter_nil]
 ·rw[Y7 h,List.filter_cons_of_neg (by rw[Zb];exact h),List.filter_nil,TM]
def Fh(hg:Brd bd W)(hs:bd.length*W<64)(hw:Ways w){L:Cell->Cell}(hL:∀x,On bd.length W x->Least bd W w x (L x))(e:s++x::r=bq bd.length W)(h:Seen bd W w s ks):
 ∃ks',Seen bd W w (s++[x]) ks'/\Nt (Ik bd W w s ks (fz (cD x)) none)=aa (.nx (Ik bd W w (s++[x]) ks' none none)):=by
 have hx:On bd.length W x:=bB.mp (by rw[<-e];simp);have C0:=i6 bd.length W;rw[<-e] at C0;have MV:∀y∈s,On bd.length W y:=λy hy=>bB.mp (by rw[<-e];simp[hy]);have N7:∀y∈r,On bd.length W y:=λy hy=>bB.mp (by rw[<-e];simp[hy]);have FG:∀y∈s,rank W y<rank W x:=λy hy=>(gx (MV y hy) hx).mp ((Yv.mp C0).2.2 y hy x (SM ..));have IL:∀y∈r,rank W x<rank W y:=λy hy=>(gx hx (N7 y hy)).mp ((Uh.mp (Yv.mp C0).2.1).1 y hy);have Sr:ks.length<=64:=by have:=kX h.nd h.on;omega
 have HS:s.length<64:=by
  have:=Zd List.length e;rw[c7,S1,SO] at this;omega
 have ht:Ks (eA (d2 (kE true) (dV 4) (dV 3))) (Ik bd W w s ks (fz (cD x)) none)=aa (!decide (x∈ks)):=
  Ie (ke ((aF rfl rfl).trans (tV (by simp[aP]))))
 by_cases hl:Least bd W w x x
 ·have N_:x∉ks:=λz=>by
   obtain⟨m,hm,hc⟩:=(h.mem x).mp z;unfold d6 at hm;rw[T1,Zb] at hm;have h1:=FG m hm.1;have h2:=hl.2 m (hc.symm hw (MV m hm.1));omega
  rw[Y_ N_] at ht;have hP:=cu hw hx;have IK:∀y∈av bd W w x,On bd.length W y:=λy hy=>((hP.mem y).mp hy).on hw hx;have NH:(av bd W w x).length<=64:=by have:=kX hP.rise.nodup IK;omega
  have MQ:(AH bd W w s).length<lim:=by
   unfold AH;rw[SI,cH];have:=TV (λx=>decide (Least bd W w x x)) s;unfold d6;omega
  refine⟨(bV (av bd W w x)).foldl de ks,⟨CL h.nd,λy hy=>?_,λy=>?_⟩,?_⟩
  ·rcases((ph (bV (av bd W w x)) ks).2.1 y).mp hy with q | q
   ·exact h.on y q
   ·exact IK y (jR.mp q)
  ·rw[(ph (bV (av bd W w x)) ks).2.1 y,jR,h.mem y,ik,Y6 hl,hP.mem y];constructor
   ·rintro(⟨m,hm,hc⟩ | hc)
    ·exact⟨m,TH.mpr (.inl hm),hc⟩
    ·exact⟨x,by simp,hc⟩
   ·rintro⟨m,hm,hc⟩;rcases TH.mp hm with hm | hm
    ·exact .inl ⟨m,hm,hc⟩
    ·rw[Tg.mp hm] at hc;exact .inr hc
  ·have ef:AH bd W w (s++[x])=AH bd W w s++[cL (av bd W w x)]:=by
    unfold AH;rw[ik,Y6 hl,Uj];rfl
   refine(cF (ρ':=[fz (brd bd),fz (iW w),some (.ow (.lst (AH bd W w s++[cL (av bd W w x)]))),some (.ow (.dct (((bV (av bd W w x)).foldl de ks).map keyOf) (aP ((bV (av bd W w x)).foldl de ks)))),fz (cD x),fz (cL (av bd W w x))]) (gc ht (aA ((aQ (w6 hg hs hw hx rfl rfl rfl)).trans rfl) (aA (ρ':=[fz (brd bd),fz (iW w),some (.ow (.lst (AH bd W w s++[cL (av bd W w x)]))),some (.ow (.dct (ks.map keyOf) (aP ks))),fz (cD x),fz (cL (av bd W w x))]) ?_ ?_)))).trans ?_
   ·show (if (AH bd W w s).length<lim then aa (Out.nx [fz (brd bd),fz (iW w),some (.ow (.lst (AH bd W w s++[cL (av bd W w x)]))),some (.ow (.dct (ks.map keyOf) (aP ks))),fz (cD x),fz (cL (av bd W w x))]) else af)=_;rw[Y6 MQ]
   ·exact(EZ rfl ((ax rfl rfl).trans (r9 (by omega))) (by omega) (λ_=>FF hg.r8 hg.w8 (Du _) λy hy=>IK y (jR.mp hy))).trans rfl
   ·unfold Ik;rw[ef];rfl
 ·have hm:=hL x hx;have ib:L x≠x:=λz=>hl (by rw[z] at hm;exact hm);have ki:rank W (L x)<rank W x:=by
   have h1:=hm.2 x Cn.refl;have h2:rank W (L x)≠rank W x:=λz=>ib (Ep (hm.on hw hx) hx z);omega
  have Rn:L x∈s:=by
   have:L x∈s++x::r:=by rw[e];exact bB.mpr (hm.on hw hx)
   rcases TH.mp this with q | q
   ·exact q
   ·rcases S6.mp q with q | q
    ·exact Y9 q ib
    ·have:=IL _ q;omega
  have N_:x∈ks:=(h.mem x).mpr ⟨L x,by unfold d6;rw[T1,Zb];exact⟨Rn,hm.self hw hx⟩,hm.1.symm hw hx⟩;rw[Y8 N_] at ht;refine⟨ks,⟨h.nd,h.on,λy=>by rw[ik,Y7 hl];exact h.mem y⟩,?_⟩;have ef:AH bd W w (s++[x])=AH bd W w s:=by
   unfold AH;rw[ik,Y7 hl]
  refine(cF (dD ht rfl)).trans ?_;unfold Ik;rw[ef];rfl
theorem zk(hg:Brd bd W)(hs:bd.length*W<64)(hw:Ways w){L:Cell->Cell}(hL:∀x,On bd.length W x->Least bd W w x (L x)):∀(r s ks:List Cell),s++r=bq bd.length W->Seen bd W w s ks->
 ∃ks',forL (putN 4) Nt (r.map cD) (Ik bd W w s ks none none)=aa (.nx (Ik bd W w (bq bd.length W) ks' none none))
 |[],s,ks,e,h=>by
  rw[TM] at e;exact⟨ks,by rw[e];rfl⟩
 |x::r,s,ks,e,h=>by
  obtain⟨RO,h1,e1⟩:=Fh hg hs hw hL e h;obtain⟨RP,e2⟩:=zk hg hs hw hL r (s++[x]) RO (by rw[Xc];exact e) h1;exact⟨RP,(gG rfl e1).trans e2⟩
def iO(hg:Brd bd W)(hs:bd.length*W<64)(hw:Ways w):bP [brd bd,iW w]=aa (qf bd W w):=by
 obtain⟨L,hL⟩:=Bf hw;obtain⟨ks,e⟩:=zk hg hs hw hL (bq bd.length W) [] [] rfl ⟨V0,(λy hy=>(by cases hy)),(λy=>⟨λz=>(by cases z),λ⟨m,hm,_⟩=>(by cases hm)⟩)⟩;refine bh (aA rfl (aA rfl (aA (f9 (kr (Of ((ax rfl rfl).trans (qV hg))) e)) rfl)))
end
theorem pf(g:α->β):∀l:List α,(l.flatMap λr=>[g r])=l.map g
 |[]=>rfl
 |a::l=>by rw[UT,pf g l];rfl
section
open Classical
variable{bd:List Str}{W w:Nat}
noncomputable def cC(bd:List Str)(W w:Nat):List (List Cell):=(d6 bd W w (bq bd.length W)).map (av bd W w)
def qg:qf bd W w= .lst ((cC bd W w).map cL):=by
 unfold qf cC;rw[Tf];rfl
def vV(h:m∈d6 bd W w (bq bd.length W)):On bd.length W m:=by
 unfold d6 at h;exact bB.mp (T1.mp h).1
def pJ:(cC bd W w).length<=bd.length*W:=by
 unfold cC d6;rw[SI,<-c7 bd.length W];exact TV ..
def wA(hg:Brd bd W)(HQ:a_ [brd bd]=aa .non)(hs:bd.length*W<64)(hw:Ways w):gD [brd bd,iW w]=aa (.lst ((cC bd W w).map cL)):=by
 rw[<-qg];exact bh (aA (gS ((ax rfl rfl).trans HQ)) (aA (gS ((ax rfl rfl).trans hw.nw)) (aI ((ax rfl rfl).trans (iO hg hs hw)))))
end
end K1
namespace K1
open PySem PySem.Spec L2 L3
open PyProof.Rows hiding St
def LC(h:δ ρ=aa (.lst ds)):fc δ ρ=aa ds:=by
 unfold fc;rw[h];rfl
theorem pY:∀l:List Int,nums (l.map D.int)=some l
 |[]=>rfl
 |x::l=>by
  show (nums (l.map D.int)).map _=_;rw[pY l];rfl
def RT(h:0<l.length):LK [.lst (l.map D.int)]=aa (.int (Ga l)):=by
 show (match nums (l.map D.int) with | some ns=>if 0<ns.length then aa (D.int (Ga ns)) else af | none=>af)=_;rw[pY];exact Y6 h
def ne_self{d:D}(h:pb 6 d d=some true):jO d d=aa (.bl false):=by
 unfold jO;rw[h];rfl
def uW{l:List Int}(h:δ ρ=aa (.lst (l.map D.int))):dA nR (aC δ aN) ρ=aa (.int l.sum):=by
 refine(bz (ay h rfl)).trans ?_;show (match nums (l.map D.int) with | some ns=>aa (D.int ns.sum) | none=>af)=_;rw[pY]
def zF(a b:Int):l_ (.int a) (.int b)=aa (.bl (a==b)):=by
 unfold l_;rw[k7]
def Dj{α β:Type}{f:α->β}{l:List α}(hn:l.Nodup)(h:∀a∈l,∀b∈l,f a=f b->a=b):(l.map f).Nodup:=by
 refine Vt.mpr ?_;induction l with
 |nil=>exact .nil
 |cons x l ih=>
  have hn:=T8.mp hn;exact Uh.mpr ⟨λb hb z=>hn.1 (by rw[h x (SM ..) b (SJ _ hb) z];exact hb),ih hn.2 λa ha b hb=>h a (SJ _ ha) b (SJ _ hb)⟩
def ie{i:Nat}(h:l[i]? =some d):eC (.lst l) (.int (i:Int))=aa d:=by
 show (match L2.atI l (i:Int) with | some x=>aa x | none=>af)=_;rw[gu h]
def HW(m:Nat)(hm:m<=64)(hn:δn ρ=aa (.int (m:Int)))(h:∀k:Nat,k<m->δ (fz (.int (k:Int))::ρ)=aa (g k)):aR 0 (λρ=>(aC δn aN) ρ>>=e_) bb δ ρ=aa (.lst ((S5 m).map g)):=by
 refine bw (BO hn (by omega)) (cY (λ(k:Nat)=>D.int (k:Int)) g (S5 m) λk hk=>?_) (by rw[SI,UG,cH];omega);rw[fE,h k (TL.mp hk)];rfl
end K1
namespace K1
open PySem L2 L3 HT
theorem l6(x:Str)(c:Nat):∀(n a:Nat) (st:Array Nat×Nat),a+n<=x.length+1->st.snd<=a->st.fst.size<=a->
 (forIn (TZ a n) st (YO x ⟨#[c]⟩ x.length (x.length+1))).run.fst.size=st.fst.size+((TZ a n).filter λi=>decide (x.cps.toList[i]? =some c)).length
 |0,a,st,_,_,_=>rfl
 |n+1,a,st,h1,h2,h3=>by
  rw[VB,Ww,VC];have key:=StrLaws.subAt_one x c a;unfold YO;by_cases hc:x.cps.toList[a]? =some c
  ·have k:=key.mpr hc;rw[Y6 ⟨⟨⟨by omega,h2⟩,k.1⟩,k.2⟩,Y6 (Y8 hc)];have ih:=l6 x c n (a+1) (st.fst.push a,a+(⟨#[c]⟩:Str).length) (by omega) (SW _) (by simp;omega);refine Eq.trans ih ?_;simp;omega
  ·rw[Y7 (λz=>hc (key.mp ⟨z.1.2,z.2⟩)),Y7 (by simpa using hc)];exact l6 x c n (a+1) (st.fst,st.snd) (by omega) (by show st.snd<=a+1;omega) (by show st.fst.size<=a+1;omega)
theorem tH(c:Nat):∀l:List Nat,((S5 (l.length+1)).filter λi=>decide (l[i]? =some c)).length=l.count c
 |[]=>by simp[VO]
 |a::l=>by
  rw[SO,Wn,VC,XI];have e:((λi=>decide ((a::l)[i]? =some c))∘Yj)=λi=>decide (l[i]? =some c):=by
   funext i;simp
  rw[e];by_cases h:a=c
  ·subst h;simp only[Tw,decide_true,if_true,SO,SI,tH a l,List.count_cons_self]
  ·have h':¬(a==c)=true:=by simpa using h
   simp only[Tw,Option.some.injEq,h,decide_false,Tt,if_false,SI,tH c l];rw[List.count_cons_of_ne h]
def zx(x:Str)(c:Nat):(T6 x ⟨#[c]⟩ 0 x.length (x.length+1)).length=x.cps.toList.count c:=by
 have k:=l6 x c (x.length+1 - 0) 0 (#[],0) (by omega) (SW _) (SW _);rw[StrLaws.occ_eq,Td,k,<-tH c x.cps.toList];show 0+_=_;rw[WC,Td,WK];rfl
theorem o7{α:Type}{f:D->M (Option D)}(Zf:α->D)(p:α->Bool)(g:α->D):∀(xs:List α),(∀x∈xs,f (Zf x)=aa (if p x then some (g x) else none))->cX f (xs.map Zf)=aa ((xs.filter p).map g)
 |[],_=>rfl
 |x::xs,h=>by
  rw[SU,dP,h x (SM ..),ai,o7 Zf p g xs λy hy=>h y (SJ _ hy),VC];cases p x<;>rfl
end K1
namespace K1
open PySem L2 L3
open PyProof.Rows hiding St
def bR(b:List Str)(j:Nat):List Nat:=(S5 b.length).map λi=>at2 b i j
def bE(l:List Nat):List Nat:=Tc (l.length - (l.filter (· !=46)).length) 46++l.filter (· !=46)
def gE(l:List Nat):(bE l).length=l.length:=by
 unfold bE;rw[S1,U7];have:=TV (· !=46) l;omega
def eN(b:List Str)(j:Nat):(bR b j).length=b.length:=by unfold bR;rw[SI,UG]
def dj(b:List Str)(W:Nat):List Str:=zT b.length W λi j=>(bE (bR b j)).getD i 0
def yX{x:Str}{l:List Nat}(h:x.cps.toList=l):x=du l:=by
 cases x with
 |mk a=>cases a with | mk y=>cases h;rfl
def GU(l:List Nat):VS (du l) (S3 ".") (S3 "")=du (l.filter (· !=46)):=yX ((replace_strikes (du l) 46).trans rfl)
def Et(l:List Nat)(n:Nat):Wb (du l) (n:Int) 46=du (Tc (n - l.length) 46++l):=yX ((rjustF_list (du l) (n:Int) 46).trans rfl)
def jW(l:List Nat):(du l).length=l.length:=rfl
def kA{kd:D->Bool}{g:D->List D->M D}{o:DE}{s:DA}{ρ:aO}{d:D}{ds:List D}(h1:o ρ=aa d)(h2:kd d=true)(h3:s ρ=aa ds):dM kd g o s ρ=g d ds:=by
 unfold dM;rw[h1,ai,Y6 h2,h3];rfl
section
variable{bd:List Str}{W:Nat}
def vp(hg:Brd bd W){k:Nat}(hk:k<W){ρ:aO}{i:Nat}(h0:ρ[0]? =some (fz (brd bd)))(hi:ρ[i]? =some (fz (.int (k:Int)))):dM gm joinM (dC (.str "")) (aC (aR 0 (gA (dV 0)) bb (d2 fK (dV 0) (dV (i+1)))) aN) ρ=aa (.str (du (bR bd k))):=by
 have r8:=hg.r8;have cm:aR 0 (gA (dV 0)) bb (d2 fK (dV 0) (dV (i+1))) ρ=aa (.lst ((bR bd k).map sg)):=by
  have e0:bd=(S5 bd.length).map λj=>bd.getD j ⟨#[]⟩:=by
   refine UM (by simp) λj h1 h2=>?_;rw[UZ,W8,S0,SK h1];rfl
  refine bw (ds:=bd.map D.str) ?_ ?_ (by rw[SI,eN,cH];omega)
  ·show (dV 0 ρ>>=_)=_;unfold dV;rw[h0];rfl
  ·have:cX (fW 0 bb (d2 fK (dV 0) (dV (i+1))) ρ) (((S5 bd.length).map λj=>bd.getD j ⟨#[]⟩).map D.str)=aa ((bR bd k).map sg):=by
    unfold bR;rw[Tf,Tf];refine cY (D.str∘λj=>bd.getD j ⟨#[]⟩) _ _ λj hj=>?_;have hj:=TL.mp hj;have hl:k<(bd.getD j ⟨#[]⟩).length:=by rw[(hg.rows _ (getD_mem hj)).len];exact hk
    rw[fE];show (d2 fK (dV 0) (dV (i+1)) (fz (.str (bd.getD j ⟨#[]⟩))::ρ)>>=λy=>aa (some y))=_;rw[aF (x:= .str (bd.getD j ⟨#[]⟩)) (y:= .int (k:Int)) rfl (by unfold dV;rw[Tx,hi]),oO hl];rfl
   rw[<-e0] at this;exact this
 refine(kA (d:= .str "") rfl rfl (ay cm rfl)).trans (t5 (by rw[eN];omega))
def CJ(hg:Brd bd W){k:Nat}(hk:k<W):dH [brd bd, .int (k:Int)]=aa (.str (du (bE (bR bd k)))):=by
 have r8:=hg.r8;have cl:=eN bd k;have fl:=TV (· !=46) (bR bd k);refine bh (aA (aQ (vp hg hk rfl rfl)) (aI ?_));have e1:zB "." (dV 2) [fz (brd bd),fz (.int (k:Int)),fz (.str (du (bR bd k)))]=aa (.str (du ((bR bd k).filter (· !=46)))):=by
  show (if (du (bR bd k)).length<=1000/\(VS (du (bR bd k)) (S3 ".") (S3 "")).length<=lim then aa (D.str (VS (du (bR bd k)) (S3 ".") (S3 ""))) else af)=_;rw[GU,Y6 ⟨by rw[jW];omega,by rw[jW,cH];omega⟩]
 refine(kA (d:= .str (du ((bR bd k).filter (· !=46)))) (ds:=[.int ((bd.length:Nat):Int), .str "."]) e1 rfl (ay ((bz (xs:=[brd bd]) (ay rfl rfl)).trans ?_) rfl)).trans ?_
 ·show aa (D.int (((bd.map D.str).length:Nat):Int))=_;rw[SI]
 ·show (if PadOk ((bd.length:Nat):Int)=true/\(S3 ".").length=1/\(Wb (du ((bR bd k).filter (· !=46))) ((bd.length:Nat):Int) 46).length<=lim then aa (D.str (Wb (du ((bR bd k).filter (· !=46))) ((bd.length:Nat):Int) 46)) else af)=_;have e2:Wb (du ((bR bd k).filter (· !=46))) ((bd.length:Nat):Int) 46=du (bE (bR bd k)):=by rw[Et];unfold bE;rw[cl]
  have e3:PadOk ((bd.length:Nat):Int)=true:=by
   generalize bd.length=n at r8
   match n,r8 with
   |0,_ | 1,_ | 2,_ | 3,_ | 4,_ | 5,_ | 6,_ | 7,_ | 8,_=>rfl
  rw[e2,Y6 ⟨e3,rfl,by rw[jW,gE,cH];omega⟩]
end
section
variable{bd:List Str}{W:Nat}
abbrev rE(bd:List Str)(W:Nat):D:= .lst ((S5 W).map λj=> .str (du (bE (bR bd j))))
def Iv(l:List Nat)(i:Nat):ch (du l) i=l.getD i 0:=by
 unfold ch du;simp
def CI(hg:Brd bd W){i:Nat}(hi:i<bd.length){x0 x2:Option Sl}{ρ:aO}:dM gm joinM (dC (.str "")) (aC (aR 0 (fc (dV 1)) bb (d2 fK (dV 0) (dV 4))) aN) (x0::fz (rE bd W)::x2::fz (.int (i:Int))::ρ)=aa (.str (du ((S5 W).map λj=>(bE (bR bd j)).getD i 0))):=by
 have w8:=hg.w8;refine(kA (d:= .str "") (ds:=[.lst (((S5 W).map λj=>(bE (bR bd j)).getD i 0).map sg)]) rfl rfl (ay (bw (ds:=(S5 W).map λj=> .str (du (bE (bR bd j)))) rfl ?_ (by simp[cH];omega)) rfl)).trans (t5 (by simp;omega));rw[Tf];refine cY (λj:Nat=>D.str (du (bE (bR bd j)))) _ _ λj hj=>?_;rw[fE];show (fK (.str (du (bE (bR bd j)))) (.int (i:Int))>>=λy=>aa (some y))=_;rw[oO (by rw[jW,gE,eN];exact hi),Iv];rfl
def xZ(hg:Brd bd W):i7 [brd bd]=aa (brd (dj bd W)):=by
 have r8:=hg.r8;have w8:=hg.w8;have lp:=gF (put:=putN 3) (body:=eG [3] (oq 2 (dM gm joinM (dC (.str "")) (aC (aR 0 (fc (dV 1)) bb (d2 fK (dV 0) (dV 4))) aN)))) (B:=100) (λ(k:Nat)=>D.int (k:Int)) (λv6=>[fz (brd bd),fz (rE bd W),some (.ow (.lst v6)),none]) (λi=>[.str (du ((S5 W).map λj=>(bE (bR bd j)).getD i 0))]) (S5 bd.length) [] (by
  rw[Ui,pf,SI,UG];omega) λi hi v6 ha=>by
  have hi:=TL.mp hi;refine⟨[fz (brd bd),fz (rE bd W),some (.ow (.lst v6)),fz (.int (i:Int))],rfl,?_⟩;refine(cF (ρ':=[fz (brd bd),fz (rE bd W),some (.ow (.lst (v6++[.str (du ((S5 W).map λj=>(bE (bR bd j)).getD i 0))]))),fz (.int (i:Int))]) ?_).trans rfl;show (dM gm joinM _ _ _>>=λd=>if v6.length<lim then aa (Out.nx _) else af)=_;rw[CI hg hi,ai,Y6 (by rw[cH];rw[S1] at ha;simp at ha;omega)];rfl
 refine bh (aA (ρ':=[fz (brd bd),fz (rE bd W),none,none]) ((aQ (HW W (by omega) (hg.wd.len0 (i:=0) rfl) λk hk=>?_)).trans rfl) (aA (ρ':=[fz (brd bd),fz (rE bd W),some (.ow (.lst [])),none]) rfl (aA (f9 (kr (BO (n:=bd.length) (De (i:=0) rfl) (by omega)) lp)) (aI ?_))))
 ·exact(ax (ds:=[brd bd, .int (k:Int)]) rfl rfl).trans (CJ hg hk)
 ·refine(bz (xs:=[.lst ((S5 bd.length).flatMap λi=>[.str (du ((S5 W).map λj=>(bE (bR bd j)).getD i 0))])]) rfl).trans ?_;show aa (D.tup _)=aa (D.tup ((dj bd W).map D.str));unfold dj zT;rw[Tf,pf];rfl
def dg(bd:List Str)(W:Nat):(dj bd W).length=bd.length:=ub ..
def pd{i j:Nat}(hi:i<bd.length)(hj:j<W):at2 (dj bd W) i j=(bE (bR bd j)).getD i 0:=Dq hi hj
def rN{j:Nat}(hj:j<W):bR (dj bd W) j=bE (bR bd j):=by
 refine UM (by rw[eN,gE,eN,dg]) λi h1 h2=>?_;have h3:i<bd.length:=by rw[eN,dg] at h1;exact h1
 have e:(bR (dj bd W) j)[i]=at2 (dj bd W) i j:=by simp[bR]
 rw[e,pd h3 hj,S0,SK h2];rfl
def rM(hg:Brd bd W):Brd (dj bd W) W:=⟨by rw[dg];exact hg.r1,by rw[dg];exact hg.r8,hg.w1,hg.w8,λr hr=>⟨jU r hr⟩⟩
def qr(hg:Brd bd W)(l:List Cell)(c:Nat):Brd (lP bd W l c) W:=⟨by rw[fQ];exact hg.r1,by rw[fQ];exact hg.r8,hg.w1,hg.w8,λr hr=>⟨jU r hr⟩⟩
end
def gy(p:Nat->Bool)(b:List Str)(W:Nat):Nat:=(bq b.length W).countP λx=>p (lt b x)
def sm(n:Nat)(f:Nat->Nat):Nat:=((S5 n).map f).sum
def j3(n:Nat)(f:Nat->Nat):sm (n+1) f=sm n f+f n:=by
 unfold sm;rw[VO,Uj,List.sum_append];simp
def Av(f:Nat->Nat):sm 0 f=0:=rfl
def lS{n:Nat}{f g:Nat->Nat}(h:∀i,i<n->f i=g i):sm n f=sm n g:=by
 unfold sm;rw[Ul λi hi=>h i (TL.mp hi)]
def J7(n:Nat)(f g:Nat->Nat):sm n (λi=>f i+g i)=sm n f+sm n g:=by
 induction n with
 |zero=>rfl
 |succ n ih=>rw[j3,j3,j3,ih];omega
def G8(n m:Nat)(f:Nat->Nat->Nat):sm n (λi=>sm m (f i))=sm m λj=>sm n λi=>f i j:=by
 induction n with
 |zero=>
  rw[Av];have:∀m,sm m (λj=>sm 0 λi=>f i j)=0:=λm=>by
   induction m with
   |zero=>rfl
   |succ m ih=>rw[j3,ih,Av]
  rw[this]
 |succ n ih=>
  rw[j3,ih,<-J7];exact lS λj _=>(j3 n λi=>f i j).symm
def ind(b:Bool):Nat:=if b then 1 else 0
theorem g9{α:Type}(p:α->Bool):∀l:List α,l.countP p=(l.map λx=>ind (p x)).sum
 |[]=>rfl
 |a::l=>by
  rw[VD,g9 p l,SU,Vb];unfold ind;omega
def Fq(p:Nat->Bool)(n:Nat):(S5 n).countP p=sm n λi=>ind (p i):=g9 p _
def zw(p:Nat->Bool)(b:List Str)(W:Nat):gy p b W=sm b.length λi=>sm W λj=>ind (p (at2 b i j)):=by
 unfold gy bq;rw[List.countP_flatMap];unfold sm;congr 1;refine Ul λi _=>?_;show (cK W i).countP _=_;unfold cK;rw[List.countP_map];exact g9 _ _
def vo(p:Nat->Bool)(b:List Str)(W:Nat):gy p b W=sm W λj=>(bR b j).countP p:=by
 rw[zw,G8];refine lS λj _=>?_;unfold bR;rw[List.countP_map];exact(Fq _ _).symm
def AW{p:Nat->Bool}(hp:p 46=false)(l:List Nat):(bE l).countP p=l.countP p:=by
 unfold bE;rw[List.countP_append,List.countP_replicate,hp,List.countP_filter];simp only[Tt,if_false,WC];refine Y4 λx _=>?_;constructor
 ·intro h;exact(Ue.mp h).1
 ·intro h;refine Ue.mpr ⟨h,?_⟩;refine bne_iff_ne.mpr λz=>?_;rw[z,hp] at h;cases h
def Cs{p:Nat->Bool}(hp:p 46=false)(b:List Str)(W:Nat):gy p (dj b W) W=gy p b W:=by
 rw[vo,vo];exact lS λj hj=>by rw[rN hj,AW hp]
def Fo{R W:Nat}{P:List Cell}(hn:P.Nodup)(ho:∀x∈P,On R W x):((bq R W).countP λx=>decide (x∈P))=P.length:=by
 rw[Xy];refine WG (fN ((i6 R W).nodup.filter _) λx hx=>Za (T1.mp hx).2) (fN hn λx hx=>T1.mpr ⟨bB.mpr (ho x hx),Y8 hx⟩)
def Fp{p:Nat->Bool}(hp:p 46=false){b:List Str}{W s:Nat}{P:List Cell}(hn:P.Nodup)(ho:∀x∈P,On b.length W x)(hs:∀x∈P,lt b x=s):
 gy p (lP b W P 46) W+(if p s then P.length else 0)=gy p b W:=by
 have h1:(if p s then P.length else 0)=(bq b.length W).countP λx=>decide (x∈P)&&p s:=by
  cases p s
  ·rw[Y7 Te];refine(List.countP_eq_zero.mpr λx _=>?_).symm;simp
  ·rw[Y6 rfl,<-Fo hn ho];exact Y4 λx _=>by simp
 have h2:∀l:List Cell,(∀x∈l,On b.length W x)->(l.countP λx=>p (lt (lP b W P 46) x))+(l.countP λx=>decide (x∈P)&&p s)=l.countP λx=>p (lt b x):=λl=>by
  induction l with
  |nil=>intro _;rfl
  |cons x l ih=>
   intro hl;have ih:=ih λy hy=>hl y (SJ _ hy);rw[VD,VD,VD];have hx:=hl x SM;have e:lt (lP b W P 46) x=if x∈P then 46 else lt b x:=uE hx.1 hx.2
   rw[e];by_cases h:x∈P
   ·rw[Y6 h,hp,Y8 h,hs x h];simp only[W9,Tt,if_false];omega
   ·rw[Y7 h,Y_ h];simp only[Bool.false_and,Tt,if_false];omega
 rw[h1];have:=h2 (bq b.length W) λx hx=>bB.mp hx;unfold gy;rw[fQ];exact this
def kZ(p:Nat->Bool){b:List Str}{W:Nat}(hr:∀r∈b,r.length=W):gy p b W=(b.map λr=>r.cps.toList.countP p).sum:=by
 rw[zw];have:∀i,i<b.length->(sm W λj=>ind (p (at2 b i j)))=(b.getD i ⟨#[]⟩).cps.toList.countP p:=λi hi=>by
  have hl:=hr _ (getD_mem hi);rw[g9];unfold sm;congr 1;refine UM (by simp;exact hl.symm) λj h1 h2=>?_;rw[UZ,UZ,W8];rw[SI,UG] at h1;have hj:j<(b.getD i ⟨#[]⟩).cps.toList.length:=by rw[SI] at h2;exact h2
  show ind (p (ch (b.getD i ⟨#[]⟩) j))=_;unfold ch;congr 2;rw[S0,SK hj];rfl
 rw[lS this];unfold sm;congr 1;refine UM (by simp) λi h1 h2=>?_;rw[UZ,UZ,W8];rw[SI] at h2;rw[S0,SK h2];rfl
def Cr(c:Nat){b:List Str}{W:Nat}(hr:∀r∈b,r.length=W):(qU b).count c=gy (· ==c) b W:=by
 rw[kZ _ hr];unfold qU;rw[List.count_flatten,Tf];rfl
def uc{b:List Str}{W:Nat}(hg:Brd b W):bT [brd b]=aa (.int (gy (· !=46) b W:Nat)):=by
 refine bh (aI ((uW (l:=b.map λr=>((r.cps.toList.countP (· !=46):Nat):Int)) (bw (ds:=b.map D.str) rfl ((cY D.str (λr=> .int ((r.cps.toList.countP (· !=46):Nat):Int)) b λr hr=>?_).trans (by rw[Tf];rfl)) (by rw[SI,SI,cH];have:=hg.r8;omega))).trans ?_))
 ·have hc:((tG r ".":Nat):Int)=((r.cps.toList.count 46:Nat):Int):=by
   show ((tG r ⟨#[46]⟩:Nat):Int)=_;unfold tG;rw[zx]
  have h2:r.cps.toList.countP (· !=46)+r.cps.toList.count 46=r.length:=by
   have:∀l:List Nat,l.countP (· !=46)+l.count 46=l.length:=λl=>by
    induction l with
    |nil=>rfl
    |cons x l ih=>
     rw[VD,List.count_cons,SO];by_cases z:x=46
     ·subst z;simp;omega
     ·have z1:(x !=46)=true:=bne_iff_ne.mpr z;have z2:(x==46)=false:=Zc.mpr z;rw[z1,z2];simp;omega
   exact this _
  rw[fE,show d2 fV (dA a7 (aC (dV 0) aN)) (dM gm kY (dV 0) (aC (dC (.str ".")) aN)) _=aa (.int ((r.cps.toList.countP (· !=46):Nat):Int)) from(aF (x:= .int ((r.length:Nat):Int)) (y:= .int ((r.cps.toList.count 46:Nat):Int)) ((bz (xs:=[.str r]) (ay rfl rfl)).trans (len_str _)) (by
   show aa (D.int ((tG r ".":Nat):Int))=_;rw[hc])).trans (by show aa (D.int (((r.length:Nat):Int) - ((r.cps.toList.count 46:Nat):Int)))=_;congr 2;omega)]
  rfl
 ·congr 2;rw[kZ _ λr hr=>(hg.rows r hr).len];have:∀l:List Str,(l.map λr=>((r.cps.toList.countP (· !=46):Nat):Int)).sum=(((l.map λr=>r.cps.toList.countP (· !=46)).sum:Nat):Int):=λl=>by
   induction l with
   |nil=>rfl
   |cons x l ih=>rw[SU,Vb,ih,SU,Vb];omega
  exact this b
end K1
namespace K1
open PySem L2 L3 HT
def aK(bd:List Str):List Str:=bd.map mG
def ua{bd:List Str}{W:Nat}(hg:Brd bd W)(HQ:a_ [brd bd]=aa .non):hZ [brd bd]=aa (brd (aK bd)):=by
 refine bh (aA (gS ((ax (ds:=[brd bd]) rfl rfl).trans HQ)) (aI ?_));refine(bz (xs:=[.lst ((aK bd).map D.str)]) (ay (bw (RN (i:=0) rfl) (ys:=(aK bd).map D.str) ?_ (by unfold aK;rw[SI,SI,cH];have:=hg.r8;omega)) rfl)).trans rfl;unfold aK;rw[Tf];have:∀l:List Str,cX (fW 0 bb (AZ (dV 0) (d1 lz (dC (.int 1)))) [fz (brd bd)]) (l.map D.str)=aa (l.map (D.str∘mG)):=by
  intro l;induction l with
  |nil=>rfl
  |cons r l ih=>rw[SU,dP,fE,ih];rfl
 exact this bd
def Bq{bd:List Str}{W:Nat}(hG:Good bd W):Good (aK bd) W:=by
 refine⟨by unfold aK;rw[SI];exact hG.r1,by unfold aK;rw[SI];exact hG.r5,hG.w1,hG.w5,λr hr=>?_⟩;obtain⟨q,hq,rfl⟩:=S7.mp hr;refine⟨by rw[lQ];exact(hG.rows q hq).len,λc hc=>(hG.rows q hq).let' c ?_⟩;unfold mG at hc;simpa using hc
def jS{bd:List Str}{W i j:Nat}(hr:∀r∈bd,r.length=W)(hi:i<bd.length)(hj:j<W):at2 (aK bd) i j=at2 bd i (W - 1 - j):=by
 have hw:bd[i].cps.toList.length=W:=hr _ (UY hi);have h1:i<(aK bd).length:=by unfold aK;rw[SI];exact hi
 have e0:(aK bd)[i]? =some (mG bd[i]):=by
  unfold aK;rw[S2,SK hi];rfl
 have e1:(aK bd)[i].cps.toList=bd[i].cps.toList.reverse:=by
  rw[yb e0 h1];unfold mG;simp
 have h2:j<(aK bd)[i].cps.toList.length:=by rw[e1,WO,hw];exact hj
 rw[kW h1 h2,kW hi (by rw[hw];omega)];have:(aK bd)[i].cps.toList[j]? =bd[i].cps.toList[W - 1 - j]? :=by rw[e1,List.getElem?_reverse (by rw[hw];exact hj),hw]
 rw[SK h2,SK (by rw[hw];omega)] at this;exact Tr this
end K1
namespace K1
open PySem PySem.Spec L2 L3
open PyProof.Rows hiding St
section
open Classical
variable{bd:List Str}{W w:Nat}
def Dk:m∈d6 bd W w l↔m∈l/\Least bd W w m m:=by
 unfold d6;rw[T1,Zb]
def BE{i:Nat}(h:(cC bd W w)[i]? =some P):∃m,(d6 bd W w (bq bd.length W))[i]? =some m/\P=av bd W w m:=by
 unfold cC at h;rw[S2] at h;cases q:(d6 bd W w (bq bd.length W))[i]? with
 |none=>rw[q] at h;cases h
 |some m=>rw[q] at h;cases h;exact⟨m,rfl,rfl⟩
def Jo{l:List α}{i:Nat}(h:l[i]? =some x):x∈l:=Th h
def yJ(hw:Ways w){m:Cell}(hm:m∈d6 bd W w (bq bd.length W)):∃r,av bd W w m=m::r:=by
 have ho:=vV hm;have hP:=cu hw ho;cases hp:av bd W w m with
 |nil=>have:=(hP.mem m).mpr Cn.refl;rw[hp] at this;cases this
 |cons a r=>
  refine⟨r,?_⟩;rw[hp] at hP;by_cases e:a=m
  ·rw[e]
  ·have E_:m∈a::r:=(hP.mem m).mpr Cn.refl;have E_:m∈r:=by
    cases E_ with
    |head=>exact Y9 rfl e
    |tail _ q=>exact q
   have hc:=(hP.mem a).mp (SM ..);have h1:=(gx (hc.on hw ho) ho).mp ((Uh.mp hP.rise).1 m E_);have:=(Dk.mp hm).2.2 a hc;omega
end
end K1
namespace K1
open PySem L2 L3
structure Iso (a a':List Str) (W W' w:Nat) (φ:Cell->Cell):Prop where
 on:∀x,On a.length W x->On a'.length W' (φ x)
 nx:∀x y,On a.length W x->On a.length W y->ml w x y=true->ml w (φ x) (φ y)=true
 lt:∀x,On a.length W x->lt a' (φ x)=lt a x
section
open Classical
variable{a a':List Str}{W W' w:Nat}{φ ψ:Cell->Cell}
theorem Iso.rb(h:Iso a a' W W' w φ)(hw:Ways w){x:Cell}(hx:On a.length W x):∀{j:Nat}{y:Cell},Rb (bp a W w) x j y->Rb (bp a' W' w) (φ x) j (φ y)
 |0,y,q=>Zd φ q
 |j+1,y,q=>q.elim (λq=> .inl (h.rb hw hx q)) λ⟨z,q1,q2⟩=>by
  have hz:=Ao hw hx q1;have hy:=(eE hw).mp q2;exact .inr ⟨φ z,h.rb hw hx q1,(eE hw).mpr ⟨h.on y hy.1,h.nx z y hz hy.1 hy.2.1,by rw[h.lt y hy.1,h.lt z hz,hy.2.2]⟩⟩
def Iso.cn(h:Iso a a' W W' w φ)(hw:Ways w){x y:Cell}(hx:On a.length W x)(q:Cn a W w x y):Cn a' W' w (φ x) (φ y):=let ⟨j,q⟩:=q;⟨j,h.rb hw hx q⟩
structure Iso2 (a a':List Str) (W W' w:Nat) (φ ψ:Cell->Cell):Prop where
 f:Iso a a' W W' w φ
 g:Iso a' a W' W w ψ
 fg:∀x,On a.length W x->ψ (φ x)=x
 gf:∀x,On a'.length W' x->φ (ψ x)=x
def Iso2.symm(h:Iso2 a a' W W' w φ ψ):Iso2 a' a W' W w ψ φ:=⟨h.g,h.f,h.gf,h.fg⟩
def Cz{V i j:Nat}(hi:i<V)(hj:j<V):iQ (V - 1 - i) (V - 1 - j)=iQ i j:=by unfold iQ;omega
end
end K1
namespace K1
open PySem L2 L3
open PyProof.Rows hiding St
section
open Classical
variable{b:List Str}{W w:Nat}
def n0(V:Nat)(x:Cell):Cell:=(x.1,V - 1 - x.2)
def t_{V:Nat}{x:Cell}(h:x.2<V):n0 V (n0 V x)=x:=W4 rfl (by show V - 1 - (V - 1 - x.2)=x.2;omega)
def b7(b:List Str):(aK b).length=b.length:=by unfold aK;rw[SI]
def jT(hr:∀r∈b,r.length=W):∀r∈aK b,r.length=W:=λr hq=>by
 obtain⟨q,h1,rfl⟩:=S7.mp hq;rw[lQ];exact hr q h1
def vW(hg:Brd b W):Brd (aK b) W:=⟨by rw[b7];exact hg.r1,by rw[b7];exact hg.r8,hg.w1,hg.w8,λr hr=>⟨jT (λr hr=>(hg.rows r hr).len) r hr⟩⟩
def yp{R:Nat}{x:Cell}(h:On R W x):On R W (n0 W x):=⟨h.1,by show W - 1 - x.2<W;have:=h.2;omega⟩
def C6(hr:∀r∈b,r.length=W):Iso2 b (aK b) W W w (n0 W) (n0 W) where
 f:=⟨λx h=>by rw[b7];exact yp h,λx y hx hy h=>by unfold ml n0 at*;simp only[Cz hx.2 hy.2];exact h,λx h=>by
  have h2:=h.2;show at2 (aK b) x.1 (W - 1 - x.2)=at2 b x.1 x.2;rw[jS hr h.1 (by omega)];congr 1;omega⟩
 g:=⟨λx h=>by
  rw[b7] at h;exact yp h,λx y hx hy h=>by unfold ml n0 at*;simp only[Cz hx.2 hy.2];exact h,λx h=>by
  rw[b7] at h;exact(jS hr h.1 h.2).symm⟩
 fg:=λx h=>t_ h.2
 gf:=λx h=>t_ h.2
def Dm(hr:∀r∈b,r.length=W){j:Nat}(hj:j<W):bR (aK b) j=bR b (W - 1 - j):=by
 unfold bR;rw[b7];exact Ul λi hi=>jS hr (TL.mp hi) hj
def kD(b:List Str)(W:Nat):∀r∈dj b W,r.length=W:=jU
def Bp(hr:∀r∈b,r.length=W):aK (dj b W)=dj (aK b) W:=by
 refine zt (jT (kD b W)) (kD _ W) (by rw[b7,dg,dg,b7]) λi j hi hj=>?_;rw[b7] at hi;rw[jS (kD b W) hi hj];rw[dg] at hi;rw[pd hi (by omega),pd (by rw[b7];exact hi) hj,Dm hr hj]
def Dp(hr:∀r∈b,r.length=W){P P':List Cell}{c:Nat}(h:∀x,On b.length W x->(x∈P'↔n0 W x∈P)):aK (lP b W P c)=lP (aK b) W P' c:=by
 have hp:∀r∈lP b W P c,r.length=W:=jU;refine zt (jT hp) jU (by rw[b7,fQ,fQ,b7]) λi j hi hj=>?_;rw[b7] at hi;rw[jS hp hi hj];rw[fQ] at hi;rw[uE hi (by omega),uE (by rw[b7];exact hi) hj,jS hr hi hj];have this:(i,j)∈P'↔(i,W - 1 - j)∈P:=h (i,j) ⟨hi,hj⟩;by_cases q:(i,j)∈P'
 ·rw[Y6 q,Y6 (this.mp q)]
 ·rw[Y7 q,Y7 λz=>q (this.mpr z)]
def yq(hr:∀r∈b,r.length=W)(hw:Ways w){a:Cell}(ha:On b.length W a){P:List Cell}(hP:IsPatch b W w a P):∃P',IsPatch (aK b) W w (n0 W a) P'/\P'.length=P.length/\∀x,On b.length W x->(x∈P'↔n0 W x∈P):=by
 have I:=C6 (w:=w) hr;have HF:On (aK b).length W (n0 W a):=I.f.on a ha;have hQ:=cu hw HF;have IV:∀x,On b.length W x->(x∈av (aK b) W w (n0 W a)↔n0 W x∈P):=λx hx=>by
  rw[hQ.mem,hP.mem];constructor
  ·intro q;have:=I.g.cn hw HF q;rw[t_ ha.2] at this;exact this
  ·intro q;have:=I.f.cn hw ha q;rw[t_ hx.2] at this;exact this
 have M6:∀x∈P,On b.length W x:=λx hx=>((hP.mem x).mp hx).on hw ha;have Oq:∀x∈av (aK b) W w (n0 W a),On b.length W x:=λx hx=>by
  have:=((hQ.mem x).mp hx).on hw HF;rw[b7] at this;exact this
 refine⟨_,hQ,?_,IV⟩;have MZ:=RiseC.nodup hP.rise;have RV:=RiseC.nodup hQ.rise;refine WG ?_ ?_
 ·rw[<-SI (f:=n0 W)];refine fN (Dj RV λx hx y hy e=>?_) λx hx=>?_
  ·have:=Zd (n0 W) e
   rwa [t_ (Oq x hx).2,t_ (Oq y hy).2] at this
  ·obtain⟨y,hy,rfl⟩:=S7.mp hx;exact(IV y (Oq y hy)).mp hy
 ·rw[<-SI (as:=P) (f:=n0 W)];refine fN (Dj MZ λx hx y hy e=>?_) λx hx=>?_
  ·have:=Zd (n0 W) e
   rwa [t_ (M6 x hx).2,t_ (M6 y hy).2] at this
  ·obtain⟨y,hy,rfl⟩:=S7.mp hx;refine(IV _ (yp (M6 y hy))).mpr ?_;rw[t_ (M6 y hy).2];exact hy
end
end K1
namespace K1
open PySem PySem.Spec L2 L3
open PyProof.Rows hiding St
section
variable{ρ ρ':aO}{Q:OX->Prop}{τ:DS}{C a:Addr}{o:Ob}{i:Nat}{x f:Str}
def dF(h:τ ρ=aa (.nx ρ'))(k:ObK ρ ρ')(q:Q (.nx ρ')):(cO τ).f ρ Q:=by
 show (match τ ρ with | none=>False | some (.ok (.nx ρ'))=>ObK ρ ρ'/\Q (.nx ρ') | some (.ok (.rt d))=>Q (.rt (.fz d) (kO ρ)) | some (.ex n)=>Q (.ex n (kO ρ)));rw[h];exact⟨k,q⟩
def Ih(h:τ ρ=aa (.rt d))(q:Q (.rt (.fz d) (kO ρ))):(cO τ).f ρ Q:=by
 show (match τ ρ with | none=>False | some (.ok (.nx ρ'))=>ObK ρ ρ'/\Q (.nx ρ') | some (.ok (.rt d))=>Q (.rt (.fz d) (kO ρ)) | some (.ex n)=>Q (.ex n (kO ρ)));rw[h];exact q
def sq{A B:XS}(h:A.f ρ λx=>match x with | .nx ρ'=>B.f ρ' Q | .rt r ρ'=>Q (.rt r ρ') | .ex n ρ'=>Q (.ex n ρ')):(bZ A B).f ρ Q:=A.mono ρ _ _ (λx hx=>by cases x<;>exact hx) h
def xr{χ:XE}(h:χ.f ρ λx=>match x with | .val r ρ'=>Q (.rt r ρ') | .ex n ρ'=>Q (.ex n ρ')):(O0 χ).f ρ Q:=h
theorem cq:∀ρ:aO,ObK ρ ρ
 |[]=> .nil
 |x::ρ=> .cons (.inl rfl) (cq ρ)
theorem eJ{d:D}:∀(ρ:aO) (i:Nat),ObK ρ (ρ.set i (some (.fz d)))
 |[],_=> .nil
 |x::ρ,0=> .cons (.inr λa o z=>by cases z) (cq ρ)
 |x::ρ,i+1=> .cons (.inl rfl) (eJ ρ i)
def cI(h:ρ[i]? =some (some (.ob a o)))(hc:o.c=C):bJ ρ i C=some (a,o):=by
 unfold bJ;rw[h];exact Y6 hc
def a9{g:Addr->Ob->List D->M D}{δs:DA}(h:bJ ρ i C=some (a,o))(ha:δs ρ=aa ds)(hl:ds.length=m):ba C i x m g δs ρ=mO o x (g a o ds):=by
 unfold ba mO;rw[h];show (match o.fs.lookup x with | none=>δs ρ>>=λds=>if ds.length=m then g a o ds else af | some _=>af)=_;cases o.fs.lookup x with
 |none=>
  show (δs ρ>>=λds=>if ds.length=m then g a o ds else af)=_;rw[ha];exact Y6 hl
 |some _=>rfl
def cG{d:D}(h:bJ ρ i C=some (a,o))(hf:o.fs.lookup f=some (.fz d)):iX C i f ρ=aa d:=by
 unfold iX;rw[h];show (match o.fs.lookup f with | some (.fz d)=>aa d | _=>af)=_;rw[hf]
def ID{δ:DE}{ds:List D}{d:D}(h:bJ ρ i C=some (a,o))(hf:o.fs.lookup f=some (.ow ds))(hd:δ ρ=aa d)(hl:ds.length<lim)(q:Q (.nx (ρ.set i (some (.ob a (cj o f (.ow (ds++[d])))))))):(Hj C i f δ).f ρ Q:=by
 show (match bJ ρ i C with | none=>False | some (a,o)=>match o.fs.lookup f with | some (.ow ds)=>(match δ ρ with | none=>False | some (.ex n)=>Q (.ex n ρ) | some (.ok d)=>ds.length<lim/\Q (.nx (ρ.set i (some (.ob a (cj o f (.ow (ds++[d])))))))) | _=>False);rw[h];show (match o.fs.lookup f with | some (.ow ds)=>(match δ ρ with | none=>False | some (.ex n)=>Q (.ex n ρ) | some (.ok d)=>ds.length<lim/\Q (.nx (ρ.set i (some (.ob a (cj o f (.ow (ds++[d])))))))) | _=>False);rw[hf];show (match δ ρ with | none=>False | some (.ex n)=>Q (.ex n ρ) | some (.ok d)=>ds.length<lim/\Q (.nx (ρ.set i (some (.ob a (cj o f (.ow (ds++[d]))))))));rw[hd];exact⟨hl,q⟩
def h9{δ:DE}{d:D}(h:bJ ρ i C=some (a,o))(hd:δ ρ=aa d)(hl:o.fs.length<100)(q:Q (.nx (ρ.set i (some (.ob a (cj o f (.fz d))))))):(j5 C i f δ).f ρ Q:=by
 show (match δ ρ with | none=>False | some (.ex n)=>Q (.ex n ρ) | some (.ok d)=>match bJ ρ i C with | some (a,o)=>o.fs.length<100/\Q (.nx (ρ.set i (some (.ob a (cj o f (.fz d)))))) | none=>False);rw[hd];show (match bJ ρ i C with | some (a,o)=>o.fs.length<100/\Q (.nx (ρ.set i (some (.ob a (cj o f (.fz d)))))) | none=>False);rw[h];exact⟨hl,q⟩
def IE{δs:DA}{ds:List D}(h:bJ ρ i C=some (a,o))(hd:δs ρ=aa ds)(hl:o.fs.length<100)(h2:ds.length<=lim)(q:Q (.nx (ρ.set i (some (.ob a (cj o f (.ow ds))))))):(Hk C i f δs).f ρ Q:=by
 show (match δs ρ with | none=>False | some (.ex n)=>Q (.ex n ρ) | some (.ok ds)=>match bJ ρ i C with | some (a,o)=>o.fs.length<100/\ds.length<=lim/\Q (.nx (ρ.set i (some (.ob a (cj o f (.ow ds)))))) | none=>False);rw[hd];show (match bJ ρ i C with | some (a,o)=>o.fs.length<100/\ds.length<=lim/\Q (.nx (ρ.set i (some (.ob a (cj o f (.ow ds)))))) | none=>False);rw[h];exact⟨hl,h2,q⟩
def s9{g:Addr->Ob->List D->M (D×Ob)}{δs:DA}{ds:List D}{d:D}{o':Ob}{m:Nat}{R:OE->Prop}(h:bJ ρ i C=some (a,o))(hn:o.fs.lookup x=none)(ha:δs ρ=aa ds)(hl:ds.length=m)(hg:g a o ds=aa (d,o'))(q:R (.val (.fz d) (ρ.set i (some (.ob a o'))))):(qM C i x m g δs).f ρ R:=by
 show (match bJ ρ i C with | some (a,o)=>(match o.fs.lookup x with | none=>(match δs ρ with | none=>False | some (.ex n)=>R (.ex n ρ) | some (.ok ds)=>ds.length=m/\match g a o ds with | none=>False | some (.ok (d,o'))=>R (.val (.fz d) (ρ.set i (some (.ob a o')))) | some (.ex n)=>R (.ex n ρ)) | some _=>False) | none=>False);rw[h];show (match o.fs.lookup x with | none=>(match δs ρ with | none=>False | some (.ex n)=>R (.ex n ρ) | some (.ok ds)=>ds.length=m/\match g a o ds with | none=>False | some (.ok (d,o'))=>R (.val (.fz d) (ρ.set i (some (.ob a o')))) | some (.ex n)=>R (.ex n ρ)) | some _=>False);rw[hn];show (match δs ρ with | none=>False | some (.ex n)=>R (.ex n ρ) | some (.ok ds)=>ds.length=m/\match g a o ds with | none=>False | some (.ok (d,o'))=>R (.val (.fz d) (ρ.set i (some (.ob a o')))) | some (.ex n)=>R (.ex n ρ));rw[ha];refine⟨hl,?_⟩;show (match g a o ds with | none=>False | some (.ok (d,o'))=>R (.val (.fz d) (ρ.set i (some (.ob a o')))) | some (.ex n)=>R (.ex n ρ));rw[hg];exact q
def Jq{g:Addr->Ob->List D->M (D×Ob)}{ds:List D}{r:D×Ob}(h:Jp g a o ds=aa r):g a o ds=aa r:=ud h
def zr{m n:Nat}{τ:XS}{g:Addr->Ob->List D->M (D×Ob)}(h:∀a o ds d o',o.c=C->ds.length=m->g a o ds=aa (d,o')->τ.f (bL n a o ds) λx=>∃(ρ:aO) (i:Nat),ρ[i]? =some (some (Sl.ob a o'))/\(x= .rt (.fz d) ρ\/(d= .non/\x= .nx ρ))):oT C m n τ (Jp g):=λa o ds hc hl=>by
 have q:Jp g a o ds=af\/∃d o',Jp g a o ds=aa (d,o'):=by
  show noex (g a o ds)=af\/∃d o',noex (g a o ds)=aa (d,o');rcases(g a o ds).cs with e | ⟨k,e⟩ | ⟨⟨d,o'⟩,e⟩
  ·rw[e];exact .inl rfl
  ·rw[e];exact .inl rfl
  ·rw[e];exact .inr ⟨d,o',rfl⟩
 rcases q with q | ⟨d,o',q⟩
 ·rw[q];trivial
 ·rw[q];exact h a o ds d o' hc hl (Jq q)
end
section
variable{ρ ρ':aO}{Q:OX->Prop}{i n:Nat}{x:Str}
def xi{δ:DT}{A B:XS}{t:Bool}(h:δ ρ=aa t)(q:if t then A.f ρ Q else B.f ρ Q):(Kd (Hn δ) A B).f ρ Q:=by
 show (match δ ρ with | none=>False | some (.ok b)=>_ | some (.ex n)=>_);rw[h];exact q
def My{χ:XE}(h:χ.f ρ λx=>match x with | .val r ρ'=>Q (.nx (ρ'.set i (some r))) | .ex n ρ'=>Q (.ex n ρ')):(Hm i χ).f ρ Q:=h
end
def FE{o:Ob}{w:D}{l:List D}{p:Nat}(h:FD o=some (w,l,p)):o=xu o.c w l p/\p<l.length/\l.length<=100:=by
 obtain⟨c,fs⟩:=o;unfold FD at h;split at h
 ·rename_i x w' y l' z p' e;split at h
  ·rename_i q;obtain⟨rfl,rfl,rfl,h1,h2⟩:=q;cases h;cases e;exact⟨rfl,h1,h2⟩
  ·cases h
 ·cases h
def II{C:Addr}{w:D}{l:List D}{p:Nat}(h1:p<l.length)(h2:l.length<=100):FD (xu C w l p)=some (w,l,p):=by
 show (if ("ways":Str)="ways"/\("stages":Str)="stages"/\("place":Str)="place"/\p<l.length/\l.length<=100 then some (w,l,p) else none)=_;rw[Y6 ⟨rfl,rfl,rfl,h1,h2⟩]
def ez{α:Type}{o:Ob}{x:Str}{m:M α}(h:o.fs.lookup x=none):mO o x m=m:=by
 unfold mO;rw[h]
section
variable{CK CG a:Addr}{w b:D}{l:List D}{p:Nat}
def Aq(h:l[p]? =some b):aw CK CG a (xu CG w l p) []=aa b:=by
 have ho:bJ (bL 1 a (xu CG w l p) []) 0 CG=some (a,xu CG w l p):=cI rfl rfl;exact(aF (cG ho rfl) (cG ho rfl)).trans (ie h)
def He(hp:p<l.length):Qd (.lst l) none (some ((p:Int)+1))=aa (.lst (l.take (p+1))):=by
 have e0:((p:Int)+1)=((p+1:Nat):Int):=by omega
 have e1:HT.sIx l.length l.length (some ((p+1:Nat):Int))=p+1:=by rw[HT.sIx_nat];omega
 have e3:HT.sIx l.length 0 none=0:=rfl;rw[e0];show aa (D.lst (L3.cutD l none (some ((p+1:Nat):Int))))=_;unfold L3.cutD;rw[e1,e3,X4,Yt]
def Oo{δ:DE}{ρ:aO}{k:Int}(h:δ ρ=aa (.int k)):oS δ ρ=aa (some k):=by
 unfold oS;rw[h];rfl
def x3{ρ:aO}{Q:OX->Prop}{C:Addr}{o:Ob}{i:Nat}{f:Str}{g:Int->Int}{k:Int}(h:bJ ρ i C=some (a,o))(hf:o.fs.lookup f=some (.fz (.int k)))(hl:o.fs.length<100)(q:Q (.nx (ρ.set i (some (.ob a (cj o f (.fz (.int (g k))))))))):(oR C i f g).f ρ Q:=by
 show (match bJ ρ i C with | some (a,o)=>(match o.fs.lookup f with | some (.fz (.int k))=>o.fs.length<100/\Q (.nx (ρ.set i (some (.ob a (cj o f (.fz (.int (g k)))))))) | _=>False) | none=>False);rw[h];show (match o.fs.lookup f with | some (.fz (.int k))=>o.fs.length<100/\Q (.nx (ρ.set i (some (.ob a (cj o f (.fz (.int (g k)))))))) | _=>False);rw[hf];exact⟨hl,q⟩
def vf:oT CG 2 3 (jK CK CG) (c5 CK CG):=zr λa o ds d o' hc hl h=>by
 unfold jK;obtain⟨c,fs⟩:=o;split at h
 ·rename_i b w e;cases e;obtain⟨_,h1,h⟩:=dG h;obtain⟨_,h2,h⟩:=dG h;cases eK h;refine sq (dF (ρ':=bL 3 a ⟨c,[]⟩ [b,w]) (gS ((ax (m:=1) (δs:=aC (dV 1) aN) (ds:=[b]) rfl rfl).trans h1)) (cq _) ?_);refine sq (dF (ρ':=bL 3 a ⟨c,[]⟩ [b,w]) (gS ((ax (m:=1) (δs:=aC (dV 2) aN) (ds:=[w]) rfl rfl).trans h2)) (cq _) ?_);refine sq (h9 (cI (o:=⟨c,[]⟩) rfl hc) (d:=w) rfl (show 0<100 by decide) ?_);refine sq (h9 (cI (o:=⟨c,[("ways", .fz w)]⟩) rfl hc) (d:= .lst [b]) rfl (show 1<100 by decide) ?_);exact h9 (cI (o:=⟨c,[("ways", .fz w),("stages", .fz (.lst [b]))]⟩) rfl hc) (d:= .int 0) rfl (show 2<100 by decide) ⟨_,0,rfl, .inr ⟨rfl,rfl⟩⟩
 ·exact(eu h).elim
def vg:oT CG 1 4 (jL CK CG) (bx CK CG):=zr λa o ds d o' hc hl h=>by
 unfold jL;split at h
 ·rename_i c w l p eo;obtain⟨e1,hp,Kn⟩:=FE eo;generalize o.c=oc at e1 hc h;subst hc e1;split at h
  ·rename_i b hb;obtain⟨pt,h1,h⟩:=dG h;split at h
   ·rename_i q;obtain⟨b1,h2,h⟩:=dG h;obtain⟨b2,h3,h⟩:=dG h;cases eK h;have h2:=ud h2;have h3:=ud h3;have ho:∀{x y z:Option Sl},bJ [some (.ob a (xu oc w l p)),x,y,z] 0 oc=some (a,xu oc w l p):=cI rfl rfl;have hr:∀{x y z:Option Sl},ba oc 0 "rows" 0 (aw CK oc) aN [some (.ob a (xu oc w l p)),x,y,z]=aa b:=(a9 (ds:=[]) ho rfl rfl).trans ((ez rfl).trans (Aq hb));refine sq (dF (ρ':=[some (.ob a (xu oc w l p)),fz c,fz (.lst q),none]) ((aQ (i:=2) ((ax (ds:=[b,c,w]) (ay hr (ay rfl (ay (cG ho rfl) rfl))) rfl).trans h1)).trans rfl) (eJ (bL 4 a (xu oc w l p) [c]) 2) ?_);refine sq (dF (ρ':=[some (.ob a (xu oc w l p)),fz c,fz (.lst q),fz b2]) ((aQ (i:=3) ((ax (ds:=[b1]) (ay ((ax (ds:=[b, .lst q, .str "."]) (ay hr (ay rfl (ay rfl rfl))) rfl).trans h2) rfl) rfl).trans h3)).trans rfl) (eJ [some (.ob a (xu oc w l p)),fz c,fz (.lst q),none] 3) ?_);refine sq (h9 ho (d:= .lst (l.take (p+1)++[b2])) ?_ (show 3<100 by decide) ?_)
    ·refine(aF (x:= .lst (l.take (p+1))) (y:= .lst [b2]) ?_ rfl).trans ?_
     ·unfold Nv;rw[cG ho rfl,ai,show oN _=aa none from rfl,ai,Oo (k:=(p:Int)+1) ((aF (x:= .int (p:Int)) (y:= .int 1) (cG ho rfl) rfl).trans rfl),ai];exact He hp
     ·show (if (l.take (p+1)).length+1<=lim then aa (D.lst (l.take (p+1)++[b2])) else af)=_;rw[Y6 (by rw[Vh,cH];omega)]
    refine sq (x3 (o:=⟨oc,[("ways", .fz w),("stages", .fz (.lst (l.take (p+1)++[b2]))),("place", .fz (.int (p:Int)))]⟩) (cI rfl rfl) rfl (show 3<100 by decide) ?_);refine Ih (aI ((bz (xs:=[.lst q]) (ay rfl rfl)).trans rfl)) ⟨_,0,?_, .inl rfl⟩;rfl
   ·exact(eu h).elim
  ·exact(eu h).elim
 ·exact(eu h).elim
end
section
open Classical
variable{CK CG a:Addr}{b:List Str}{W w p:Nat}{L:List (List Str)}{P:List Cell}
abbrev gO(C:Addr)(w:Nat)(L:List (List Str))(p:Nat):Ob:=xu C (iW w) (L.map brd) p
def xT:D.str "."=sg 46:=by
 show D.str _=D.str _;congr 1
abbrev lf(b:List Str)(W:Nat):Nat:=gy (· !=46) b W
def tq(h:L[p]? =some b):(L.map brd)[p]? =some (brd b):=by rw[S2,h];rfl
def jr(h:L[p]? =some b):aw CK CG a (gO CG w L p) []=aa (brd b):=Aq (tq h)
def yh(hg:Brd b W)(h:L[p]? =some b):cx CK CG a (gO CG w L p) []=aa (.int (lf b W:Nat)):=by
 have ho:bJ (bL 1 a (gO CG w L p) []) 0 CG=some (a,gO CG w L p):=cI rfl rfl;exact(ax (ds:=[brd b]) (ay ((a9 (ds:=[]) ho rfl rfl).trans ((ez rfl).trans (jr h))) rfl) rfl).trans (uc hg)
def LN(x y:Nat):jO (sg x) (sg y)=aa (.bl (!decide (x=y))):=by
 refine(xU zD (by decide) (⟨#[x]⟩:Str) ⟨#[y]⟩).trans ?_;congr 3;rw[Ze];constructor
 ·intro h;have:=Zd Str.cps h;simpa using this
 ·intro h;rw[h]
def iu(hw:Ways w)(hP:P∈cC b W w):∃m r,P=m::r/\On b.length W m/\P=av b W w m:=by
 obtain⟨i,hi,e⟩:=WQ hP;obtain⟨m,e1,e2⟩:=BE (SK hi);have hm:=Jo e1;obtain⟨r,hr⟩:=yJ hw hm;exact⟨m,r,by rw[<-e,e2,hr],vV hm,by rw[<-e,e2]⟩
def Fd(b:List Str)(P:List Cell):Bool:=decide (1<P.length)&& !decide (lt b (P.headD (0,0))=46)
def vm(hg:Brd b W){m:Cell}{r:List Cell}(hm:On b.length W m):bS [brd b,cL (m::r)]=aa (.bl (Fd b (m::r))):=by
 have h1:d2 Kj (dA a7 (aC (dV 1) aN)) (dC (.int 1)) [fz (brd b),fz (cL (m::r))]=aa (.bl (decide (1<(m::r).length))):=by
  refine(aF (x:= .int (((m::r).length:Nat):Int)) (y:= .int 1) ((bz (xs:=[cL (m::r)]) (ay rfl rfl)).trans (yi _)) rfl).trans ?_;show aa (D.bl (decide ((1:Int)<(((m::r).length:Nat):Int))))=_;congr 2;rw[Ze];omega
 have h2:d2 jO (ar 2 aV (aC (dV 0) (aC (d2 eC (dV 1) (dC (.int 0))) aN))) (dC (.str ".")) [fz (brd b),fz (cL (m::r))]=aa (.bl (!decide (lt b m=46))):=
  (aF (x:=sg (lt b m)) (y:=sg 46) ((ax (ds:=[brd b,cD m]) (ay rfl (ay ((aF (x:=cL (m::r)) (y:= .int 0) rfl rfl).trans (ie (i:=0) rfl)) rfl)) rfl).trans (eI hg hm)) (by show aa (D.str ".")=_;rw[xT])).trans (LN _ _)
 exact bh (aI (zA h1 h2))
noncomputable def gh(b:List Str)(W w:Nat):List Cell:=((cC b W w).filter (Fd b)).map λP=>P.headD (0,0)
def o4(hg:Brd b W)(hs:b.length*W<64)(hw:Ways w)(h:L[p]? =some b):b5 CK CG a (gO CG w L p) []=aa (cL (gh b W w)):=by
 have ho:bJ (bL 2 a (gO CG w L p) []) 0 CG=some (a,gO CG w L p):=cI rfl rfl;have e1:ar 2 bP (aC (ba CG 0 "rows" 0 (aw CK CG) aN) (aC (iX CG 0 "ways") aN)) (bL 2 a (gO CG w L p) [])=aa (.lst ((cC b W w).map cL)):=
  (ax (ds:=[brd b,iW w]) (ay ((a9 (ds:=[]) ho rfl rfl).trans ((ez rfl).trans (jr h))) (ay (cG ho rfl) rfl)) rfl).trans ((iO hg hs hw).trans (by rw[qg]))
 show (ar 2 bP _ (bL 2 a (gO CG w L p) [])>>=λd=>_)=_;rw[e1,ai];refine(bw (ds:=(cC b W w).map cL) rfl (o7 cL (Fd b) (λP=>cD (P.headD (0,0))) (cC b W w) λP hP=>?_) ?_).trans (by
  unfold gh;show _=aa (D.lst (YV cD (YV _ _)));rw[Tf];rfl)
 ·rw[xR];obtain⟨m,r,rfl,hm,_⟩:=iu hw hP;have FK:bJ (fz (cL (m::r))::(bL 2 a (gO CG w L p) []).set 1 (some (.fz (.lst ((cC b W w).map cL))))) 1 CG=some (a,gO CG w L p):=cI rfl rfl;have et:ck (ar 2 bS (aC (ba CG 1 "rows" 0 (aw CK CG) aN) (aC (dV 0) aN))) (fz (cL (m::r))::(bL 2 a (gO CG w L p) []).set 1 (some (.fz (.lst ((cC b W w).map cL)))))=aa (Fd b (m::r)):=
   l7 ((ax (ds:=[brd b,cL (m::r)]) (ay ((a9 (ds:=[]) FK rfl rfl).trans ((ez rfl).trans (jr h))) (ay rfl rfl)) rfl).trans (vm hg hm))
  rw[et];have e0:∀{ρ:aO},d2 eC (dV 0) (dC (.int 0)) (fz (cL (m::r))::ρ)=aa (cD m):=(aF (x:=cL (m::r)) (y:= .int 0) rfl rfl).trans (ie (i:=0) rfl);rw[e0];cases Fd b (m::r)<;>rfl
 ·rw[SI,cH];have:=TV (Fd b) (cC b W w);have:=pJ (bd:=b) (W:=W) (w:=w);omega
structure Tk1 (b:List Str) (W w:Nat) (c:Cell):Prop where
 on:On b.length W c
 lt:lt b c≠46
 two:1<(av b W w c).length
def ET(hw:Ways w){c:Cell}(h:c∈gh b W w):Tk1 b W w c:=by
 obtain⟨P,hP,rfl⟩:=S7.mp h;obtain⟨h1,h2⟩:=T1.mp hP;obtain⟨m,r,rfl,hm,e⟩:=iu hw h1;obtain⟨q1,q2⟩:=Ue.mp h2;have q2:lt b m≠46:=λz=>by
  have:decide (lt b m=46)=true:=Y8 z;rw[show ((m::r).headD (0,0))=m from rfl,this] at q2;cases q2
 exact⟨hm,q2,by show 1<(av b W w m).length;rw[<-e];exact Za q1⟩
def pZ(b:List Str)(W:Nat)(P:List Cell):List Str:=dj (lP b W P 46) W
def DB(b:List Str)(W:Nat)(P:List Cell):(pZ b W P).length=b.length:=by unfold pZ;rw[dg,fQ]
def Dz(hg:Brd b W)(P:List Cell):Brd (pZ b W P) W:=rM (qr hg P 46)
def Hf(hg:Brd b W)(hs:b.length*W<64)(hw:Ways w){c:Cell}(h:Tk1 b W w c):b0 [brd b,cD c,iW w]=aa (cL (av b W w c)):=by
 obtain⟨k,ks,ps,q1,q2,q3⟩:=jH hg hw h.on;have e1:ar 3 bC (aC (dV 0) (aC (dV 1) (aC (dV 2) aN))) [fz (brd b),fz (cD c),fz (iW w),none]=aa (Cb ks ps):=(ax (ay rfl (ay rfl (ay rfl rfl))) rfl).trans q3;have e2:dA qD (aC (ar 3 bC (aC (dV 0) (aC (dV 1) (aC (dV 2) aN)))) aN) [fz (brd b),fz (cD c),fz (iW w),none]=aa (cL (av b W w c)):=by
  refine(bz (ay e1 rfl)).trans ((w9 q1.nd (Vn (kX q1.nd q2) hs)).trans ?_);have:nP ks=av b W w c:=IsPatch.one ⟨qC q1.nd,λx=>sj.trans (q1.last x)⟩ (cu hw h.on);rw[this]
 have hP:=cu hw h.on;have two:=h.two;obtain⟨m,r,e⟩:∃m r,av b W w c=m::r:=by
  cases q:av b W w c with
  |nil=>rw[q] at two;exact Y9 two (by decide)
  |cons m r=>exact⟨m,r,rfl⟩
 have hm:=(hP.mem m).mp (by rw[e];exact SM);have RZ:Fd b (m::r)=true:=by
  unfold Fd;rw[e] at two;rw[Y8 two,Y_ (show¬lt b ((m::r).headD (0,0))=46 from λz=>h.lt (by rw[<-hm.letter hw];exact z))];rfl
 refine bh (aA (gS ((ax (ds:=[brd b,cD c]) rfl rfl).trans (hg.nc h.on))) (aA (ρ':=[fz (brd b),fz (cD c),fz (iW w),fz (cL (av b W w c))]) ((aQ e2).trans rfl) (aA (dD (tI (l7 (b:=true) ?_)) rfl) rfl)));refine(ax (ds:=[brd b,cL (av b W w c)]) rfl rfl).trans ?_;rw[e,vm hg (hm.on hw h.on),RZ]
def EU(hg:Brd b W)(hs:b.length*W<64)(hw:Ways w)(h:L[p]? =some b)(hl:L.length<=100){c:Cell}(hc:Tk1 b W w c):
 bx CK CG a (gO CG w L p) [cD c]=aa (.int ((av b W w c).length:Nat),gO CG w (L.take (p+1)++[pZ b W (av b W w c)]) (p+1)):=by
 have hp:p<L.length:=(SY.mp h).1;have e0:=II (C:=CG) (w:=iW w) (l:=L.map brd) (p:=p) (by rw[SI];exact hp) (by rw[SI];exact hl);unfold bx Jp
 dsimp only
 rw[e0]
 dsimp only
 rw[tq h];show noex (b0 [brd b,cD c,iW w]>>=λpt=>_)=_;rw[Hf hg hs hw hc,ai];show noex (noex (bU [brd b,cL (av b W w c), .str "."])>>=λb1=>_)=_;have M2:(av b W w c).length<4000:=by
  have hP:=cu hw hc.on;have:=kX (bd:=b) (RiseC.nodup hP.rise) λx hx=>((hP.mem x).mp hx).on hw hc.on;omega
 rw[xT,mM hg M2 46,lB,ai,xZ (qr hg _ 46),lB,ai,lB];show aa (D.int (((av b W w c).map cD).length:Nat),xu CG (iW w) ((L.map brd).take (p+1)++[brd (pZ b W (av b W w c))]) (p+1))=_;rw[SI,<-List.map_take];unfold gO;rw[Uj];rfl
def zX{q:Nat->Bool}(hq:q 46=false)(hw:Ways w){c:Cell}(hc:Tk1 b W w c):gy q (pZ b W (av b W w c)) W+(if q (lt b c) then(av b W w c).length else 0)=gy q b W:=by
 have hP:=cu hw hc.on;unfold pZ;rw[Cs hq];exact Fp hq (RiseC.nodup hP.rise) (λx hx=>((hP.mem x).mp hx).on hw hc.on) λx hx=>((hP.mem x).mp hx).letter hw
end
section
open Classical
variable{CK CG a:Addr}{b:List Str}{W w p:Nat}{L:List (List Str)}
def tK(L:List (List Str))(W k:Nat):Int:=(lf (L.getD k []) W:Int) - (lf (L.getD (k+1) []) W:Int)
def getD_at{k:Nat}(h:k<L.length):L[k]? =some (L.getD k []):=by
 rw[S0,SK h];rfl
def Cc(ha:∀b∈L,Brd b W){k:Nat}(hk:k+1<L.length):bI CK CG a (gO CG w L p) [.int (k:Int)]=aa (.int (tK L W k)):=by
 have ho:bJ (bL 2 a (gO CG w L p) [.int (k:Int)]) 0 CG=some (a,gO CG w L p):=cI rfl rfl;have h1:=getD_at (L:=L) (k:=k) (by omega);have h2:=getD_at (L:=L) hk;have m1:L.getD k []∈L:=Th h1;have m2:L.getD (k+1) []∈L:=Th h2;refine(aF (x:= .int (lf (L.getD k []) W:Nat)) (y:= .int (lf (L.getD (k+1) []) W:Nat)) ?_ ?_).trans rfl
 ·exact(ax (ds:=[brd (L.getD k [])]) (ay ((aF (x:= .lst (L.map brd)) (y:= .int (k:Int)) (cG ho rfl) rfl).trans (ie (tq h1))) rfl) rfl).trans (uc (ha _ m1))
 ·exact(ax (ds:=[brd (L.getD (k+1) [])]) (ay ((aF (x:= .lst (L.map brd)) (y:= .int ((k+1:Nat):Int)) (cG ho rfl) ((aF (x:= .int (k:Int)) (y:= .int 1) rfl rfl).trans rfl)).trans (ie (tq h2))) rfl) rfl).trans (uc (ha _ m2))
def Dt{i j:Int}(h: -1000<i/\i<1000):fe (.int i) (.int j)=aa (.int (i*j)):=by
 show (if decide ((-(2 ^ 64)<i/\i<2 ^ 64)\/(-(2 ^ 64)<j/\j<2 ^ 64))=true then aa (D.int (i*j)) else af)=_;rw[Y6 (Y8 (.inl ⟨by omega,by omega⟩))]
def Aw{zs:List Int}{ρ:aO}{i:Nat}(hl:zs.length<=4000)(hz:∀z∈zs,-1000<z/\z<1000)(h:ρ[i]? =some (fz (.lst (zs.map D.int)))):dA nR (aC (aR 0 (fc (dV i)) bb (d2 fe (dV 0) (dV 0))) aN) ρ=aa (.int (zs.map λz=>z*z).sum):=by
 refine uW (bw (ds:=zs.map D.int) (LC (kB h)) ((cY D.int (λz=> .int (z*z)) zs λz hh=>by rw[fE,aF (x:= .int z) (y:= .int z) rfl rfl,Dt (hz z hh)];rfl).trans (by rw[Tf];rfl)) (by rw[SI,SI,cH];omega))
def Df(hg:Brd b W):lf b W<=64:=by
 have h1:lf b W<=(bq b.length W).length:=List.countP_le_length;rw[c7] at h1;have h2:b.length*W<=8*8:=V8 hg.r8 hg.w8;omega
def rH(ha:∀b∈L,Brd b W){k:Nat}(hk:k+1<L.length): -1000<tK L W k/\tK L W k<1000:=by
 have h1:=Df (ha _ (Th (getD_at (L:=L) (k:=k) (by omega))));have h2:=Df (ha _ (Th (getD_at (L:=L) hk)));unfold tK;omega
def wD(ha:∀b∈L,Brd b W)(hp:p<L.length)(hl:L.length<=60):cQ CK CG a (gO CG w L p) []=aa (.int ((S5 p).map λk=>tK L W k*tK L W k).sum):=by
 have ho:bJ (bL 2 a (gO CG w L p) []) 0 CG=some (a,gO CG w L p):=cI rfl rfl;have e1:aR 0 (λρ=>(aC (iX CG 0 "place") aN) ρ>>=e_) bb (ba CG 1 "taken_behind" 1 (bI CK CG) (aC (dV 0) aN)) (bL 2 a (gO CG w L p) [])=aa (.lst (((S5 p).map (tK L W)).map D.int)):=by
  refine(HW (g:=λk=> .int (tK L W k)) p (by omega) (cG ho rfl) λk hk=>?_).trans (by rw[Tf];rfl);exact(a9 (ds:=[.int (k:Int)]) (cI (i:=1) (ρ:=fz (.int (k:Int))::bL 2 a (gO CG w L p) []) (o:=gO CG w L p) rfl rfl) rfl rfl).trans ((ez rfl).trans (Cc ha (by omega)))
 show (aR 0 _ bb _ (bL 2 a (gO CG w L p) [])>>=λd=>_)=_;rw[e1,ai];refine(Aw (zs:=(S5 p).map (tK L W)) (by simp;omega) (λz hz=>by
  obtain⟨k,hk,rfl⟩:=S7.mp hz;exact rH ha (by have:=TL.mp hk;omega)) rfl).trans ?_
 rw[Tf];rfl
def G9:fi CK CG a (gO CG w L p) []=aa (.tup [.int (p:Int), .int ((L.length:Int) - 1 - (p:Int))]):=by
 have ho:bJ (bL 1 a (gO CG w L p) []) 0 CG=some (a,gO CG w L p):=cI rfl rfl;refine(bz (xs:=[.int (p:Int), .int ((L.length:Int) - 1 - (p:Int))]) (ay (cG ho rfl) (ay ((aF (x:= .int ((L.length:Int) - 1)) (y:= .int (p:Int)) ((aF (x:= .int (L.length:Int)) (y:= .int 1) ((bz (xs:=[.lst (L.map brd)]) (ay (cG ho rfl) rfl)).trans ?_) rfl).trans rfl) (cG ho rfl)).trans rfl) rfl))).trans rfl;show aa (D.int (((L.map brd).length:Nat):Int))=_;rw[SI]
def yY(l:List Nat):U_ (du (bE l)) (S3 ".")=du (l.filter (· !=46)):=by
 have IP:∀c∈l.filter (· !=46),c≠46:=λc hc=>bne_iff_ne.mp (T1.mp hc).2;have key:∀(n:Nat) (f:List Nat),(∀c∈f,c≠46)->((Tc n 46++f).takeWhile λc=>(#[46]:Array Nat).contains c).length=n:=λn f hf=>by
  induction n with
  |zero=>
   rw[List.replicate_zero,Ui];cases f with
   |nil=>rfl
   |cons c f=>
    have:(#[46]:Array Nat).contains c=false:=by
     have:=hf c SM;simp;exact this
    rw[YE,this];rfl
  |succ n ih=>
   rw[List.replicate_succ,U0,YE,show (#[46]:Array Nat).contains 46=true from by simp,Y6 rfl,SO,ih]
 unfold U_;rw[stripBy_eq];have e1:stripLo (S3 ".").cps.contains true (du (bE l))=l.length - (l.filter (· !=46)).length:=by
  show ((bE l).takeWhile λc=>(#[46]:Array Nat).contains c).length=_;unfold bE;exact key _ _ IP
 have e2:∀k,stripHi (S3 ".").cps.contains false (du (bE l)) k=(bE l).length:=λk=>rfl;rw[e1,e2];refine yX ((StrLaws.strSub_toList _ _ _).trans ?_);show ((bE l).drop (l.length - (l.filter (· !=46)).length)).take _=_;have h3:=TV (· !=46) l;have e3:(bE l).drop (l.length - (l.filter (· !=46)).length)=l.filter (· !=46):=by
  unfold bE;rw[List.drop_append,List.drop_replicate];simp
 rw[e3,gE];exact Vr (by omega)
def IB(hg:Brd b W):eB [brd (dj b W)]=aa (.bl true):=by
 have hf:=rM hg;have r8:=hf.r8;have w8:=hf.w8;have step:∀k,k<W->∀{x1 x2:Option Sl},(eG [1,2] (a8 (bX 2 (dM gm joinM (dC (.str "")) (aC (aR 0 (gA (dV 0)) bb (d2 fK (dV 0) (dV 2))) aN))) (iC (eA (d2 (pj false) (dC (.str ".")) (dM gm lj (dV 2) (aC (dC (.str ".")) aN)))) (bo (dC (.bl false))) di))) [fz (brd (dj b W)),fz (.int (k:Int)),x2]=aa (.nx [fz (brd (dj b W)),none,none]):=λk hk x1 x2=>by
  have hc:=rN (bd:=b) hk;refine(cF (ρ':=[fz (brd (dj b W)),fz (.int (k:Int)),fz (.str (du (bE (bR b k))))]) (aA (ρ':=[fz (brd (dj b W)),fz (.int (k:Int)),fz (.str (du (bE (bR b k))))]) ((aQ (i:=2) ((vp hf hk (i:=1) rfl rfl).trans (by rw[hc]))).trans rfl) (dD (ke (b:=false) ?_) rfl))).trans rfl;have cl:=eN b k;have fl:=TV (· !=46) (bR b k);have bl:=dg b W;refine(aF (x:=sg 46) (y:= .str (du ((bR b k).filter (· !=46)))) (by show aa (D.str ".")=_;rw[xT]) ((kA (d:= .str (du (bE (bR b k)))) (ds:=[.str "."]) rfl rfl rfl).trans ?_)).trans ?_
  ·show (if (du (bE (bR b k))).length<=1000/\(U_ (du (bE (bR b k))) (S3 ".")).length<=lim then aa (D.str (U_ (du (bE (bR b k))) (S3 "."))) else af)=_;rw[yY,Y6 ⟨by rw[jW,gE];omega,by rw[jW,cH];omega⟩]
  ·rw[Jd];show aa (D.bl (decide (46∈(bR b k).filter (· !=46))))=_;rw[Y_];intro z;have:=(T1.mp z).2;cases this
 have lp:∀l:List Nat,(∀k∈l,k<W)->forL (putN 1) (eG [1,2] (a8 (bX 2 (dM gm joinM (dC (.str "")) (aC (aR 0 (gA (dV 0)) bb (d2 fK (dV 0) (dV 2))) aN))) (iC (eA (d2 (pj false) (dC (.str ".")) (dM gm lj (dV 2) (aC (dC (.str ".")) aN)))) (bo (dC (.bl false))) di))) (l.map λ(k:Nat)=>D.int (k:Int)) [fz (brd (dj b W)),none,none]=aa (.nx [fz (brd (dj b W)),none,none]):=λl=>by
  induction l with
  |nil=>intro _;rfl
  |cons k l ih=>
   intro hl;exact(gG (ρ1:=[fz (brd (dj b W)),fz (.int (k:Int)),none]) rfl (step k (hl k SM) (x1:=none))).trans (ih λj hj=>hl j (SJ _ hj))
 exact bh (aA (f9 (kr (BO (n:=W) (hf.wd.len0 (i:=0) rfl) (by omega)) (lp (S5 W) λk hk=>TL.mp hk))) rfl)
end
end K1
namespace K1
open PySem PySem.Spec L2 L3 HT
open PyProof.Rows hiding St
section
variable{ρ ρ':aO}{Q:OX->Prop}{a:Addr}{i:Nat}
def s8{C:Addr}{g:Addr->Ob->List D->M (D×Ob)}{δs:DA}{ds:List D}{m:Nat}{O':Ob}{R:OE->Prop}(ha:δs ρ=aa ds)(hl:ds.length=m)(hg:∀a,g a ⟨C,[]⟩ ds=aa (.non,O'))(q:∀a,R (.val (.ob a O') ρ)):(AE C m g δs).f ρ R:=by
 show (match δs ρ with | none=>False | some (.ex n)=>R (.ex n ρ) | some (.ok ds)=>ds.length=m/\∀a,match g a ⟨C,[]⟩ ds with | none=>False | some (.ok (d,o'))=>d= .non/\R (.val (.ob a o') ρ) | some (.ex n)=>R (.ex n ρ));rw[ha];refine⟨hl,λa=>?_⟩;show (match g a ⟨C,[]⟩ ds with | none=>False | some (.ok (d,o'))=>d= .non/\R (.val (.ob a o') ρ) | some (.ex n)=>R (.ex n ρ));rw[hg a];exact⟨rfl,q a⟩
def xh{δi:DA}{B:XS}{ds:List D}{put:D->aO->Option aO}(h:δi ρ=aa ds)(q:eR put B ds ρ Q):(B1 put δi B).f ρ Q:=by
 show (match δi ρ with | none=>False | some (.ok ds)=>eR put B ds ρ Q | some (.ex n)=>Q (.ex n ρ));rw[h];exact q
def qL{B:XS}{ds:List D}{d:D}(q:B.f (ρ.set i (some (.fz d))) λx=>match x with | .nx ρ2=>eR (putN i) B ds ρ2 Q | .rt r ρ2=>Q (.rt r ρ2) | .ex n ρ2=>Q (.ex n ρ2)):eR (putN i) B (d::ds) ρ Q:=B.mono _ _ _ (λx hx=>by cases x<;>exact hx) q
theorem DH{c c':C}:∀(ρ:aO) (i:Nat),ObK ρ (ρ.set i (some (.ow c)))
 |[],_=> .nil
 |x::ρ,0=> .cons (.inr λa o z=>by cases z) (cq ρ)
 |x::ρ,i+1=> .cons (.inl rfl) (DH (c':=c') ρ i)
def xn{τ:XS}{ρ:aO}{Q:OX->Prop}(h:τ.f ρ λx=>match x with | .nx ρ'=>Q (.nx ρ') | .rt r ρ'=>Q (.rt r ρ') | .ex _ _=>False):(Hl τ).f ρ Q:=τ.mono ρ _ _ (λx hx=>by cases x<;>exact hx) h
def G3{δi:DA}{B T:XS}{ds:List D}{put:D->aO->Option aO}{ρ:aO}{Q:OX->Prop}(h:δi ρ=aa ds)(q:eR put B ds ρ λx=>match x with | .nx ρ'=>T.f ρ' Q | .rt r ρ'=>Q (.rt r ρ') | .ex _ _=>False):(bZ (Hl (B1 put δi B)) T).f ρ Q:=
 sq (xn (xh h (kR (λx hx=>by cases x<;>first | exact hx | exact hx.elim) ds ρ q)))
def J2{i:Nat}{A T:XS}{ρ:aO}{Q:OX->Prop}(h:(bZ A T).f (frz i ρ) Q):(bZ (OZ i A) T).f ρ Q:=h
def O1{χ:XE}{ds:List D}{d:D}(h0:ir ρ i=some ds)(h:χ.f ρ λx=>x= .val (.fz d) ρ')(h1:ir ρ' i=some ds)(hl:ds.length<lim)(q:Q (.nx (ρ'.set i (some (.ow (.lst (ds++[d]))))))):(AB i χ).f ρ Q:=by
 refine⟨by rw[h0];rfl,χ.mono ρ _ _ (λx hx=>?_) h⟩;subst hx;show (match ir ρ' i with | some ds=>ds.length<lim/\Q (.nx (ρ'.set i (some (.ow (.lst (ds++[d])))))) | none=>False);rw[h1];exact⟨hl,q⟩
def O2{χ:XE}{δ:DE}{A B:XS}{d d2:D}{t:Bool}(h:χ.f ρ λx=>x= .val (.fz d) ρ')(h1:δ ρ'=aa d2)(h2:jO d d2=aa (.bl t))(q:if t then A.f ρ' Q else B.f ρ' Q):(Kd (AD jO χ δ) A B).f ρ Q:=by
 show χ.f ρ _;refine χ.mono ρ _ _ (λx hx=>?_) h;subst hx;show (match δ ρ' with | none=>False | some (.ok d2)=>∃b,jO d d2=aa (.bl b)/\_ | some (.ex n)=>_);rw[h1];exact⟨t,h2,q⟩
def M4{i j:Int}(h:i=j):jO (.int i) (.int j)=aa (.bl false):=by
 rw[h];exact ne_self ((k7 6 j j).trans (by simp))
def zV(b:List Str):jO (brd b) (brd b)=aa (.bl false):=(xU Fu (by decide) b b).trans (by rw[Y8 rfl];rfl)
def vS{l:List Int}{z:Int}:eC (.lst ((l++[z]).map D.int)) (.int (-1))=aa (.int z):=by
 show (match L2.atI ((l++[z]).map D.int) (-1) with | some d=>aa d | none=>af)=_;rw[Uj];show (match L2.atI (l.map D.int++[D.int z]) (-1) with | some d=>aa d | none=>af)=_;rw[L2.vc]
def vP{l:List Int}{z:Int}(h:ir ρ i=some ((l++[z]).map D.int)):vx i (d1 lz (dC (.int 1))) ρ=aa (.int z):=by
 unfold vx;rw[h];exact vS
def yc(hG:Good bd W):bd.length*W<64:=by
 have h:=V8 hG.r5 hG.w5;omega
end
section
variable{b:List Str}{W:Nat}
def J3(hg:Brd b W){x:Cell}(hx:On b.length W x):fI [brd b,cD x]=aa (sg (lt b x)):=bh (aI (G5 hg hx rfl rfl))
def Bn(hg:Brd b W){δ:DE}{ρ:aO}(h:δ ρ=aa (brd b)):dA nS (aC (aR 0 (gA δ) bb (AZ (dV 0) (d1 lz (dC (.int 1))))) aN) ρ=aa (brd (aK b)):=by
 refine(bz (xs:=[.lst ((aK b).map D.str)]) (ay (bw (ds:=b.map D.str) ?_ ((cY D.str (λr=> .str (mG r)) b λr hr=>rfl).trans (by unfold aK;rw[Tf];rfl)) (by rw[SI,b7,cH];have:=hg.r8;omega)) rfl)).trans rfl;show (δ ρ>>=_)=_;rw[h];rfl
def zy(hg:Brd b W){δ:DE}{ρ:aO}{i c:Nat}(h:δ ρ=aa (brd b))(hi:ρ[i]? =some (fz (sg c))):dM gm kY (dM gm joinM (dC (.str "")) (aC δ aN)) (aC (dV i) aN) ρ=aa (.int ((gy (· ==c) b W:Nat):Int)):=by
 have e1:dM gm joinM (dC (.str "")) (aC δ aN) ρ=aa (.str (du (qU b))):=by
  have:=FX hg (i:=0) (ρ:=[fz (brd b)]) rfl;refine(kA (d:= .str "") rfl rfl (ay h rfl)).trans ?_;have e2:=(kA (kd:=gm) (g:=joinM) (o:=dC (.str "")) (s:=aC (dV 0) aN) (ρ:=[fz (brd b)]) (d:= .str "") (ds:=[brd b]) rfl rfl rfl)
  exact e2.symm.trans this
 refine(kA (d:= .str (du (qU b))) (ds:=[sg c]) e1 rfl (ay (kB hi) rfl)).trans ?_;show aa (D.int ((tG (du (qU b)) ⟨#[c]⟩:Nat):Int))=_;unfold tG;rw[zx,<-Cr c λr hr=>(hg.rows r hr).len];rfl
def zR{b:List Str}{W:Nat}(hr:∀r∈b,r.length=W):lf (aK b) W=lf b W:=by
 unfold lf;rw[kZ _ (jT hr),kZ _ hr];unfold aK;rw[Tf];congr 1;refine Ul λr _=>?_;show (mG r).cps.toList.countP _=_;have:(mG r).cps.toList=r.cps.toList.reverse:=by unfold mG;simp
 rw[this,List.countP_reverse]
end
def Io(CK CG:Addr):XS:=(bZ (cO (bX 14 (KJ (d2 fe (d2 eC (dV 5) (d1 lz (dC (.int 1)))) (dA C5 (aC (d2 l_ (dV 13) (dV 11)) aN)))))) (cO (iC (eA (d2 jO (dM gm kY (dM gm joinM (dC (.str "")) (aC (ba CG 3 "rows" 0 (aw CK CG) aN) aN)) (aC (dV 13) aN)) (d2 fV (dM gm kY (dM gm joinM (dC (.str "")) (aC (dV 10) aN)) (aC (dV 13) aN)) (dV 14)))) (bo (dC (.bl false))) di)))
def Im(CK CG:Addr):XS:=(bZ (cO (BP (wI [8,9]) (d2 eC (dV 7) (ar 3 aL (aC (dV 0) (aC (d2 dR (dC (.int 70)) (dV 6)) (aC (dA a7 (aC (dV 7) aN)) aN))))))) (bZ (cO (bX 10 (ba CG 3 "rows" 0 (aw CK CG) aN))) (bZ (cO (bX 11 (ar 2 fI (aC (dV 10) (aC (dA dm (aC (dV 8) (aC (dV 9) aN))) aN))))) (bZ (cO (bX 12 (ba CG 3 "left" 0 (cx CK CG) aN))) (bZ (AB 5 (qM CG 3 "take" 1 (bx CK CG) (aC (dA dm (aC (dV 8) (aC (dV 9) aN))) aN))) (bZ (Kd (AD jO (qM CG 4 "take" 1 (bx CK CG) (aC (dA dm (aC (dV 8) (aC (d2 fV (d2 fV (dA a7 (aC (d2 aZ (dV 1) (dC (.int 0))) aN)) (dC (.int 1))) (dV 9)) aN))) aN)) (vx 5 (d1 lz (dC (.int 1))))) (cO (bo (dC (.bl false)))) E4) (bZ (cO (iC (eA (d2 jO (ba CG 3 "left" 0 (cx CK CG) aN) (d2 fV (dV 12) (vx 5 (d1 lz (dC (.int 1))))))) (bo (dC (.bl false))) di)) (bZ (cO (iC (eA (d2 jO (ba CG 4 "rows" 0 (aw CK CG) aN) (dA nS (aC (aR 0 (gA (ba CG 3 "rows" 0 (aw CK CG) aN)) bb (AZ (dV 0) (d1 lz (dC (.int 1))))) aN)))) (bo (dC (.bl false))) di)) (bZ (cO (iC (cS (ck (ar 1 eB (aC (ba CG 3 "rows" 0 (aw CK CG) aN) aN)))) (bo (dC (.bl false))) di)) (B1 (putN 13) (λρ=>(dC (.str "abcf")) ρ>>=EE) (Io CK CG)))))))))))
def Il(CK CG:Addr):XS:=(bZ (cO (bX 7 (ba CG 3 "can_take" 0 (b5 CK CG) aN))) (Kd (Hn (eA (d2 jO (dV 7) (dA fM aN)))) (Im CK CG) E4))
section
open Classical
variable{CK CG a a2:Addr}{bd b:List Str}{W w p:Nat}{L:List (List Str)}
structure Gm (bd:List Str) (W:Nat) (L:List (List Str)) (p:Nat):Prop where
 len:L.length=p+1
 h0:L[0]? =some bd
 br:∀b∈L,Brd b W
 ln:∀b∈L,b.length=bd.length
def Tz(L:List (List Str))(W p:Nat):List Int:=(S5 p).map (tK L W)
def xE:(Tz L W p).length=p:=by unfold Tz;simp
def Ff{n:List Str}(hl:L.length=p+1):Tz (L++[n]) W (p+1)=Tz L W p++[tK (L++[n]) W p]:=by
 unfold Tz;rw[VO,Uj];congr 1;refine Ul λk hk=>?_;have hk:=TL.mp hk;unfold tK;congr 3<;>(rw [S0,S0,S_ (by omega)])
def Cw{n:List Str}(hl:L.length=p+1)(hb:L[p]? =some b):tK (L++[n]) W p=(lf b W:Int) - (lf n W:Int):=by
 unfold tK;rw[S0,S0,S_ (by omega),hb,Ti (by omega),hl,Nat.sub_self];rfl
def Gm.snoc(h:Gm bd W L p){n:List Str}(hn:Brd n W)(hl:n.length=bd.length):Gm bd W (L++[n]) (p+1):=by
 refine⟨by rw[S1,h.len];rfl,by rw[S_ (by rw[h.len];omega)];exact h.h0,λx hx=>?_,λx hx=>?_⟩
 ·rcases TH.mp hx with q | q
  ·exact h.br x q
  ·rw[Tg.mp q];exact hn
 ·rcases TH.mp hx with q | q
  ·exact h.ln x q
  ·rw[Tg.mp q];exact hl
def Br(hr:∀r∈b,r.length=W)(hw:Ways w){c:Cell}(hc:Tk1 b W w c):Tk1 (aK b) W w (n0 W c)/\(av (aK b) W w (n0 W c)).length=(av b W w c).length/\pZ (aK b) W (av (aK b) W w (n0 W c))=aK (pZ b W (av b W w c)):=by
 have I:=C6 (w:=w) hr;have zN:=I.f.on c hc.on;obtain⟨P',h1,h2,h3⟩:=yq hr hw hc.on (cu hw hc.on);have e:av (aK b) W w (n0 W c)=P':=IsPatch.one (cu hw zN) h1;refine⟨⟨zN,by rw[I.f.lt c hc.on];exact hc.lt,by rw[e,h2];exact hc.two⟩,by rw[e,h2],?_⟩;unfold pZ;rw[e,<-Dp hr h3,Bp];exact jU
abbrev lZ(ns:List Int)(bd:List Str)(w:Nat)(a a2:Addr)(o1 o2:Ob)(zs:List Int)(x6 x7 x8 x9 lX kT i3 fq fb:Option Sl):aO:=
 [fz (.scr ns),fz (brd bd),fz (iW w),some (.ob a o1),some (.ob a2 o2),some (.ow (.lst (zs.map D.int))),x6,x7,x8,x9,lX,kT,i3,fq,fb]
theorem LJ(ns:List Int){n:List Str}{L':List (List Str)}{p' s q:Nat}{o2:Ob}{zs:List Int}{P:aO->Prop}{S:Sl->aO->Prop}(hb:Brd b W)(hn:Brd n W)(hL:L'[p']? =some n)(hq:q<=64)
 (hc:∀c,c≠46->gy (· ==c) n W+(if s==c then q else 0)=gy (· ==c) b W){x6 x7 x8 x9 i3:Option Sl}
 (hP:∀fq fb,P (lZ ns bd w a a2 (gO CG w L' p') o2 (zs++[(q:Int)]) x6 x7 x8 x9 (fz (brd b)) (fz (sg s)) i3 fq fb)):
 ∀(cs:List Nat) (fq fb:Option Sl),(∀c∈cs,c≠46)->eR (putN 13) (Io CK CG) (cs.map sg) (lZ ns bd w a a2 (gO CG w L' p') o2 (zs++[(q:Int)]) x6 x7 x8 x9 (fz (brd b)) (fz (sg s)) i3 fq fb) λx=>match x with | .nx ρ'=>P ρ' | .rt r ρ'=>S r ρ' | .ex _ _=>False
 |[],fq,fb,_=>hP fq fb
 |c::cs,fq,fb,E9=>by
  rw[SU];refine qL ?_;unfold Io;have Qo:KJ (d2 fe (d2 eC (dV 5) (d1 lz (dC (.int 1)))) (dA C5 (aC (d2 l_ (dV 13) (dV 11)) aN))) (lZ ns bd w a a2 (gO CG w L' p') o2 (zs++[(q:Int)]) x6 x7 x8 x9 (fz (brd b)) (fz (sg s)) i3 (fz (sg c)) fb)=aa (.int ((if s==c then q else 0:Nat):Int)):=by
   refine KL ((aF (x:= .int (q:Int)) (y:= .int (if decide (c=s) then 1 else 0)) ((aF (x:= .lst ((zs++[(q:Int)]).map D.int)) (y:= .int (-1)) rfl rfl).trans vS) ((bz (xs:=[.bl (decide (c=s))]) (ay ((aF (x:=sg c) (y:=sg s) rfl rfl).trans (HD c s)) rfl)).trans rfl)).trans ((Dt ⟨by omega,by omega⟩).trans ?_)) rfl;by_cases z:c=s
   ·subst z;rw[Y8 rfl,Y6 rfl,beq_self_eq_true,Y6 rfl,Int.mul_one]
   ·rw[Y_ z,Y7 Te,Zc.mpr (UW z),Y7 Te,Int.mul_zero];rfl
  refine sq (dF (ρ':=lZ ns bd w a a2 (gO CG w L' p') o2 (zs++[(q:Int)]) x6 x7 x8 x9 (fz (brd b)) (fz (sg s)) i3 (fz (sg c)) (fz (.int ((if s==c then q else 0:Nat):Int)))) ((aQ Qo).trans rfl) (eJ _ 14) ?_);have er:ba CG 3 "rows" 0 (aw CK CG) aN (lZ ns bd w a a2 (gO CG w L' p') o2 (zs++[(q:Int)]) x6 x7 x8 x9 (fz (brd b)) (fz (sg s)) i3 (fz (sg c)) (fz (.int ((if s==c then q else 0:Nat):Int))))=aa (brd n):=(a9 (ds:=[]) (cI rfl rfl) rfl rfl).trans ((ez rfl).trans (jr hL));refine dF (dD (ke ((aF (x:= .int ((gy (· ==c) n W:Nat):Int)) (y:= .int (((gy (· ==c) b W:Nat):Int) - ((if s==c then q else 0:Nat):Int))) (zy hn er rfl) ((aF (x:= .int ((gy (· ==c) b W:Nat):Int)) (zy hb (δ:=dV 10) rfl rfl) rfl).trans rfl)).trans (M4 ?_))) rfl) (cq _) (LJ ns hb hn hL hq hc hP cs _ _ λy hy=>E9 y (SJ _ hy));have:=hc c (E9 c SM);omega
end
section
open Classical
variable{CK CG a a2:Addr}{bd b:List Str}{W w p:Nat}{L:List (List Str)}
def Iw(ns:List Int)(Fb:ns.length<=63)(IT:Brd bd W)(Ko:bd.length*W<64)(hw:Ways w)(h:Gm bd W L p)(hp:p<50)(hb:L[p]? =some b){k:Nat}(ib:gh b W w≠[]){x8 x9 lX kT i3 fq fb:Option Sl}{P:aO->Prop}{S:Sl->aO->Prop}
 (hP:∀n x8 x9 lX kT i3 fq fb,Gm bd W (L++[n]) (p+1)->P (lZ ns bd w a a2 (gO CG w (L++[n]) (p+1)) (gO CG w ((L++[n]).map aK) (p+1)) (Tz (L++[n]) W (p+1)) (fz (.int (k:Int))) (fz (cL (gh b W w))) x8 x9 lX kT i3 fq fb)):
 (Im CK CG).f (lZ ns bd w a a2 (gO CG w L p) (gO CG w (L.map aK) p) (Tz L W p) (fz (.int (k:Int))) (fz (cL (gh b W w))) x8 x9 lX kT i3 fq fb) λx=>match x with | .nx ρ'=>P ρ' | .rt r ρ'=>S r ρ' | .ex _ _=>False:=by
 have bm:=Th hb;have hg:=h.br b bm;have Pw:=h.ln b bm;have hs:b.length*W<64:=by rw[Pw];exact Ko
 have hr:∀r∈b,r.length=W:=λr hr=>(hg.rows r hr).len;have Kn:L.length<=100:=by rw[h.len];omega
 unfold Im;generalize hl:gh b W w=l at*;have Oi:0<l.length:=YF.mpr ib;obtain⟨v,hv,ev⟩:=fv ns Fb (70+k) l.length Oi;obtain⟨c,Py⟩:∃c,l[v]? =some c:=⟨_,SK hv⟩
 have hc:Tk1 b W w c:=ET hw (by rw[hl];exact Th Py);have w8:=hg.w8;have HG:=hc.on.2;have e8:BP (wI [8,9]) (d2 eC (dV 7) (ar 3 aL (aC (dV 0) (aC (d2 dR (dC (.int 70)) (dV 6)) (aC (dA a7 (aC (dV 7) aN)) aN))))) (lZ ns bd w a a2 (gO CG w L p) (gO CG w (L.map aK) p) (Tz L W p) (fz (.int (k:Int))) (fz (cL l)) x8 x9 lX kT i3 fq fb)=aa (.nx (lZ ns bd w a a2 (gO CG w L p) (gO CG w (L.map aK) p) (Tz L W p) (fz (.int (k:Int))) (fz (cL l)) (fz (.int (c.1:Int))) (fz (.int (c.2:Int))) lX kT i3 fq fb)):=by
  unfold BP;have ed:ar 3 aL (aC (dV 0) (aC (d2 dR (dC (.int 70)) (dV 6)) (aC (dA a7 (aC (dV 7) aN)) aN))) (lZ ns bd w a a2 (gO CG w L p) (gO CG w (L.map aK) p) (Tz L W p) (fz (.int (k:Int))) (fz (cL l)) x8 x9 lX kT i3 fq fb)=aa (.int (v:Int)):=(ax (ds:=[.scr ns, .int ((70+k:Nat):Int), .int (l.length:Int)]) (ay rfl (ay ((aF (x:= .int 70) (y:= .int (k:Int)) rfl rfl).trans (by rw[fJ];congr 2)) (ay ((bz (xs:=[cL l]) (ay rfl rfl)).trans (yi l)) rfl))) rfl).trans ev;rw[aF (x:=cL l) (y:= .int (v:Int)) rfl ed,ie (d:=cD c) (by rw[S2,Py];rfl)];rfl
 refine sq (dF e8 (by repeat' first | exact .nil | refine .cons (.inl rfl) ?_ | refine .cons (.inr λa o z=>by cases z) ?_) ?_);have er:∀{zs:List Int}{x6 x7 x8 x9 lX kT i3 fq fb:Option Sl},ba CG 3 "rows" 0 (aw CK CG) aN (lZ ns bd w a a2 (gO CG w L p) (gO CG w (L.map aK) p) zs x6 x7 x8 x9 lX kT i3 fq fb)=aa (brd b):=(a9 (ds:=[]) (cI rfl rfl) rfl rfl).trans ((ez rfl).trans (jr hb));refine sq (dF (ρ':=lZ ns bd w a a2 (gO CG w L p) (gO CG w (L.map aK) p) (Tz L W p) (fz (.int (k:Int))) (fz (cL l)) (fz (.int (c.1:Int))) (fz (.int (c.2:Int))) (fz (brd b)) kT i3 fq fb) ((aQ er).trans rfl) (eJ _ 10) ?_);refine sq (dF (ρ':=lZ ns bd w a a2 (gO CG w L p) (gO CG w (L.map aK) p) (Tz L W p) (fz (.int (k:Int))) (fz (cL l)) (fz (.int (c.1:Int))) (fz (.int (c.2:Int))) (fz (brd b)) (fz (sg (lt b c))) i3 fq fb) ((aQ ((ax (ds:=[brd b,cD c]) rfl rfl).trans (J3 hg hc.on))).trans rfl) (eJ _ 11) ?_);refine sq (dF (ρ':=lZ ns bd w a a2 (gO CG w L p) (gO CG w (L.map aK) p) (Tz L W p) (fz (.int (k:Int))) (fz (cL l)) (fz (.int (c.1:Int))) (fz (.int (c.2:Int))) (fz (brd b)) (fz (sg (lt b c))) (fz (.int (lf b W:Nat))) fq fb) ((aQ ((a9 (ds:=[]) (cI rfl rfl) rfl rfl).trans ((ez rfl).trans (yh hg hb)))).trans rfl) (eJ _ 12) ?_);have tl:L.take (p+1)=L:=Vr (by rw[h.len];exact SW _);generalize hn:pZ b W (av b W w c)=n;have HQ:Brd n W:=hn▸Dz hg _;have Rr:n.length=bd.length:=by rw[<-hn,DB,Pw]
 have G':=h.snoc HQ Rr;have Qu:∀{a:Addr},bx CK CG a (gO CG w L p) [cD c]=aa (.int ((av b W w c).length:Nat),gO CG w (L++[n]) (p+1)):=by
  intro a;rw[EU hg hs hw hb Kn hc,tl,hn]
 have hq:=zX (q:=(· !=46)) rfl hw hc;have Ss:lf n W+(av b W w c).length=lf b W:=by
  rw[hn,Y6 (bne_iff_ne.mpr hc.lt)] at hq;exact hq
 have hd:tK (L++[n]) W p=((av b W w c).length:Int):=by
  rw[Cw h.len hb];omega
 have zl:(Tz L W p).length<lim:=by rw[xE,cH];omega
 have tz:Tz (L++[n]) W (p+1)=Tz L W p++[((av b W w c).length:Int)]:=by rw[Ff h.len,hd]
 refine sq (O1 (ds:=(Tz L W p).map D.int) (d:= .int ((av b W w c).length:Nat)) (ρ':=lZ ns bd w a a2 (gO CG w (L++[n]) (p+1)) (gO CG w (L.map aK) p) (Tz L W p) (fz (.int (k:Int))) (fz (cL l)) (fz (.int (c.1:Int))) (fz (.int (c.2:Int))) (fz (brd b)) (fz (sg (lt b c))) (fz (.int (lf b W:Nat))) fq fb) rfl (s9 (ds:=[cD c]) (cI rfl rfl) rfl rfl rfl Qu rfl) rfl (by rw[SI];exact zl) ?_);show XF.f _ (lZ ns bd w a a2 (gO CG w (L++[n]) (p+1)) (gO CG w (L.map aK) p) (Tz L W p) (fz (.int (k:Int))) (fz (cL l)) (fz (.int (c.1:Int))) (fz (.int (c.2:Int))) (fz (brd b)) (fz (sg (lt b c))) (fz (.int (lf b W:Nat))) fq fb |>.set 5 (some (.ow (.lst ((Tz L W p).map D.int++[D.int ((av b W w c).length:Nat)]))))) _;have Nx:∀{o1 o2:Ob}{x6 x7 x8 x9 lX kT i3 fq fb:Option Sl},(lZ ns bd w a a2 o1 o2 (Tz L W p) x6 x7 x8 x9 lX kT i3 fq fb).set 5 (some (.ow (.lst ((Tz L W p).map D.int++[D.int ((av b W w c).length:Nat)]))))=lZ ns bd w a a2 o1 o2 (Tz L W p++[((av b W w c).length:Int)]) x6 x7 x8 x9 lX kT i3 fq fb:=by
  intro o1 o2 x6 x7 x8 x9 lX kT i3 fq fb;show [_,_,_,_,_,some (Sl.ow (.lst ((Tz L W p).map D.int++[D.int ((av b W w c).length:Nat)]))),_,_,_,_,_,_,_,_,_]=_;rw[show (Tz L W p).map D.int++[D.int ((av b W w c).length:Nat)]=(Tz L W p++[((av b W w c).length:Int)]).map D.int from by rw[Uj];rfl]
 rw[Nx];obtain⟨m1,m2,m3⟩:=Br hr hw hc;have QU:(L.map aK)[p]? =some (aK b):=by rw[S2,hb];rfl
 have Sd:(L.map aK).take (p+1)=L.map aK:=Vr (by rw[SI,h.len];exact SW _);have Qv:∀{a:Addr},bx CK CG a (gO CG w (L.map aK) p) [cD (n0 W c)]=aa (.int ((av b W w c).length:Nat),gO CG w ((L++[n]).map aK) (p+1)):=by
  intro a;rw[EU (vW hg) (by rw[b7];exact hs) hw QU (by rw[SI];exact Kn) m1,Sd,m2,m3,hn,Uj];rfl
 have KP:(aC (dA dm (aC (dV 8) (aC (d2 fV (d2 fV (dA a7 (aC (d2 aZ (dV 1) (dC (.int 0))) aN)) (dC (.int 1))) (dV 9)) aN))) aN) (lZ ns bd w a a2 (gO CG w (L++[n]) (p+1)) (gO CG w (L.map aK) p) (Tz L W p++[((av b W w c).length:Int)]) (fz (.int (k:Int))) (fz (cL l)) (fz (.int (c.1:Int))) (fz (.int (c.2:Int))) (fz (brd b)) (fz (sg (lt b c))) (fz (.int (lf b W:Nat))) fq fb)=aa [cD (n0 W c)]:=by
  refine ay ((bz (xs:=[.int (c.1:Int), .int ((W:Int) - 1 - (c.2:Int))]) (ay rfl (ay ((aF (x:= .int ((W:Int) - 1)) (y:= .int (c.2:Int)) ((aF (x:= .int (W:Int)) (y:= .int 1) (IT.wd.len0 (i:=1) rfl) rfl).trans rfl) rfl).trans rfl) rfl))).trans ?_) rfl;show aa (D.tup [.int (c.1:Int), .int ((W:Int) - 1 - (c.2:Int))])=aa (D.tup [.int (c.1:Int), .int ((W - 1 - c.2:Nat):Int)]);rw[show (W:Int) - 1 - (c.2:Int)=((W - 1 - c.2:Nat):Int) by omega]
 refine sq (O2 (t:=false) (d:= .int ((av b W w c).length:Nat)) (ρ':=lZ ns bd w a a2 (gO CG w (L++[n]) (p+1)) (gO CG w ((L++[n]).map aK) (p+1)) (Tz L W p++[((av b W w c).length:Int)]) (fz (.int (k:Int))) (fz (cL l)) (fz (.int (c.1:Int))) (fz (.int (c.2:Int))) (fz (brd b)) (fz (sg (lt b c))) (fz (.int (lf b W:Nat))) fq fb) (s9 (ds:=[cD (n0 W c)]) (cI rfl rfl) rfl KP rfl Qv rfl) (vP rfl) (M4 rfl) ?_);generalize fz (.int (c.1:Int))=x8;generalize fz (.int (c.2:Int))=x9;have MM:(L++[n])[p+1]? =some n:=by rw[Ti (by rw[h.len];exact SW _),h.len,Nat.sub_self];rfl
 have Pg:∀{zs:List Int}{x6 x7 x8 x9 lX kT i3 fq fb:Option Sl},ba CG 3 "rows" 0 (aw CK CG) aN (lZ ns bd w a a2 (gO CG w (L++[n]) (p+1)) (gO CG w ((L++[n]).map aK) (p+1)) zs x6 x7 x8 x9 lX kT i3 fq fb)=aa (brd n):=(a9 (ds:=[]) (cI rfl rfl) rfl rfl).trans ((ez rfl).trans (jr MM));refine sq (dF (ρ':=lZ ns bd w a a2 (gO CG w (L++[n]) (p+1)) (gO CG w ((L++[n]).map aK) (p+1)) (Tz L W p++[((av b W w c).length:Int)]) (fz (.int (k:Int))) (fz (cL l)) x8 x9 (fz (brd b)) (fz (sg (lt b c))) (fz (.int (lf b W:Nat))) fq fb) (dD (ke ((aF (x:= .int (lf n W:Nat)) (y:= .int ((lf b W:Int) - ((av b W w c).length:Int))) ((a9 (ds:=[]) (cI rfl rfl) rfl rfl).trans ((ez rfl).trans (yh HQ MM))) ((aF (x:= .int (lf b W:Nat)) (y:= .int ((av b W w c).length:Int)) rfl (vP rfl)).trans rfl)).trans (M4 (by omega)))) rfl) (cq _) ?_);have QH:((L++[n]).map aK)[p+1]? =some (aK n):=by rw[S2,MM];rfl
 refine sq (dF (ρ':=lZ ns bd w a a2 (gO CG w (L++[n]) (p+1)) (gO CG w ((L++[n]).map aK) (p+1)) (Tz L W p++[((av b W w c).length:Int)]) (fz (.int (k:Int))) (fz (cL l)) x8 x9 (fz (brd b)) (fz (sg (lt b c))) (fz (.int (lf b W:Nat))) fq fb) (dD (ke ((aF (x:=brd (aK n)) (y:=brd (aK n)) ((a9 (ds:=[]) (cI rfl rfl) rfl rfl).trans ((ez rfl).trans (jr QH))) (Bn HQ Pg)).trans (zV _))) rfl) (cq _) ?_);have Q4:eB [brd n]=aa (.bl true):=by rw[<-hn];exact IB (qr hg _ 46)
 refine sq (dF (ρ':=lZ ns bd w a a2 (gO CG w (L++[n]) (p+1)) (gO CG w ((L++[n]).map aK) (p+1)) (Tz L W p++[((av b W w c).length:Int)]) (fz (.int (k:Int))) (fz (cL l)) x8 x9 (fz (brd b)) (fz (sg (lt b c))) (fz (.int (lf b W:Nat))) fq fb) (dD (tI (l7 (b:=true) ((ax (ds:=[brd n]) (ay Pg rfl) rfl).trans Q4))) rfl) (cq _) ?_);refine xh (ds:=[97,98,99,102].map sg) rfl (LJ ns hg HQ MM ?_ (λc' E8=>?_) (λfq fb=>?_) [97,98,99,102] fq fb (by decide))
 ·have:=Df hg;omega
 ·have:=zX (q:=(· ==c')) (Zc.mpr (UW E8)) hw hc;rw[hn] at this;exact this
 ·have:=hP n x8 x9 (fz (brd b)) (fz (sg (lt b c))) (fz (.int (lf b W:Nat))) fq fb G';rw[tz] at this;exact this
end
section
open Classical
variable{CK CG a a2:Addr}{bd b:List Str}{W w p:Nat}{L:List (List Str)}
theorem yl(ns:List Int)(Fb:ns.length<=63)(IT:Brd bd W)(Ko:bd.length*W<64)(hw:Ways w){P:aO->Prop}{S:Sl->aO->Prop}
 (hP:∀L p x6 x7 x8 x9 lX kT i3 fq fb,Gm bd W L p->p<50->P (lZ ns bd w a a2 (gO CG w L p) (gO CG w (L.map aK) p) (Tz L W p) x6 x7 x8 x9 lX kT i3 fq fb)):
 ∀(ks:List Nat) (L:List (List Str)) (p:Nat) (x6 x7 x8 x9 lX kT i3 fq fb:Option Sl),Gm bd W L p->p+ks.length<50->
  eR (putN 6) (Il CK CG) (ks.map λ(k:Nat)=>D.int (k:Int)) (lZ ns bd w a a2 (gO CG w L p) (gO CG w (L.map aK) p) (Tz L W p) x6 x7 x8 x9 lX kT i3 fq fb) λx=>match x with | .nx ρ'=>P ρ' | .rt r ρ'=>S r ρ' | .ex _ _=>False
 |[],L,p,x6,x7,x8,x9,lX,kT,i3,fq,fb,h,hl=>hP L p _ _ _ _ _ _ _ _ _ h (by simp at hl;omega)
 |k::ks,L,p,x6,x7,x8,x9,lX,kT,i3,fq,fb,h,hl=>by
  rw[SO] at hl;rw[SU];refine qL ?_;unfold Il;obtain⟨b,hb⟩:∃b,L[p]? =some b:=⟨_,SK (by rw[h.len];omega)⟩
  have bm:=Th hb;have hg:=h.br b bm;have hs:b.length*W<64:=by rw[h.ln b bm];exact Ko
  refine sq (dF (ρ':=lZ ns bd w a a2 (gO CG w L p) (gO CG w (L.map aK) p) (Tz L W p) (fz (.int (k:Int))) (fz (cL (gh b W w))) x8 x9 lX kT i3 fq fb) ((aQ ((a9 (ds:=[]) (cI rfl rfl) rfl rfl).trans ((ez rfl).trans (o4 hg hs hw hb)))).trans rfl) (eJ _ 7) ?_);refine xi (t:=!decide (gh b W w=[])) (ke ((aF (x:=cL (gh b W w)) (y:=cL []) rfl rfl).trans (HY _ _))) ?_;by_cases hz:gh b W w=[]
  ·rw[Y8 hz];exact yl ns Fb IT Ko hw hP ks L p _ _ _ _ _ _ _ _ _ h (by omega)
  ·rw[Y_ hz];refine XF.mono _ _ _ _ (λx hx=>?_) (Iw (S:=λ_ _=>False) (P:=λρ=>eR (putN 6) (Il CK CG) (ks.map λ(k:Nat)=>D.int (k:Int)) ρ λx=>match x with | .nx ρ'=>P ρ' | .rt r ρ'=>S r ρ' | .ex _ _=>False) ns Fb IT Ko hw h (by omega) hb hz λn y8 y9 SA SD SE SF SG h'=>yl ns Fb IT Ko hw hP ks (L++[n]) (p+1) _ _ _ _ _ _ _ _ _ h' (by omega));cases x with
   |nx ρ'=>exact hx
   |rt r ρ'=>exact hx.elim
   |ex n ρ'=>exact hx.elim
def F9(hG:Good bd W):lf bd W=bd.length*W:=by
 rw[<-c7 bd.length W];refine List.countP_eq_length.mpr λx hx=>?_;have hx:=bB.mp hx;have this:lt bd x∈ME:=zm hG hx.1 hx.2;refine bne_iff_ne.mpr λz=>?_;rw[show lt bd x=46 from z] at this;revert this
 decide
theorem B8(h0:L[0]? =some bd):∀p,p<L.length->(Tz L W p).sum=(lf bd W:Int) - (lf (L.getD p []) W:Int)
 |0,_=>by
  unfold Tz;rw[S0,h0];simp
 |p+1,hp=>by
  have ih:=B8 h0 p (by omega);unfold Tz at ih⊢;rw[VO,Uj,List.sum_append,ih];simp[tK];omega
def y0(hG:Good bd W)(hw:Ways w):gh bd W w=((cC bd W w).filter λP=>decide (1<P.length)).map λP=>P.headD (0,0):=by
 unfold gh;congr 1;refine List.filter_congr λP hP=>?_;obtain⟨m,r,rfl,hm,_⟩:=iu hw hP;unfold Fd;rw[Y_ (p:=lt bd ((m::r).headD (0,0))=46)]
 ·simp
 ·intro z;have this:lt bd m∈ME:=zm hG hm.1 hm.2;rw[show lt bd m=46 from z] at this;revert this
  decide
def Cy(hr:∀b∈L,∀r∈b,r.length=W){k:Nat}(hk:k+1<L.length):tK (L.map aK) W k=tK L W k:=by
 have e:∀j,j<L.length->(L.map aK).getD j []=aK (L.getD j [])/\L.getD j []∈L:=λj hj=>by
  have h1:=getD_at (L:=L) hj;refine⟨?_,Th h1⟩;rw[S0,S2,h1];rfl
 obtain⟨a1,a2⟩:=e k (by omega);obtain⟨b1,b2⟩:=e (k+1) hk;unfold tK;rw[a1,b1,zR (hr _ a2),zR (hr _ b2)]
def C3(hG:Good b W)(hw:Ways w):∀a,c5 CK CG a ⟨CG,[]⟩ [brd b,iW w]=aa (.non,gO CG w [b] 0):=λa=>by
 show noex (a_ [brd b]>>=λ_=>cw [iW w]>>=λ_=>aa (D.non,gO CG w [b] 0))=_;rw[tR hG,ai,hw.nw,ai];rfl
def Dd{CK CG:Addr}(ns:List Int)(hl:ns.length<=63):(j7 CK CG).f (some (.fz (.scr ns))::Tc (15 - 1) none) λx=>∃ρ,x= .rt (.fz (.bl true)) ρ:=by
 obtain⟨bd,W,hG,h5,w5,eb⟩:=xI ns hl 0 5 (by decide) (by decide);have hg:=hG.brd;have hs:=yc hG;have hr:∀r∈bd,r.length=W:=λr hr=>(hg.rows r hr).len;unfold j7;refine sq (dF (ρ':=[fz (.scr ns),fz (brd bd),none,none,none,none,none,none,none,none,none,none,none,none,none]) ((aQ ((ax (ds:=[.scr ns, .int 0, .int 5]) rfl rfl).trans eb)).trans rfl) (eJ _ 1) ?_);obtain⟨v,hv,ev⟩:=fv ns hl 60 2 (by decide);obtain⟨w,hw,ew⟩:∃w,Ways w/\eC (.lst [.int 4, .int 8]) (.int (v:Int))=aa (iW w):=by
  match v,hv with
  |0,_=>exact⟨4, .inl rfl,rfl⟩
  |1,_=>exact⟨8, .inr rfl,rfl⟩
 refine sq (dF (ρ':=[fz (.scr ns),fz (brd bd),fz (iW w),none,none,none,none,none,none,none,none,none,none,none,none]) ((aQ ((aF (x:= .lst [.int 4, .int 8]) (y:= .int (v:Int)) rfl ((ax (ds:=[.scr ns, .int 60, .int 2]) rfl rfl).trans ev)).trans ew)).trans rfl) (eJ _ 2) ?_);refine sq (My (s8 (ds:=[brd bd,iW w]) rfl rfl (C3 hG hw) λa=>?_));refine sq (My (s8 (ds:=[brd (aK bd),iW w]) (ay ((ax (ds:=[brd bd]) rfl rfl).trans (ua hG.brd (tR hG))) rfl) rfl (C3 (Bq hG) hw) λa2=>?_));have ho:∀{x5:Option Sl},bJ [fz (.scr ns),fz (brd bd),fz (iW w),some (.ob a (gO CG w [bd] 0)),some (.ob a2 (gO CG w [aK bd] 0)),x5,none,none,none,none,none,none,none,none,none] 3 CG=some (a,gO CG w [bd] 0):=cI rfl rfl;refine sq (dF (ρ':=[fz (.scr ns),fz (brd bd),fz (iW w),some (.ob a (gO CG w [bd] 0)),some (.ob a2 (gO CG w [aK bd] 0)),none,none,none,none,none,none,none,none,none,none]) (dD (ke ((aF (x:=brd bd) (y:=brd bd) ((a9 (ds:=[]) ho rfl rfl).trans ((ez rfl).trans (jr rfl))) rfl).trans (zV bd))) rfl) (cq _) ?_);have ep:aR 0 (fc (ar 2 gD (aC (dV 1) (aC (dV 2) aN)))) (eA (d2 Kj (dA a7 (aC (dV 0) aN)) (dC (.int 1)))) (d2 eC (dV 0) (dC (.int 0))) [fz (.scr ns),fz (brd bd),fz (iW w),some (.ob a (gO CG w [bd] 0)),some (.ob a2 (gO CG w [aK bd] 0)),none,none,none,none,none,none,none,none,none,none]=aa (cL (gh bd W w)):=by
  refine(bw (ds:=(cC bd W w).map cL) (LC ((ax (ds:=[brd bd,iW w]) rfl rfl).trans (wA hG.brd (tR hG) hs hw))) (o7 cL (λP=>decide (1<P.length)) (λP=>cD (P.headD (0,0))) (cC bd W w) λP hP=>?_) ?_).trans (by
   rw[y0 hG hw];show _=aa (D.lst (YV cD (YV _ _)));rw[Tf];rfl)
  ·obtain⟨m,r,rfl,hm,_⟩:=iu hw hP;rw[xR,ke (b:=decide (1<(m::r).length)) ((aF (x:= .int ((m::r).length:Int)) (y:= .int 1) ((bz (xs:=[cL (m::r)]) (ay rfl rfl)).trans (yi _)) rfl).trans (by
    show aa (D.bl (decide ((1:Int)<(((m::r).length:Nat):Int))))=_;congr 2;rw[Ze];omega))]
   have e0:∀{ρ:aO},d2 eC (dV 0) (dC (.int 0)) (fz (cL (m::r))::ρ)=aa (cD m):=(aF (x:=cL (m::r)) (y:= .int 0) rfl rfl).trans (ie (i:=0) rfl);rw[e0];cases decide (1<(m::r).length)<;>rfl
  ·rw[SI,cH];have:=TV (λP:List Cell=>decide (1<P.length)) (cC bd W w);have:=pJ (bd:=bd) (W:=W) (w:=w);omega
 refine sq (dF (ρ':=[fz (.scr ns),fz (brd bd),fz (iW w),some (.ob a (gO CG w [bd] 0)),some (.ob a2 (gO CG w [aK bd] 0)),none,none,none,none,none,none,none,none,none,none]) (dD (ke ((aF ((a9 (ds:=[]) ho rfl rfl).trans ((ez rfl).trans (o4 hg hs hw rfl))) ep).trans ((HY _ _).trans (by rw[Y8 rfl];rfl)))) rfl) (cq _) ?_);refine sq (dF (ρ':=lZ ns bd w a a2 (gO CG w [bd] 0) (gO CG w ([bd].map aK) 0) (Tz [bd] W 0) none none none none none none none none none) rfl (DH (c':= .lst []) _ 5) ?_);have G0:Gm bd W [bd] 0:=⟨rfl,rfl,λx hx=>by rw[Tg.mp hx];exact hg,λx hx=>by rw[Tg.mp hx]⟩
 refine G3 (ds:=(S5 12).map λ(k:Nat)=>D.int (k:Int)) rfl (yl (S:=λr ρ'=>∃ρ,(OX.rt r ρ')= .rt (.fz (.bl true)) ρ) ns hl hg hs hw (λL p x6 x7 x8 x9 lX kT i3 fq fb h hp=>?_) (S5 12) [bd] 0 _ _ _ _ _ _ _ _ _ G0 (by decide));refine J2 ?_;show (XF.f _ [fz (.scr ns),fz (brd bd),fz (iW w),some (.ob a (gO CG w L p)),some (.ob a2 (gO CG w (L.map aK) p)),fz (.lst ((Tz L W p).map D.int)),x6,x7,x8,x9,lX,kT,i3,fq,fb] _);have iY:p<L.length:=by rw[h.len];omega
 have Kn:L.length<=60:=by rw[h.len];omega
 have Rl:∀b∈L.map aK,Brd b W:=λb hb=>by
  obtain⟨c,hc,rfl⟩:=S7.mp hb;exact vW (h.br c hc)
 have og:bJ [fz (.scr ns),fz (brd bd),fz (iW w),some (.ob a (gO CG w L p)),some (.ob a2 (gO CG w (L.map aK) p)),fz (.lst ((Tz L W p).map D.int)),x6,x7,x8,x9,lX,kT,i3,fq,fb] 3 CG=some (a,gO CG w L p):=cI rfl rfl;have om:bJ [fz (.scr ns),fz (brd bd),fz (iW w),some (.ob a (gO CG w L p)),some (.ob a2 (gO CG w (L.map aK) p)),fz (.lst ((Tz L W p).map D.int)),x6,x7,x8,x9,lX,kT,i3,fq,fb] 4 CG=some (a2,gO CG w (L.map aK) p):=cI rfl rfl;have MI:=(a9 (m:=0) (x:="points") (δs:=aN) (ds:=[]) og rfl rfl).trans ((ez rfl).trans (wD (CK:=CK) (a:=a) (w:=w) h.br iY Kn));have Qr:=(a9 (m:=0) (x:="points") (δs:=aN) (ds:=[]) om rfl rfl).trans ((ez rfl).trans (wD (CK:=CK) (a:=a2) (w:=w) (p:=p) Rl (by rw[SI];exact iY) (by rw[SI];exact Kn)));refine sq (dF (ρ':=[fz (.scr ns),fz (brd bd),fz (iW w),some (.ob a (gO CG w L p)),some (.ob a2 (gO CG w (L.map aK) p)),fz (.lst ((Tz L W p).map D.int)),x6,x7,x8,x9,lX,kT,i3,fq,fb]) (dD (ke ((aF MI (Aw (zs:=Tz L W p) (by rw[xE];omega) (λz hz=>?_) rfl)).trans (M4 ?_))) rfl) (cq _) ?_)
 ·obtain⟨k,hk,rfl⟩:=S7.mp hz;exact rH h.br (by have:=TL.mp hk;rw[h.len];omega)
 ·unfold Tz;rw[Tf];rfl
 refine sq (dF (ρ':=[fz (.scr ns),fz (brd bd),fz (iW w),some (.ob a (gO CG w L p)),some (.ob a2 (gO CG w (L.map aK) p)),fz (.lst ((Tz L W p).map D.int)),x6,x7,x8,x9,lX,kT,i3,fq,fb]) (dD (ke ((aF (x:= .tup [.int (p:Int), .int ((L.length:Int) - 1 - (p:Int))]) (y:= .tup [.int (p:Int), .int 0]) ((a9 (ds:=[]) og rfl rfl).trans ((ez rfl).trans G9)) ((bz (xs:=[.int (p:Int), .int 0]) (ay ((bz (xs:=[.lst ((Tz L W p).map D.int)]) (ay rfl rfl)).trans ?_) rfl)).trans rfl)).trans ?_)) rfl) (cq _) ?_)
 ·show aa (D.int ((((Tz L W p).map D.int).length:Nat):Int))=_;rw[SI,xE]
 ·rw[show (L.length:Int) - 1 - (p:Int)=0 by rw[h.len];omega];exact ne_self (by
   have:=zE Fw 5 [(p:Int),0] [(p:Int),0];rw[Y8 rfl] at this;exact this)
 have Pt:=getD_at (L:=L) iY;have QV:=h.br _ (Th Pt);refine Ih (aI (zA (p:=true) (q:=true) ?_ ?_)) ⟨_,rfl⟩
 ·refine(aF (x:= .int ((Tz L W p).sum+(lf (L.getD p []) W:Int))) (y:= .int ((bd.length*W:Nat):Int)) ((aF (x:= .int (Tz L W p).sum) (y:= .int (lf (L.getD p []) W:Nat)) (uW rfl) ((a9 (ds:=[]) og rfl rfl).trans ((ez rfl).trans (yh QV Pt)))).trans fJ) ((aF (De (i:=1) rfl) (hg.wd.len0 (i:=1) rfl)).trans ((Dt ⟨by omega,by have:=hG.r5;omega⟩).trans (by rw[Int.natCast_mul])))).trans ((zF _ _).trans ?_);rw[B8 h.h0 p iY,F9 hG];congr 2;rw[beq_iff_eq];omega
 ·refine(aF Qr MI).trans ((zF _ _).trans ?_);congr 2;rw[beq_iff_eq];congr 1;refine Ul λk hk=>?_;rw[Cy (λb hb r hr=>((h.br b hb).rows r hr).len) (by have:=TL.mp hk;rw[h.len];omega)]
end
end K1
namespace K1
open PySem PySem.Spec L2 L3
open PyProof.Rows hiding St
def DF(K:SN)(x:Str)(s:Stmt):Prop:=∃(f:Addr) (oc:Value) (od an:Option Addr) (sl:Array (Option Value)) (kV dc pm cd ct:Value),TC K Tb x=some (some (.ref f))/\K.lookup f=some ⟨oc,od, .func (TR x x (aS s) (aH s) (ah s) .none kV dc pm an cd ct),sl⟩/\UB K cd x=true/\TJ K (.ref f)=true
def DF.mk{K:SN}{x:Str}{s:Stmt}{f:Addr}{oc:Value}{od an:Option Addr}{sl:Array (Option Value)}{kV dc pm cd ct:Value}(a:TC K Tb x=some (some (.ref f)))(l:K.lookup f=some ⟨oc,od, .func (TR x x (aS s) (aH s) (ah s) .none kV dc pm an cd ct),sl⟩)(c:UB K cd x=true)(k:TJ K (.ref f)=true):DF K x s:=⟨f,oc,od,an,sl,kV,dc,pm,cd,ct,a,l,c,k⟩
def DF.at{K:SN}{x:Str}{s:Stmt}{h:Heap}{mg:Str->Option Value}(X:K.In h)(G:h.Ns Tb mg)(d:DF K x s):∃f,bO K mg x s f:=by
 obtain⟨f,oc,od,an,sl,kV,dc,pm,cd,ct,a,l,c,k⟩:=d;exact⟨f,U6 X G a,_,tQ (st:=s) l c k⟩
def MF(K:SN)(C:Addr)(x q:Str)(s:Stmt):Prop:=∃(f:Addr) (oc:Value) (od an:Option Addr) (sl:Array (Option Value)) (kV dc pm cd ct:Value),TK K (.ref C) x=some (some (.ref f))/\Vp K (.ref f)=true/\K.lookup f=some ⟨oc,od, .func (TR x q (aS s) (aH s) (ah s) .none kV dc pm an cd ct),sl⟩/\UB K cd q=true/\TJ K (.ref f)=true
def MF.mk{K:SN}{C:Addr}{x q:Str}{s:Stmt}{f:Addr}{oc:Value}{od an:Option Addr}{sl:Array (Option Value)}{kV dc pm cd ct:Value}(a:TK K (.ref C) x=some (some (.ref f)))(i:Vp K (.ref f)=true)(l:K.lookup f=some ⟨oc,od, .func (TR x q (aS s) (aH s) (ah s) .none kV dc pm an cd ct),sl⟩)(c:UB K cd q=true)(k:TJ K (.ref f)=true):MF K C x q s:=⟨f,oc,od,an,sl,kV,dc,pm,cd,ct,a,i,l,c,k⟩
def MF.at{K:SN}{C:Addr}{x q:Str}{s:Stmt}(h:L2.Cls K C)(d:MF K C x q s):∃f,MethAt K C x q s f:=by
 obtain⟨f,oc,od,an,sl,kV,dc,pm,cd,ct,a,i,l,c,k⟩:=d;exact⟨f,h,⟨a,i,k⟩,_,tQ (st:=s) l c k⟩
def IM(K:SN)(C:Addr)(q:Str)(s:Stmt):Prop:=∃(f:Addr) (oc:Value) (od an:Option Addr) (sl:Array (Option Value)) (kV dc pm cd ct:Value),Wi K C=true/\TK K (.ref C) "__init__"=some (some (.ref f))/\Vp K (.ref f)=true/\TJ K (.ref C)=true/\K.lookup f=some ⟨oc,od, .func (TR "__init__" q (aS s) (aH s) (ah s) .none kV dc pm an cd ct),sl⟩/\UB K cd q=true/\TJ K (.ref f)=true
def IM.mk{K:SN}{C:Addr}{q:Str}{s:Stmt}{f:Addr}{oc:Value}{od an:Option Addr}{sl:Array (Option Value)}{kV dc pm cd ct:Value}(m:Wi K C=true)(a:TK K (.ref C) "__init__"=some (some (.ref f)))(i:Vp K (.ref f)=true)(kc:TJ K (.ref C)=true)(l:K.lookup f=some ⟨oc,od, .func (TR "__init__" q (aS s) (aH s) (ah s) .none kV dc pm an cd ct),sl⟩)(c:UB K cd q=true)(k:TJ K (.ref f)=true):IM K C q s:=⟨f,oc,od,an,sl,kV,dc,pm,cd,ct,m,a,i,kc,l,c,k⟩
def IM.at{K:SN}{C:Addr}{x q:Str}{s:Stmt}{mg:Str->Option Value}(h:mg x=some (.ref C))(d:IM K C q s):∃f,xC K mg C x q s f:=by
 obtain⟨f,oc,od,an,sl,kV,dc,pm,cd,ct,m,a,i,kc,l,c,k⟩:=d;exact⟨f,⟨m,a,i,kc⟩,h,_,tQ (st:=s) l c k⟩
def all_mk{P:To}{w:World}{K:SN}{h:Heap}{mg:Str->Option Value}{fa CK CG:Addr}(X:K.In h)(G:h.Ns Tb mg)(Q3:mg "law"=some (.ref fa))
 {kC:Addr}{yC oV:Option Addr}{yW:Array (Option Value)}{yB pC o9 qp ky o8:Value}
 {BW:Tok}
 {xb:Tok}
 {qF:Tok}
 {uY:Tok}
 (e_Game:TC K Tb "Game"=some (some (.ref CG)))
 (c_Game:L2.Cls K CG)
 (n_Game_stages:TK K (.ref CG) "stages"=some none)
 (n_Game_place:TK K (.ref CG) "place"=some none)
 (n_Game_ways:TK K (.ref CG) "ways"=some none)
 (d_Game_rows:MF K CG "rows" "Game.rows" ju)
 (d_Game_steps:MF K CG "steps" "Game.steps" iD)
 (d_is_whole:DF K "is_whole" kK)
 (d_is_letter:DF K "is_letter" jy)
 (d_cells_of_row:DF K "cells_of_row" ej)
 (d_letter_of:DF K "letter_of" jA)
 (d_are_next:DF K "are_next" kJ)
 (d_keyed:DF K "keyed" uM)
 (d_fallen_column:DF K "fallen_column" dO)
 (d_many_letters:DF K "many_letters" ek)
 (d_law_cell:DF K "_law_cell" kL)
 (d_law_sign:DF K "_law_sign" kM)
 (d_law_feet:DF K "_law_feet" iE)
 (d_Game_left:MF K CG "left" "Game.left" jt)
 (d_Game_taken_behind:MF K CG "taken_behind" "Game.taken_behind" dr)
 (d_is_row:DF K "is_row" lR)
 (d_is_cell:DF K "is_cell" mI)
 (d_need_ways:DF K "need_ways" jC)
 (d_all_cells:DF K "all_cells" jw)
 (d_next_cells:DF K "next_cells" iH)
 (d_with_letters:DF K "with_letters" el)
 (d_can_be_taken:DF K "can_be_taken" fS)
 (d_fallen:DF K "fallen" jx)
 (d_law_drawn:DF K "_law_drawn" jz)
 (d_Game_points:MF K CG "points" "Game.points" dE)
 (d_is_board:DF K "is_board" fT)
 (d_need_cell:DF K "need_cell" jB)
 (d_like_cells:DF K "like_cells" fo)
 (d_law_board:DF K "_law_board" gg)
 (d_need_board:DF K "need_board" iG)
 (d_steps_back:DF K "steps_back" iI)
 (d_Game_init:IM K CG "Game.__init__" js)
 (d_mirrored:DF K "mirrored" iF)
 (d_all_patches:DF K "all_patches" gr)
 (d_patch_to_take:DF K "patch_to_take" eX)
 (d_Game_take:MF K CG "take" "Game.take" jv)
 (d_Game_can_take:MF K CG "can_take" "Game.can_take" dN)
 (d_patches:DF K "patches" mJ)
 (a_law_k79:TC K Tb "law"=some (some (.ref kC)))(l_law_k79:K.lookup kC=some ⟨yB,yC, .func (TR "law" "law" (aS b6) (aH b6) (ah b6) .none pC o9 qp oV ky o8),yW⟩)(c_law_k79:UB K ky "law"=true)(k_law_k79:TJ K (.ref kC)=true)
 (z_len:TC K Tb "len"=some none)
 (z_isinstance:TC K Tb "isinstance"=some none)
 (z_all:TC K Tb "all"=some none)
 (z_abs:TC K Tb "abs"=some none)
 (z_max:TC K Tb "max"=some none)
 (z_min:TC K Tb "min"=some none)
 (z_sum:TC K Tb "sum"=some none)
 (z_range:TC K Tb "range"=some none)
 (z_str:TC K Tb "str"=some none)
 (z_int:TC K Tb "int"=some none)
 (z_bool:TC K Tb "bool"=some none)
 (z_tuple:TC K Tb "tuple"=some none)
 (z_sorted:TC K Tb "sorted"=some none)
 (y_LETTERS:TC K Tb "LETTERS"=some (some (.str "abcdef" BW)))
 (y_MOST_ROWS:TC K Tb "MOST_ROWS"=some (some (.int 8 xb)))
 (y_MOST_COLUMNS:TC K Tb "MOST_COLUMNS"=some (some (.int 8 qF)))
 (y_EMPTY:TC K Tb "EMPTY"=some (some (.str "." uY)))
 (u_EMPTY:(Wj 1 uY&&Wj (Yj uY) L2.Ig)=true):
 ∃(cv:Nat->Value) (fd:Vi),(∀(s:SS) (u:Value),BindsTo s fd ⟨[u],[]⟩ [("_law_script",u)])/\∀base:Heap,K.In base->base.Ns Tb mg->FnOk P w K mg base (iV P w cv) 7 fa fd ["_law_script"] (J8 K cv 1 A2):=by
 have ea:=Q3.symm.trans (U6 X G a_law_k79);cases ea;refine⟨λ_=> .none,TR "law" "law" (aS b6) (aH b6) (ah b6) .none pC o9 qp oV ky o8,λs v=> .of_eq rfl,λbase KB GB=>?_⟩;have B:Bl K mg base (λ_=> .none) (λ_=>Tb) Tb:=⟨TF X G z_len,TF X G z_isinstance,TF X G z_all,TF X G z_abs,TF X G z_max,TF X G z_min,TF X G z_sum,TF X G z_range,TF X G z_str,TF X G z_int,TF X G z_bool,TF X G z_tuple,TF X G z_sorted,⟨_,U6 X G y_LETTERS⟩,⟨_,U6 X G y_MOST_ROWS⟩,⟨_,U6 X G y_MOST_COLUMNS⟩,⟨_,U6 X G y_EMPTY⟩,⟨_,u_EMPTY,U6 X G y_EMPTY⟩⟩
 have O:Bo K CK CG:=⟨c_Game,n_Game_stages,n_Game_place,n_Game_ways⟩
 have f_:=(MF.at c_Game d_Game_rows).elim λ_ t=>um (P:=P) (w:=w) B O t;have ue:=(MF.at c_Game d_Game_steps).elim λ_ t=>q_ (P:=P) (w:=w) B O t;have p3:=(DF.at X G d_is_whole).elim λ_ t=>wk (P:=P) (w:=w) B t;have wa:=(DF.at X G d_is_letter).elim λ_ t=>ur (P:=P) (w:=w) B t;have jd:=(DF.at X G d_cells_of_row).elim λ_ t=>n_ (P:=P) (w:=w) B t;have je:=(DF.at X G d_letter_of).elim λ_ t=>uw (P:=P) (w:=w) B t;have yu:=(DF.at X G d_are_next).elim λ_ t=>wg (P:=P) (w:=w) B t;have zY:=(DF.at X G d_keyed).elim λ_ t=>DI (P:=P) (w:=w) B t;have n6:=(DF.at X G d_fallen_column).elim λ_ t=>mn (P:=P) (w:=w) B t;have jf:=(DF.at X G d_many_letters).elim λ_ t=>oa (P:=P) (w:=w) B t;have yx:=(DF.at X G d_law_cell).elim λ_ t=>wm (P:=P) (w:=w) B t;have yz:=(DF.at X G d_law_sign).elim λ_ t=>wq (P:=P) (w:=w) B t;have yy:=(DF.at X G d_law_feet).elim λ_ t=>wo (P:=P) (w:=w) B t;have v8:=(MF.at c_Game d_Game_left).elim λ_ t=>uk (P:=P) (w:=w) B O jf f_ t;have j_:=(MF.at c_Game d_Game_taken_behind).elim λ_ t=>jh (P:=P) (w:=w) B O jf t;have DG:=(DF.at X G d_is_row).elim λ_ t=>By (P:=P) (w:=w) B wa t;have Bu:=(DF.at X G d_is_cell).elim λ_ t=>yD (P:=P) (w:=w) B p3 t;have ny:=(DF.at X G d_need_ways).elim λ_ t=>uy (P:=P) (w:=w) B p3 t;have v_:=(DF.at X G d_all_cells).elim λ_ t=>uq (P:=P) (w:=w) B jd t;have ug:=(DF.at X G d_next_cells).elim λ_ t=>rh (P:=P) (w:=w) B yu t;have p4:=(DF.at X G d_with_letters).elim λ_ t=>oe (P:=P) (w:=w) B zY jd je t;have jc:=(DF.at X G d_can_be_taken).elim λ_ t=>n9 (P:=P) (w:=w) B je t;have DD:=(DF.at X G d_fallen).elim λ_ t=>Bx (P:=P) (w:=w) B n6 t;have nu:=(DF.at X G d_law_drawn).elim λ_ t=>uv (P:=P) (w:=w) B yx t;have q9:=(MF.at c_Game d_Game_points).elim λ_ t=>p5 (P:=P) (w:=w) B O j_ t;have yw:=(DF.at X G d_is_board).elim λ_ t=>wj (P:=P) (w:=w) B DG t;have wc:=(DF.at X G d_need_cell).elim λ_ t=>ux (P:=P) (w:=w) B Bu t;have uf:=(DF.at X G d_like_cells).elim λ_ t=>ra (P:=P) (w:=w) B je ug t;have wb:=(DF.at X G d_law_board).elim λ_ t=>uu (P:=P) (w:=w) B nu t;have iq:=(DF.at X G d_need_board).elim λ_ t=>rf (P:=P) (w:=w) B yw t;have lC:=(DF.at X G d_steps_back).elim λ_ t=>ri (P:=P) (w:=w) B uf t;have v7:=(IM.at (U6 X G e_Game) d_Game_init).elim λ_ t=>uh (P:=P) (w:=w) B O iq ny vf t;have yA:=(DF.at X G d_mirrored).elim λ_ t=>wt (P:=P) (w:=w) B iq t;have kl:=(DF.at X G d_all_patches).elim λ_ t=>p6 (P:=P) (w:=w) B v_ lC zY t;have n8:=(DF.at X G d_patch_to_take).elim λ_ t=>mq (P:=P) (w:=w) B wc lC jc t;have v9:=(MF.at c_Game d_Game_take).elim λ_ t=>uo (P:=P) (w:=w) B O n8 DD f_ p4 vg t;have n5:=(MF.at c_Game d_Game_can_take).elim λ_ t=>mm (P:=P) (w:=w) B O kl f_ jc t;have Bv:=(DF.at X G d_patches).elim λ_ t=>yE (P:=P) (w:=w) B iq ny kl t;exact we B O v7 wb nu yA f_ n5 q9 ue yz v8 Bv v9 yy (tQ (st:=b6) l_law_k79 c_law_k79 k_law_k79) Dd
end K1
open PySem PySem.W PyProof.Rows
theorem PySem.Challenge.cw_cellpatches_k79_whole_games_holds : PySem.Challenge.rw_cellpatches_k79_whole_games.Holds := by
 w_on;refine holds_law (by kernel_rfl) λR3=>?_
 refine L3.vL (l:=PySem.Challenge.rw_cellpatches_k79_whole_games) (T:=L2.Ig) (n:=63) (q:=K1.nT) (loose:=[]) (Xt:=λs=>xlAt K1.nT [] s&&recOk PySem.Challenge.rw_cellpatches_k79_whole_games.row.records s) (XP:=XL K1.nT []) (Yf:=λs=>(Hook.obs (kHook K1.i_ K1.i9 (λ_=>by kernel_rfl)) s,Wj 600 s.toks)) (Ya:=λw=>(Hook.val (kHook K1.i_ K1.i9 (λ_=>by kernel_rfl)) w,true)) (YP:=Hook.says (kHook K1.i_ K1.i9 (λ_=>by kernel_rfl))) (N:=5290) ?hl (λw s e=>Hook.of (kHook K1.i_ K1.i9 (λ_=>by kernel_rfl)) w s (Zd Prod.fst e)) (λw s e=>WE (Zd Prod.snd e)) (Hook.keeps (kHook K1.i_ K1.i9 (λ_=>by kernel_rfl))) (λs e=>xl_of s (Ue.mp e).1) XL.keeps (by rfl) (by rfl) (by rfl) (λs e=>recFacts_of (Ue.mp e).2) (by rfl) (by first | assumption | decide+kernel) (by decide+kernel) ⟨rfl,rfl,rfl,rfl,rfl,by decide+kernel⟩ ?hw rfl (by rfl) ?hc
 case hl=>exact K1.Lf
 (case hw=>w_witness2)
 k_fill
 refine L3.Mx (l:=PySem.Challenge.rw_cellpatches_k79_whole_games) (k:=7) (n:=63) (x:="_law_script") (g:=L3.A2) rfl (by decide) ⟨rfl,by decide,by decide⟩ (λw h Y=>PySem.W.kIn_of Y) L3.A3 ?F
 case F=>
  intro w mg fa h KX G NY;refine' K1.all_mk (CK:=Tb) KX G NY ?e_Game ?c_Game ?n_Game_stages ?n_Game_place ?n_Game_ways ?d_Game_rows ?d_Game_steps ?d_is_whole ?d_is_letter ?d_cells_of_row ?d_letter_of ?d_are_next ?d_keyed ?d_fallen_column ?d_many_letters ?d_law_cell ?d_law_sign ?d_law_feet ?d_Game_left ?d_Game_taken_behind ?d_is_row ?d_is_cell ?d_need_ways ?d_all_cells ?d_next_cells ?d_with_letters ?d_can_be_taken ?d_fallen ?d_law_drawn ?d_Game_points ?d_is_board ?d_need_cell ?d_like_cells ?d_law_board ?d_need_board ?d_steps_back ?d_Game_init ?d_mirrored ?d_all_patches ?d_patch_to_take ?d_Game_take ?d_Game_can_take ?d_patches ?a_law_k79 ?l_law_k79 ?c_law_k79 ?k_law_k79 ?z_len ?z_isinstance ?z_all ?z_abs ?z_max ?z_min ?z_sum ?z_range ?z_str ?z_int ?z_bool ?z_tuple ?z_sorted ?y_LETTERS ?y_MOST_ROWS ?y_MOST_COLUMNS ?y_EMPTY ?u_EMPTY
  (case e_Game=>k_is)
  (case c_Game=>(refine' L2.Cls.mk ?a ?b ?c ?d;(case a=>k_is);(case b=>k_is);(case c=>k_is);(case d=>k_is)))
  (case n_Game_stages=>k_is)
  (case n_Game_place=>k_is)
  (case n_Game_ways=>k_is)
  (case d_Game_rows=>(refine' K1.MF.mk ?a ?i ?l ?c ?k;(case a=>k_is);(case i=>k_is);(case l=>k_is);(case c=>k_is);(case k=>k_is)))
  (case d_Game_steps=>(refine' K1.MF.mk ?a ?i ?l ?c ?k;(case a=>k_is);(case i=>k_is);(case l=>k_is);(case c=>k_is);(case k=>k_is)))
  any_goals (refine' K1.DF.mk ?a ?l ?c ?k;(case a=>k_is);(case l=>k_is);(case c=>k_is);(case k=>k_is))
  (case d_Game_left=>(refine' K1.MF.mk ?a ?i ?l ?c ?k;(case a=>k_is);(case i=>k_is);(case l=>k_is);(case c=>k_is);(case k=>k_is)))
  (case d_Game_taken_behind=>(refine' K1.MF.mk ?a ?i ?l ?c ?k;(case a=>k_is);(case i=>k_is);(case l=>k_is);(case c=>k_is);(case k=>k_is)))
  (case d_Game_points=>(refine' K1.MF.mk ?a ?i ?l ?c ?k;(case a=>k_is);(case i=>k_is);(case l=>k_is);(case c=>k_is);(case k=>k_is)))
  (case d_Game_init=>(refine' K1.IM.mk ?m ?a ?i ?q ?l ?c ?k;(case m=>k_is);(case a=>k_is);(case i=>k_is);(case q=>k_is);(case l=>k_is);(case c=>k_is);(case k=>k_is)))
  (case d_Game_take=>(refine' K1.MF.mk ?a ?i ?l ?c ?k;(case a=>k_is);(case i=>k_is);(case l=>k_is);(case c=>k_is);(case k=>k_is)))
  (case d_Game_can_take=>(refine' K1.MF.mk ?a ?i ?l ?c ?k;(case a=>k_is);(case i=>k_is);(case l=>k_is);(case c=>k_is);(case k=>k_is)))
  any_goals first | k_is | kit_is | k_exc | rfl
