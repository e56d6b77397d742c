import PyProof.Rows.All
import Wide.All
import OpenK.AllK
import Wide.FinOn
import Lean
import PyProof.EqAt
import PyProof.EqKinds
import PyProof.TupleCall
import KE.KTryMore
import KE.KRevIter
import KE.KSortTup
import KE.KDictSum
import KE.KRevSl
import PyProof.Rows.TupDisplay
import PyProof.EnumFor
import PyProof.EnumMake
import PyProof.EnumStmt
import PyProof.DictUpdate
import PyProof.AttrMissSeq
import KE.KDictOf
import PyProof.ListStr
import PyProof.SetScanFacts
import PyProof.Rows.SetFrom
import PyProof.TupleKey
import KE.LcSums
import PyProof.ListRange
import PyProof.SeqI3
import KE.KItemsList
import PyProof.ZipIter
import PyProof.Draws
import PyProof.DictItems
import PySem.Challenge.RW_cellpatches_k20_ways
open PySem renaming wpAny_bind->S5,Shared->S7,wpAny_pure->Te,starEach->To,mainGlobals->Tx,sizeLine->Tz,Program->TM,Around->TY,compareOp->Ua,bootBuiltins->Ub,behindInMarks->Ug,wpAny_mono->Up,wpAny_newObj_type->Ut,wpAny_truthy_bool->UD,mem_of_lookup->UG,backTo->UH,sysModules->UI,FuncData->U1,wpAny_holding->U5,wpAny_typeNameOfWhole_keyiter->Va,assignEach->Vb,tupleKind_room_in1->Vh,wpAny_passesOwn->Vm,attributeBase->Vp,DictEntry->Vy,wpAny_call_entry->Vz,sizeLine_eq->VE,keywordEach->VF,wpAny_typeNameOf_keyiter->VG,wpAny_getItem_str_slice->VL,wpAny_callSpecial?_slot->VM,codeAny_builtin->VN,Keyword->VO,tupleKind->V1,plainId_quiet->V5,binaryOp->V6,wpAny_execs_nil->Wa,sliceBounds->Wb,codeAny->Wc,wpAny_Call_Name_kw->Wm,NameKind->Wn,wpAny_tryCatch->Ws,storedH->Wt,typeLookup->WA,foldedSetIterable->WB,getItem->WJ,backToKw->WK,wpAny_typeOf->W0,pyNext->W2,post_val_or_str->W3,letOwnedTupleGo->W4,typeIs_str->W_,wpAny_seqItems->Xg,recursionLimit->Xh,rawInt->Xi,Builtin->Xq,swapsWith->Xx,Paired->XB,wpAny_pyIter_list->XQ,wpAny_loadPart_at->XR,wpAny_dictEntries->XS,wpAny_assign_Name->XT,callerA->XU,call_meets->XW,codeAny_mono->X7,call_meetsIn->X8,IsPart->Yc,noFill_tuple_add->Yg,wpAny_updateSeq->Yn,wpAny_letGo->Yo,wpAny_dictEpoch->Yp,valueAt->Yq,richCompare->Yr,cellsFrom->Yt,BindsTo->YD,wpAny_newFunctionEnv_cells->YF,wpAny_getItem_list_slice->YU,wpAny_comprehension_free->YV,IsTupleKey->Y1,swapsWithSole->Y3,seq_tuple_add->Y4,notedBy->Y5,evalPart_none->Y6,call->Y9
open List renaming length_map->S6,mem_cons_of_mem->S9,mem_cons_self->Ta,getElem?_eq_getElem->Tb,size_toArray->Td,map_cons->Tf,mem_cons->Th,length_append->Ti,length_cons->Tj,getElem?_eq_some_iff->Tn,getElem?_set_ne->Tr,getElem?_map->Tu,getElem?_set_self->Tv,replicate->TB,mem_map->TJ,not_mem_nil->TK,getD_eq_getElem?_getD->TU,getElem?_cons_zero->T1,all_eq_true->T2,nil_append->T4,getElem?_cons_succ->T5,getElem?_append_left->T6,getElem?_append_right->T7,mem_append_right->T8,append_nil->T9,range'->T_,length_nil->Ud,length_filter_le->Uh,mem_append->Ui,range->Um,mem_filter->Uo,getElem?_replicate->Uw,Nodup->UC,toArray->UE,lookup_cons->UL,cons_append->UM,zip_cons_cons->UN,pairwise_cons->UO,map_nil->UP,map_map->UQ,all_cons->UR,mem_of_getElem?->UU,mem_append_left->UW,flatMap_cons->UX,any_cons->U0,set_cons_zero->U6,set_cons_succ->U7,mem_singleton->U8,nodup_cons->Vc,map_append->Vd,sum_cons->Vi,pairwise_iff_getElem->Vo,length_take->Vq,getElem_mem->Vr,all_map->Vu,of_mem_zip->VB,find?_cons->VC,nodup_append->VI,mem_iff_getElem->VY,length_range'->V8,reverse_cons->Wg,any_eq_false->Wh,getLast?_cons_cons->Wo,filter_cons_of_pos->Wq,filter_cons_of_neg->Wr,mem_flatMap->Wu,map_flatMap->Wv,length_drop->Ww,length_replicate->WE,getElem?_eq_none->WG,foldl_cons->WH,mem_range->WR,length_reverse->WU,length_pos_iff->WV,getElem_of_mem->WW,filterMap_cons->WX,mem_filterMap->Xb,pairwise_map->Xj,mem_range'_1->Xk,append_assoc->Xl,take_length->Xr,range'_succ->Xs,dropLast_concat_getLast->XC,length_zip->XG,forIn_cons->XH,nodup_nil->X9,getElem?_zip_eq_some->X_,drop_eq_getElem_cons->Yb,length_erase_of_mem->Ym,range_succ_eq_map->Yy,length_pos_of_mem->Yz,filter_eq_nil_iff->YA,range_eq_range'->YQ,mem_of_mem_take->YR,length_flatMap->YY,length->YZ,getElem?_range->Y0,foldl_append->Zj
open PySem.Heap renaming get?_push_of_some->S_,lt_size->Tq,get?_push_size->Tt,SameBut->Vv,get?_update_self->VQ,size_push->V_,get?_update_other->Wz,get?_none_of_le->YS
open PySem.W renaming Frag->Tc,kitOne->Tp,nsIn->TL,mg_none_of->TX,kia_one->Ul,mg_of->Ur,fnOf->Uu,keepIn->Ux,findIn->Uy,codeIn->Vl,mroIn->Vt,clsIn->VR,hideAll->VW,exmOne->V3,excIn->Wd,cellsFrom_some->Wj,looks_findIn->WC,callWith_K->WQ,methodObj->W6,instObj->Xo,lookIn->Xz,looks_mroIn->Yw,hideAll_get->Yx,of_hideAll->YG,codeRec_of->YH,kitx_list->YL,kitx_dict->YM,plainGet->YX,OpenLaw->Y_
open Nat renaming le_refl->Tg,le_trans->Tw,lt_of_lt_of_le->TQ,ne_of_lt->TR,zero_le->Ue,lt_irrefl->Uk,mul_le_mul->Uv,le_of_lt->UT,lt_trans->Vx,ne_of_gt->VS,lt_succ_self->VX,mul_le_mul_right->VZ,lt_succ_of_lt->Wl,le_antisymm->X2,div_div_eq_div_mul->YI,zero_add->YN,add_comm->YO,one_mul->Zb,add_mul->Zc,lt_of_le_of_lt->Zg,add_right_comm->Zh
open Bool renaming and_eq_true->Ts,false_ne_true->TN,false_eq_true->Uj,true_and->US,eq_false_iff->UY,eq_iff_iff->Vg,not_eq_true'->Vj,false_and->WS,and_false->WT,and_true->Xc,not_eq_true->Xv,or_eq_true->XO,not_false->Ye,and_eq_false_imp->YJ,and_eq_true_iff->YT
open PySem.Data renaming fields->TC,dict->VD,cls->WN
open Option.some renaming inj->TF,injEq->Yl
open PySem.PassesOwn renaming never->TH
open PySem.Value renaming ref->TV,none->Us,bool->U3,builtin->Wi,type->Xd,str->Yu,int->Yv
open Array renaming length_toList->TZ,getElem?_toList->VP,getElem?_eq_getElem->V9,append_assoc->W8
open PySem.Str renaming ofString->T3
open Option renaming isSome_iff_exists->Uc,isSome_map->Xa,getD_none->Za
open Ne renaming symm->Uq
open False renaming elim->Uz
open PyProof.Rows renaming envOfC->UA,slot_tuple_getitem->UK,callWith_type1->UZ,IntsAre->U2,seqObj->VH,kindOf->WO,AllBare->W9,subscriptTail->Xy,lt_int->XF,Subscript_->YW,subscriptTail_builtinR->Ze
open True renaming intro->UB
open PySem.F renaming slot_dict_get->UJ,plain_min_loop->U9,slot_dict_keyiterator_next->Ve,entry_dict_get->VA,excBase_ValueError->V2,args_tuple_add_2->V7,plainAttrs_list->We,entry_tuple_add->Wf,slot_tuple_add->Wk,args_dict_keyiterator_next_1->XJ,plainAttrs_dict->XY,args_dict_get_3->XZ,args_dict_get_2->X0,entry_min_loop->X5,entry_dict_keyiterator_next->X6,type_dict_get->Yk,typeOf_object_class->Zd
open PySem.Obj renaming mapSeq->U4,data_mapFields->Zf
open PySem.Builtin.Slice renaming slicePlaces->U_,sliceAdjust->VT,sliceApplied->WZ
open PySem.Builtin.Tuple renaming tupleExact->Vf,tupleItemsOf->WY
open PySem.Around renaming under_plainId->Vk,frames_deeper->YE
open PySem.Builtin.Str renaming occurrences->Vn
open ForInStep renaming yield->Vs
open PySem.Paired renaming length->Vw
open PySem.Heap.SameBut renaming update->VJ
open PySem.Calls renaming evalArgs_plain->VU,spliced_cons->V4,callWith_builtin->Wx,spliced_nil->Xf,Name_function_global->XN
open PySem.Builtin.List renaming listTooLong->V0
open PySem.Builtin.Dict_items renaming ownsTuple->Wy
open List.Pairwise renaming imp->WD,nil->X3
open PySem.Builtin.Builtins renaming bindParams->WI
open PySem.Txt renaming slice_le->WL
open Int.ofNat renaming inj->WM
open PySem.SeqAt renaming notIn_listAt->W5,notIn_tupleAt->YK,EqAt->Y8
open Int renaming toNat_of_nonneg->W7,emod_lt_of_pos->Xe,emod_nonneg->X4
open PySem.Builtin.Dict renaming updateFrom->Xm,pairItems->Xp,showsAll->Xu
open Sum renaming inl->Xn,inr->XX
open Prod renaming ext->XA
open PySem.Heap.IsSliceOf renaming new->XD
open Classical renaming propDecidable->XE,not_forall->Yd,not_not->YB,not_imp->YC
open Function renaming comp->XI
open PySem.Expr renaming Name->XM
open Prod.mk renaming injEq->X1
open PySem.SeqAt.EqAt renaming str_int->Yh,int_str->Yi,int_int->Yj
open LawfulBEq renaming eq_of_beq->Ys
open MonadExcept renaming tryCatch->Y2
open PySem.Value.ref renaming inj->Y7
open PySem.NameKind renaming free->Zi
set_option maxHeartbeats 0
set_option Elab.async false
set_option linter.all false
set_option maxRecDepth 100000
namespace L2
open PySem
def eJ(s:Stmt):Arguments:=match s with
 | .FunctionDef _ a _ _ _ _ _ _ _ _=>a
 |_=>{posonlyargs:=[],args:=[],vararg:=none,kwonlyargs:=[],kw_defaults:=[],kwarg:=none,defaults:=[]}
def aV(s:Stmt):List Stmt:=match s with
 | .FunctionDef _ _ b _ _ _ _ _ _ _=>b
 |_=>[]
def ai(s:Stmt):Scope:=match s with
 | .FunctionDef _ _ _ _ _ _ sc _ _ _=>sc
 |_=>{kind:= .function,names:=[],isGenerator:=false,isCoroutine:=false}
end L2
namespace K1
open PySem PySem.Spec
def top(i:Nat):Stmt:=PySem.Challenge.pw_cellpatches_k20_ways.main.body.getD i (.Pass ⟨0,0,0,0⟩)
abbrev hS(s:String)(t:Tok):Value:= .str (T3 s) t
abbrev hE(P:Params)(s:String)(t:Tok)(v:Value):Vy:={hash:=PyData.keyHash P (T3 s),key:=hS s t,val:=v}
abbrev hT(xs:Array Value):Obj:={cls:= .type "tuple",data:=Data.seq xs}
abbrev hF(s:String)(t:Stmt)(m:Value)(c:Addr):Obj:={cls:= .type "function",data:=Data.func {name:=T3 s,qualname:=T3 s,params:=L2.eJ t,body:=FuncBody.stmts (L2.aV t),scope:=L2.ai t,globals:=3,closure:=[],defaults:= .none,kwdefaults:= .none,pyModule:=m,code:= .ref c} }
def pL:Params->Tc:=fun P=>(nat_lit 2,{cls:= .none,data:=VD #[]})::
 (nat_lit 3,{cls:= .type "dict",data:=VD #[hE P "__name__" 165 (hS "law_cellpatches_k20_ways" 495),hE P "__doc__" 166 .none,hE P "__package__" 167 .none,hE P "__loader__" 168 (.builtin "__main__.__loader__#opaque"),hE P "__spec__" 169 .none,hE P "__annotations__" 170 (.ref 6),hE P "__builtins__" 171 (.ref 4),hE P "__file__" 173 (hS "/claim/cut.py" 172),hE P "__cached__" 174 .none,hE P "PatchError" 206 (.ref 24),hE P "NoBoard" 222 (.ref 37),hE P "NoWays" 238 (.ref 49),hE P "NoCell" 254 (.ref 61),hE P "NoLetter" 270 (.ref 73),hE P "NoNumber" 286 (.ref 85),hE P "NoFit" 302 (.ref 97),hE P "Nothing" 318 (.ref 109),hE P "LETTERS" 322 (hS "abcdef" 321),hE P "MOST_ROWS" 324 (.int 8 323),hE P "MOST_COLUMNS" 326 (.int 8 325),hE P "is_whole" 333 (.ref 118),hE P "is_letter" 340 (.ref 125),hE P "is_row" 346 (.ref 130),hE P "is_board" 352 (.ref 135),hE P "is_cell" 360 (.ref 142),hE P "is_list_of_cells" 366 (.ref 147),hE P "need_board" 373 (.ref 154),hE P "need_cell" 381 (.ref 161),hE P "need_ways" 388 (.ref 168),hE P "letter_of" 396 (.ref 175),hE P "are_next" 407 (.ref 182),hE P "next_cells" 419 (.ref 189),hE P "keyed" 428 (.ref 196),hE P "need_two_cells" 440 (.ref 203),hE P "like_cells" 446 (.ref 208),hE P "steps_back" 460 (.ref 215),hE P "are_one" 470 (.ref 222),hE P "way" 482 (.ref 229),hE P "is_way" 488 (.ref 234),hE P "is_fence" 494 (.ref 239),hE P "_law_cell" 504 (.ref 246),hE P "_law_drawn" 514 (.ref 253),hE P "_law_board" 520 (.ref 258),hE P "_law_cells" 526 (.ref 263),hE P "_law_beside" 541 (.ref 270),hE P "_law_labels" 547 (.ref 275),hE P "_law_patches" 553 (.ref 280),hE P "_law_refused" 561 (.ref 287),hE P "_law_told" 574 (.ref 294),hE P "_law_sign" 582 (.ref 301),hE P "_law_far" 597 (.ref 308),hE P "_law_good" 607 (.ref 315),hE P "_law_is_way" 613 (.ref 320),hE P "_law_fence" 626 (.ref 327),hE P "_law_refuses" 639 (.ref 334),hE P "law" 645 (.ref 339)] 56})::
 (nat_lit 15,hT #[.type "ValueError"])::
 (nat_lit 22,hT #[])::
 (nat_lit 23,{cls:= .type "dict",data:=VD #[hE P "__module__" 196 (hS "cellpatches.errors" 187),hE P "__firstlineno__" 200 (.int 2 199),hE P "__static_attributes__" 201 (.ref 22),hE P "__weakref__" 203 (.ref 25),hE P "__doc__" 204 .none] 3})::
 (nat_lit 24,{cls:= .type "type",data:=WN {name:=T3 "PatchError",bases:=[.type "ValueError"],mro:=[.ref 24, .type "ValueError", .type "Exception", .type "BaseException", .type "object"],ns:=23,qualname:=T3 "PatchError",subclasses:=[.ref 37, .ref 49, .ref 61, .ref 73, .ref 85, .ref 97, .ref 109]},slots:= #[some (.ref 15),none,some (hS "PatchError" 189),some (hS "PatchError" 197),some (.builtin "ValueError.__new__"),some (.bool true)]})::
 (nat_lit 25,{cls:= .type "getset_descriptor",data:=TC #[hS "__weakref__" 202, .ref 24, .builtin "ExceptionGroup.__weakref__", .none]})::
 (nat_lit 28,hT #[.ref 24])::
 (nat_lit 35,hT #[])::
 (nat_lit 36,{cls:= .type "dict",data:=VD #[hE P "__module__" 214 (hS "cellpatches.errors" 187),hE P "__firstlineno__" 218 (.int 4 217),hE P "__static_attributes__" 219 (.ref 35),hE P "__doc__" 220 .none] 2})::
 (nat_lit 37,{cls:= .type "type",data:=WN {name:=T3 "NoBoard",bases:=[.ref 24],mro:=[.ref 37, .ref 24, .type "ValueError", .type "Exception", .type "BaseException", .type "object"],ns:=36,qualname:=T3 "NoBoard"},slots:= #[some (.ref 28),none,some (hS "NoBoard" 207),some (hS "NoBoard" 215),some (.builtin "ValueError.__new__"),some (.bool true)]})::
 (nat_lit 40,hT #[.ref 24])::
 (nat_lit 47,hT #[])::
 (nat_lit 48,{cls:= .type "dict",data:=VD #[hE P "__module__" 230 (hS "cellpatches.errors" 187),hE P "__firstlineno__" 234 (.int 6 233),hE P "__static_attributes__" 235 (.ref 47),hE P "__doc__" 236 .none] 2})::
 (nat_lit 49,{cls:= .type "type",data:=WN {name:=T3 "NoWays",bases:=[.ref 24],mro:=[.ref 49, .ref 24, .type "ValueError", .type "Exception", .type "BaseException", .type "object"],ns:=48,qualname:=T3 "NoWays"},slots:= #[some (.ref 40),none,some (hS "NoWays" 223),some (hS "NoWays" 231),some (.builtin "ValueError.__new__"),some (.bool true)]})::
 (nat_lit 52,hT #[.ref 24])::
 (nat_lit 59,hT #[])::
 (nat_lit 60,{cls:= .type "dict",data:=VD #[hE P "__module__" 246 (hS "cellpatches.errors" 187),hE P "__firstlineno__" 250 (.int 8 249),hE P "__static_attributes__" 251 (.ref 59),hE P "__doc__" 252 .none] 2})::
 (nat_lit 61,{cls:= .type "type",data:=WN {name:=T3 "NoCell",bases:=[.ref 24],mro:=[.ref 61, .ref 24, .type "ValueError", .type "Exception", .type "BaseException", .type "object"],ns:=60,qualname:=T3 "NoCell"},slots:= #[some (.ref 52),none,some (hS "NoCell" 239),some (hS "NoCell" 247),some (.builtin "ValueError.__new__"),some (.bool true)]})::
 (nat_lit 64,hT #[.ref 24])::
 (nat_lit 71,hT #[])::
 (nat_lit 72,{cls:= .type "dict",data:=VD #[hE P "__module__" 262 (hS "cellpatches.errors" 187),hE P "__firstlineno__" 266 (.int 10 265),hE P "__static_attributes__" 267 (.ref 71),hE P "__doc__" 268 .none] 2})::
 (nat_lit 73,{cls:= .type "type",data:=WN {name:=T3 "NoLetter",bases:=[.ref 24],mro:=[.ref 73, .ref 24, .type "ValueError", .type "Exception", .type "BaseException", .type "object"],ns:=72,qualname:=T3 "NoLetter"},slots:= #[some (.ref 64),none,some (hS "NoLetter" 255),some (hS "NoLetter" 263),some (.builtin "ValueError.__new__"),some (.bool true)]})::
 (nat_lit 76,hT #[.ref 24])::
 (nat_lit 83,hT #[])::
 (nat_lit 84,{cls:= .type "dict",data:=VD #[hE P "__module__" 278 (hS "cellpatches.errors" 187),hE P "__firstlineno__" 282 (.int 12 281),hE P "__static_attributes__" 283 (.ref 83),hE P "__doc__" 284 .none] 2})::
 (nat_lit 85,{cls:= .type "type",data:=WN {name:=T3 "NoNumber",bases:=[.ref 24],mro:=[.ref 85, .ref 24, .type "ValueError", .type "Exception", .type "BaseException", .type "object"],ns:=84,qualname:=T3 "NoNumber"},slots:= #[some (.ref 76),none,some (hS "NoNumber" 271),some (hS "NoNumber" 279),some (.builtin "ValueError.__new__"),some (.bool true)]})::
 (nat_lit 88,hT #[.ref 24])::
 (nat_lit 95,hT #[])::
 (nat_lit 96,{cls:= .type "dict",data:=VD #[hE P "__module__" 294 (hS "cellpatches.errors" 187),hE P "__firstlineno__" 298 (.int 14 297),hE P "__static_attributes__" 299 (.ref 95),hE P "__doc__" 300 .none] 2})::
 (nat_lit 97,{cls:= .type "type",data:=WN {name:=T3 "NoFit",bases:=[.ref 24],mro:=[.ref 97, .ref 24, .type "ValueError", .type "Exception", .type "BaseException", .type "object"],ns:=96,qualname:=T3 "NoFit"},slots:= #[some (.ref 88),none,some (hS "NoFit" 287),some (hS "NoFit" 295),some (.builtin "ValueError.__new__"),some (.bool true)]})::
 (nat_lit 100,hT #[.ref 24])::
 (nat_lit 107,hT #[])::
 (nat_lit 108,{cls:= .type "dict",data:=VD #[hE P "__module__" 310 (hS "cellpatches.errors" 187),hE P "__firstlineno__" 314 (.int 16 313),hE P "__static_attributes__" 315 (.ref 107),hE P "__doc__" 316 .none] 2})::
 (nat_lit 109,{cls:= .type "type",data:=WN {name:=T3 "Nothing",bases:=[.ref 24],mro:=[.ref 109, .ref 24, .type "ValueError", .type "Exception", .type "BaseException", .type "object"],ns:=108,qualname:=T3 "Nothing"},slots:= #[some (.ref 100),none,some (hS "Nothing" 303),some (hS "Nothing" 311),some (.builtin "ValueError.__new__"),some (.bool true)]})::
 (nat_lit 112,hT #[])::
 (nat_lit 114,hT #[hS "thing" 330])::
 (nat_lit 115,hT #[])::
 (nat_lit 117,{cls:= .type "code",data:=TC #[hS "is_whole" 327,hS "is_whole" 328,hS "/claim/cut.py" 329, .int 22 0, .int 1 0, .int 0 0, .int 0 0, .int 3 0, .ref 112, .bool true, .int 181 0, .ref 113, .none, .ref 114, .ref 115, .ref 116, .int 331 0, .int 22 0,hS "/claim/cut.py" 332]})::
 (nat_lit 118,hF "is_whole" (top 13) (hS "cellpatches.boards" 319) 117)::
 (nat_lit 119,hT #[])::
 (nat_lit 121,hT #[hS "thing" 337])::
 (nat_lit 122,hT #[])::
 (nat_lit 124,{cls:= .type "code",data:=TC #[hS "is_letter" 334,hS "is_letter" 335,hS "/claim/cut.py" 336, .int 24 0, .int 1 0, .int 0 0, .int 0 0, .int 3 0, .ref 119, .bool true, .int 181 0, .ref 120, .none, .ref 121, .ref 122, .ref 123, .int 338 0, .int 24 0,hS "/claim/cut.py" 339]})::
 (nat_lit 125,hF "is_letter" (top 14) (hS "cellpatches.boards" 319) 124)::
 (nat_lit 126,hT #[])::
 (nat_lit 129,{cls:= .type "code",data:=TC #[hS "is_row" 341,hS "is_row" 342,hS "/claim/cut.py" 343, .int 26 0, .int 1 0, .int 0 0, .int 0 0, .int 3 0, .ref 126, .bool true, .int 181 0, .ref 127, .none, .none, .none, .ref 128, .int 344 0, .int 26 0,hS "/claim/cut.py" 345]})::
 (nat_lit 130,hF "is_row" (top 15) (hS "cellpatches.boards" 319) 129)::
 (nat_lit 131,hT #[])::
 (nat_lit 134,{cls:= .type "code",data:=TC #[hS "is_board" 347,hS "is_board" 348,hS "/claim/cut.py" 349, .int 30 0, .int 1 0, .int 0 0, .int 0 0, .int 3 0, .ref 131, .bool true, .int 181 0, .ref 132, .none, .none, .none, .ref 133, .int 350 0, .int 30 0,hS "/claim/cut.py" 351]})::
 (nat_lit 135,hF "is_board" (top 16) (hS "cellpatches.boards" 319) 134)::
 (nat_lit 136,hT #[])::
 (nat_lit 138,hT #[hS "board" 356,hS "thing" 357])::
 (nat_lit 139,hT #[])::
 (nat_lit 141,{cls:= .type "code",data:=TC #[hS "is_cell" 353,hS "is_cell" 354,hS "/claim/cut.py" 355, .int 36 0, .int 2 0, .int 0 0, .int 0 0, .int 3 0, .ref 136, .bool true, .int 181 0, .ref 137, .none, .ref 138, .ref 139, .ref 140, .int 358 0, .int 36 0,hS "/claim/cut.py" 359]})::
 (nat_lit 142,hF "is_cell" (top 17) (hS "cellpatches.boards" 319) 141)::
 (nat_lit 143,hT #[])::
 (nat_lit 146,{cls:= .type "code",data:=TC #[hS "is_list_of_cells" 361,hS "is_list_of_cells" 362,hS "/claim/cut.py" 363, .int 42 0, .int 2 0, .int 0 0, .int 0 0, .int 3 0, .ref 143, .bool true, .int 181 0, .ref 144, .none, .none, .none, .ref 145, .int 364 0, .int 42 0,hS "/claim/cut.py" 365]})::
 (nat_lit 147,hF "is_list_of_cells" (top 18) (hS "cellpatches.boards" 319) 146)::
 (nat_lit 148,hT #[])::
 (nat_lit 150,hT #[hS "thing" 370])::
 (nat_lit 151,hT #[])::
 (nat_lit 153,{cls:= .type "code",data:=TC #[hS "need_board" 367,hS "need_board" 368,hS "/claim/cut.py" 369, .int 44 0, .int 1 0, .int 0 0, .int 0 0, .int 3 0, .ref 148, .bool true, .int 181 0, .ref 149, .none, .ref 150, .ref 151, .ref 152, .int 371 0, .int 44 0,hS "/claim/cut.py" 372]})::
 (nat_lit 154,hF "need_board" (top 19) (hS "cellpatches.boards" 319) 153)::
 (nat_lit 155,hT #[])::
 (nat_lit 157,hT #[hS "board" 377,hS "thing" 378])::
 (nat_lit 158,hT #[])::
 (nat_lit 160,{cls:= .type "code",data:=TC #[hS "need_cell" 374,hS "need_cell" 375,hS "/claim/cut.py" 376, .int 47 0, .int 2 0, .int 0 0, .int 0 0, .int 3 0, .ref 155, .bool true, .int 181 0, .ref 156, .none, .ref 157, .ref 158, .ref 159, .int 379 0, .int 47 0,hS "/claim/cut.py" 380]})::
 (nat_lit 161,hF "need_cell" (top 20) (hS "cellpatches.boards" 319) 160)::
 (nat_lit 162,hT #[])::
 (nat_lit 164,hT #[hS "thing" 385])::
 (nat_lit 165,hT #[])::
 (nat_lit 167,{cls:= .type "code",data:=TC #[hS "need_ways" 382,hS "need_ways" 383,hS "/claim/cut.py" 384, .int 50 0, .int 1 0, .int 0 0, .int 0 0, .int 3 0, .ref 162, .bool true, .int 181 0, .ref 163, .none, .ref 164, .ref 165, .ref 166, .int 386 0, .int 50 0,hS "/claim/cut.py" 387]})::
 (nat_lit 168,hF "need_ways" (top 21) (hS "cellpatches.boards" 319) 167)::
 (nat_lit 169,hT #[])::
 (nat_lit 171,hT #[hS "board" 392,hS "cell" 393])::
 (nat_lit 172,hT #[])::
 (nat_lit 174,{cls:= .type "code",data:=TC #[hS "letter_of" 389,hS "letter_of" 390,hS "/claim/cut.py" 391, .int 53 0, .int 2 0, .int 0 0, .int 0 0, .int 3 0, .ref 169, .bool true, .int 181 0, .ref 170, .none, .ref 171, .ref 172, .ref 173, .int 394 0, .int 53 0,hS "/claim/cut.py" 395]})::
 (nat_lit 175,hF "letter_of" (top 22) (hS "cellpatches.boards" 319) 174)::
 (nat_lit 176,hT #[])::
 (nat_lit 178,hT #[hS "one" 400,hS "other" 401,hS "ways" 402,hS "down" 403,hS "along" 404])::
 (nat_lit 179,hT #[])::
 (nat_lit 181,{cls:= .type "code",data:=TC #[hS "are_next" 397,hS "are_next" 398,hS "/claim/cut.py" 399, .int 55 0, .int 3 0, .int 0 0, .int 0 0, .int 3 0, .ref 176, .bool true, .int 181 0, .ref 177, .none, .ref 178, .ref 179, .ref 180, .int 405 0, .int 55 0,hS "/claim/cut.py" 406]})::
 (nat_lit 182,hF "are_next" (top 23) (hS "cellpatches.boards" 319) 181)::
 (nat_lit 183,hT #[])::
 (nat_lit 185,hT #[hS "board" 411,hS "cell" 412,hS "ways" 413,hS "found" 414,hS "row" 415,hS "column" 416])::
 (nat_lit 186,hT #[])::
 (nat_lit 188,{cls:= .type "code",data:=TC #[hS "next_cells" 408,hS "next_cells" 409,hS "/claim/cut.py" 410, .int 61 0, .int 3 0, .int 0 0, .int 0 0, .int 3 0, .ref 183, .bool true, .int 181 0, .ref 184, .none, .ref 185, .ref 186, .ref 187, .int 417 0, .int 61 0,hS "/claim/cut.py" 418]})::
 (nat_lit 189,hF "next_cells" (top 24) (hS "cellpatches.boards" 319) 188)::
 (nat_lit 190,hT #[])::
 (nat_lit 192,hT #[hS "things" 423,hS "found" 424,hS "thing" 425])::
 (nat_lit 193,hT #[])::
 (nat_lit 195,{cls:= .type "code",data:=TC #[hS "keyed" 420,hS "keyed" 421,hS "/claim/cut.py" 422, .int 68 0, .int 1 0, .int 0 0, .int 0 0, .int 3 0, .ref 190, .bool true, .int 181 0, .ref 191, .none, .ref 192, .ref 193, .ref 194, .int 426 0, .int 68 0,hS "/claim/cut.py" 427]})::
 (nat_lit 196,hF "keyed" (top 25) (hS "cellpatches.boards" 319) 195)::
 (nat_lit 197,hT #[])::
 (nat_lit 199,hT #[hS "board" 434,hS "ways" 435,hS "one" 436,hS "other" 437])::
 (nat_lit 200,hT #[])::
 (nat_lit 202,{cls:= .type "code",data:=TC #[hS "need_two_cells" 431,hS "need_two_cells" 432,hS "/claim/cut.py" 433, .int 74 0, .int 4 0, .int 0 0, .int 0 0, .int 3 0, .ref 197, .bool true, .int 181 0, .ref 198, .none, .ref 199, .ref 200, .ref 201, .int 438 0, .int 74 0,hS "/claim/cut.py" 439]})::
 (nat_lit 203,hF "need_two_cells" (top 27) (hS "cellpatches.patches" 429) 202)::
 (nat_lit 204,hT #[])::
 (nat_lit 207,{cls:= .type "code",data:=TC #[hS "like_cells" 441,hS "like_cells" 442,hS "/claim/cut.py" 443, .int 79 0, .int 3 0, .int 0 0, .int 0 0, .int 3 0, .ref 204, .bool true, .int 181 0, .ref 205, .none, .none, .none, .ref 206, .int 444 0, .int 79 0,hS "/claim/cut.py" 445]})::
 (nat_lit 208,hF "like_cells" (top 28) (hS "cellpatches.patches" 429) 207)::
 (nat_lit 209,hT #[])::
 (nat_lit 211,hT #[hS "board" 450,hS "start" 451,hS "ways" 452,hS "back" 453,hS "ring" 454,hS "further" 455,hS "cell" 456,hS "near" 457])::
 (nat_lit 212,hT #[])::
 (nat_lit 214,{cls:= .type "code",data:=TC #[hS "steps_back" 447,hS "steps_back" 448,hS "/claim/cut.py" 449, .int 82 0, .int 3 0, .int 0 0, .int 0 0, .int 3 0, .ref 209, .bool true, .int 181 0, .ref 210, .none, .ref 211, .ref 212, .ref 213, .int 458 0, .int 82 0,hS "/claim/cut.py" 459]})::
 (nat_lit 215,hF "steps_back" (top 29) (hS "cellpatches.patches" 429) 214)::
 (nat_lit 216,hT #[])::
 (nat_lit 218,hT #[hS "board" 464,hS "ways" 465,hS "one" 466,hS "other" 467])::
 (nat_lit 219,hT #[])::
 (nat_lit 221,{cls:= .type "code",data:=TC #[hS "are_one" 461,hS "are_one" 462,hS "/claim/cut.py" 463, .int 94 0, .int 4 0, .int 0 0, .int 0 0, .int 3 0, .ref 216, .bool true, .int 181 0, .ref 217, .none, .ref 218, .ref 219, .ref 220, .int 468 0, .int 94 0,hS "/claim/cut.py" 469]})::
 (nat_lit 222,hF "are_one" (top 30) (hS "cellpatches.patches" 429) 221)::
 (nat_lit 223,hT #[])::
 (nat_lit 225,hT #[hS "board" 474,hS "ways" 475,hS "one" 476,hS "other" 477,hS "back" 478,hS "told" 479])::
 (nat_lit 226,hT #[])::
 (nat_lit 228,{cls:= .type "code",data:=TC #[hS "way" 471,hS "way" 472,hS "/claim/cut.py" 473, .int 97 0, .int 4 0, .int 0 0, .int 0 0, .int 3 0, .ref 223, .bool true, .int 181 0, .ref 224, .none, .ref 225, .ref 226, .ref 227, .int 480 0, .int 97 0,hS "/claim/cut.py" 481]})::
 (nat_lit 229,hF "way" (top 31) (hS "cellpatches.patches" 429) 228)::
 (nat_lit 230,hT #[])::
 (nat_lit 233,{cls:= .type "code",data:=TC #[hS "is_way" 483,hS "is_way" 484,hS "/claim/cut.py" 485, .int 106 0, .int 5 0, .int 0 0, .int 0 0, .int 3 0, .ref 230, .bool true, .int 181 0, .ref 231, .none, .none, .none, .ref 232, .int 486 0, .int 106 0,hS "/claim/cut.py" 487]})::
 (nat_lit 234,hF "is_way" (top 32) (hS "cellpatches.patches" 429) 233)::
 (nat_lit 235,hT #[])::
 (nat_lit 238,{cls:= .type "code",data:=TC #[hS "is_fence" 489,hS "is_fence" 490,hS "/claim/cut.py" 491, .int 116 0, .int 5 0, .int 0 0, .int 0 0, .int 3 0, .ref 235, .bool true, .int 181 0, .ref 236, .none, .none, .none, .ref 237, .int 492 0, .int 116 0,hS "/claim/cut.py" 493]})::
 (nat_lit 239,hF "is_fence" (top 33) (hS "cellpatches.patches" 429) 238)::
 (nat_lit 240,hT #[])::
 (nat_lit 242,hT #[hS "_law_script" 500,hS "_law_k" 501])::
 (nat_lit 243,hT #[])::
 (nat_lit 245,{cls:= .type "code",data:=TC #[hS "_law_cell" 497,hS "_law_cell" 498,hS "/claim/cut.py" 499, .int 128 0, .int 2 0, .int 0 0, .int 0 0, .int 3 0, .ref 240, .bool true, .int 181 0, .ref 241, .none, .ref 242, .ref 243, .ref 244, .int 502 0, .int 128 0,hS "/claim/cut.py" 503]})::
 (nat_lit 246,hF "_law_cell" (top 35) (hS "law_cellpatches_k20_ways" 495) 245)::
 (nat_lit 247,hT #[])::
 (nat_lit 249,hT #[hS "_law_script" 508,hS "_law_k" 509,hS "_law_many" 510,hS "_law_cell_here" 511])::
 (nat_lit 250,hT #[])::
 (nat_lit 252,{cls:= .type "code",data:=TC #[hS "_law_drawn" 505,hS "_law_drawn" 506,hS "/claim/cut.py" 507, .int 132 0, .int 3 0, .int 0 0, .int 0 0, .int 3 0, .ref 247, .bool true, .int 181 0, .ref 248, .none, .ref 249, .ref 250, .ref 251, .int 512 0, .int 132 0,hS "/claim/cut.py" 513]})::
 (nat_lit 253,hF "_law_drawn" (top 36) (hS "law_cellpatches_k20_ways" 495) 252)::
 (nat_lit 254,hT #[])::
 (nat_lit 257,{cls:= .type "code",data:=TC #[hS "_law_board" 515,hS "_law_board" 516,hS "/claim/cut.py" 517, .int 136 0, .int 3 0, .int 0 0, .int 0 0, .int 3 0, .ref 254, .bool true, .int 181 0, .ref 255, .none, .none, .none, .ref 256, .int 518 0, .int 136 0,hS "/claim/cut.py" 519]})::
 (nat_lit 258,hF "_law_board" (top 37) (hS "law_cellpatches_k20_ways" 495) 257)::
 (nat_lit 259,hT #[])::
 (nat_lit 262,{cls:= .type "code",data:=TC #[hS "_law_cells" 521,hS "_law_cells" 522,hS "/claim/cut.py" 523, .int 145 0, .int 1 0, .int 0 0, .int 0 0, .int 3 0, .ref 259, .bool true, .int 181 0, .ref 260, .none, .none, .none, .ref 261, .int 524 0, .int 145 0,hS "/claim/cut.py" 525]})::
 (nat_lit 263,hF "_law_cells" (top 38) (hS "law_cellpatches_k20_ways" 495) 262)::
 (nat_lit 264,hT #[])::
 (nat_lit 266,hT #[hS "_law_board_here" 530,hS "_law_cell_here" 531,hS "_law_ways" 532,hS "_law_found" 533,hS "_law_down" 534,hS "_law_right" 535,hS "_law_row" 536,hS "_law_column" 537,hS "_law_inside" 538])::
 (nat_lit 267,hT #[])::
 (nat_lit 269,{cls:= .type "code",data:=TC #[hS "_law_beside" 527,hS "_law_beside" 528,hS "/claim/cut.py" 529, .int 150 0, .int 3 0, .int 0 0, .int 0 0, .int 3 0, .ref 264, .bool true, .int 181 0, .ref 265, .none, .ref 266, .ref 267, .ref 268, .int 539 0, .int 150 0,hS "/claim/cut.py" 540]})::
 (nat_lit 270,hF "_law_beside" (top 39) (hS "law_cellpatches_k20_ways" 495) 269)::
 (nat_lit 271,hT #[])::
 (nat_lit 274,{cls:= .type "code",data:=TC #[hS "_law_labels" 542,hS "_law_labels" 543,hS "/claim/cut.py" 544, .int 160 0, .int 2 0, .int 0 0, .int 0 0, .int 3 0, .ref 271, .bool true, .int 181 0, .ref 272, .none, .none, .none, .ref 273, .int 545 0, .int 160 0,hS "/claim/cut.py" 546]})::
 (nat_lit 275,hF "_law_labels" (top 40) (hS "law_cellpatches_k20_ways" 495) 274)::
 (nat_lit 276,hT #[])::
 (nat_lit 279,{cls:= .type "code",data:=TC #[hS "_law_patches" 548,hS "_law_patches" 549,hS "/claim/cut.py" 550, .int 178 0, .int 2 0, .int 0 0, .int 0 0, .int 3 0, .ref 276, .bool true, .int 181 0, .ref 277, .none, .none, .none, .ref 278, .int 551 0, .int 178 0,hS "/claim/cut.py" 552]})::
 (nat_lit 280,hF "_law_patches" (top 41) (hS "law_cellpatches_k20_ways" 495) 279)::
 (nat_lit 281,hT #[])::
 (nat_lit 283,hT #[hS "_law_e" 557,hS "_law_flags" 558])::
 (nat_lit 284,hT #[])::
 (nat_lit 286,{cls:= .type "code",data:=TC #[hS "_law_refused" 554,hS "_law_refused" 555,hS "/claim/cut.py" 556, .int 184 0, .int 1 0, .int 0 0, .int 0 0, .int 3 0, .ref 281, .bool true, .int 181 0, .ref 282, .none, .ref 283, .ref 284, .ref 285, .int 559 0, .int 184 0,hS "/claim/cut.py" 560]})::
 (nat_lit 287,hF "_law_refused" (top 42) (hS "law_cellpatches_k20_ways" 495) 286)::
 (nat_lit 288,hT #[])::
 (nat_lit 290,hT #[hS "_law_which" 565,hS "_law_board_here" 566,hS "_law_ways" 567,hS "_law_one" 568,hS "_law_other" 569,hS "_law_thing" 570,hS "_law_e" 571])::
 (nat_lit 291,hT #[])::
 (nat_lit 293,{cls:= .type "code",data:=TC #[hS "_law_told" 562,hS "_law_told" 563,hS "/claim/cut.py" 564, .int 191 0, .int 6 0, .int 0 0, .int 0 0, .int 3 0, .ref 288, .bool true, .int 181 0, .ref 289, .none, .ref 290, .ref 291, .ref 292, .int 572 0, .int 191 0,hS "/claim/cut.py" 573]})::
 (nat_lit 294,hF "_law_told" (top 43) (hS "law_cellpatches_k20_ways" 495) 293)::
 (nat_lit 295,hT #[])::
 (nat_lit 297,hT #[hS "_law_board_here" 578,hS "_law_cell_here" 579])::
 (nat_lit 298,hT #[])::
 (nat_lit 300,{cls:= .type "code",data:=TC #[hS "_law_sign" 575,hS "_law_sign" 576,hS "/claim/cut.py" 577, .int 198 0, .int 2 0, .int 0 0, .int 0 0, .int 3 0, .ref 295, .bool true, .int 181 0, .ref 296, .none, .ref 297, .ref 298, .ref 299, .int 580 0, .int 198 0,hS "/claim/cut.py" 581]})::
 (nat_lit 301,hF "_law_sign" (top 44) (hS "law_cellpatches_k20_ways" 495) 300)::
 (nat_lit 302,hT #[])::
 (nat_lit 304,hT #[hS "_law_board_here" 586,hS "_law_ways" 587,hS "_law_one" 588,hS "_law_other" 589,hS "_law_rows" 590,hS "_law_seen" 591,hS "_law_longer" 592,hS "_law_cell_here" 593,hS "_law_there" 594])::
 (nat_lit 305,hT #[])::
 (nat_lit 307,{cls:= .type "code",data:=TC #[hS "_law_far" 583,hS "_law_far" 584,hS "/claim/cut.py" 585, .int 200 0, .int 4 0, .int 0 0, .int 0 0, .int 3 0, .ref 302, .bool true, .int 181 0, .ref 303, .none, .ref 304, .ref 305, .ref 306, .int 595 0, .int 200 0,hS "/claim/cut.py" 596]})::
 (nat_lit 308,hF "_law_far" (top 45) (hS "law_cellpatches_k20_ways" 495) 307)::
 (nat_lit 309,hT #[])::
 (nat_lit 311,hT #[hS "_law_board_here" 601,hS "_law_thing" 602,hS "_law_whole" 603,hS "_law_cell_here" 604])::
 (nat_lit 312,hT #[])::
 (nat_lit 314,{cls:= .type "code",data:=TC #[hS "_law_good" 598,hS "_law_good" 599,hS "/claim/cut.py" 600, .int 214 0, .int 2 0, .int 0 0, .int 0 0, .int 3 0, .ref 309, .bool true, .int 181 0, .ref 310, .none, .ref 311, .ref 312, .ref 313, .int 605 0, .int 214 0,hS "/claim/cut.py" 606]})::
 (nat_lit 315,hF "_law_good" (top 46) (hS "law_cellpatches_k20_ways" 495) 314)::
 (nat_lit 316,hT #[])::
 (nat_lit 319,{cls:= .type "code",data:=TC #[hS "_law_is_way" 608,hS "_law_is_way" 609,hS "/claim/cut.py" 610, .int 222 0, .int 5 0, .int 0 0, .int 0 0, .int 3 0, .ref 316, .bool true, .int 181 0, .ref 317, .none, .none, .none, .ref 318, .int 611 0, .int 222 0,hS "/claim/cut.py" 612]})::
 (nat_lit 320,hF "_law_is_way" (top 47) (hS "law_cellpatches_k20_ways" 495) 319)::
 (nat_lit 321,hT #[])::
 (nat_lit 323,hT #[hS "_law_board_here" 617,hS "_law_ways" 618,hS "_law_one" 619,hS "_law_other" 620,hS "_law_thing" 621,hS "_law_cell_here" 622,hS "_law_there" 623])::
 (nat_lit 324,hT #[])::
 (nat_lit 326,{cls:= .type "code",data:=TC #[hS "_law_fence" 614,hS "_law_fence" 615,hS "/claim/cut.py" 616, .int 228 0, .int 5 0, .int 0 0, .int 0 0, .int 3 0, .ref 321, .bool true, .int 181 0, .ref 322, .none, .ref 323, .ref 324, .ref 325, .int 624 0, .int 228 0,hS "/claim/cut.py" 625]})::
 (nat_lit 327,hF "_law_fence" (top 48) (hS "law_cellpatches_k20_ways" 495) 326)::
 (nat_lit 328,hT #[])::
 (nat_lit 330,hT #[hS "_law_board_here" 630,hS "_law_ways" 631,hS "_law_cell_here" 632,hS "_law_bad" 633,hS "_law_none" 634,hS "_law_which" 635,hS "_law_told_here" 636])::
 (nat_lit 331,hT #[])::
 (nat_lit 333,{cls:= .type "code",data:=TC #[hS "_law_refuses" 627,hS "_law_refuses" 628,hS "/claim/cut.py" 629, .int 236 0, .int 5 0, .int 0 0, .int 0 0, .int 3 0, .ref 328, .bool true, .int 181 0, .ref 329, .none, .ref 330, .ref 331, .ref 332, .int 637 0, .int 236 0,hS "/claim/cut.py" 638]})::
 (nat_lit 334,hF "_law_refuses" (top 49) (hS "law_cellpatches_k20_ways" 495) 333)::
 (nat_lit 335,hT #[])::
 (nat_lit 338,{cls:= .type "code",data:=TC #[hS "law" 640,hS "law" 641,hS "/claim/cut.py" 642, .int 244 0, .int 1 0, .int 0 0, .int 0 0, .int 3 0, .ref 335, .bool true, .int 181 0, .ref 336, .none, .none, .none, .ref 337, .int 643 0, .int 244 0,hS "/claim/cut.py" 644]})::
 (nat_lit 339,hF "law" (top 50) (hS "law_cellpatches_k20_ways" 495) 338)::[]
def pK:List Nat:=[2,3,15,22,23,24,25,28,35,36,37,40,47,48,49,52,59,60,61,64,71,72,73,76,83,84,85,88,95,96,97,100,107,108,109,112,114,115,117,118,119,121,122,124,125,126,129,130,131,134,135,136,138,139,141,142,143,146,147,148,150,151,153,154,155,157,158,160,161,162,164,165,167,168,169,171,172,174,175,176,178,179,181,182,183,185,186,188,189,190,192,193,195,196,197,199,200,202,203,204,207,208,209,211,212,214,215,216,218,219,221,222,223,225,226,228,229,230,233,234,235,238,239,240,242,243,245,246,247,249,250,252,253,254,257,258,259,262,263,264,266,267,269,270,271,274,275,276,279,280,281,283,284,286,287,288,290,291,293,294,295,297,298,300,301,302,304,305,307,308,309,311,312,314,315,316,319,320,321,323,324,326,327,328,330,331,333,334,335,338,339]
def yl:TM:={PySem.Challenge.pw_cellpatches_k20_ways with main:={PySem.Challenge.pw_cellpatches_k20_ways.main with body:=[top 1,top 2,top 3,top 4,top 5,top 6,top 7,top 8,top 10,top 11,top 12,top 13,top 14,top 15,top 16,top 17,top 18,top 19,top 20,top 21,top 22,top 23,top 24,top 25,top 27,top 28,top 29,top 30,top 31,top 32,top 33,top 35,top 36,top 37,top 38,top 39,top 40,top 41,top 42,top 43,top 44,top 45,top 46,top 47,top 48,top 49,top 50]} }
open PySem.W PyProof.Rows in
def LJ:LeftO PySem.Challenge.rw_cellpatches_k20_ways.row.prog yl [] (fun s=>xlAt yl [] s&&recOk PySem.Challenge.rw_cellpatches_k20_ways.row.records s) (kHook pL pK (fun _=>by kernel_rfl)).obs (kHook pL pK (fun _=>by kernel_rfl)).val 5772:=fun w=>by kernel_rfl
end K1
namespace L2
open PySem PySem.Spec PyProof.Rows
abbrev Key:=Sum Int Str
def pU:Key->Value->Bool
 | .inl k,v=>Value.isInt k v
 | .inr x,v=>Value.isStrOf x v
def OI(w:World):Key->Int
 | .inl k=>hashInt k
 | .inr x=>hashStr w x
def cF:∀{k:Key}{v:Value},pU k v=true->(∃i t,k=Xn i/\v=Yv i t)\/(∃x t,k=XX x/\v=Yu x t)
 | .inl i,v,h=>by
   obtain⟨t,e⟩:=Value.isInt_shape (k:=i) (v:=v) h
   exact .inl ⟨i,t,rfl,e⟩
 | .inr x,v,h=>by
   obtain⟨t,e⟩:=Value.isStrOf_shape (x:=x) (v:=v) h
   exact .inr ⟨x,t,rfl,e⟩
def Bs(i:Int)(t:Tok):pU (.inl i) (.int i t)=true:=by simp[pU,Value.isInt]
def Bt(x:Str)(t:Tok):pU (.inr x) (.str x t)=true:=by simp[pU,Value.isStrOf]
def Jm(a b:Int):decide ((Xn a:Key)=Xn b)=(a==b):=by
 by_cases e:a=b
 ·subst e;simp
 ·have h:¬(Xn a:Key)=Xn b:=fun q=>e (Sum.inl.inj q)
  rw[decide_eq_false h]
  exact(beq_eq_false_iff_ne.mpr e).symm
def Jp(a b:Str):decide ((XX a:Key)=XX b)=decide (a=b):=by
 by_cases e:a=b
 ·subst e;simp
 ·have h:¬(XX a:Key)=XX b:=fun q=>e (Sum.inr.inj q)
  rw[decide_eq_false h,decide_eq_false e]
def Jn(a:Int)(b:Str):decide ((Xn a:Key)=XX b)=false:=decide_eq_false (fun q=>nomatch q)
def Jo(a:Str)(b:Int):decide ((XX a:Key)=Xn b)=false:=decide_eq_false (fun q=>nomatch q)
def bK(prog:TM)(w:World):PySem.KeyKind prog w Key where
 is:=pU
 hash:=OI w
 inj:=fun v a b ha hb=>by
  rcases cF ha with⟨i,t,rfl,rfl⟩ | ⟨x,t,rfl,rfl⟩
  ·rcases cF hb with⟨j,u,rfl,e⟩ | ⟨y,u,rfl,e⟩
   ·injection e with e1 _;rw[e1]
   ·exact nomatch e
  ·rcases cF hb with⟨j,u,rfl,e⟩ | ⟨y,u,rfl,e⟩
   ·exact nomatch e
   ·injection e with e1 _;rw[e1]
 byValue:=fun k v h=>by
  rcases cF h with⟨i,t,rfl,rfl⟩ | ⟨x,t,rfl,rfl⟩<;>rfl
 pyHash:=fun hv h=>by
  rcases cF hv with⟨i,t,rfl,rfl⟩ | ⟨x,t,rfl,rfl⟩
  ·exact wpAny_pyHash_int h
  ·exact wpAny_pyHash_str h
 eqBool:=fun hu hv h=>by
  rcases cF hu with⟨i,t,rfl,rfl⟩ | ⟨x,t,rfl,rfl⟩
  ·rcases cF hv with⟨j,u,rfl,rfl⟩ | ⟨y,u,rfl,rfl⟩
   ·rw[Jm] at h;exact wpAny_eqBool_int h
   ·rw[Jn] at h;exact Yi i t y u _ _ _ _ h
  ·rcases cF hv with⟨j,u,rfl,rfl⟩ | ⟨y,u,rfl,rfl⟩
   ·rw[Jo] at h;exact Yh x t j u _ _ _ _ h
   ·rw[Jp] at h;exact wpAny_eqBool_str h
 «strs» :=fun k x t v h=>by
  rcases cF h with⟨i,u,rfl,e⟩ | ⟨y,u,rfl,e⟩
  ·exact nomatch e
  ·injection e with e1 _
   subst e1
   cases v<;>rfl
def xh(prog:TM)(w:World)(i:Int)(t:Tok):(bK prog w).is (.inl i) (.int i t)=true:=Bs i t
def xi(prog:TM)(w:World)(x:Str)(t:Tok):(bK prog w).is (.inr x) (.str x t)=true:=Bt x t
inductive V where
 |non | bl (b:Bool) | int (i:Int) | str (x:Str) | byt (b:Array UInt8) | flt (b:UInt64) | ref (a:Addr) | ty (n:String)
 deriving DecidableEq
def RelV:V->Value->Prop
 | .non,u=>u=Us
 | .bl b,u=>u=U3 b
 | .int i,u=>∃t,u=Yv i t
 | .str x,u=>∃t,u=Yu x t
 | .byt b,u=>∃t,u=Value.bytes b t
 | .flt b,u=>∃t,u=Value.float b t
 | .ref a,u=>u=TV a
 | .ty n,u=>u=Xd n
abbrev Vals:List V->List Value->Prop:=XB RelV
def Vals.length{xs:List V}{us:List Value}(r:Vals xs us):xs.length=us.length:=Vw r
def Vals.get:∀{xs:List V}{us:List Value}{i:Nat}{x:V},Vals xs us->xs[i]? =some x->∃u,us[i]? =some u/\RelV x u
 |_,_,_,_, .nil,e=>by simp at e
 |_,_,0,_, .cons r _,e=>by simp at e;subst e;exact⟨_,rfl,r⟩
 |_,_,i+1,x, .cons _ t,e=>by
  obtain⟨u,h1,h2⟩:=Vals.get (i:=i) (x:=x) t (by simpa using e)
  exact⟨u,by simpa using h1,h2⟩
def Vals.append:∀{xs ys:List V}{us ws:List Value},Vals xs us->Vals ys ws->Vals (xs++ys) (us++ws)
 |_,_,_,_, .nil,s=>s
 |_,_,_,_, .cons r t,s=> .cons r (Vals.append t s)
def Vals.take:∀{xs:List V}{us:List Value}(n:Nat),Vals xs us->Vals (xs.take n) (us.take n)
 |_,_,0,_=> .nil
 |_,_,_+1, .nil=> .nil
 |_,_,n+1, .cons r t=> .cons r (Vals.take n t)
def Vals.drop:∀{xs:List V}{us:List Value}(n:Nat),Vals xs us->Vals (xs.drop n) (us.drop n)
 |_,_,0,r=>r
 |_,_,_+1, .nil=> .nil
 |_,_,n+1, .cons _ t=>Vals.drop n t
def RelO:Option V->Option Value->Prop
 |some v,some u=>RelV v u
 |none,none=>True
 |_,_=>False
def KV{κ:Type}:List (κ×V)->List (κ×Value)->Prop:=XB fun(p:κ×V) (q:κ×Value)=>p.1=q.1/\RelV p.2 q.2
def kV:Key->V
 | .inl i=> .int i
 | .inr x=> .str x
inductive HO where
 |lst (xs:List V)
 |tup (xs:List V)
 |dK (aK:List (Key×V)) | dT (aK:List (List Key×V))
 |set (S:Int->Bool) (n:Nat)
 |ins (C dx:Addr) (fs:List (Str×V))
 |own (x:Addr)
 |xd (fs:List (Str×V))
 |met (f x:Addr)
 |rng (lo hi:Int)
 |frz (o:Obj) (u:HO)
 |tbl (ps:Array Value)
 |ext (φ:Heap->Prop)
abbrev Hp:=Addr->Option HO
def upd(H:Hp)(a:Addr)(o:HO):Hp:=fun b=>if b=a then some o else H b
def aO{H:Hp}{a:Addr}{o:HO}:upd H a o a=some o:=by unfold upd;rw[if_pos rfl]
def aB{H:Hp}{a b:Addr}{o:HO}(h:b≠a):upd H a o b=H b:=by unfold upd;rw[if_neg h]
def HP{H:Hp}{a b:Addr}{o u:HO}(h:H a=some o)(h':H b=some u)(d:o≠u):a≠b:=by
 intro e;subst e;rw[h] at h';exact d (TF h')
def bG{H:Hp}{a b:Addr}{o:HO}(h:H a=some o)(h':H b=none):a≠b:=by
 intro e;subst e;rw[h] at h';cases h'
section
variable(P:TM)(w:World)
def ObjOk(H:Hp)(h:Heap)(a:Addr):HO->Prop
 | .lst xs=>xs.length<=Tz/\∃(aR:List Value) (n:Nat),Vals xs aR/\h.get? a=some {cls:= .type "list",data:= .seq aR.toArray n}
 | .tup xs=>xs.length<=Tz/\∃aR:List Value,Vals xs aR/\IsTup h a aR.toArray
 | .dK aK=>aK.length<=Tz/\(a==UI)=false/\∃vs,KV aK vs/\h.DictOf (bK P w) a vs
 | .dT aK=>aK.length<=Tz/\(a==UI)=false/\∃xs:List (List Key×Addr×Value),
    XB (fun (p:List Key×V) (q:List Key×Addr×Value)=>p.1=q.1/\H q.2.1=some (.tup (p.1.map kV))/\RelV p.2 q.2.2) aK xs/\
    ∃o es ep,h.get? a=some o/\o.ExactDict/\o.data= .dict es ep/\es.toList=xs.map (entryOfKey (V1 (bK P w)))/\(xs.map (·.1)).Nodup
 | .set S n=>h.SetOf (intKind P w) a S n
 | .ins C dx fs=>H dx=some (.own a)/\fs.length<=1000/\dx≠a/\h.get? a=some (Xo C dx)/\
    ∃mA,h.Ns1 dx mA/\(∀f,RelO (fs.lookup f) (mA f))/\PySem.Within mA (fs.map (·.1))
 | .own _=>∃o,h.get? a=some o
 | .xd fs=>∃mA,h.Ns1 a mA/\∀f,RelO (fs.lookup f) (mA f)
 | .rng lo hi=>∃t u v,h.get? a=some {cls:= .type "range",data:= .fields #[.int lo t, .int hi u, .int 1 v]}
 | .frz o u=>h.get? a=some o/\ObjOk H h a u
 | .tbl ps=>h.get? a=some {cls:= .none,data:= .fields ps}
 | .met f x=>h.get? a=some (W6 (.ref f) (.ref x))
 | .ext φ=>φ h/\(∃o,h.get? a=some o)/\∀h1 h2:Heap,φ h1->(∀o,h1.get? a=some o->h2.get? a=some o)->φ h2
def HOk(H:Hp)(h:Heap):Prop:=∀a o,H a=some o->ObjOk P w H h a o
end
section
variable{P:TM}{w:World}{H H':Hp}{h h':Heap}{a:Addr}{o:HO}
def ObjOk.lt(x:ObjOk P w H h a o):a<h.objs.size:=by
 cases o with
 |lst xs=>obtain⟨_,_,_,_,e⟩:=x;exact Tq e
 |tup xs=>obtain⟨_,_,_,p⟩:=x;exact p.lt
 |dK aK=>obtain⟨_,_,_,_,o,_,_,e,_⟩:=x;exact Tq e
 |dT aK=>obtain⟨_,_,_,_,o,_,_,e,_⟩:=x;exact Tq e
 |set S n=>obtain⟨o,_,_,_,e,_⟩:=x;exact Tq e
 |ins C dx fs=>obtain⟨_,_,_,e,_⟩:=x;exact Tq e
 |own y=>obtain⟨_,e⟩:=x;exact Tq e
 |xd fs=>obtain⟨_,⟨_,_,_,e,_⟩,_⟩:=x;exact Tq e
 |rng lo hi=>obtain⟨_,_,_,e⟩:=x;exact Tq e
 |frz ob u=>obtain⟨e,_⟩:=x;exact Tq e
 |tbl ps=>exact Tq (show h.get? a=some _ from x)
 |met f y=>exact Tq (show h.get? a=some _ from x)
 |ext φ=>obtain⟨_,⟨_,e⟩,_⟩:=x;exact Tq e
def Paired.mapP{α β:Type}{F G:α->β->Prop}:∀{l₁:List α}{l₂:List β},XB F l₁ l₂->(∀a b,F a b->G a b)->XB G l₁ l₂
 |_,_, .nil,_=> .nil
 |_,_, .cons r t,f=> .cons (f _ _ r) (Paired.mapP t f)
def ObjOk.stay(x:ObjOk P w H h a o)(k:∀b u,(b=a\/H b=some (.own a))->h.get? b=some u->h'.get? b=some u)
 (ho:∀b,H b=some (.own a)->H' b=some (.own a))(ht:∀b xs,H b=some (.tup xs)->H' b=some (.tup xs)):ObjOk P w H' h' a o:=by
 induction o with
 |lst xs=>obtain⟨z,aR,n,r,e⟩:=x;exact⟨z,aR,n,r,k _ _ (.inl rfl) e⟩
 |tup xs=>obtain⟨z,aR,r,ob,e,c⟩:=x;exact⟨z,aR,r,ob,k _ _ (.inl rfl) e,c⟩
 |dK aK=>obtain⟨z,y,vs,r,ob,es,ep,e,c⟩:=x;exact⟨z,y,vs,r,ob,es,ep,k _ _ (.inl rfl) e,c⟩
 |dT aK=>
  obtain⟨z,y,xs,r,ob,es,ep,e,c⟩:=x
  exact⟨z,y,xs,Paired.mapP r fun p q z=>⟨z.1,ht _ _ z.2.1,z.2.2⟩,ob,es,ep,k _ _ (.inl rfl) e,c⟩
 |set S n=>obtain⟨ob,es,ep,t,e,c⟩:=x;exact⟨ob,es,ep,t,k _ _ (.inl rfl) e,c⟩
 |ins C dx fs=>
  obtain⟨d,z,ne,e,mA,⟨od,es,ep,e2,c⟩,r⟩:=x
  exact⟨ho _ d,z,ne,k _ _ (.inl rfl) e,mA,⟨od,es,ep,k _ _ (.inr d) e2,c⟩,r⟩
 |own y=>obtain⟨ob,e⟩:=x;exact⟨ob,k _ _ (.inl rfl) e⟩
 |xd fs=>obtain⟨mA,⟨od,es,ep,e,c⟩,r⟩:=x;exact⟨mA,⟨od,es,ep,k _ _ (.inl rfl) e,c⟩,r⟩
 |rng lo hi=>obtain⟨t,u,v,e⟩:=x;exact⟨t,u,v,k _ _ (.inl rfl) e⟩
 |frz ob u ih=>obtain⟨e,q⟩:=x;exact⟨k _ _ (.inl rfl) e,ih q⟩
 |tbl ps=>
  have e:h.get? a=some {cls:= .none,data:= .fields ps}:=x
  show h'.get? a=some {cls:= .none,data:= .fields ps}
  exact k a _ (.inl rfl) e
 |met f y=>
  have e:h.get? a=some (W6 (.ref f) (.ref y)):=x
  show h'.get? a=some (W6 (.ref f) (.ref y))
  exact k a _ (.inl rfl) e
 |ext φ=>obtain⟨p,⟨o,e⟩,st⟩:=x;exact⟨st _ _ p fun o q=>k _ _ (.inl rfl) q,⟨o,k _ _ (.inl rfl) e⟩,st⟩
def HOk.lt(x:HOk P w H h)(e:H a=some o):a<h.objs.size:=(x a o e).lt
def HOk.fresh(x:HOk P w H h)(e:h.objs.size<=a):H a=none:=by
 cases q:H a with
 |none=>rfl
 |some u=>exact absurd (TQ (x.lt q) e) (Uk _)
def HOk.kept(x:HOk P w H h)(k:∀b u,h.get? b=some u->h'.get? b=some u):HOk P w H h':=fun a o e=>
 (x a o e).stay (fun b u _ q=>k b u q) (fun _ q=>q) fun _ _ q=>q
def HOk.laid(x:HOk P w H h)(k:∀b u,h.get? b=some u->h'.get? b=some u)(hp:h.objs.size<=a)(new:ObjOk P w (upd H a o) h' a o):HOk P w (upd H a o) h':=fun b u e=>by
 have hn:=x.fresh hp
 by_cases hb:b=a
 ·subst hb;rw[aO] at e;cases e;exact new
 ·rw[aB hb] at e
  exact(x b u e).stay (fun c v _ q=>k c v q) (fun c q=>by rw[aB (bG q hn)];exact q) fun c xs q=>by rw[aB (bG q hn)];exact q
end
def Rd(H:Hp)(a:Addr)(u:HO):Prop:=H a=some u\/∃o,H a=some (.frz o u)
def Rd.ok{P:TM}{w:World}{H:Hp}{h:Heap}{a:Addr}{u:HO}(r:Rd H a u)(x:HOk P w H h):ObjOk P w H h a u:=by
 rcases r with r | ⟨o,r⟩
 ·exact x a u r
 ·obtain⟨_,q⟩:=x a _ r
  exact q
def K5:Option HO->Prop
 |some (.lst _)=>True
 |some (.dK _)=>True
 |some (.dT _)=>True
 |some (.set _ _)=>True
 |some (.ins _ _ _)=>True
 |some (.ext _)=>True
 |_=>False
section
variable{P:TM}{w:World}{H:Hp}{h h':Heap}{x e:Addr}{o':HO}
def HOk.write(ok:HOk P w H h)(mu:K5 (H x))(he:e=x\/H e=some (.own x))(k:∀b u,b≠e->h.get? b=some u->h'.get? b=some u)(KD:∃u,h'.get? e=some u)
 (new:ObjOk P w (upd H x o') h' x o'):HOk P w (upd H x o') h':=fun b u q=>by
 have Mf:∀c y,H c=some (.own y)->c≠x:=fun c y r z=>by subst z;rw[r] at mu;exact mu
 have ON:∀c xs,H c=some (.tup xs)->c≠x:=fun c xs r z=>by subst z;rw[r] at mu;exact mu
 by_cases hb:b=x
 ·subst hb;rw[aO] at q;cases q;exact new
 ·rw[aB hb] at q
  by_cases E6:b=e
  ·have q':H b=some (.own x):=by
    rcases he with z | z
    ·exact absurd (E6.trans z) hb
    ·rw[E6];exact z
   rw[q] at q';cases q'
   obtain⟨v,hv⟩:=KD
   exact⟨v,by rw[E6];exact hv⟩
  ·refine(ok b u q).stay (fun c v hc r=>k c v ?_ r) (fun c r=>by rw[aB (Mf c b r)];exact r) fun c xs r=>by rw[aB (ON c xs r)];exact r
   rcases hc with rfl | hc
   ·exact E6
   ·rintro rfl
    rcases he with z | z
    ·exact Mf c b hc z
    ·rw[hc] at z;cases z;exact hb rfl
end
structure Un (fs ex:List Addr) (H H':Hp) (h h':Heap):Prop where
 keep:∀b o,h.get? b=some o->H b=none->b∉fs->b∉ex->h'.get? b=some o
 slot:∀b o,h.get? b=some o->H b=none->b∈fs->b∉ex->∃sl,h'.get? b=some {o with slots:=sl}
 free:∀b o,h.get? b=some o->H b=none->b∉ex->H' b=none
 there:∀b o,h.get? b=some o->b∉ex->∃o',h'.get? b=some o'
 tups:∀b xs,H b=some (.tup xs)->H' b=some (.tup xs)
 frzs:∀b o u,H b=some (.frz o u)->H' b=some (.frz o u)
 tbls:∀b ps,H b=some (.tbl ps)->∃more,H' b=some (.tbl (ps++more))
section
variable{fs Pz ex yP:List Addr}{H H1 H2:Hp}{h h1 h2 h':Heap}{a x e:Addr}{o:HO}
def Un.any(u:Un fs ex H H1 h h1){b:Addr}{ob:Obj}(q:h.get? b=some ob)(n:H b=none)(hx:b∉ex):∃sl,h1.get? b=some {ob with slots:=sl}:=by
 by_cases hb:b∈fs
 ·exact u.slot b ob q n hb hx
 ·exact⟨ob.slots,u.keep b ob q n hb hx⟩
def Un.trans(a:Un fs ex H H1 h h1)(b:Un fs ex H1 H2 h1 h2):Un fs ex H H2 h h2 where
 keep:=fun c ob q n hc hx=>b.keep c ob (a.keep c ob q n hc hx) (a.free c ob q n hx) hc hx
 slot:=fun c ob q n hc hx=>by
  obtain⟨sl,e1⟩:=a.slot c ob q n hc hx
  obtain⟨G9,e2⟩:=b.slot c _ e1 (a.free c ob q n hx) hc hx
  exact⟨G9,e2⟩
 free:=fun c ob q n hx=>by
  obtain⟨o',e1⟩:=a.there c ob q hx
  exact b.free c o' e1 (a.free c ob q n hx) hx
 there:=fun c ob q hx=>by
  obtain⟨o',e1⟩:=a.there c ob q hx
  exact b.there c o' e1 hx
 tups:=fun c xs q=>b.tups c xs (a.tups c xs q)
 frzs:=fun c ob xs q=>b.frzs c ob xs (a.frzs c ob xs q)
 tbls:=fun c ps q=>by
  obtain⟨m1,e1⟩:=a.tbls c ps q
  obtain⟨m2,e2⟩:=b.tbls c _ e1
  exact⟨m1++m2,by rw[e2,W8]⟩
def Un.kept(k:∀b u,h.get? b=some u->h'.get? b=some u):Un fs ex H H h h':=
 ⟨fun b ob q _ _ _=>k b ob q,fun b ob q _ _ _=>⟨ob.slots,k b ob q⟩,fun _ _ _ n _=>n,fun b ob q _=>⟨ob,k b ob q⟩,fun _ _ q=>q,fun _ _ _ q=>q,fun _ ps q=>⟨#[],by rw[q];simp⟩⟩
def Un.refl:Un fs ex H H h h:=Un.kept fun _ _ q=>q
def Un.laid(k:∀b u,h.get? b=some u->h'.get? b=some u)(hp:h.objs.size<=a)(hn:H a=none):Un fs ex H (upd H a o) h h' where
 keep:=fun b u q _ _ _=>k b u q
 slot:=fun b u q _ _ _=>⟨u.slots,k b u q⟩
 free:=fun b u q n _=>by rw[aB (TR (TQ (Tq q) hp))];exact n
 there:=fun b u q _=>⟨u,k b u q⟩
 tups:=fun b xs q=>by rw[aB (bG q hn)];exact q
 frzs:=fun b u xs q=>by rw[aB (bG q hn)];exact q
 tbls:=fun b ps q=>⟨#[],by rw[aB (bG q hn),q];simp⟩
def Un.write(mu:K5 (H x))(he:e=x\/H e=some (.own x))(k:∀b u,b≠e->h.get? b=some u->h'.get? b=some u)(KD:∃u,h'.get? e=some u):Un fs ex H (upd H x o) h h':=by
 have hx:∀b,H b=none->b≠x:=fun b n z=>by subst z;rw[n] at mu;exact mu
 have hb:∀b,H b=none->b≠e:=fun b n z=>by
  subst z
  rcases he with r | r
  ·exact hx b n r
  ·rw[n] at r;cases r
 have hm:∀b u,H b=some u->¬K5 (some u)->b≠x:=fun b u q nm z=>by subst z;rw[q] at mu;exact nm mu
 refine⟨fun b u q n _ _=>k b u (hb b n) q,fun b u q n _ _=>⟨u.slots,k b u (hb b n) q⟩,fun b u q n _=>by rw[aB (hx b n)];exact n,fun b u q _=>?_,
  fun b xs q=>by rw[aB (hm b _ q fun z=>z)];exact q,fun b u xs q=>by rw[aB (hm b _ q fun z=>z)];exact q,fun b ps q=>⟨#[],by rw[aB (hm b _ q fun z=>z),q];simp⟩⟩
 by_cases E6:b=e
 ·subst E6;exact KD
 ·exact⟨u,k b u E6 q⟩
def Un.mono(u:Un fs ex H H1 h h1)(hs:∀b∈fs,b∈Pz)(hx:∀b∈ex,b∈yP):Un Pz yP H H1 h h1:=
 ⟨fun b ob q n hb he=>u.keep b ob q n (fun z=>hb (hs b z)) fun z=>he (hx b z),fun _ _ q n _ he=>u.any q n fun z=>he (hx _ z),fun b ob q n he=>u.free b ob q n fun z=>he (hx b z),fun b ob q he=>u.there b ob q fun z=>he (hx b z),u.tups,u.frzs,u.tbls⟩
end
def NB(h:Heap)(H:Hp):List Addr:=(Um h.objs.size).filter fun a=>(H a).isSome
def ur(h:Heap)(H:Hp):Heap:=VW h (NB h H)
def Bg(h:Heap)(H:Hp):(ur h H).objs.size=h.objs.size:=PySem.W.hideAll_size _ _
def Df{h:Heap}{H:Hp}{b:Addr}{o:Obj}(e:h.get? b=some o)(n:H b=none):(ur h H).get? b=some o:=
 Yx _ e fun hm=>by
  have q:(H b).isSome=true:=(Uo.mp hm).2
  rw[n] at q;simp at q
def Gg{h:Heap}{H:Hp}{b:Addr}{o:Obj}(e:(ur h H).get? b=some o):h.get? b=some o/\H b=none:=by
 have e':h.get? b=some o:=YG (NB h H) e
 refine⟨e',?_⟩
 cases q:H b with
 |none=>rfl
 |some x=>
  have hm:b∈NB h H:=Uo.mpr ⟨WR.mpr (Tq e'),by simp[q]⟩
  have z:(ur h H).get? b=none:=PySem.W.hideAll_none (NB h H) hm
  rw[z] at e;cases e
def E_(g h:Heap)(L:Addr):List (Addr×Obj):=(Um h.objs.size).filterMap fun a=>if a=L\/(g.get? a).isSome=true then none else(h.get? a).map fun o=>(a,o)
def rest(g h:Heap)(L d:Addr):List (Addr×Obj):=(E_ g h L).filter fun p=>decide (p.1≠d)
structure Mod (K:Tc) (mg:Str->Option Value) (base:Heap):Prop where
 kin:K.In base
 glob:base.Ns Tx mg
 blt:∃mb,base.Ns builtinsNs mb/\∀x:Str,x≠"__name__"->mb x=Ub x
 nolimit:base.NoLimit
structure Cx where
 prog:TM
 w:World
 K:Tc
 mg:Str->Option Value
 base:Heap
 A:TY
 N:List Str
 s₀:S7
 H₀:Hp
 env:Env
 outer:List Env
 stack:List Env
 ex:List Addr
 fn:Str->Bool
 calm:Bool
 pn:List (Addr×Obj)
 xe:Value->S7->Prop
def hZ(l:List Env):List Addr:=l.filterMap (·.frame)
abbrev Cx.fs(X:Cx):List Addr:=hZ X.outer
def NM(sc:Scope)(x:Str):Prop:=sc.names.lookup x=some .local\/sc.names.lookup x=some .cell\/sc.names.lookup x=some .free
def Loc(sc:Scope)(x:Str):Prop:=sc.names.lookup x=some .local\/sc.names.lookup x=some .cell
def Look(env:Env)(h:Heap)(m:Str->Option Value)(x:Str)(u:Value):Prop:=
 (env.kindOf x=some .local/\m x=some u)\/((env.kindOf x=some .cell\/env.kindOf x=some .free)/\∃c,env.cells.lookup x=some c/\h.IsCell c (some u))
structure Cx.Ok (X:Cx):Prop where
 mod:Mod X.K X.mg X.base
 kind:X.env.scope.kind= .function
 glob:X.env.globals=Tx
 blt:X.env.builtins=builtinsNs
 above:X.s₀.heap.objs.size<=X.env.locals
 inj:∀x y c,X.env.cells.lookup x=some c->X.env.cells.lookup y=some c->x=y
 has:∀x,(X.env.kindOf x=some .cell\/X.env.kindOf x=some .free)->∃c,X.env.cells.lookup x=some c
 cab:∀x c,X.fn x=true->X.env.cells.lookup x=some c->X.s₀.heap.objs.size<=c
 hd:X.calm=true->X.A.handled=none
 frames:X.A.frames=some X.stack
 stk:X.stack=X.outer\/(X.stack=X.env::X.outer/\X.env.frame=some X.env.locals)
 exf:∀b∈X.ex,b≠X.env.locals/\∀x c,X.env.cells.lookup x=some c->c≠b
 bs:∀b o,X.base.get? b=some o->X.s₀.heap.get? b=some o/\X.H₀ b=none
 bsz:X.base.objs.size<=X.s₀.heap.objs.size
 noex:∀b o,X.base.get? b=some o->b∉X.ex
 exfs:∀b∈X.ex,b∉X.fs
 funs:X.s₀.heap.FunFrames X.base X.outer
 frf:∀b∈X.fs,X.H₀ b=none
structure Inv (X:Cx) (pins:List (Addr×Obj)) (σ:List (Option V)) (H:Hp) (s:S7):Prop where
 ok:X.Ok
 os:s.os=X.s₀.os
 bare:W9 s.gens
 base:Un X.fs X.ex X.H₀ H X.s₀.heap s.heap
 loc:∃m,s.heap.Ns X.env.locals m/\∀(i:Nat) (x:Str) (v:V),X.N[i]? =some x->σ[i]? =some (some v)->NM X.env.scope x->∃u,RelV v u/\Look X.env s.heap m x u
 cell:∀x c,X.env.cells.lookup x=some c->∃v,s.heap.IsCell c v
 free:H X.env.locals=none
 freeC:∀x c,X.env.cells.lookup x=some c->H c=none
 pin:∀p∈X.pn++pins,s.heap.get? p.1=some p.2/\H p.1=none/\p.1≠X.env.locals/\p.1∉X.fs/\∀v,p.2.data≠ .cell v
 hok:HOk X.prog X.w H s.heap
 len:σ.length=X.N.length
section
variable{X:Cx}{pins:List (Addr×Obj)}{σ:List (Option V)}{H H':Hp}{s:S7}{h':Heap}
def Cx.Ok.nofr(ok:X.Ok){b:Addr}{o:Obj}(e:X.base.get? b=some o):b∉X.fs:=fun hb=>by
 have:=(ok.funs.mem hb).1
 rw[e] at this;cases this
def Inv.bs(I:Inv X pins σ H s):∀b o,X.base.get? b=some o->s.heap.get? b=some o/\H b=none:=fun b o e=>
 ⟨I.base.keep b o (I.ok.bs b o e).1 (I.ok.bs b o e).2 (I.ok.nofr e) (I.ok.noex b o e),I.base.free b o (I.ok.bs b o e).1 (I.ok.bs b o e).2 (I.ok.noex b o e)⟩
def Inv.bk(I:Inv X pins σ H s):∀b o,X.base.get? b=some o->s.heap.get? b=some o:=fun b o e=>(I.bs b o e).1
def Inv.mod(I:Inv X pins σ H s):Mod X.K X.mg X.base:=I.ok.mod
def Inv.kIn(I:Inv X pins σ H s):X.K.In s.heap:=I.ok.mod.kin.keeps I.bk
def Inv.nolimit(I:Inv X pins σ H s):s.heap.NoLimit:=I.ok.mod.nolimit.keeps I.bk
def Inv.lt(I:Inv X pins σ H s):X.env.locals<s.heap.objs.size:=let ⟨_,hn,_⟩:=I.loc;hn.lt
def Inv.sz(I:Inv X pins σ H s):X.s₀.heap.objs.size<=s.heap.objs.size:=Tw I.ok.above (UT I.lt)
def Inv.nofs(I:Inv X pins σ H s){a:Addr}(h:s.heap.objs.size<=a):a∉X.fs:=fun hb=>by
 obtain⟨_,o,ho,_⟩:=I.ok.funs.mem hb
 exact absurd (TQ (Tq ho) (Tw I.sz h)) (Uk _)
def Inv.cne(I:Inv X pins σ H s):∀x c,X.env.cells.lookup x=some c->c≠X.env.locals:=fun x c e z=>by
 obtain⟨v,o,ho,hd⟩:=I.cell x c e
 obtain⟨m,⟨o',es,ep,lM,so,_⟩,_⟩:=I.loc
 rw[z,lM] at ho;cases ho;rw[so] at hd;cases hd
def Inv.funs(I:Inv X pins σ H s):s.heap.FunFrames X.base X.outer:=by
 have all:∀(l:List Env),(∀b∈hZ l,b∈X.fs)->X.s₀.heap.FunFrames X.base l->s.heap.FunFrames X.base l:=by
  intro l
  induction l with
  |nil=>intro _ _;trivial
  |cons env r ih=>
   intro hs hl
   obtain⟨hk,⟨L,o,hf,hn,ho,hd⟩,hr⟩:=hl
   have hL:L∈X.fs:=hs L (by unfold hZ;rw[WX,hf];exact Ta)
   obtain⟨sl,e⟩:=I.base.slot L o ho (I.ok.frf L hL) hL fun z=>I.ok.exfs L z hL
   exact⟨hk,⟨L,_,hf,hn,e,hd⟩,ih (fun b hb=>hs b (by unfold hZ;rw[WX,hf];exact S9 _ hb)) hr⟩
 exact all X.outer (fun _ hb=>hb) I.ok.funs
def Inv.stack(I:Inv X pins σ H s):s.heap.FunFrames X.base X.stack:=by
 rcases I.ok.stk with e | ⟨e,hf⟩
 ·rw[e];exact I.funs
 ·rw[e]
  obtain⟨m,hn,_⟩:=I.loc
  refine .cons (by rw[I.ok.kind];decide) hf hn ?_ I.funs
  exact YS (Tw I.ok.bsz I.ok.above)
def Inv.stkSub(I:Inv X pins σ H s):∀b∈hZ X.stack,b∈X.env.locals::X.fs:=fun b hb=>by
 rcases I.ok.stk with e | ⟨e,hf⟩
 ·rw[e] at hb;exact S9 _ hb
 ·rw[e] at hb
  unfold hZ at hb
  rw[WX,hf] at hb
  exact hb
def Inv.stkFree(I:Inv X pins σ H s):∀b∈hZ X.stack,H b=none:=fun b hb=>by
 rcases Th.mp (I.stkSub b hb) with e | hb
 ·rw[e];exact I.free
 ·obtain⟨_,o,ho,_⟩:=I.ok.funs.mem hb
  exact I.base.free b o ho (I.ok.frf b hb) fun z=>I.ok.exfs b z hb
def Inv.step{g':Array GenState}{t':Nat}{d':Drawn}{ch:List Addr}(I:Inv X pins σ H s)
 (E7:∀b∈ch,(b∈X.ex\/X.s₀.heap.objs.size<=b)/\b≠X.env.locals/\(∀x c,X.env.cells.lookup x=some c->c≠b)/\∀p∈X.pn++pins,p.1≠b)
 (keep:∀b o,b≠X.env.locals->b∉X.fs->b∉ch->s.heap.get? b=some o->H b=none->h'.get? b=some o)
 (slot:∀b o,b≠X.env.locals->b∈X.fs->b∉ch->s.heap.get? b=some o->H b=none->∃sl,h'.get? b=some {o with slots:=sl})(free:∀b o,b∉ch->s.heap.get? b=some o->H b=none->H' b=none)
 (there:∀b o,b∉ch->s.heap.get? b=some o->∃o',h'.get? b=some o')
 (tups:∀b xs,H b=some (.tup xs)->H' b=some (.tup xs))(frzs:∀b o u,H b=some (.frz o u)->H' b=some (.frz o u))(tbls:∀b ps,H b=some (.tbl ps)->∃more,H' b=some (.tbl (ps++more)))
 (ns:∀m,s.heap.Ns X.env.locals m->h'.Ns X.env.locals m)(hok:HOk X.prog X.w H' h')(hg:W9 g'):
 Inv X pins σ H' {s with heap:=h',gens:=g',drawn:=d',toks:=t'}:=by
 have KQ:∀b o,X.s₀.heap.get? b=some o->b≠X.env.locals:=fun b o e=>TR (TQ (Tq e) I.ok.above)
 have Nv:∀b o,X.s₀.heap.get? b=some o->b∉X.ex->b∉ch:=fun b o e hx hb=>by
  rcases(E7 b hb).1 with z | z
  ·exact hx z
  ·exact absurd (TQ (Tq e) z) (Uk _)
 have cellK:∀x c,X.env.cells.lookup x=some c->∀v,s.heap.IsCell c v->h'.IsCell c v:=fun x c e v ⟨o,ho,hd⟩=>by
  have Mc:c∉ch:=fun z=>(E7 c z).2.2.1 x c e rfl
  by_cases hc:c∈X.fs
  ·obtain⟨sl,q⟩:=slot c o (I.cne x c e) hc Mc ho (I.freeC x c e)
   exact⟨_,q,hd⟩
  ·exact⟨o,keep c o (I.cne x c e) hc Mc ho (I.freeC x c e),hd⟩
 refine⟨I.ok,I.os,hg,⟨fun b o e n hb hx=>?_,fun b o e n hb hx=>?_,fun b o e n hx=>?_,fun b o e hx=>?_,fun b xs e=>tups b xs (I.base.tups b xs e),fun b o xs e=>frzs b o xs (I.base.frzs b o xs e),fun b ps e=>?_⟩,?_,fun x c e=>?_,?_,fun x c e=>?_,fun p hp=>?_,hok,I.len⟩
 ·exact keep b o (KQ b o e) hb (Nv b o e hx) (I.base.keep b o e n hb hx) (I.base.free b o e n hx)
 ·obtain⟨sl,e1⟩:=I.base.slot b o e n hb hx
  obtain⟨G9,e2⟩:=slot b _ (KQ b o e) hb (Nv b o e hx) e1 (I.base.free b o e n hx)
  exact⟨G9,e2⟩
 ·obtain⟨o',e1⟩:=I.base.there b o e hx
  exact free b o' (Nv b o e hx) e1 (I.base.free b o e n hx)
 ·obtain⟨o',e1⟩:=I.base.there b o e hx
  exact there b o' (Nv b o e hx) e1
 ·obtain⟨m1,e1⟩:=I.base.tbls b ps e
  obtain⟨m2,e2⟩:=tbls b _ e1
  exact⟨m1++m2,by rw[e2,W8]⟩
 ·obtain⟨m,hn,hl⟩:=I.loc
  refine⟨m,ns m hn,fun i x v e1 e2 e3=>?_⟩
  obtain⟨u,r,l⟩:=hl i x v e1 e2 e3
  refine⟨u,r,?_⟩
  rcases l with l | ⟨k,c,e,z⟩
  ·exact .inl l
  ·exact .inr ⟨k,c,e,cellK x c e _ z⟩
 ·obtain⟨v,z⟩:=I.cell x c e
  exact⟨v,cellK x c e v z⟩
 ·obtain⟨m,⟨o,_,_,ho,_⟩,_⟩:=I.loc
  exact free _ o (fun z=>(E7 _ z).2.1 rfl) ho I.free
 ·obtain⟨v,o,ho,hd⟩:=I.cell x c e
  exact free c o (fun z=>(E7 c z).2.2.1 x c e rfl) ho (I.freeC x c e)
 ·obtain⟨e,n,ne,nf,d⟩:=I.pin p hp
  have Mc:p.1∉ch:=fun z=>(E7 p.1 z).2.2.2 p hp rfl
  exact⟨keep p.1 p.2 ne nf Mc e n,free p.1 p.2 Mc e n,ne,nf,d⟩
def Inv.un{t':Nat}(I:Inv X pins σ H s)(u:Un X.fs [] H H' s.heap h')(hok:HOk X.prog X.w H' h'):Inv X pins σ H' {s with heap:=h',toks:=t'}:=by
 obtain⟨m,⟨o,es,ep,ho,r⟩,_⟩:=id I.loc
 obtain⟨sl,hL⟩:=u.any ho I.free (by simp)
 exact I.step (g':=s.gens) (d':=s.drawn) (ch:=[]) (fun _ z=>nomatch z) (fun b o _ hb _ e n=>u.keep b o e n hb (by simp)) (fun b o _ hb _ e n=>u.slot b o e n hb (by simp)) (fun b o _ e n=>u.free b o e n (by simp)) (fun b o _ e=>u.there b o e (by simp)) u.tups u.frzs u.tbls (fun m' hm=>by
  obtain⟨o',Kz,Li,lM,r'⟩:=hm
  rw[ho] at lM;cases lM
  exact⟨_,Kz,Li,hL,r'⟩) hok I.bare
def Inv.call{g':Array GenState}{t':Nat}{d':Drawn}{ch:List Addr}(I:Inv X pins σ H s)(u:Un (hZ X.stack) ch H H' s.heap h')(hok:HOk X.prog X.w H' h')(hg:W9 g')
 (E7:∀b∈ch,(b∈X.ex\/X.s₀.heap.objs.size<=b)/\b≠X.env.locals/\(∀x c,X.env.cells.lookup x=some c->c≠b)/\∀p∈X.pn++pins,p.1≠b):
 Inv X pins σ H' {s with heap:=h',gens:=g',drawn:=d',toks:=t'}:=by
 obtain⟨m,⟨o,es,ep,ho,r⟩,_⟩:=id I.loc
 obtain⟨sl,hL⟩:=u.any ho I.free fun z=>(E7 _ z).2.1 rfl
 exact I.step (ch:=ch) E7 (fun b o hL hb hc e n=>u.keep b o e n (fun z=>(Th.mp (I.stkSub b z)).elim hL hb) hc) (fun b o _ _ hc e n=>u.any e n hc) (fun b o hc e n=>u.free b o e n hc) (fun b o hc e=>u.there b o e hc) u.tups u.frzs u.tbls (fun m' hm=>by
  obtain⟨o',Kz,Li,lM,r'⟩:=hm
  rw[ho] at lM;cases lM
  exact⟨_,Kz,Li,hL,r'⟩) hok hg
def Inv.turned{t':Nat}{it:Addr}(I:Inv X pins σ H s)(k:∀b o,b≠it->s.heap.get? b=some o->h'.get? b=some o)(hn:H it=none)(hL:it≠X.env.locals)
 (h1:it∈X.ex\/X.s₀.heap.objs.size<=it)(h2:∀x c,X.env.cells.lookup x=some c->c≠it)(h3:∀p∈X.pn++pins,p.1≠it):Inv X pins σ H {s with heap:=h',toks:=t'}:=by
 have HQ:∀b u,H b=some u->b≠it:=fun b u e z=>by rw[z,hn] at e;cases e
 refine I.step (g':=s.gens) (d':=s.drawn) (ch:=[it]) (fun b hb=>?_) (fun b o _ _ hc e _=>k b o (fun z=>hc (by simp[z])) e) (fun b o _ _ hc e _=>⟨o.slots,k b o (fun z=>hc (by simp[z])) e⟩) (fun _ _ _ _ n=>n)
  (fun b o hc e=>⟨o,k b o (fun z=>hc (by simp[z])) e⟩) (fun _ _ e=>e) (fun _ _ _ e=>e) (fun b ps e=>⟨#[],by rw[e];simp⟩) (fun m hm=>?_) (fun b u e=>?_) I.bare
 ·have e:b=it:=by simpa using hb
  subst e
  exact⟨h1,hL,h2,h3⟩
 ·obtain⟨o,es,ep,ho,r⟩:=hm
  exact⟨o,es,ep,k _ o (Uq hL) ho,r⟩
 ·refine(I.hok b u e).stay (fun c v hc q=>k c v ?_ q) (fun _ q=>q) fun _ _ q=>q
  rcases hc with z | z
  ·rw[z];exact HQ b u e
  ·exact HQ c _ z
def Inv.tok(I:Inv X pins σ H s)(t:Nat):Inv X pins σ H {s with toks:=t}:=I.un (h':=s.heap) (t':=t) Un.refl I.hok
def Inv.kept{t':Nat}(I:Inv X pins σ H s)(k:∀b u,s.heap.get? b=some u->h'.get? b=some u):Inv X pins σ H {s with heap:=h',toks:=t'}:=I.un (Un.kept k) (I.hok.kept k)
def Inv.laid{a:Addr}{o:HO}{t':Nat}(I:Inv X pins σ H s)(k:∀b u,s.heap.get? b=some u->h'.get? b=some u)(hp:s.heap.objs.size<=a)(new:ObjOk X.prog X.w (upd H a o) h' a o):
 Inv X pins σ (upd H a o) {s with heap:=h',toks:=t'}:=I.un (Un.laid k hp (I.hok.fresh hp)) (I.hok.laid k hp new)
def Inv.write{x e:Addr}{o:HO}{t':Nat}(I:Inv X pins σ H s)(mu:K5 (H x))(he:e=x\/H e=some (.own x))(k:∀b u,b≠e->s.heap.get? b=some u->h'.get? b=some u)(KD:∃u,h'.get? e=some u)
 (new:ObjOk X.prog X.w (upd H x o) h' x o):Inv X pins σ (upd H x o) {s with heap:=h',toks:=t'}:=I.un (Un.write mu he k KD) (I.hok.write mu he k KD new)
def Inv.pins_of{xM:List (Addr×Obj)}(I:Inv X pins σ H s)(h:∀p∈xM,s.heap.get? p.1=some p.2/\H p.1=none/\p.1≠X.env.locals/\p.1∉X.fs/\∀v,p.2.data≠ .cell v):Inv X xM σ H s:=
 ⟨I.ok,I.os,I.bare,I.base,I.loc,I.cell,I.free,I.freeC,fun p hp=>(Ui.mp hp).elim (fun z=>I.pin p (UW _ z)) (h p),I.hok,I.len⟩
def xm{N:List Str}(hN:N.Nodup){i j:Nat}{x:Str}(a:N[i]? =some x)(b:N[j]? =some x):i=j:=by
 obtain⟨h1,e1⟩:=Tn.mp a
 obtain⟨h2,e2⟩:=Tn.mp b
 exact(List.getElem_inj hN).mp (e1.trans e2.symm)
def nu{M:Model}{A:TY}{E:Value->S7->Prop}{i:Nat}{x:Str}{v:V}{u:Value}{Q:Unit->S7->Prop}(I:Inv X pins σ H s)(hN:X.N.Nodup)(hi:X.N[i]? =some x)(hx:Loc X.env.scope x)(r:RelV v u)
 (h:∀s',Inv X pins (σ.set i (some v)) H s'->(∃a,Vv a s.heap s'.heap/\(a=X.env.locals\/X.env.cells.lookup x=some a))->Q () s')(hf:X.fn x=true\/X.env.scope.names.lookup x=some .local:=by first | exact .inl rfl | exact .inr rfl | assumption):wpAny M A (storeName X.env x u) Q E s:=by
 obtain⟨m,hn,hl⟩:=id I.loc
 have N2:(X.env.scope.kind== .class||(X.env.scope.kind== .module&&X.env.locals !=X.env.globals))=false:=by rw[I.ok.kind];rfl
 have PY:i<σ.length:=by rw[I.len];exact(Tn.mp hi).1
 have cne:=I.cne
 have tracked:∀{a:Addr}{h':Heap},(∃o,s.heap.get? a=some o/\H a=none)->Vv a s.heap h'->HOk X.prog X.w H h':=fun {a h'} ha hs b ob e=>by
  obtain⟨_,_,HB⟩:=ha
  refine(I.hok b ob e).stay (fun c w' hc q=>(hs.2 c ?_).trans q) (fun _ q=>q) fun _ _ q=>q
  rintro rfl
  rcases hc with rfl | hc
  ·rw[HB] at e;cases e
  ·rw[HB] at hc;cases hc
 rcases hx with hk | hk
 ·refine wpAny_storeName_local hk hn (fun h' Of hs=>?_) N2
  obtain⟨oL,_,_,Nk,_⟩:=id hn
  refine h _ ⟨I.ok,I.os,I.bare,⟨fun b o e n hb hx=>?_,fun b o e n hb hx=>?_,I.base.free,fun b o e hx=>?_,I.base.tups,I.base.frzs,I.base.tbls⟩,⟨_,Of,fun j y v' e1 e2 e3=>?_⟩,fun y c e=>?_,I.free,I.freeC,fun p hp=>?_,tracked ⟨oL,Nk,I.free⟩ hs,by simpa using I.len⟩ ⟨_,hs, .inl rfl⟩
  ·exact(hs.2 b (TR (TQ (Tq e) I.ok.above))).trans (I.base.keep b o e n hb hx)
  ·obtain⟨sl,e1⟩:=I.base.slot b o e n hb hx
   exact⟨sl,(hs.2 b (TR (TQ (Tq e) I.ok.above))).trans e1⟩
  ·obtain⟨o',e1⟩:=I.base.there b o e hx
   exact⟨o',(hs.2 b (TR (TQ (Tq e) I.ok.above))).trans e1⟩
  ·by_cases hj:j=i
   ·subst hj
    rw[hi] at e1;cases e1
    rw[Tv PY] at e2
    cases e2
    exact⟨u,r, .inl ⟨hk,by simp⟩⟩
   ·rw[Tr (Uq hj)] at e2
    obtain⟨u',r',q⟩:=hl j y v' e1 e2 e3
    refine⟨u',r',?_⟩
    rcases q with⟨k,e⟩ | ⟨k,c,e,z⟩
    ·refine .inl ⟨k,?_⟩
     have:y≠x:=fun e=>hj (xm hN e1 (e▸hi))
     simp[this,e]
    ·exact .inr ⟨k,c,e,z.sameBut hs (cne y c e)⟩
  ·obtain⟨w',z⟩:=I.cell y c e
   exact⟨w',z.sameBut hs (cne y c e)⟩
  ·obtain⟨e,n,ne,nf,d⟩:=I.pin p hp
   exact⟨(hs.2 p.1 ne).trans e,n,ne,nf,d⟩
 ·have N6:X.fn x=true:=by
   rcases hf with z | z
   ·exact z
   ·rw[z] at hk;cases hk
  obtain⟨c,hc⟩:=I.ok.has x (.inl hk)
  obtain⟨w',z⟩:=I.cell x c hc
  refine wpAny_storeName_cell I.ok.kind hk hc z (fun h' Hv hs=>?_)
  obtain⟨oc,P5,Oi⟩:=id z
  refine h {s with heap:=h'} ⟨I.ok,I.os,I.bare,⟨fun b o e n hb hx=>?_,fun b o e n hb hx=>?_,I.base.free,fun b o e hx=>?_,I.base.tups,I.base.frzs,I.base.tbls⟩,⟨m,hn.sameBut hs (Uq (cne x c hc)),fun j y v' e1 e2 e3=>?_⟩,fun y c' e=>?_,I.free,I.freeC,fun p hp=>?_,tracked ⟨oc,P5,I.freeC x c hc⟩ hs,by simpa using I.len⟩ ⟨c,hs, .inr hc⟩
  ·exact(hs.2 b (TR (TQ (Tq e) (I.ok.cab x c N6 hc)))).trans (I.base.keep b o e n hb hx)
  ·obtain⟨sl,e1⟩:=I.base.slot b o e n hb hx
   exact⟨sl,(hs.2 b (TR (TQ (Tq e) (I.ok.cab x c N6 hc)))).trans e1⟩
  ·obtain⟨o',e1⟩:=I.base.there b o e hx
   exact⟨o',(hs.2 b (TR (TQ (Tq e) (I.ok.cab x c N6 hc)))).trans e1⟩
  ·by_cases hj:j=i
   ·subst hj
    rw[hi] at e1;cases e1
    rw[Tv PY] at e2
    cases e2
    exact⟨u,r, .inr ⟨.inl hk,c,hc,Hv⟩⟩
   ·rw[Tr (Uq hj)] at e2
    obtain⟨u',r',q⟩:=hl j y v' e1 e2 e3
    refine⟨u',r',?_⟩
    rcases q with q | ⟨k,c',e,z'⟩
    ·exact .inl q
    ·refine .inr ⟨k,c',e,z'.sameBut hs ?_⟩
     rintro rfl
     exact hj (xm hN e1 (I.ok.inj _ _ _ e hc▸hi))
  ·by_cases Ng:c'=c
   ·subst Ng;exact⟨_,Hv⟩
   ·obtain⟨w2,z2⟩:=I.cell y c' e
    exact⟨w2,z2.sameBut hs Ng⟩
  ·obtain⟨e,n,ne,nf,d⟩:=I.pin p hp
   refine⟨(hs.2 p.1 ?_).trans e,n,ne,nf,d⟩
   intro q
   rw[q,P5] at e
   have q':oc=p.2:=TF e
   exact d w' (by rw[<-q'];exact Oi)
def yg{M:Model}{A:TY}{E:Value->S7->Prop}{i:Nat}{x:Str}{v:V}{u:Value}{Q:Unit->S7->Prop}(I:Inv X pins σ H s)(hN:X.N.Nodup)(hi:X.N[i]? =some x)(hx:Loc X.env.scope x)(r:RelV v u)
 (h:∀s',Inv X pins (σ.set i (some v)) H s'->Q () s')(hf:X.fn x=true\/X.env.scope.names.lookup x=some .local:=by first | exact .inl rfl | exact .inr rfl | assumption):wpAny M A (storeName X.env x u) Q E s:=
 nu I hN hi hx r (fun s' I' _=>h s' I') hf
def Inv.call'{s':S7}{ch:List Addr}(I:Inv X pins σ H s)(ho:s'.os=s.os)(u:Un (hZ X.stack) ch H H' s.heap s'.heap)(hok:HOk X.prog X.w H' s'.heap)(hg:W9 s'.gens)
 (E7:∀b∈ch,(b∈X.ex\/X.s₀.heap.objs.size<=b)/\b≠X.env.locals/\(∀x c,X.env.cells.lookup x=some c->c≠b)/\∀p∈X.pn++pins,p.1≠b):Inv X pins σ H' s':=by
 obtain⟨h',g',d',t',o'⟩:=s'
 have e:o'=s.os:=ho
 subst e
 exact I.call (g':=g') (t':=t') (d':=d') u hok hg E7
end
abbrev XK:=Value->Option Addr->Hp->Prop
abbrev St:=List (Option V)
abbrev VK:=V->Hp->Prop
abbrev TE:=St->Hp->VK->Prop
abbrev TT:=St->Hp->(Bool->Hp->Prop)->Prop
abbrev TA:=St->Hp->(List V->Hp->Prop)->Prop
structure Ends where
 nx:St->Hp->Prop
 rt:VK
 bk:St->Hp->Prop:=fun _ _=>False
 ct:St->Hp->Prop:=fun _ _=>False
abbrev TS:=Ends->St->Hp->Prop
def EP(X:Cx)(pins:List (Addr×Obj))(σ:St)(Q:VK)(u:Value)(s':S7):Prop:=∃v H',Inv X pins σ H' s'/\RelV v u/\Q v H'
def TP(X:Cx)(pins:List (Addr×Obj))(σ:St)(Q:Bool->Hp->Prop)(b:Bool)(s':S7):Prop:=∃H',Inv X pins σ H' s'/\Q b H'
def AP(X:Cx)(pins:List (Addr×Obj))(σ:St)(Q:List V->Hp->Prop)(us:List Value)(s':S7):Prop:=∃vs H',Inv X pins σ H' s'/\Vals vs us/\Q vs H'
def SP(X:Cx)(pins:List (Addr×Obj))(D:Ends)(f:Flow)(s':S7):Prop:=
 match f with
 | .next=>∃σ' H',Inv X pins σ' H' s'/\D.nx σ' H'
 | .brk=>∃σ' H',Inv X pins σ' H' s'/\D.bk σ' H'
 | .cont=>∃σ' H',Inv X pins σ' H' s'/\D.ct σ' H'
 | .ret u=>∃v σ' H',Inv X pins σ' H' s'/\RelV v u/\D.rt v H'
def PE(X:Cx)(e:Expr)(t:TE):Prop:=
 ∀(pins:List (Addr×Obj)) (s:S7) (σ:St) (H:Hp) (Q:VK),Inv X pins σ H s->t σ H Q->wpAny (model X.prog X.w) X.A (eval e X.env) (EP X pins σ Q) X.xe s
def PT(X:Cx)(e:Expr)(t:TT):Prop:=
 ∀(pins:List (Addr×Obj)) (s:S7) (σ:St) (H:Hp) (Q:Bool->Hp->Prop),Inv X pins σ H s->t σ H Q->wpAny (model X.prog X.w) X.A (isTrue e X.env (eval e X.env)) (TP X pins σ Q) X.xe s
def PW(X:Cx)(e:Expr)(t:TT):Prop:=
 ∀(whole:Sem Value) (pins:List (Addr×Obj)) (s:S7) (σ:St) (H:Hp) (Q:Bool->Hp->Prop),Inv X pins σ H s->t σ H Q->wpAny (model X.prog X.w) X.A (isTrue e X.env whole) (TP X pins σ Q) X.xe s
def PW.pt{X:Cx}{e:Expr}{t:TT}(h:PW X e t):PT X e t:=h _
def PA(X:Cx)(es:List Expr)(t:TA):Prop:=
 ∀(pos:Pos) (pins:List (Addr×Obj)) (s:S7) (σ:St) (H:Hp) (Q:List V->Hp->Prop),Inv X pins σ H s->t σ H Q->wpAny (model X.prog X.w) X.A (spliced (UH pos (To es X.env))) (AP X pins σ Q) X.xe s
def PS(X:Cx)(st:Stmt)(t:TS):Prop:=
 ∀(pins:List (Addr×Obj)) (s:S7) (σ:St) (H:Hp) (D:Ends),Inv X pins σ H s->t D σ H->wpAny (model X.prog X.w) X.A (exec st X.env) (SP X pins D) X.xe s
def PSs(X:Cx)(st:List Stmt)(t:TS):Prop:=
 ∀(pins:List (Addr×Obj)) (s:S7) (σ:St) (H:Hp) (D:Ends),Inv X pins σ H s->t D σ H->wpAny (model X.prog X.w) X.A (execs st X.env) (SP X pins D) X.xe s
def cJ{α:Type}{t:Sem α}{Q Q':α->S7->Prop}{M:Model}{A:TY}{E:Value->S7->Prop}{s:S7}(h:wpAny M A t Q E s)(hQ:∀a s,Q a s->Q' a s):wpAny M A t Q' E s:=Up h hQ fun _ _ x=>x
section
variable{X:Cx}
def bin{a b:Expr}{ta tb:TE}(ha:PE X a ta)(hb:PE X b tb){pins:List (Addr×Obj)}{s:S7}{σ:St}{H:Hp}{R:V->V->Hp->Prop}(I:Inv X pins σ H s)(h:ta σ H fun x H1=>tb σ H1 fun y H2=>R x y H2)
 {α:Type}{Q:α->S7->Prop}{f:Value->Value->Sem α}
 (hf:∀v u s2 x y H2,Inv X pins σ H2 s2->RelV x v->RelV y u->R x y H2->wpAny (model X.prog X.w) X.A (f v u) Q X.xe s2):
 wpAny (model X.prog X.w) X.A (eval a X.env) (fun v s₁=>wpAny (model X.prog X.w) X.A (eval b X.env) (fun u s₂=>wpAny (model X.prog X.w) X.A (f v u) Q X.xe s₂) X.xe s₁) X.xe s:=by
 refine cJ (ha pins s σ H _ I h) fun v s1 ⟨x,H1,I1,r1,q1⟩=>?_
 refine cJ (hb pins s1 σ H1 _ I1 q1) fun u s2 ⟨y,H2,I2,r2,q2⟩=>?_
 exact hf v u s2 x y H2 I2 r1 r2 q2
def vK(i:Nat):TE:=fun σ H Q=>∃v,σ[i]? =some (some v)/\Q v H
def tC(v:V):TE:=fun _ H Q=>Q v H
def JX{i:Nat}{x:Str}{pos:Pos}(hN:X.N[i]? =some x)(hv:NM X.env.scope x)(hd:(x==("__debug__":Str))=false:=by decide)(vW:(x==("__classdict__":Str))=false:=by decide):PE X (.Name x pos) (vK i):=by
 intro pins s σ H Q I h
 obtain⟨v,e,h⟩:=h
 obtain⟨m,hn,hl⟩:=I.loc
 obtain⟨u,r,l⟩:=hl i x v hN e hv
 have fin:EP X pins σ Q u s:=⟨v,H,I,r,h⟩
 rcases l with⟨hk,hm⟩ | ⟨hk,c,hc,Hx⟩
 ·exact wpAny_Name (wpAny_loadName_local I.ok.kind hk hn hm fin) hd
 ·rcases hk with hk | hk
  ·exact wpAny_Name (wpAny_loadName_cell I.ok.kind hk hc Hx fin) hd
  ·exact wpAny_Name (wpAny_loadName_free I.ok.kind hk hc Hx fin vW) hd
def JQ{i j pos}:PE X (.Constant (.int i) j pos) (tC (.int i)):=fun _ _ _ H _ I h=>wpAny_Constant_int ⟨.int i,H,I.tok _,⟨_,rfl⟩,h⟩
def Mp{b j pos}:PE X (.Constant (.bool b) j pos) (tC (.bl b)):=fun _ _ _ H _ I h=>Constant_bool ⟨.bl b,H,I,rfl,h⟩
def JR{j pos}:PE X (.Constant .none j pos) (tC .non):=fun _ _ _ H _ I h=>Constant_none ⟨.non,H,I,rfl,h⟩
def JV{x j pos}:PE X (.Constant (.str x) j pos) (tC (.str x)):=fun _ _ _ H _ I h=>Calls.Constant_str ⟨.str x,H,I.tok _,⟨_,rfl⟩,h⟩
def Gl(X:Cx)(x:Str):Prop:=X.env.kindOf x=some .globalImplicit
def lT{E:Value->S7->Prop}{pins:List (Addr×Obj)}{s:S7}{σ:St}{H:Hp}{x:Str}{u:Value}{pos:Pos}{Q:Value->S7->Prop}(I:Inv X pins σ H s)(hg:Gl X x)(hm:X.mg x=some u)(h:Q u s)
 (hd:(x==("__debug__":Str))=false:=by decide):wpAny (model X.prog X.w) X.A (eval (.Name x pos) X.env) Q E s:=
 XN I.ok.kind hg (Calls.loadGlobal_global (by rw[I.ok.glob];exact I.mod.glob.keeps I.bk) hm h) hd
def mS{E:Value->S7->Prop}{pins:List (Addr×Obj)}{s:S7}{σ:St}{H:Hp}{x:Str}{u:Value}{pos:Pos}{Q:Value->S7->Prop}(I:Inv X pins σ H s)(hg:Gl X x)(hm:X.mg x=none)(hv:Ub x=some u)(h:Q u s)
 (hn:x≠"__name__":=by decide)(hd:(x==("__debug__":Str))=false:=by decide):wpAny (model X.prog X.w) X.A (eval (.Name x pos) X.env) Q E s:=by
 obtain⟨mb,h1,h2⟩:=I.mod.blt
 exact XN I.ok.kind hg (Calls.loadGlobal_builtin (by rw[I.ok.glob];exact I.mod.glob.keeps I.bk) hm (by rw[I.ok.blt];exact h1.keeps I.bk) ((h2 x hn).trans hv) h) hd
def vc{x:Str}{v:V}{u:Value}{pos:Pos}(hg:Gl X x)(hm:X.mg x=some u)(r:RelV v u)(hd:(x==("__debug__":Str))=false:=by decide):PE X (.Name x pos) (tC v):=
 fun _ _ _ H _ I h=>lT I hg hm ⟨v,H,I,r,h⟩ hd
def GG{x:Str}{v:V}{u:Value}{pos:Pos}(hg:Gl X x)(hm:X.mg x=none)(hv:Ub x=some u)(r:RelV v u)(hn:x≠"__name__":=by decide)(hd:(x==("__debug__":Str))=false:=by decide):PE X (.Name x pos) (tC v):=
 fun _ _ _ H _ I h=>mS I hg hm hv ⟨v,H,I,r,h⟩ hn hd
variable{a b:Expr}{ta tb:TE}{pos:Pos}
def PC(X:Cx)(op:CmpOp)(a b:Expr)(t:TE):Prop:=
 ∀(pins:List (Addr×Obj)) (s:S7) (σ:St) (H:Hp) (Q:VK),Inv X pins σ H s->t σ H Q->
  wpAny (model X.prog X.w) X.A (eval a X.env) (fun v s₁=>wpAny (model X.prog X.w) X.A (eval b X.env) (fun u s₂=>wpAny (model X.prog X.w) X.A (Ua op v u) (EP X pins σ Q) X.xe s₂) X.xe s₁) X.xe s
def DC(b:Expr){op:CmpOp}(h:op≠ .In)(h2:op≠ .NotIn):Ug op b=false:=by
 have e1:(op==CmpOp.In)=false:=by cases op<;>first | rfl | exact absurd rfl h
 have e2:(op==CmpOp.NotIn)=false:=by cases op<;>first | rfl | exact absurd rfl h2
 cases b<;>simp[Ug,e1,e2]
def JP{op:CmpOp}{t:TE}(h:PC X op a b t)(h1:Ug op b=false:=by first | exact DC _ (by decide) (by decide) | rfl):PE X (.Compare a [op] [b] pos) t:=fun pins s σ H Q I hw=>wpAny_Compare1 (h pins s σ H Q I hw) h1
variable{tA bH:TT}{rest:List Expr}
def O6(t u:TT):TT:=fun σ H Q=>t σ H fun c H1=>if c=true then u σ H1 Q else Q false H1
def Sq(t u:TT):TT:=fun σ H Q=>t σ H fun c H1=>if c=true then Q true H1 else u σ H1 Q
def Pd(t:TT):TT:=fun σ H Q=>t σ H fun c H1=>Q (!c) H1
def GZ(ha:PT X a tA):PW X (.BoolOp .And [a] pos) tA:=by
 intro wh pins s σ H Q I h
 refine isTrue_and (cJ (ha pins s σ H Q I h) fun c s1 e=>?_)
 cases c with
 |true=>exact isTrue_and_nil e
 |false=>exact e
def J_(ha:PT X a tA):PW X (.BoolOp .Or [a] pos) tA:=by
 intro wh pins s σ H Q I h
 refine isTrue_or (cJ (ha pins s σ H Q I h) fun c s1 e=>?_)
 cases c with
 |false=>exact isTrue_or_nil e
 |true=>exact e
def J8(ha:PT X a tA)(hb:PW X (.BoolOp .And (b::rest) pos) bH):PW X (.BoolOp .And (a::b::rest) pos) (O6 tA bH):=by
 intro wh pins s σ H Q I h
 refine isTrue_and (cJ (ha pins s σ H _ I h) fun c s1 ⟨H1,I1,q1⟩=>?_)
 cases c with
 |true=>exact hb wh pins s1 σ H1 Q I1 q1
 |false=>exact⟨H1,I1,q1⟩
def Mv(ha:PT X a tA)(hb:PW X (.BoolOp .Or (b::rest) pos) bH):PW X (.BoolOp .Or (a::b::rest) pos) (Sq tA bH):=by
 intro wh pins s σ H Q I h
 refine isTrue_or (cJ (ha pins s σ H _ I h) fun c s1 ⟨H1,I1,q1⟩=>?_)
 cases c with
 |true=>exact⟨H1,I1,q1⟩
 |false=>exact hb wh pins s1 σ H1 Q I1 q1
def J7(ha:PT X a tA):PT X (.UnaryOp .Not a pos) (Pd tA):=by
 intro pins s σ H Q I h
 exact isTrue_not (ha pins s σ H (fun c H1=>Q (!c) H1) I h)
def ML(ta tb:TE):TE:=fun σ H Q=>ta σ H fun x H1=>∃c,x= .bl c/\if c=true then tb σ H1 Q else Q (.bl false) H1
def MQ(ta:TE):TE:=fun σ H Q=>ta σ H fun x H1=>∃c,x= .bl c/\Q (.bl (!c)) H1
def JT{op}{t:TE}(h:PE X a t):PE X (.BoolOp op [a] pos) t:=fun pins s σ H Q I hw=>BoolOp_one (h pins s σ H Q I hw)
def JO(ha:PE X a ta)(hb:PE X (.BoolOp .And (b::rest) pos) tb):PE X (.BoolOp .And (a::b::rest) pos) (ML ta tb):=by
 intro pins s σ H Q I h
 refine BoolOp_and (cJ (ha pins s σ H _ I h) fun v s1 ⟨x,H1,I1,r1,q1⟩=>?_)
 obtain⟨c,rfl,q1⟩:=q1
 cases r1
 refine UD ?_
 cases c with
 |true=>exact hb pins s1 σ H1 Q I1 q1
 |false=>exact⟨.bl false,H1,I1,rfl,q1⟩
def JS(ha:PE X a ta):PE X (.UnaryOp .Not a pos) (MQ ta):=by
 intro pins s σ H Q I h
 refine UnaryOp_ (cJ (ha pins s σ H _ I h) fun v s1 ⟨x,H1,I1,r1,q1⟩=>?_)
 obtain⟨c,rfl,q1⟩:=q1
 cases r1
 exact not_of (UD ⟨.bl (!c),H1,I1,rfl,q1⟩)
def So(t:TT)(ta tb:TE):TE:=fun σ H Q=>t σ H fun c H1=>if c=true then ta σ H1 Q else tb σ H1 Q
def Eb{c:Expr}(hc:PT X c tA)(ha:PE X a ta)(hb:PE X b tb):PE X (.IfExp c a b pos) (So tA ta tb):=by
 intro pins s σ H Q I h
 refine wpAny_IfExp (cJ (hc pins s σ H _ I h) fun d s1 ⟨H1,I1,q1⟩=>?_)
 cases d with
 |true=>exact ha pins s1 σ H1 Q I1 q1
 |false=>exact hb pins s1 σ H1 Q I1 q1
end
def SqL(K:Tc)(H:Hp)(a:Addr)(xs:List V):Prop:=
 Rd H a (.lst xs)\/
  ∃(o:Obj) (aR:Array Value) (n:Nat),K.lookup a=some o/\o.cls= .type "list"/\o.dict=none/\o.data= .seq aR n/\aR.size<=Tz/\Vals xs aR.toList
def SqT(K:Tc)(H:Hp)(a:Addr)(xs:List V):Prop:=
 Rd H a (.tup xs)\/
  ∃(o:Obj) (aR:Array Value) (n:Nat),K.lookup a=some o/\o.cls= .type "tuple"/\o.data= .seq aR n/\aR.size<=Tz/\Vals xs aR.toList
def NN:Value->Option V
 | .none=>some .non
 | .bool b=>some (.bl b)
 | .int i _=>some (.int i)
 | .str x _=>some (.str x)
 | .bytes b _=>some (.byt b)
 | .float b _=>some (.flt b)
 | .ref a=>some (.ref a)
 | .type n=>some (.ty n)
 |_=>none
def RelV.abs{x:V}{u:Value}(r:RelV x u):NN u=some x:=by
 cases x with
 |non=>cases r;rfl
 |bl _=>cases r;rfl
 |int _=>obtain⟨t,rfl⟩:=r;rfl
 |str _=>obtain⟨t,rfl⟩:=r;rfl
 |byt _=>obtain⟨t,rfl⟩:=r;rfl
 |flt _=>obtain⟨t,rfl⟩:=r;rfl
 |ref _=>cases r;rfl
 |ty _=>cases r;rfl
def RelV.inj{x y:V}{u:Value}(r:RelV x u)(q:RelV y u):x=y:=TF (r.abs.symm.trans q.abs)
def Vals.inj:∀{xs ys:List V}{us:List Value},Vals xs us->Vals ys us->xs=ys
 |_,_,_, .nil, .nil=>rfl
 |_,_,_, .cons r t, .cons r' t'=>by rw[r.inj r',Vals.inj t t']
section
variable{X:Cx}{pins:List (Addr×Obj)}{σ:St}{H:Hp}{s:S7}{a:Addr}{xs ys:List V}
def SqL.of{K:Tc}(h:H a=some (.lst xs)):SqL K H a xs:= .inl (.inl h)
def SqT.of{K:Tc}(h:H a=some (.tup xs)):SqT K H a xs:= .inl (.inl h)
def Inv.list(I:Inv X pins σ H s)(h:SqL X.K H a xs):∃aR:List Value,Vals xs aR/\PlainL s.heap a aR.toArray/\xs.length<=Tz:=by
 rcases h with h | ⟨o,aR,n,hk,hc,hd,hs,hz,r⟩
 ·obtain⟨z,aR,n,r,e⟩:=h.ok I.hok
  exact⟨aR,r,⟨_,n,e,rfl,rfl,rfl⟩,z⟩
 ·refine⟨aR.toList,r,⟨o,n,I.kIn a o hk,hc,hd,by simpa using hs⟩,?_⟩
  have e:=r.length
  simp only[TZ] at e
  omega
def Inv.tuple(I:Inv X pins σ H s)(h:SqT X.K H a xs):∃aR:List Value,Vals xs aR/\IsTup s.heap a aR.toArray/\xs.length<=Tz:=by
 rcases h with h | ⟨o,aR,n,hk,hc,hs,hz,r⟩
 ·obtain⟨z,aR,r,p⟩:=h.ok I.hok
  exact⟨aR,r,p,z⟩
 ·refine⟨aR.toList,r,⟨o,I.kIn a o hk,hc,n,by simpa using hs⟩,?_⟩
  have e:=r.length
  simp only[TZ] at e
  omega
def Inv.list_inj(I:Inv X pins σ H s)(h:SqL X.K H a xs)(h':SqL X.K H a ys):xs=ys:=by
 obtain⟨aR,r,⟨o,n,e,_,_,d⟩,_⟩:=I.list h
 obtain⟨its',r',⟨o',n',e',_,_,d'⟩,_⟩:=I.list h'
 rw[e] at e';cases e'
 rw[d] at d'
 injection d' with d1 _
 have:aR=its':=by simpa using congrArg Array.toList d1
 subst this
 exact r.inj r'
def Inv.tuple_inj(I:Inv X pins σ H s)(h:SqT X.K H a xs)(h':SqT X.K H a ys):xs=ys:=by
 obtain⟨aR,r,⟨o,e,_,n,d⟩,_⟩:=I.tuple h
 obtain⟨its',r',⟨o',e',_,n',d'⟩,_⟩:=I.tuple h'
 rw[e] at e';cases e'
 rw[d] at d'
 injection d' with d1 _
 have:aR=its':=by simpa using congrArg Array.toList d1
 subst this
 exact r.inj r'
end
abbrev Cx.wish(X:Cx)(E:Value->S7->Prop):Cx:={X with xe:=E}
abbrev Cx.nox(X:Cx):Cx:=X.wish fun _ _=>False
def Cx.Ok.wish{X:Cx}(ok:X.Ok)(E:Value->S7->Prop):(X.wish E).Ok:=
 ⟨ok.mod,ok.kind,ok.glob,ok.blt,ok.above,ok.inj,ok.has,ok.cab,ok.hd,ok.frames,ok.stk,ok.exf,ok.bs,ok.bsz,ok.noex,ok.exfs,ok.funs,ok.frf⟩
def Cx.Ok.unwish{X:Cx}{E:Value->S7->Prop}(ok:(X.wish E).Ok):X.Ok:=
 ⟨ok.mod,ok.kind,ok.glob,ok.blt,ok.above,ok.inj,ok.has,ok.cab,ok.hd,ok.frames,ok.stk,ok.exf,ok.bs,ok.bsz,ok.noex,ok.exfs,ok.funs,ok.frf⟩
section
variable{X:Cx}{pins:List (Addr×Obj)}{σ:St}{H:Hp}{s:S7}{E:Value->S7->Prop}
def Inv.wish(I:Inv X pins σ H s)(E:Value->S7->Prop):Inv (X.wish E) pins σ H s:=⟨I.ok.wish E,I.os,I.bare,I.base,I.loc,I.cell,I.free,I.freeC,I.pin,I.hok,I.len⟩
def Inv.unwish(I:Inv (X.wish E) pins σ H s):Inv X pins σ H s:=⟨I.ok.unwish,I.os,I.bare,I.base,I.loc,I.cell,I.free,I.freeC,I.pin,I.hok,I.len⟩
def SP.unwish{D:Ends}{f:Flow}{s':S7}(h:SP (X.wish E) pins D f s'):SP X pins D f s':=by
 cases f with
 |next=>obtain⟨σ',H',I,q⟩:=h;exact⟨σ',H',I.unwish,q⟩
 |brk=>obtain⟨σ',H',I,q⟩:=h;exact⟨σ',H',I.unwish,q⟩
 |cont=>obtain⟨σ',H',I,q⟩:=h;exact⟨σ',H',I.unwish,q⟩
 |ret u=>obtain⟨v,σ',H',I,r,q⟩:=h;exact⟨v,σ',H',I.unwish,r,q⟩
def PE.nox{e:Expr}{t:TE}(h:PE X.nox e t):PE X e t:=fun pins s σ H Q I hw=>
 Up (h pins s σ H Q (I.wish _) hw) (fun _ _ ⟨v,H',I',r,q⟩=>⟨v,H',I'.unwish,r,q⟩) fun _ _ z=>Uz z
def PT.nox{e:Expr}{t:TT}(h:PT X.nox e t):PT X e t:=fun pins s σ H Q I hw=>
 Up (h pins s σ H Q (I.wish _) hw) (fun _ _ ⟨H',I',q⟩=>⟨H',I'.unwish,q⟩) fun _ _ z=>Uz z
def PSs.nox{st:List Stmt}{t:TS}(h:PSs X.nox st t):PSs X st t:=fun pins s σ H D I hw=>
 Up (h pins s σ H D (I.wish _) hw) (fun _ _ q=>q.unwish) fun _ _ z=>Uz z
end
section
variable{X:Cx}{st:Stmt}{rest:List Stmt}{t u:TS}{e:Expr}{te:TE}{pos:Pos}
def MO:TS:=fun D σ H=>D.nx σ H
def Pf(t u:TS):TS:=fun D σ H=>t {D with nx:=u D} σ H
def GU:PSs X [] MO:=fun _ _ σ H _ I h=>Wa ⟨σ,H,I,h⟩
def Ej(h1:PS X st t)(h2:PSs X rest u):PSs X (st::rest) (Pf t u):=by
 intro pins s σ H D I h
 refine wpAny_execs_cons (cJ (h1 pins s σ H {D with nx:=u D} I h) fun f s1 q=>?_)
 cases f with
 |next=>
  obtain⟨σ',H',I',q⟩:=q
  exact h2 pins s1 σ' H' D I' q
 |ret v=>exact q
 |brk=>exact q
 |cont=>exact q
def GV(h1:PS X st t):PSs X [st] t:=by
 intro pins s σ H D I h
 refine wpAny_execs_cons (cJ (h1 pins s σ H D I h) fun f s1 q=>?_)
 cases f with
 |next=>exact Wa q
 |ret v=>exact q
 |brk=>exact q
 |cont=>exact q
def Inv.quiet{pins:List (Addr×Obj)}{σ:St}{H:Hp}{s:S7}(I:Inv X pins σ H s):interactive X.env=false:=by simp[interactive,I.ok.kind]
def H8(te:TE):TS:=fun D σ H=>te σ H fun _ H1=>D.nx σ H1
def AG(he:PE X e te)(hs:Xx e none pos.line X.env=pure false:=by rfl):PS X (.Expr e pos) (H8 te):=by
 intro pins s σ H D I h
 exact wpAny_Expr_any (cJ (he pins s σ H _ I h) fun v s1 ⟨x,H1,I1,r1,q1⟩=>⟨σ,H1,I1,q1⟩) I.quiet hs
def Pe(te:TE):TS:=fun D σ H=>te σ H D.rt
def J2(he:PE X e te):PS X (.Return (some e) pos) (Pe te):=by
 intro pins s σ H D I h
 exact wpAny_Return_some (cJ (he pins s σ H _ I h) fun v s1 ⟨x,H1,I1,r1,q1⟩=>⟨x,σ,H1,I1,r1,q1⟩)
def Pb(c:TT)(t u:TS):TS:=fun D σ H=>c σ H fun b H1=>if b=true then t D σ H1 else u D σ H1
def Mt{c:Expr}{a b:List Stmt}{tc:TT}(hc:PT X c tc)(ha:PSs X a t)(hb:PSs X b u):PS X (.If c a b pos) (Pb tc t u):=by
 intro pins s σ H D I h
 refine wpAny_If (cJ (hc pins s σ H _ I h) fun d s1 ⟨H1,I1,q1⟩=>?_)
 cases d with
 |true=>exact ha pins s1 σ H1 D I1 q1
 |false=>exact hb pins s1 σ H1 D I1 q1
end
abbrev TG:=V->St->Hp->(St->Hp->Prop)->Prop
abbrev Hk:=List V->St->Hp->(St->Hp->Prop)->Prop
def PG(X:Cx)(target:Expr)(t:TG):Prop:=
 ∀(pins:List (Addr×Obj)) (s:S7) (σ:St) (H:Hp) (v:V) (u:Value) (Q:St->Hp->Prop),Inv X pins σ H s->RelV v u->t v σ H Q->
  wpAny (model X.prog X.w) X.A (assign target X.env u) (fun _ s'=>∃σ' H',Inv X pins σ' H' s'/\Q σ' H') X.xe s
def M4(X:Cx)(ts:List Expr)(t:Hk):Prop:=
 ∀(pins:List (Addr×Obj)) (s:S7) (σ:St) (H:Hp) (vs:List V) (us:List Value) (Q:St->Hp->Prop),Inv X pins σ H s->Vals vs us->t vs σ H Q->
  wpAny (model X.prog X.w) X.A (assignInOrder ((Vb ts X.env).map (·.2)) us) (fun _ s'=>∃σ' H',Inv X pins σ' H' s'/\Q σ' H') X.xe s
abbrev NJ:=V->V->V->Hp->(Hp->Prop)->Prop
section
variable{X:Cx}{pos:Pos}
def C7(i:Nat):TG:=fun v σ H Q=>Q (σ.set i (some v)) H
def bu{i:Nat}{x:Str}(hN:X.N.Nodup)(hi:X.N[i]? =some x)(hx:Loc X.env.scope x)(hf:X.fn x=true\/X.env.scope.names.lookup x=some .local:=by first | exact .inl rfl | exact .inr rfl | assumption):PG X (.Name x pos) (C7 i):=by
 intro pins s σ H v u Q I r h
 exact XT (yg I hN hi hx r (fun s' I'=>⟨_,H,I',h⟩) hf)
def Lq:Hk:=fun vs σ H Q=>vs=[]/\Q σ H
def Hu(t:TG)(u:Hk):Hk:=fun vs σ H Q=>∃v r,vs=v::r/\t v σ H fun σ' H'=>u r σ' H' Q
def AF:M4 X [] Lq:=by
 intro pins s σ H vs us Q I r h
 obtain⟨e,h⟩:=h
 subst e
 cases r
 exact assignInOrder_nil ⟨σ,H,I,h⟩
def mr{e:Expr}{es:List Expr}{t:TG}{u:Hk}(h1:PG X e t)(h2:M4 X es u)
 (hs:(Vb (e::es) X.env).map (·.2)=assign e X.env::(Vb es X.env).map (·.2):=by rfl):M4 X (e::es) (Hu t u):=by
 intro pins s σ H vs us Q I r h
 obtain⟨v,vr,e1,h⟩:=h
 subst e1
 cases r with
 |cons r rr=>
  rw[hs]
  refine assignInOrder_cons (cJ (h1 pins s σ H _ _ _ I r h) fun _ s1 ⟨σ1,H1,I1,q1⟩=>?_)
  exact h2 pins s1 σ1 H1 _ _ Q I1 rr q1
def IE(K:Tc)(n:Nat)(t:Hk):TG:=fun v σ H Q=>∃a xs,v= .ref a/\SqT K H a xs/\xs.length=n/\t xs σ H Q
def Ef{es:List Expr}{k:Nat}{t:Hk}{n:Nat}(hc:X.calm=true)(h:M4 X es t)
 (hn:(Vb es X.env).length=n:=by rfl)(Aj:(Vb es X.env).findIdx? (·.1)=none:=by rfl):PG X (.Tuple es k pos) (IE X.K n t):=by
 intro pins s σ H v u Q I r hw
 obtain⟨a,xs,e1,hq,hl,hw⟩:=hw
 subst e1
 cases r
 obtain⟨aR,rv,ht,hz⟩:=I.tuple hq
 refine assign_Tuple_tuple (I.ok.hd hc) ht (by simp[hn,<-hl,rv.length]) Aj fun h' hx=>?_
 have I1:Inv X pins σ H {s with heap:=h'}:=I.kept (t':=s.toks) fun b o e=>hx b o (TR (Tq e)) e
 exact h pins _ σ H xs _ Q I1 (by simpa using rv) hw
def q_(to ti:TE)(t:NJ):TG:=fun v σ H Q=>to σ H fun o H1=>ti σ H1 fun i H2=>t o i v H2 fun H3=>Q σ H3
def O7(te:TE)(g:TG):TS:=fun D σ H=>te σ H fun x H1=>g x σ H1 D.nx
def vf{tg e:Expr}{te:TE}{g:TG}(he:PE X e te)(hg:PG X tg g)(hs:Y3 [tg] e pos.line X.env=pure false:=by rfl)(hw:swappedStores [tg] e X.env=pure none:=by rfl)
 (h1:(Vb [tg] X.env).map (·.2)=[assign tg X.env]:=by rfl):PS X (.Assign [tg] e pos) (O7 te g):=by
 intro pins s σ H D I h
 refine wpAny_Assign_stores (cJ (he pins s σ H _ I h) fun v s1 ⟨x,H1,I1,r1,q1⟩=>?_) hs hw
 rw[h1]
 exact cJ (hg pins s1 σ H1 x v _ I1 r1 q1) fun _ s2 q=>q
end
section
variable{X:Cx}{pos:Pos}
def Kr(c:TT)(tb:TS):TS:=fun D σ H=>∃W:Nat->St->Hp->Prop,(∃m,W m σ H)/\∀m σ H,W m σ H->
 c σ H fun b H1=>if b=true then∃N:St->Hp->Prop,(∀σ' H',N σ' H'->∃m',m'<m/\W m' σ' H')/\tb {D with nx:=N,ct:=N,bk:=D.nx} σ H1 else D.nx σ H1
def Ei{c:Expr}{body:List Stmt}{tc:TT}{tb:TS}(hp:PassesOwn (model X.prog X.w) X.A X.env X.xe)(hc:PT X c tc)(hb:PSs X body tb):PS X (.While c body [] pos) (Kr tc tb):=by
 intro pins s σ H D I h
 obtain⟨W,⟨m0,w0⟩,turn⟩:=h
 refine wpAny_While (codeAny_whileLoop (fun n s'=>∃σ' H',Inv X pins σ' H' s'/\W n σ' H') ?_ m0 ⟨σ,H,I,w0⟩)
 rintro n s1 ⟨σ1,H1,I1,w1⟩
 refine Vm hp (cJ (hc pins s1 σ1 H1 _ I1 (turn n σ1 H1 w1)) fun b s2 ⟨H2,I2,q2⟩=>?_)
 cases b with
 |true=>
  obtain⟨N,hN,q2⟩:=q2
  rw[if_pos rfl]
  refine Vm hp (cJ (hb pins s2 σ1 H2 _ I2 q2) fun f s3 q3=>?_)
  cases f with
  |next=>
   obtain⟨σ3,H3,I3,n3⟩:=q3
   obtain⟨m',hm,w3⟩:=hN σ3 H3 n3
   exact⟨m',hm,σ3,H3,I3,w3⟩
  |cont=>
   obtain⟨σ3,H3,I3,n3⟩:=q3
   obtain⟨m',hm,w3⟩:=hN σ3 H3 n3
   exact⟨m',hm,σ3,H3,I3,w3⟩
  |brk=>exact q3
  |ret v=>exact q3
 |false=>
  rw[if_neg TN]
  exact Wa ⟨σ1,H2,I2,q2⟩
end
structure It where
 go:Nat->Hp->Prop
 yld:Nat->Hp->V->Hp->Prop
 stop:Nat->Hp->Prop
def qU(X:Cx)(pins:List (Addr×Obj))(H:Hp)(b:Addr):Prop:=
 H b=none/\b≠X.env.locals/\b∉X.fs/\(b∈X.ex\/X.s₀.heap.objs.size<=b)/\(∀x c,X.env.cells.lookup x=some c->c≠b)/\∀p∈X.pn++pins,p.1≠b
def Inv.fpOk{X:Cx}{pins:List (Addr×Obj)}{σ:St}{H H':Hp}{s:S7}{b:Addr}(I:Inv X pins σ H s)(hb:s.heap.objs.size<=b)(hn:H' b=none):qU X pins H' b:=by
 refine⟨hn,VS (TQ I.lt hb),I.nofs hb, .inr (Tw I.sz hb),fun x c e z=>?_,fun p hp z=>?_⟩
 ·obtain⟨v,q⟩:=I.cell x c e
  exact absurd (TQ q.lt (by rw[z];exact hb)) (Uk _)
 ·exact absurd (TQ (Tq (I.pin p hp).1) (by rw[z];exact hb)) (Uk _)
structure Turn (P:TM) (w:World) (K:Tc) (tg:Expr) (J:It) (fp:List Addr) (it:Addr) (tn:Nat->Heap->Prop):Prop where
 mem:it∈fp
 obj:∀i h,tn i h->∀b∈fp,∃o,h.get? b=some o/\∀v,o.data≠ .cell v
 keep:∀i h h',tn i h->(∀b∈fp,∀o,h.get? b=some o->h'.get? b=some o)->tn i h'
 item:∀(X:Cx),X.prog=P->X.w=w->X.K=K->X.calm=true->∀(i:Nat) (pins:List (Addr×Obj)) (s:S7) (σ:St) (H:Hp) (E:Value->S7->Prop),Inv X pins σ H s->(∀b∈fp,qU X pins H b)->tn i s.heap->J.go i H->
  wpAny (model P w) X.A (W2 (.ref it)) (fun r s1=>∃u,r=some u/\
   wpAny (model P w) X.A (W4 tg (.ref it) u) (fun _ s2=>∃x H',Inv X pins σ H' s2/\RelV x u/\J.yld i H x H'/\tn (i+1) s2.heap/\∀b∈fp,H' b=none) E s1) E s
 done:∀(X:Cx),X.prog=P->X.w=w->X.K=K->X.calm=true->∀(i:Nat) (pins:List (Addr×Obj)) (s:S7) (σ:St) (H:Hp) (E:Value->S7->Prop),Inv X pins σ H s->(∀b∈fp,qU X pins H b)->tn i s.heap->J.stop i H->
  wpAny (model P w) X.A (W2 (.ref it)) (fun r s1=>r=none/\Inv X pins σ H s1) E s
 self:∀(A:TY) (i:Nat) (s:S7) (Q:Value->S7->Prop) (E:Value->S7->Prop),tn i s.heap->Q (.ref it) s->wpAny (model P w) A (pyIter (.ref it)) Q E s
abbrev TI:=St->Hp->(It->Hp->Prop)->Prop
def Po(X:Cx)(pins:List (Addr×Obj))(σ:St)(tg:Expr)(R:It->Hp->Prop)(Qh:Value)(s2:S7):Prop:=
 ∃(it:Addr) (fp:List Addr) (tn:Nat->Heap->Prop) (J:It) (H':Hp),Qh= .ref it/\Inv X pins σ H' s2/\Turn X.prog X.w X.K tg J fp it tn/\tn 0 s2.heap/\(∀b∈fp,qU X pins H' b)/\R J H'
def PI(X:Cx)(tg iter:Expr)(wi:TI):Prop:=
 ∀(pins:List (Addr×Obj)) (s:S7) (σ:St) (H:Hp) (R:It->Hp->Prop),Inv X pins σ H s->wi σ H R->
  wpAny (model X.prog X.w) X.A (eval iter X.env) (fun v s1=>wpAny (model X.prog X.w) X.A (pyIter v) (Po X pins σ tg R) X.xe s1) X.xe s
def sm{M:Model}{A:TY}{E:Value->S7->Prop}{s:S7}{tg:Expr}{it:Addr}{u:Value}{o:Obj}{n:String}{vs:Array Value}{Q:Unit->S7->Prop}(ho:s.heap.get? it=some o)(hc:o.cls= .type n)(hd:o.data= .fields vs)
 (hn:["enumerate","zip","dict_itemiterator","dict_reverseitemiterator","odict_iterator","itertools.zip_longest","itertools.pairwise"].contains n=false)(hQ:Q () s):wpAny M A (W4 tg (.ref it) u) Q E s:=by
 unfold W4
 cases tg<;>first
  |exact Te hQ
  |(cases u<;>first
    |exact Te hQ
    |(refine S5 (wpAny_load ho ?_)
      rw[hc,hd]
      show wpAny M A (if (["enumerate","zip","dict_itemiterator","dict_reverseitemiterator","odict_iterator","itertools.zip_longest","itertools.pairwise"].contains n&&vs[0]? ==some (Xi _))=true then _ else _) Q E s
      rw[if_neg (by intro h;rw[hn,WS] at h;cases h)]
      exact Te hQ))
def NF(K:Tc)(a:Addr):It:=
 ⟨fun i H=>∃xs x,SqL K H a xs/\xs[i]? =some x,fun i H x H'=>H'=H/\∀xs,SqL K H a xs->xs[i]? =some x,fun i H=>∃xs,SqL K H a xs/\xs.length<=i⟩
def NG(K:Tc)(a:Addr):It:=
 ⟨fun i H=>∃xs x,SqT K H a xs/\xs[i]? =some x,fun i H x H'=>H'=H/\∀xs,SqT K H a xs->xs[i]? =some x,fun i H=>∃xs,SqT K H a xs/\xs.length<=i⟩
def K2(lo:Int)(n:Nat):It:=⟨fun i _=>i<n,fun i H x H'=>H'=H/\x= .int (lo+i),fun i _=>n<=i⟩
def B7{P:TM}{w:World}{K:Tc}{tg:Expr}(a it:Addr):Turn P w K tg (NF K a) [it] it (fun i h=>h.IsListIter it a i) where
 mem:=by simp
 obj:=fun i h st b hb=>by
  have e:b=it:=by simpa using hb
  subst e
  obtain⟨o,e,c,d⟩:=st
  exact⟨o,e,fun v z=>by rw[d] at z;cases z⟩
 keep:=fun i h h' st k=>st.at fun o e=>k it (by simp) o e
 item:=by
  intro X hP hw hK hc i pins s σ H E I hf st hg
  subst hP hw hK
  obtain⟨xs,x,hq,hx⟩:=hg
  obtain⟨aR,rv,p,hz⟩:=I.list hq
  obtain⟨u,hu,ru⟩:=rv.get hx
  obtain⟨f0,f1,f2,f3,f4,f5⟩:=hf it (by simp)
  refine wpAny_pyNext_list_item st p.isList (x:=u) (by simpa using hu) fun h' qL sb=>?_
  have I1:Inv X pins σ H {s with heap:=h'}:=I.turned (t':=s.toks) (fun b o hb e=>(sb.2 b hb).trans e) f0 f1 f3 f4 f5
  obtain⟨o,e,c,d⟩:=id qL
  exact⟨u,rfl,sm (s:={s with heap:=h'}) e c d (by decide) ⟨x,H,I1,ru,⟨rfl,fun ys hy=>by rw[I.list_inj hy hq];exact hx⟩,qL,fun b hb=>(hf b hb).1⟩⟩
 done:=by
  intro X hP hw hK hc i pins s σ H E I hf st hg
  subst hP hw hK
  obtain⟨xs,hq,hx⟩:=hg
  obtain⟨aR,rv,p,hz⟩:=I.list hq
  obtain⟨f0,f1,f2,f3,f4,f5⟩:=hf it (by simp)
  have hl:=rv.length
  exact wpAny_pyNext_list_end (I.ok.hd hc) st p.isList (by simp;omega) fun h' eb=>⟨rfl,I.turned (t':=s.toks) (fun b o hb e=>eb b o hb e) f0 f1 f3 f4 f5⟩
 self:=fun _ _ _ _ _ st h=>wpAny_pyIter_listiter st h
def zK{P:TM}{w:World}{K:Tc}{tg:Expr}(a it:Addr):Turn P w K tg (NG K a) [it] it (fun i h=>h.IsTupleIter it a i) where
 mem:=by simp
 obj:=fun i h st b hb=>by
  have e:b=it:=by simpa using hb
  subst e
  obtain⟨o,e,c,d⟩:=st
  exact⟨o,e,fun v z=>by rw[d] at z;cases z⟩
 keep:=fun i h h' st k=>st.at fun o e=>k it (by simp) o e
 item:=by
  intro X hP hw hK hc i pins s σ H E I hf st hg
  subst hP hw hK
  obtain⟨xs,x,hq,hx⟩:=hg
  obtain⟨aR,rv,p,hz⟩:=I.tuple hq
  obtain⟨u,hu,ru⟩:=rv.get hx
  obtain⟨f0,f1,f2,f3,f4,f5⟩:=hf it (by simp)
  refine wpAny_pyNext_tuple_item st (show s.heap.IsTuple a aR.toArray from p) (x:=u) (by simpa using hu) fun h' qL sb=>?_
  have I1:Inv X pins σ H {s with heap:=h'}:=I.turned (t':=s.toks) (fun b o hb e=>(sb.2 b hb).trans e) f0 f1 f3 f4 f5
  obtain⟨o,e,c,d⟩:=id qL
  exact⟨u,rfl,sm (s:={s with heap:=h'}) e c d (by decide) ⟨x,H,I1,ru,⟨rfl,fun ys hy=>by rw[I.tuple_inj hy hq];exact hx⟩,qL,fun b hb=>(hf b hb).1⟩⟩
 done:=by
  intro X hP hw hK hc i pins s σ H E I hf st hg
  subst hP hw hK
  obtain⟨xs,hq,hx⟩:=hg
  obtain⟨aR,rv,p,hz⟩:=I.tuple hq
  obtain⟨f0,f1,f2,f3,f4,f5⟩:=hf it (by simp)
  have hl:=rv.length
  exact wpAny_pyNext_tuple_end (I.ok.hd hc) st (show s.heap.IsTuple a aR.toArray from p) (by simp;omega) fun h' eb=>⟨rfl,I.turned (t':=s.toks) (fun b o hb e=>eb b o hb e) f0 f1 f3 f4 f5⟩
 self:=fun _ _ _ _ _ st h=>wpAny_pyIter_tupleiter st h
def zJ{P:TM}{w:World}{K:Tc}{tg:Expr}(it:Addr)(lo:Int)(n:Nat):Turn P w K tg (K2 lo n) [it] it (fun i h=>IsRangeIter h it (lo+(i:Nat)*1) ((n:Int) - (i:Nat)) 1) where
 mem:=by simp
 obj:=fun i h st b hb=>by
  have e:b=it:=by simpa using hb
  subst e
  exact⟨_,st,fun v z=>by
   have z':TC _=Data.cell v:=z
   cases z'⟩
 keep:=fun i h h' st k=>k it (by simp) _ st
 item:=by
  intro X hP hw hK hc i pins s σ H E I hf st hg
  subst hP hw hK
  obtain⟨f0,f1,f2,f3,f4,f5⟩:=hf it (by simp)
  have W:=Walks.range (prog:=X.prog) (w:=X.w) (I.ok.hd hc) it lo 1 n
  refine W.item i s _ _ hg st fun v h' tk hv qL kk=>?_
  obtain⟨t,rfl⟩:=hv
  have I1:Inv X pins σ H {s with heap:=h',toks:=tk}:=I.turned (fun b o hb e=>kk b o (by simpa using hb) e) f0 f1 f3 f4 f5
  refine⟨_,rfl,sm (s:={s with heap:=h',toks:=tk}) (n:="range_iterator") qL rfl rfl (by decide) ⟨.int (lo+i),H,I1,⟨t,?_⟩,⟨rfl,rfl⟩,qL,fun b hb=>(hf b hb).1⟩⟩
  rw[Int.mul_one]
 done:=by
  intro X hP hw hK hc i pins s σ H E I hf st hg
  subst hP hw hK
  obtain⟨f0,f1,f2,f3,f4,f5⟩:=hf it (by simp)
  exact wpAny_pyNext_range_end (I.ok.hd hc) st (by have:n<=i:=hg;omega) fun h' eb=>⟨rfl,I.turned (t':=s.toks) (fun b o hb e=>eb b o hb e) f0 f1 f3 f4 f5⟩
 self:=fun _ _ _ _ _ st h=>wpAny_pyIter_rangeiter st h
section
variable{X:Cx}{tg:Expr}
def LY(K:Tc)(tl:TE):TI:=fun σ H R=>tl σ H fun x H1=>∃a,x= .ref a/\(∃xs,SqL K H1 a xs)/\R (NF K a) H1
def OF(K:Tc)(tl:TE):TI:=fun σ H R=>tl σ H fun x H1=>∃a,x= .ref a/\(∃xs,SqT K H1 a xs)/\R (NG K a) H1
def GK{l:Expr}{tl:TE}(hl:PE X l tl):PI X tg l (LY X.K tl):=by
 intro pins s σ H R I h
 refine cJ (hl pins s σ H _ I h) fun v s1 ⟨x,H1,I1,r1,q1⟩=>?_
 obtain⟨a,e,⟨xs,hq⟩,q⟩:=q1
 subst e
 cases r1
 obtain⟨aR,rv,p,hz⟩:=I1.list hq
 refine XQ p.isList ?_
 refine⟨s1.heap.objs.size,[s1.heap.objs.size],_,_,H1,rfl,I1.kept (t':=s1.toks) fun b o e=>S_ _ e,B7 a _,⟨_,Tt _ rfl,rfl,rfl⟩,fun b hb=>?_,q⟩
 have e:b=s1.heap.objs.size:=by simpa using hb
 subst e
 exact I1.fpOk (Tg _) (I1.hok.fresh (Tg _))
def JZ{l:Expr}{tl:TE}(hl:PE X l tl):PI X tg l (OF X.K tl):=by
 intro pins s σ H R I h
 refine cJ (hl pins s σ H _ I h) fun v s1 ⟨x,H1,I1,r1,q1⟩=>?_
 obtain⟨a,e,⟨xs,hq⟩,q⟩:=q1
 subst e
 cases r1
 obtain⟨aR,rv,p,hz⟩:=I1.tuple hq
 refine wpAny_pyIter_tuple (show s1.heap.IsTuple a aR.toArray from p) ?_
 refine⟨s1.heap.objs.size,[s1.heap.objs.size],_,_,H1,rfl,I1.kept (t':=s1.toks) fun b o e=>S_ _ e,zK a _,⟨_,Tt _ rfl,rfl,rfl⟩,fun b hb=>?_,q⟩
 have e:b=s1.heap.objs.size:=by simpa using hb
 subst e
 exact I1.fpOk (Tg _) (I1.hok.fresh (Tg _))
def xS{pins:List (Addr×Obj)}{σ:St}{H:Hp}{s:S7}{R:It->Hp->Prop}{E:Value->S7->Prop}{lo hi:Int}{t u v:Tok}{tk:Nat}(I:Inv X pins σ H s)(h1: -(2 ^ 62)<=lo)(h2:lo<2 ^ 62)(h3: -(2 ^ 62)<=hi)(h4:hi<2 ^ 62)
 (q:R (K2 lo (hi - lo).toNat) H):wpAny (model X.prog X.w) X.A (pyIter (.ref s.heap.objs.size)) (Po X pins σ tg R) E {s with heap:=s.heap.push {cls:= .type "range",data:= .fields #[.int lo t, .int hi u, .int 1 v]},toks:=tk}:=by
 refine wpAny_pyIter_range (IsRange.new ..) (small_one h1 h2 h3 h4) ?_
 have I1:Inv X pins σ H {s with heap:=s.heap.push {cls:= .type "range",data:= .fields #[.int lo t, .int hi u, .int 1 v]},toks:=tk}:=I.kept fun b o e=>S_ _ e
 refine⟨(s.heap.push {cls:= .type "range",data:= .fields #[.int lo t, .int hi u, .int 1 v]}).objs.size,[(s.heap.push {cls:= .type "range",data:= .fields #[.int lo t, .int hi u, .int 1 v]}).objs.size],_,_,H,rfl,
  I1.kept (t':=tk) fun b o e=>S_ _ e,zJ _ lo (hi - lo).toNat,?_,fun b hb=>?_,q⟩
 ·have e1:lo+((0:Nat):Int)*1=lo:=by simp
  have e2:(((hi - lo).toNat:Nat):Int) - ((0:Nat):Int)=Builtin.Range.rangeSize lo hi 1:=by rw[rangeSize_one];split<;>omega
  show IsRangeIter _ _ (lo+((0:Nat):Int)*1) ((((hi - lo).toNat:Nat):Int) - ((0:Nat):Int)) 1
  rw[e1,e2]
  exact Tt _ rfl
 ·have e:b=(s.heap.push {cls:= .type "range",data:= .fields #[.int lo t, .int hi u, .int 1 v]}).objs.size:=by simpa using hb
  subst e
  exact I1.fpOk (Tg _) (I1.hok.fresh (Tg _))
def LZ(ta:TA):TI:=fun σ H R=>ta σ H fun vs H1=>∃j:Int,vs=[.int j]/\ -(2 ^ 62)<=j/\j<2 ^ 62/\R (K2 0 j.toNat) H1
def L4(ta:TA):TI:=fun σ H R=>ta σ H fun vs H1=>∃i j:Int,vs=[.int i, .int j]/\(-(2 ^ 62)<=i/\i<2 ^ 62/\ -(2 ^ 62)<=j/\j<2 ^ 62)/\R (K2 i (j - i).toNat) H1
def BU{a:Expr}{ta:TA}{p pos:Pos}(hg:Gl X "range")(hm:X.mg "range"=none)(ha:PA X [a] ta)(hs:To [a] X.env=[(false,eval a X.env)]:=by rfl):PI X tg (.Call (.Name "range" p) [a] [] pos) (LZ ta):=by
 intro pins s σ H R I h
 refine Call_ (mS I hg hm boot_range (UZ (cJ (ha pos pins s σ H _ I h) fun us s1 ⟨vs,H1,I1,r1,q1⟩=>?_) hs rfl))
 obtain⟨j,e,q1,q2,q⟩:=q1
 subst e
 cases r1 with
 |cons r rr=>
  cases rr
  obtain⟨t,rfl⟩:=r
  exact call_range_1 (xS I1 (by omega) (by omega) q1 q2 (by simpa using q))
def BV{a b:Expr}{ta:TA}{p pos:Pos}(hg:Gl X "range")(hm:X.mg "range"=none)(ha:PA X [a,b] ta)(hs:To [a,b] X.env=[(false,eval a X.env),(false,eval b X.env)]:=by rfl)(FI:To [b] X.env=[(false,eval b X.env)]:=by rfl):
 PI X tg (.Call (.Name "range" p) [a,b] [] pos) (L4 ta):=by
 intro pins s σ H R I h
 refine Call_ (mS I hg hm boot_range (UZ (cJ (ha pos pins s σ H _ I h) fun us s1 ⟨vs,H1,I1,r1,q1⟩=>?_) (by rw[hs,FI]) (by rw[FI];rfl)))
 obtain⟨i,j,e,⟨q1,q2,q3,q4⟩,q⟩:=q1
 subst e
 cases r1 with
 |cons r rr=>
  cases rr with
  |cons r' rr=>
   cases rr
   obtain⟨t,rfl⟩:=r
   obtain⟨t',rfl⟩:=r'
   exact call_range_2 (xS I1 q1 q2 q3 q4 q)
def Pa(wi:TI)(g:TG)(tb:TS):TS:=fun D σ H=>wi σ H fun J H1=>∃W:Nat->Nat->St->Hp->Prop,(∃m,W 0 m σ H1)/\∀i m σ H,W i m σ H->
 (J.stop i H/\D.nx σ H)\/(J.go i H/\∃N:St->Hp->Prop,(∀σ' H',N σ' H'->∃m',m'<m/\W (i+1) m' σ' H')/\∀x H',J.yld i H x H'->g x σ H' fun σ2 H2=>tb {D with nx:=N,ct:=N,bk:=D.nx} σ2 H2)
def qA(fp:List Addr)(h:Heap):List (Addr×Obj):=fp.filterMap fun b=>(h.get? b).map fun o=>(b,o)
def iY{fp:List Addr}{h:Heap}{b:Addr}{o:Obj}(hb:b∈fp)(e:h.get? b=some o):(b,o)∈qA fp h:=Xb.mpr ⟨b,hb,by rw[e];rfl⟩
def BH{fp:List Addr}{h:Heap}{p:Addr×Obj}(hp:p∈qA fp h):p.1∈fp/\h.get? p.1=some p.2:=by
 obtain⟨b,hb,e⟩:=Xb.mp hp
 cases q:h.get? b with
 |none=>rw[q] at e;cases e
 |some o=>
  rw[q] at e
  have e':(b,o)=p:=TF e
  subst e'
  exact⟨hb,q⟩
def Inv.pinned{pins:List (Addr×Obj)}{σ:St}{H:Hp}{s:S7}{fp:List Addr}(I:Inv X pins σ H s)(hf:∀b∈fp,qU X pins H b)(ho:∀b∈fp,∃o,s.heap.get? b=some o/\∀v,o.data≠ .cell v):Inv X (pins++qA fp s.heap) σ H s:=
 I.pins_of fun p hp=>(Ui.mp hp).elim (fun z=>I.pin p (T8 _ z)) fun z=>by
  obtain⟨hb,e⟩:=BH z
  obtain⟨f0,f1,f2,_⟩:=hf p.1 hb
  obtain⟨o,e',d⟩:=ho p.1 hb
  rw[e] at e';cases e'
  exact⟨e,f0,f1,f2,d⟩
def Inv.unpinned{pins pl:List (Addr×Obj)}{σ:St}{H:Hp}{s:S7}(I:Inv X (pins++pl) σ H s):Inv X pins σ H s:=I.pins_of fun p hp=>I.pin p (T8 _ (UW _ hp))
def J1{iter:Expr}{body:List Stmt}{wi:TI}{g:TG}{tb:TS}{pos:Pos}(hp:PassesOwn (model X.prog X.w) X.A X.env X.xe)(hc:X.calm=true)(hi:PI X tg iter wi)(hg:PG X tg g)(hb:PSs X body tb)
 (hs:∀x,WB iter X.env x=pure x:=by intro _;rfl):PS X (.For tg iter body [] pos) (Pa wi g tb):=by
 intro pins s σ H D I h
 refine wpAny_For (cJ (hi pins s σ H _ I h) fun v s1 h1=>cJ h1 fun Qh s2 h2=>?_) hs
 obtain⟨it,fp,tn,J,H2,e,I2,T,HY,f2,W,⟨m0,w0⟩,turn⟩:=h2
 subst e
 have Kn:∀{H':Hp},(∀b∈fp,H' b=none)->∀b∈fp,qU X pins H' b:=fun hn b hb=>⟨hn b hb,(f2 b hb).2⟩
 refine codeAny_forLoop_any (fun n s'=>∃i σ' H',Inv X pins σ' H' s'/\tn i s'.heap/\(∀b∈fp,H' b=none)/\W i n σ' H') ?_ m0 ⟨0,σ,H2,I2,HY,fun b hb=>(f2 b hb).1,w0⟩
 rintro n s3 ⟨i,σ3,H3,I3,HZ,M_,w3⟩
 rcases turn i n σ3 H3 w3 with⟨stop,qn⟩ | ⟨go,N,hN,step⟩
 ·refine Vm hp (cJ (T.done X rfl rfl rfl hc i pins s3 σ3 H3 X.xe I3 (Kn M_) HZ stop) fun r s4 ⟨hr,I4⟩=>?_)
  subst hr
  exact Wa ⟨σ3,H3,I4,qn⟩
 ·refine Vm hp (cJ (T.item X rfl rfl rfl hc i pins s3 σ3 H3 X.xe I3 (Kn M_) HZ go) fun r s4 ⟨u,hr,h4⟩=>?_)
  subst hr
  refine Vm hp (cJ h4 fun _ s5 ⟨x,H5,I5,r5,y5,O5,QP⟩=>?_)
  have I5':=I5.pinned (Kn QP) (T.obj _ _ O5)
  refine Vm hp (cJ (hg _ s5 σ3 H5 x u _ I5' r5 (step x H5 y5)) fun _ s6 ⟨σ6,H6,I6,q6⟩=>?_)
  refine Vm hp (cJ (hb _ s6 σ6 H6 _ I6 q6) fun f s7 q7=>?_)
  have again:∀{σ7:St}{H7:Hp},Inv X (pins++qA fp s5.heap) σ7 H7 s7->N σ7 H7->∃m,m<n/\∃i σ' H',Inv X pins σ' H' s7/\tn i s7.heap/\(∀b∈fp,H' b=none)/\W i m σ' H':=fun {σ7 H7} I7 n7=>by
   obtain⟨m',hm,w7⟩:=hN σ7 H7 n7
   refine⟨m',hm,i+1,σ7,H7,I7.unpinned,T.keep _ _ _ O5 fun b hb o e=>(I7.pin (b,o) (T8 _ (T8 _ (iY hb e)))).1,fun b hb=>?_,w7⟩
   obtain⟨o,e,d⟩:=T.obj _ _ O5 b hb
   exact(I7.pin (b,o) (T8 _ (T8 _ (iY hb e)))).2.1
  cases f with
  |next=>obtain⟨σ7,H7,I7,n7⟩:=q7;exact again I7 n7
  |cont=>obtain⟨σ7,H7,I7,n7⟩:=q7;exact again I7 n7
  |brk=>obtain⟨σ7,H7,I7,q7⟩:=q7;exact⟨σ7,H7,I7.unpinned,q7⟩
  |ret v=>obtain⟨x7,σ7,H7,I7,r7,q7⟩:=q7;exact⟨x7,σ7,H7,I7.unpinned,r7,q7⟩
end
abbrev R2:=V->V->Hp->VK->Prop
def OpR(X:Cx)(f:Value->Value->Sem Value)(r:R2):Prop:=
 ∀(pins:List (Addr×Obj)) (s:S7) (σ:St) (H:Hp) (x y:V) (v u:Value) (Q:VK),Inv X pins σ H s->RelV x v->RelV y u->r x y H Q->
  wpAny (model X.prog X.w) X.A (f v u) (EP X pins σ Q) X.xe s
def NL(X:Cx)(f:Value->Sem Value)(r:V->Hp->VK->Prop):Prop:=
 ∀(pins:List (Addr×Obj)) (s:S7) (σ:St) (H:Hp) (x:V) (v:Value) (Q:VK),Inv X pins σ H s->RelV x v->r x H Q->
  wpAny (model X.prog X.w) X.A (f v) (EP X pins σ Q) X.xe s
def CallR(X:Cx)(f:Value)(r:List V->Hp->VK->Prop):Prop:=
 ∀(pins:List (Addr×Obj)) (s:S7) (σ:St) (H:Hp) (xs:List V) (us:List Value) (Q:VK),Inv X pins σ H s->Vals xs us->r xs H Q->
  wpAny (model X.prog X.w) X.A (call f us) (EP X pins σ Q) X.xe s
def NK(X:Cx)(r:V->Hp->(Bool->Hp->Prop)->Prop):Prop:=
 ∀(pins:List (Addr×Obj)) (s:S7) (σ:St) (H:Hp) (x:V) (v:Value) (Q:Bool->Hp->Prop),Inv X pins σ H s->RelV x v->r x H Q->
  wpAny (model X.prog X.w) X.A (truthy v) (TP X pins σ Q) X.xe s
def MR(r:R2)(ta tb:TE):TE:=fun σ H Q=>ta σ H fun x H1=>tb σ H1 fun y H2=>r x y H2 Q
def Su(r:V->Hp->VK->Prop)(ta:TE):TE:=fun σ H Q=>ta σ H fun x H1=>r x H1 Q
def rI(C:Int->Int->Prop)(g:Int->Int->V):R2:=fun x y H Q=>∃i j,x= .int i/\y= .int j/\C i j/\Q (g i j) H
def BY(g:Int->Int->V):R2:=fun x y H Q=>∃i j,x= .int i/\y= .int j/\Q (g i j) H
def rU(g:Int->V):V->Hp->VK->Prop:=fun x H Q=>∃i,x= .int i/\Q (g i) H
section
variable{X:Cx}{a b:Expr}{ta tb:TE}{pos:Pos}
def Ij(ha:PE X a ta)(hb:PE X b tb){pins:List (Addr×Obj)}{s:S7}{σ:St}{H:Hp}{R:V->V->Hp->Prop}(I:Inv X pins σ H s)
 (h:ta σ H fun x H1=>tb σ H1 fun y H2=>R x y H2){Q:Value->S7->Prop}{f:Value->Value->Sem Value}
 (hf:∀v u s2 x y H2,Inv X pins σ H2 s2->RelV x v->RelV y u->R x y H2->wpAny (model X.prog X.w) X.A (f v u) Q X.xe s2):
 wpAny (model X.prog X.w) X.A (eval a X.env) (fun v s₁=>wpAny (model X.prog X.w) X.A (eval b X.env) (fun u s₂=>wpAny (model X.prog X.w) X.A (f v u) Q X.xe s₂) X.xe s₁) X.xe s:=by
 refine cJ (ha pins s σ H _ I h) fun v s1 ⟨x,H1,I1,r1,q1⟩=>?_
 refine cJ (hb pins s1 σ H1 _ I1 q1) fun u s2 ⟨y,H2,I2,r2,q2⟩=>?_
 exact hf v u s2 x y H2 I2 r1 r2 q2
def Mq{op:Operator}{r:R2}(ho:OpR X (V6 op) r)(ha:PE X a ta)(hb:PE X b tb):PE X (.BinOp a op b pos) (MR r ta tb):=by
 intro pins s σ H Q I h
 exact wpAny_BinOp (Ij ha hb I h fun v u s2 x y H2 I2 rx ry q=>ho pins s2 σ H2 x y v u Q I2 rx ry q)
def Mr{op:UnaryOp}{r:V->Hp->VK->Prop}(ho:NL X (unaryOp op) r)(ha:PE X a ta):PE X (.UnaryOp op a pos) (Su r ta):=by
 intro pins s σ H Q I h
 exact UnaryOp_ (cJ (ha pins s σ H _ I h) fun v s1 ⟨x,H1,I1,r1,q1⟩=>ho pins s1 σ H1 x v Q I1 r1 q1)
def OQ{f:Value->Value->Sem Value}{C:Int->Int->Prop}{g:Int->Int->Int}
 (rule:∀(i j:Int) (t u:Tok) (s:S7) (Q:Value->S7->Prop) (E:Value->S7->Prop),C i j->Q (.int (g i j) s.toks) {s with toks:=s.toks+1}->wpAny (model X.prog X.w) X.A (f (.int i t) (.int j u)) Q E s):
 OpR X f (rI C fun i j=> .int (g i j)):=by
 intro pins s σ H x y v u Q I rx ry h
 obtain⟨i,j,rfl,rfl,hc,q⟩:=h
 obtain⟨t,rfl⟩:=rx
 obtain⟨t',rfl⟩:=ry
 exact rule i j t t' s _ _ hc ⟨.int (g i j),H,I.tok _,⟨_,rfl⟩,q⟩
def Mk{f:Value->Value->Sem Value}{g:Int->Int->Int}
 (rule:∀(i j:Int) (t u:Tok) (s:S7) (Q:Value->S7->Prop) (E:Value->S7->Prop),Q (.int (g i j) s.toks) {s with toks:=s.toks+1}->wpAny (model X.prog X.w) X.A (f (.int i t) (.int j u)) Q E s):
 OpR X f (BY fun i j=> .int (g i j)):=by
 intro pins s σ H x y v u Q I rx ry h
 obtain⟨i,j,rfl,rfl,q⟩:=h
 obtain⟨t,rfl⟩:=rx
 obtain⟨t',rfl⟩:=ry
 exact rule i j t t' s _ _ ⟨.int (g i j),H,I.tok _,⟨_,rfl⟩,q⟩
def Mj{f:Value->Value->Sem Value}{g:Int->Int->Bool}
 (rule:∀(i j:Int) (t u:Tok) (s:S7) (Q:Value->S7->Prop) (E:Value->S7->Prop),Q (.bool (g i j)) s->wpAny (model X.prog X.w) X.A (f (.int i t) (.int j u)) Q E s):
 OpR X f (BY fun i j=> .bl (g i j)):=by
 intro pins s σ H x y v u Q I rx ry h
 obtain⟨i,j,rfl,rfl,q⟩:=h
 obtain⟨t,rfl⟩:=rx
 obtain⟨t',rfl⟩:=ry
 exact rule i j t t' s _ _ ⟨.bl (g i j),H,I,rfl,q⟩
def KZ(i j:Int):Prop:=0<j/\j<1073741824
def CMul(i j:Int):Prop:=(-(2 ^ 64)<i/\i<2 ^ 64)\/(-(2 ^ 64)<j/\j<2 ^ 64)
def CMul.ok{i j:Int}(h:CMul i j):IntMulOk i j:=by
 rcases h with⟨h1,h2⟩ | ⟨h1,h2⟩
 ·exact .of_left (intBits_le_64 h1 h2)
 ·exact .of_right (intBits_le_64 h1 h2)
def Jx:OpR X (V6 .Add) (BY fun i j=> .int (i+j)):=Mk fun _ _ _ _ _ _ _ q=>add_int q
def JF:OpR X (V6 .Sub) (BY fun i j=> .int (i - j)):=Mk fun _ _ _ _ _ _ _ q=>sub_int q
def JD:OpR X (V6 .Mult) (rI CMul fun i j=> .int (i*j)):=OQ fun _ _ _ _ _ _ _ hc q=>mul_int q hc.ok
def Gj:OpR X (V6 .FloorDiv) (rI KZ fun i j=> .int (i / j)):=OQ fun i j _ _ _ _ _ hc q=>by
 have h1:(0:Int)<j:=hc.1
 have h2:j<1073741824:=hc.2
 exact floordiv_int (by omega) (by rw[Int.fdiv_eq_ediv_of_nonneg i (by omega)];exact q) (.inl (PyProof.noPylong_small (by omega)))
def JC:OpR X (V6 .Mod) (rI (fun _ j=>0<j) fun i j=> .int (i % j)):=OQ fun i j _ _ _ _ _ hc q=>by
 have h1:(0:Int)<j:=hc
 exact mod_int' (by omega) (by rw[Int.fmod_eq_emod_of_nonneg i (by omega)];exact q)
def Sz{f:Value->Sem Value}{g:Int->Int}
 (rule:∀(i:Int) (t:Tok) (s:S7) (Q:Value->S7->Prop) (E:Value->S7->Prop),Q (.int (g i) s.toks) {s with toks:=s.toks+1}->wpAny (model X.prog X.w) X.A (f (.int i t)) Q E s):
 NL X f (rU fun i=> .int (g i)):=by
 intro pins s σ H x v Q I rx h
 obtain⟨i,rfl,q⟩:=h
 obtain⟨t,rfl⟩:=rx
 exact rule i t s _ _ ⟨.int (g i),H,I.tok _,⟨_,rfl⟩,q⟩
def Kv:NL X (unaryOp .USub) (rU fun i=> .int (-i)):=Sz fun _ _ _ _ _ q=>neg_int q
end
section
variable{X:Cx}{a b c:Expr}{ta tb tc:TE}{pos:Pos}
def yR{pins:List (Addr×Obj)}{σ:St}{H:Hp}{s:S7}{Q:VK}{k k':Bool}(I:Inv X pins σ H s)(q:Q (.bl k) H)(e:k=k'):EP X pins σ Q (.bool k') s:=by
 subst e
 exact⟨.bl k,H,I,rfl,q⟩
def xE:OpR X (Ua .Lt) (BY fun i j=> .bl (decide (i<j))):=Mj fun _ _ _ _ _ _ _ q=>lt_int q
def n4:OpR X (Ua .LtE) (BY fun i j=> .bl (decide (i<=j))):=Mj fun _ _ _ _ _ _ _ q=>le_int q
def BL:OpR X (Ua .In) (fun x y H Q=>∃i j,x= .str i/\y= .str j/\Q (.bl (!(Vn j i 0 j.length 1).isEmpty)) H):=by
 intro pins s σ H x y v u Q I rx ry h
 obtain⟨i,j,rfl,rfl,q⟩:=h
 obtain⟨t,rfl⟩:=rx
 obtain⟨t',rfl⟩:=ry
 exact in_str (yR I q rfl)
def JA:OpR X (Ua .Is) (fun x y H Q=>y= .non/\Q (.bl (decide (x= .non))) H):=by
 intro pins s σ H x y v u Q I rx ry h
 obtain⟨rfl,q⟩:=h
 cases ry
 refine is_none_gen (yR I q ?_)
 cases x<;>first
  |(cases rx;rfl)
  |(obtain ⟨t,rfl⟩:=rx;rfl)
def Ax:OpR X (Ua .IsNot) (fun x y H Q=>y= .non/\Q (.bl (!decide (x= .non))) H):=by
 intro pins s σ H x y v u Q I rx ry h
 obtain⟨rfl,q⟩:=h
 cases ry
 refine isnot_none_gen (yR I q ?_)
 cases x<;>first
  |(cases rx;rfl)
  |(obtain ⟨t,rfl⟩:=rx;rfl)
def OpR.or{f:Value->Value->Sem Value}{r r':R2}(h:OpR X f r)(h':OpR X f r'):OpR X f (fun x y H Q=>r x y H Q\/r' x y H Q):=by
 intro pins s σ H x y v u Q I rx ry q
 rcases q with q | q
 ·exact h pins s σ H x y v u Q I rx ry q
 ·exact h' pins s σ H x y v u Q I rx ry q
def DH(b:Expr){op:CmpOp}(h:op≠ .In:=by decide)(h2:op≠ .NotIn:=by decide):Ug op b=false:=by
 have e1:(op==CmpOp.In)=false:=by cases op<;>first | rfl | exact absurd rfl h
 have e2:(op==CmpOp.NotIn)=false:=by cases op<;>first | rfl | exact absurd rfl h2
 cases b<;>simp[Ug,e1,e2]
def GI{op:CmpOp}{r:R2}(ho:OpR X (Ua op) r)(ha:PE X a ta)(hb:PE X b tb)(hm:Ug op b=false):PE X (.Compare a [op] [b] pos) (MR r ta tb):=by
 intro pins s σ H Q I h
 exact wpAny_Compare1 (Ij ha hb I h fun v u s2 x y H2 I2 rx ry q=>ho pins s2 σ H2 x y v u Q I2 rx ry q) hm
def H_(t:TE):TT:=fun σ H Q=>t σ H fun x H'=>∃k,x= .bl k/\Q k H'
def GW{op:CmpOp}{r:R2}(ho:OpR X (Ua op) r)(ha:PE X a ta)(hb:PE X b tb)(hm:Ug op b=false):PT X (.Compare a [op] [b] pos) (H_ (MR r ta tb)):=by
 intro pins s σ H Q I h
 refine wpAny_isTrue_Compare1 (cJ (ha pins s σ H _ I h) fun v s1 ⟨x,H1,I1,r1,q1⟩=>cJ (hb pins s1 σ H1 _ I1 q1) fun u s2 ⟨y,H2,I2,r2,q2⟩=>
  cJ (ho pins s2 σ H2 x y v u _ I2 r1 r2 q2) fun c s3 ⟨z,H3,I3,r3,k,e,q3⟩=>?_) hm
 subst e
 cases r3
 exact UD ⟨H3,I3,q3⟩
def zF(r r':R2)(ta tb tc:TE):TE:=fun σ H Q=>ta σ H fun x H1=>tb σ H1 fun y H2=>r x y H2 fun z H3=>∃k,z= .bl k/\
 (if k=true then tc σ H3 fun w' H4=>r' y w' H4 Q else Q (.bl false) H3)
def D8{op zm:CmpOp}{r r':R2}(ho:OpR X (Ua op) r)(lM:OpR X (Ua zm) r')(ha:PE X a ta)(hb:PE X b tb)(hc:PE X c tc)
 (hm:lastMarks [op,zm] [b,c]=false:=by with_unfolding_all rfl):PE X (.Compare a [op,zm] [b,c] pos) (zF r r' ta tb tc):=by
 intro pins s σ H Q I h
 refine Compare_chain (cJ (ha pins s σ H _ I h) fun v s1 ⟨x,H1,I1,r1,q1⟩=>chain_link (cJ (hb pins s1 σ H1 _ I1 q1) fun u s2 ⟨y,H2,I2,r2,q2⟩=>
  cJ (ho pins s2 σ H2 x y v u _ I2 r1 r2 q2) fun d s3 ⟨z,H3,I3,r3,k,e,q3⟩=>?_)) hm
 subst e
 cases r3
 refine UD ?_
 cases k with
 |false=>exact ite_ff ⟨.bl false,H3,I3,rfl,q3⟩
 |true=>exact ite_tt (chain_last (cJ (hc pins s3 σ H3 _ I3 q3) fun w' s4 ⟨z',H4,I4,r4,q4⟩=>lM pins s4 σ H4 y z' u w' Q I4 r2 r4 q4))
def El{op zm:CmpOp}{r r':R2}(ho:OpR X (Ua op) r)(lM:OpR X (Ua zm) r')(ha:PE X a ta)(hb:PE X b tb)(hc:PE X c tc)
 (hm:lastMarks [op,zm] [b,c]=false:=by with_unfolding_all rfl):PT X (.Compare a [op,zm] [b,c] pos) (H_ (zF r r' ta tb tc)):=by
 intro pins s σ H Q I h
 refine isTrue_chain (cJ (ha pins s σ H _ I h) fun v s1 ⟨x,H1,I1,r1,q1⟩=>test_link (cJ (hb pins s1 σ H1 _ I1 q1) fun u s2 ⟨y,H2,I2,r2,q2⟩=>
  cJ (ho pins s2 σ H2 x y v u _ I2 r1 r2 q2) fun d s3 ⟨z,H3,I3,r3,k,e,q3⟩=>?_)) hm
 subst e
 cases r3
 refine UD ?_
 cases k with
 |false=>
  obtain⟨k',e',q'⟩:=q3
  cases e'
  exact ite_ff ⟨H3,I3,q'⟩
 |true=>
  refine ite_tt (test_last (cJ (hc pins s3 σ H3 _ I3 q3) fun w' s4 ⟨z',H4,I4,r4,q4⟩=>cJ (lM pins s4 σ H4 y z' u w' _ I4 r2 r4 q4) fun d' s5 ⟨z2,H5,I5,r5,k2,e2,q5⟩=>?_))
  subst e2
  cases r5
  exact UD ⟨H5,I5,q5⟩
def K6(K:Tc)(x:V)(H:Hp)(k:Bool):Prop:=
 match x with
 | .non=>k=false
 | .bl b=>k=b
 | .int i=>k=(i !=0)
 | .str y=>y.length<=Tz/\k=((y.length:Int) !=0)
 | .byt y=>y.size<=Tz/\k=((y.size:Int) !=0)
 | .ref p=>(∃xs,SqL K H p xs/\k=!xs.isEmpty)\/(∃xs,SqT K H p xs/\k=!xs.isEmpty)\/∃aK,H p=some (.dK aK)/\k=!aK.isEmpty
 |_=>False
def yZ{κ:Type}{aK:List (κ×V)}{vs:List (κ×Value)}(r:KV aK vs):(!vs.isEmpty)=!aK.isEmpty:=by
 cases r<;>rfl
def pR{xs:List V}{aR:List Value}(r:Vals xs aR):(!aR.toArray.isEmpty)=!xs.isEmpty:=by
 cases r<;>simp
def mT:(Tz:Nat)<2 ^ 63:=by rw[VE];decide
def Kt:NK X (fun x H Q=>∃k,K6 X.K x H k/\Q k H):=by
 intro pins s σ H x v Q I rx h
 obtain⟨k,e,q⟩:=h
 have hl:=mT
 have hs:Tz=16777216:=VE
 cases x with
 |non=>
  cases rx
  have e':k=false:=e
  subst e'
  exact truthy_none ⟨H,I,q⟩
 |bl b=>
  cases rx
  have e':k=b:=e
  subst e'
  exact UD ⟨H,I,q⟩
 |int i=>
  obtain⟨t,rfl⟩:=rx
  have e':k=(i !=0):=e
  subst e'
  exact PySem.P.truthy_int ⟨H,I,q⟩
 |str y=>
  obtain⟨t,rfl⟩:=rx
  obtain⟨hy,e'⟩:y.length<=Tz/\k=((y.length:Int) !=0):=e
  subst e'
  exact PySem.P.truthy_str (by omega) ⟨H,I.tok _,q⟩
 |byt y=>
  obtain⟨t,rfl⟩:=rx
  obtain⟨hy,e'⟩:y.size<=Tz/\k=((y.size:Int) !=0):=e
  subst e'
  exact PySem.W.truthy_bytes (by omega) ⟨H,I.tok _,q⟩
 |ref p=>
  cases rx
  have e':(∃xs,SqL X.K H p xs/\k=!xs.isEmpty)\/(∃xs,SqT X.K H p xs/\k=!xs.isEmpty)\/∃aK,H p=some (.dK aK)/\k=!aK.isEmpty:=e
  rcases e' with⟨xs,hx,e'⟩ | ⟨xs,hx,e'⟩ | ⟨aK,hx,e'⟩
  ·subst e'
   obtain⟨aR,r,pl,hz⟩:=I.list hx
   have hlen:=r.length
   exact wpAny_truthy_list pl.isList (by simp only[Td];omega) ⟨H,I.tok _,by rw[pR r];exact q⟩
  ·subst e'
   obtain⟨aR,r,pl,hz⟩:=I.tuple hx
   have hlen:=r.length
   exact truthy_tuple pl (by simp only[Td];omega) ⟨H,I.tok _,by rw[pR r];exact q⟩
  ·subst e'
   obtain⟨hz,hS,vs,r,m⟩:aK.length<=Tz/\(p==UI)=false/\∃vs,KV aK vs/\s.heap.DictOf (bK X.prog X.w) p vs:=I.hok p _ hx
   have hlen:aK.length=vs.length:=Vw r
   exact wpAny_truthy_dict hS m (by omega) ⟨H,I.tok _,by rw[yZ r];exact q⟩
 |_=>exact(show False from e).elim
def Em(ha:PE X a ta)(he:∀whole,isTrue a X.env whole=(do let v<-whole;standAt a.pos;holding [v] (truthy v))):
 PT X a (fun σ H Q=>ta σ H fun x H'=>∃k,K6 X.K x H' k/\Q k H'):=by
 intro pins s σ H Q I h
 exact isTrue_plain (cJ (ha pins s σ H _ I h) fun v s1 ⟨x,H1,I1,r1,q1⟩=>Kt pins s1 σ H1 x v Q I1 r1 q1) (he _)
def vals1{x:V}{us:List Value}(r:Vals [x] us):∃u,us=[u]/\RelV x u:=by
 cases r with
 |cons r1 r2=>cases r2;exact⟨_,rfl,r1⟩
def vals2{x y:V}{us:List Value}(r:Vals [x,y] us):∃u w',us=[u,w']/\RelV x u/\RelV y w':=by
 cases r with
 |cons r1 r2=>
  cases r2 with
  |cons r3 r4=>cases r4;exact⟨_,_,rfl,r1,r3⟩
def Cy:CallR X (.builtin "abs") (fun xs H Q=>∃i,xs=[.int i]/\Q (.int (if i<0 then -i else i)) H):=by
 intro pins s σ H xs us Q I r h
 obtain⟨i,rfl,q⟩:=h
 obtain⟨u,rfl,t,rfl⟩:=vals1 r
 exact call_abs_int fun u tk=>⟨.int (if i<0 then -i else i),H,I.tok _,⟨_,rfl⟩,q⟩
def A2(hc:X.calm=true):CallR X (.builtin "max") (fun xs H Q=>∃i j,xs=[.int i, .int j]/\Q (.int (if j>i then j else i)) H):=by
 intro pins s σ H xs us Q I r h
 obtain⟨i,j,rfl,q⟩:=h
 obtain⟨u,w',rfl,⟨t,rfl⟩,⟨t',rfl⟩⟩:=vals2 r
 refine max_two_ints (I.ok.hd hc) fun h' tk k=>⟨_,H,I.kept k,?_,q⟩
 by_cases hj:j>i
 ·rw[if_pos hj,if_pos hj];exact⟨_,rfl⟩
 ·rw[if_neg hj,if_neg hj];exact⟨_,rfl⟩
def A3(hc:X.calm=true):CallR X (.builtin "min") (fun xs H Q=>∃i j,xs=[.int i, .int j]/\Q (.int (if j<i then j else i)) H):=by
 intro pins s σ H xs us Q I r h
 obtain⟨i,j,rfl,q⟩:=h
 obtain⟨u,w',rfl,⟨t,rfl⟩,⟨t',rfl⟩⟩:=vals2 r
 refine min_two_ints (I.ok.hd hc) fun h' tk k=>⟨_,H,I.kept k,?_,q⟩
 by_cases hj:j<i
 ·rw[if_pos hj,if_pos hj];exact⟨_,rfl⟩
 ·rw[if_neg hj,if_neg hj];exact⟨_,rfl⟩
end
structure ObjM (h:Heap) (x dx C:Addr) (mA:Str->Option Value):Prop where
 obj:h.get? x=some (Xo C dx)
 ns:h.Ns1 dx mA
 ne:dx≠x
def BB{h:Heap}{dx:Addr}{mA:Str->Option Value}(n:h.Ns1 dx mA):∃od,h.get? dx=some od/\∀name,Xz name od=some (mA name):=by
 obtain⟨o,es,ep,ho,hd,hk,_,hm⟩:=n
 refine⟨o,ho,fun name=>?_⟩
 have e:=hm name
 unfold nsFind findBy at e
 rw[<-Array.find?_toList] at e
 unfold Xz
 rw[hd]
 dsimp only
 split
 ·rename_i y q
  rw[q] at e
  exact congrArg some e
 ·rename_i q
  rw[q] at e
  have a:es.toList.any (·.refKey)=false:=by
   rw[Wh]
   intro y hy
   obtain⟨z,t,Oc⟩:=hk y (Array.mem_toList_iff.mp hy)
   simp[DictEntry.refKey,Oc]
  have a':¬es.toList.any (·.refKey)=true:=by rw[a];exact TN
  rw[if_neg a']
  exact congrArg some e
def ObjM.look{h:Heap}{x dx C:Addr}{mA:Str->Option Value}(I:ObjM h x dx C mA):∃od,PySem.W.InstAt h x (Xo C dx) C (some od)/\∀name,Xz name od=some (mA name):=
 let ⟨od,ho,hl⟩:=BB I.ns
 ⟨od,⟨I.obj,rfl,rfl,ho⟩,hl⟩
def RelO.some_of{v:V}{o:Option Value}(r:RelO (some v) o):∃u,o=some u/\RelV v u:=by
 cases o with
 |none=>exact(show False from r).elim
 |some u=>exact⟨u,rfl,r⟩
section
variable{P:TM}{w:World}{H:Hp}{h:Heap}{a C dx:Addr}{fs:List (Str×V)}
def FL(hok:HOk P w H h)(e:H a=some (.ins C dx fs)):∃mA,ObjM h a dx C mA/\(∀f,RelO (fs.lookup f) (mA f))/\PySem.Within mA (fs.map (·.1))/\fs.length<=1000/\H dx=some (.own a):=by
 obtain⟨d,z,ne,ob,mA,n,r,q⟩:=(show ObjOk P w H h a (.ins C dx fs) from hok a _ e)
 exact⟨mA,⟨ob,n,ne⟩,r,q,z,d⟩
end
structure Cls (K:Tc) (C:Addr):Prop where
 pg:YX K C Str.empty=true
 hd:PySem.W.hasDictIn K C=true
 po:PySem.W.plainOver K C=true
 sa:Uy K (.ref C) "__setattr__"=some (some (.builtin "object.__setattr__"))
def Cls.get{K:Tc}{C:Addr}(c:Cls K C)(f:Str):YX K C f=true:=c.pg
section
variable{X:Cx}{pins:List (Addr×Obj)}{σ:St}{H:Hp}{s:S7}{A:TY}{E:Value->S7->Prop}{Q:Value->S7->Prop}{c:Value}{b:Bool}
inductive TyOf (K:Tc) (H:Hp):V->Value->Prop where
 |non:TyOf K H .non (.type "NoneType")
 |bl (x:Bool):TyOf K H (.bl x) (.type "bool")
 |int (i:Int):TyOf K H (.int i) (.type "int")
 |str (x:Str):TyOf K H (.str x) (.type "str")
 |flt (x:UInt64):TyOf K H (.flt x) (.type "float")
 |lst {a:Addr}{xs:List V}(e:H a=some (.lst xs)):TyOf K H (.ref a) (.type "list")
 |frz {a:Addr}{o:Obj}{xs:List V}(e:H a=some (.frz o (.lst xs))):TyOf K H (.ref a) (.type "list")
 |tup {a:Addr}{xs:List V}(e:H a=some (.tup xs)):TyOf K H (.ref a) (.type "tuple")
 |dK {a:Addr}{aK:List (Key×V)}(e:H a=some (.dK aK)):TyOf K H (.ref a) (.type "dict")
 |dT {a:Addr}{aK:List (List Key×V)}(e:H a=some (.dT aK)):TyOf K H (.ref a) (.type "dict")
 |ins {a C dx:Addr}{fs:List (Str×V)}(e:H a=some (.ins C dx fs)) (cl:Cls K C) (ha:Uy K (.ref C) "__class__"=some (some (.builtin "object.__class__")))
   (hn:PySem.W.specialIn K (.builtin "object.__class__") "__get__"=some (some (.builtin "getset_descriptor.__get__"))) (P9:PySem.W.takesIn K (.builtin "object.__class__")=some true)
   (hm:Vt K C (.type "object")=some true):TyOf K H (.ref a) (.ref C)
def Bp{x:V}{u t:Value}(I:Inv X pins σ H s)(rx:RelV x u)(ty:TyOf X.K H x t)(e:Tp X.K t c=some b)(h:∀tk,Q (.bool b) {s with toks:=tk}):
 wpAny (model X.prog X.w) A (call (.builtin "isinstance") [u,c]) Q E s:=by
 cases ty with
 |non=>cases (show u=Us from rx);exact Ul PySem.W.kitx_none I.kIn UB e (fun z=>nomatch z) h
 |bl y=>cases (show u=U3 y from rx);exact Ul PySem.W.kitx_bool I.kIn UB e (fun z=>nomatch z) h
 |int i=>obtain⟨t,q⟩:=(show∃t,u=Yv i t from rx);cases q;exact Ul PySem.W.kitx_int I.kIn UB e (fun z=>nomatch z) h
 |str y=>obtain⟨t,q⟩:=(show∃t,u=Yu y t from rx);cases q;exact Ul PySem.W.kitx_str I.kIn UB e (fun z=>nomatch z) h
 |flt y=>obtain⟨t,q⟩:=(show∃t,u=Value.float y t from rx);cases q;exact Ul PySem.W.kitx_float I.kIn UB e (fun z=>nomatch z) h
 | @lst a xs ea=>
   cases (show u=TV a from rx)
   obtain⟨_,_,n,_,h1⟩:=(show ObjOk X.prog X.w H s.heap a (.lst xs) from I.hok a _ ea)
   exact Ul YL I.kIn ⟨_,h1,rfl⟩ e (fun z=>nomatch z) h
 | @frz a ob xs ea=>
   cases (show u=TV a from rx)
   obtain⟨_,_,_,n,_,h1⟩:=(show ObjOk X.prog X.w H s.heap a (.frz ob (.lst xs)) from I.hok a _ ea)
   exact Ul YL I.kIn ⟨_,h1,rfl⟩ e (fun z=>nomatch z) h
 | @tup a xs ea=>
   cases (show u=TV a from rx)
   obtain⟨_,_,_,p⟩:=(show ObjOk X.prog X.w H s.heap a (.tup xs) from I.hok a _ ea)
   obtain⟨o,h1,h2,_⟩:=p
   exact Ul PySem.W.kitx_tuple I.kIn ⟨o,h1,h2⟩ e (fun z=>nomatch z) h
 | @dK a aK ea=>
   cases (show u=TV a from rx)
   obtain⟨_,_,vs,_,p⟩:=(show ObjOk X.prog X.w H s.heap a (.dK aK) from I.hok a _ ea)
   obtain⟨o,es,ep,h1,h2,_⟩:=p
   exact Ul YM I.kIn ⟨o,h1,h2.1⟩ e (fun z=>nomatch z) h
 | @dT a aK ea=>
   cases (show u=TV a from rx)
   obtain⟨_,_,xs,_,o,es,ep,h1,h2,_⟩:=(show ObjOk X.prog X.w H s.heap a (.dT aK) from I.hok a _ ea)
   exact Ul YM I.kIn ⟨o,h1,h2.1⟩ e (fun z=>nomatch z) h
 | @ins a C dx fs ea cl ha hn P9 hm=>
   cases (show u=TV a from rx)
   obtain⟨mA,O,_⟩:=FL I.hok ea
   obtain⟨od,J,_⟩:=O.look
   exact Ul (PySem.W.kitx_own (cl.get _) cl.hd ha hn P9 hm) I.kIn J e (fun z=>nomatch z) h
end
structure Room (k:Nat) (A:TY):Prop where
 hd:A.handled=none
 dp:A.depth+3*k+5<Xh
 un:A.units+16*k+200<cLine
def Room.mono{j k:Nat}{A:TY}(r:Room k A)(h:j<=k):Room j A:=⟨r.hd,by have:=r.dp;omega,by have:=r.un;omega⟩
def Room.deeper{k:Nat}{A:TY}(r:Room (k+1) A)(env:Env):Room k (A.deeper env):=
 ⟨r.hd,by have:=r.dp;show A.depth+1+3*k+5<_;omega,by have:=r.un;show A.units+3+16*k+200<_;omega⟩
def Room.depth{k:Nat}{A:TY}(r:Room k A):A.depth<Xh:=by have:=r.dp;omega
def Room.units{k:Nat}{A:TY}(r:Room k A):A.units+64<cLine:=by have:=r.un;omega
def MP:TA:=fun _ H Q=>Q [] H
def H0(ta:TE)(tr:TA):TA:=fun σ H Q=>ta σ H fun x H1=>tr σ H1 fun xs H2=>Q (x::xs) H2
section
variable{X:Cx}{e:Expr}{es:List Expr}{te:TE}{t:TA}{pos:Pos}
def uZ:PA X [] MP:=fun _ _ _ _ H Q I h=>Xf ⟨[],H,I, .nil,h⟩
def o3(ha:PE X e te)(hr:PA X es t)(hs:To (e::es) X.env=(false,eval e X.env)::To es X.env:=by rfl):PA X (e::es) (H0 te t):=by
 intro pos pins s σ H Q I h
 rw[hs]
 show wpAny _ _ (spliced ((false,eval e X.env)::UH pos (To es X.env))) _ _ s
 refine V4 (cJ (ha pins s σ H _ I h) fun u s1 ⟨x,H1,I1,r1,q1⟩=>?_)
 exact cJ (hr pos pins s1 σ H1 _ I1 q1) fun us s2 ⟨xs,H2,I2,r2,q2⟩=>⟨x::xs,H2,I2, .cons r1 r2,q2⟩
def Pg(t:TA):TE:=fun σ H Q=>t σ H fun xs H1=>xs.length<=Tz/\∀p,H1 p=none->Q (.ref p) (upd H1 p (.tup xs))
def Pc(t:TA):TE:=fun σ H Q=>t σ H fun xs H1=>xs.length<=Tz/\∀p,H1 p=none->Q (.ref p) (upd H1 p (.lst xs))
def JW{x1}(h:PA X es t):PE X (.Tuple es x1 pos) (Pg t):=by
 intro pins s σ H Q I hq
 refine wpAny_Tuple_spliced (cJ (h pos pins s σ H _ I hq) fun us s1 ⟨xs,H1,I1,r,z,q⟩=>⟨by rw[<-r.length];exact z,?_⟩)
 have hf:H1 s1.heap.objs.size=none:=I1.hok.fresh (Tg _)
 refine⟨.ref s1.heap.objs.size,upd H1 s1.heap.objs.size (.tup xs),I1.laid (t':=s1.toks) (fun b u e=>S_ _ e) (Tg _) ?_,rfl,q _ hf⟩
 exact⟨z,us,r,⟨_,Tt _ rfl,rfl,_,rfl⟩⟩
def ve(h:PA X es t):PE X (.List es pos) (Pc t):=by
 intro pins s σ H Q I hq
 refine wpAny_List_spliced (cJ (h pos pins s σ H _ I hq) fun us s1 ⟨xs,H1,I1,r,z,q⟩=>⟨by rw[<-r.length];exact z,?_⟩)
 have hf:H1 s1.heap.objs.size=none:=I1.hok.fresh (Tg _)
 refine⟨.ref s1.heap.objs.size,upd H1 s1.heap.objs.size (.lst xs),I1.laid (t':=s1.toks) (fun b u e=>S_ _ e) (Tg _) ?_,rfl,q _ hf⟩
 exact⟨z,us,0,r,Tt _ rfl⟩
end
abbrev Sp:=List V->Hp->VK->XK->Prop
abbrev zR:=List Env->Hp->S7->XK->Value->S7->Prop
structure Env0 (P:TM) (w:World) (K:Tc) (mg:Str->Option Value) (base:Heap) (A:TY) (outer:List Env) (s:S7) (H:Hp):Prop where
 frames:A.frames=some outer
 mod:Mod K mg base
 bs:∀b o,base.get? b=some o->s.heap.get? b=some o/\H b=none
 bsz:base.objs.size<=s.heap.objs.size
 funs:s.heap.FunFrames base outer
 frf:∀b∈hZ outer,H b=none
 hok:HOk P w H s.heap
 bare:W9 s.gens
def CE(outer:List Env)(P:TM)(w:World)(H:Hp)(s:S7)(Q:VK)(u:Value)(s':S7):Prop:=
 ∃v H',s'.os=s.os/\W9 s'.gens/\Un (hZ outer) [] H H' s.heap s'.heap/\HOk P w H' s'.heap/\RelV v u/\Q v H'
def CR(CX:zR)(outer:List Env)(P:TM)(w:World)(H:Hp)(s:S7)(Q:VK)(E:XK)(r:Result)(s':S7):Prop:=
 match r with
 | .ok (.ret u)=>CE outer P w H s Q u s'
 | .ok _=>False
 | .error e=>CX outer H s E e s'
structure FnOk (P:TM) (w:World) (K:Tc) (mg:Str->Option Value) (base:Heap) (CX:zR) (k:Nat) (f:Addr) (fd:U1) (ps:List Str) (sp:Sp):Prop where
 len:∀vs H Q E,sp vs H Q E->vs.length=ps.length
 run:∀(A:TY) (outer:List Env) (s:S7) (H:Hp) (args:Args) (us:List Value) (vs:List V) (Q:VK) (E:XK),Room k A->Env0 P w K mg base A outer s H->YD s fd args (ps.zip us)->Vals vs us->sp vs H Q E->
  Wc (model P w) A (.call (.ref f) args) (CR CX outer P w H s Q E) s
def FnOk.mono{P:TM}{w:World}{K:Tc}{mg:Str->Option Value}{base:Heap}{CX:zR}{j k:Nat}{f:Addr}{fd:U1}{ps:List Str}{sp:Sp}(F:FnOk P w K mg base CX j f fd ps sp)(h:j<=k):
 FnOk P w K mg base CX k f fd ps sp:=⟨F.len,fun A outer s H args us vs Q E hr=>F.run A outer s H args us vs Q E (hr.mono h)⟩
section
variable{X:Cx}{pins:List (Addr×Obj)}{σ:St}{H:Hp}{s s':S7}
def Inv.env0(I:Inv X pins σ H s):Env0 X.prog X.w X.K X.mg X.base X.A X.stack s H:=
 ⟨I.ok.frames,I.ok.mod,I.bs,Tw I.ok.bsz I.sz,I.stack,I.stkFree,I.hok,I.bare⟩
def Inv.after{Q:VK}{u:Value}(I:Inv X pins σ H s)(h:CE X.stack X.prog X.w H s Q u s'):EP X pins σ Q u s':=by
 obtain⟨v,H',os,bare,un,hok,r,q⟩:=h
 obtain⟨hh,g,d,t,Sd⟩:=s'
 obtain rfl:Sd=s.os:=os
 exact⟨v,H',I.call (h':=hh) (g':=g) (d':=d) (t':=t) (ch:=[]) un hok bare (fun b z=>absurd z (by simp)),r,q⟩
end
def MM(sp:Sp)(Hr:List V)(E:XK)(t:TA):TE:=fun σ H Q=>t σ H fun vs H1=>sp (vs++Hr) H1 Q E
def Binds(K:Tc)(fd:U1)(ps:List Str)(ds:List Value):Prop:=
 ∀(s:S7) (us:List Value),K.In s.heap->(us++ds).length=ps.length->YD s fd ⟨us,[]⟩ (ps.zip (us++ds))
def Binds.all{K:Tc}{fd:U1}{ps:List Str}(h:∀us:List Value,us.length=ps.length->bindArgs fd ⟨us,[]⟩=pure (ps.zip us)):Binds K fd ps []:=fun s us _ hl=>by
 rw[T9] at hl⊢
 exact .of_eq (h us hl)
def Passes(CX:zR)(X:Cx)(E:XK):Prop:=∀(pins:List (Addr×Obj)) (σ:St) (H:Hp) (s:S7) (e:Value) (s':S7),Inv X pins σ H s->CX X.stack H s E e s'->X.xe e s'
section
variable{X:Cx}{CX:zR}{k:Nat}{f:Addr}{fd:U1}{ps:List Str}{sp:Sp}{Hr:List V}{ds:List Value}{E:XK}{x:Str}{p pos:Pos}{e:Expr}{es:List Expr}{t:TA}
def Ex{pins:List (Addr×Obj)}{σ:St}{H:Hp}{s:S7}{Q:VK}{us:List Value}{vs:List V}(F:FnOk X.prog X.w X.K X.mg X.base CX k f fd ps sp)(hr:Room k X.A)(hb:Binds X.K fd ps ds)(hd:Vals Hr ds)(hx:Passes CX X E)
 (I:Inv X pins σ H s)(r:Vals vs us)(h:sp (vs++Hr) H Q E):wpAny (model X.prog X.w) X.A (call (.ref f) us) (EP X pins σ Q) X.xe s:=by
 have r2:Vals (vs++Hr) (us++ds):=r.append hd
 have hl:(us++ds).length=ps.length:=by rw[<-r2.length];exact F.len _ _ _ _ h
 refine wpAny_call (X7 (F.run X.A X.stack s H ⟨us,[]⟩ (us++ds) (vs++Hr) Q E hr I.env0 (hb s us I.kIn hl) r2 h) fun r s' hq=>?_)
 cases r with
 |error e=>exact hx pins σ H s e s' I hq
 |ok fl=>
  cases fl with
  |ret u=>exact I.after hq
  |next=>exact Uz hq
  |brk=>exact Uz hq
  |cont=>exact Uz hq
def GH(F:FnOk X.prog X.w X.K X.mg X.base CX k f fd ps sp)(hr:Room k X.A)(hg:Gl X x)(hm:X.mg x=some (.ref f))(hk:Ux X.K (.ref f)=true)(hb:Binds X.K fd ps ds)(hd:Vals Hr ds)(hx:Passes CX X E)
 (ha:PA X (e::es) t)(kX:(x==("__debug__":Str))=false:=by decide)(he:To (e::es) X.env=(false,eval e X.env)::To es X.env:=by rfl)(kf:(UH pos (To es X.env)).any (·.1)=false:=by rfl):
 PE X (.Call (.Name x p) (e::es) [] pos) (MM sp Hr E t):=by
 intro pins s σ H Q I h
 refine Wm (lT I hg hm ?_ kX)
 refine WQ (h₀:=X.base) I.ok.mod.kin hk (cJ (ha pos pins s σ H _ I h) fun us s1 ⟨vs,H1,I1,r,q⟩=>⟨I1.kIn,?_⟩) he kf
 exact Ex F hr hb hd hx I1 r q
end
section
variable{ks:List Str}
end
structure FnScope (N P:List Str) (sc:Scope):Prop where
 kind:sc.kind= .function
 co:sc.isCoroutine=false
 gen:sc.isGenerator=false
 nd:N.Nodup
 pre:N.take P.length=P
 par:∀x∈P,sc.names.lookup x=some .local\/sc.names.lookup x=some .cell
 nofree:∀y∈sc.names,y.2≠ .free
def rW{WO:Str->Option Wn}{x:Str}:∀{binds:List (Str×Value)}{m:Str->Option Value},(∀v,(x,v)∉binds)->bindL WO binds m x=m x
 |[],_,_=>rfl
 |(n,v)::r,m,h=>by
  unfold bindL
  rw[rW fun w hw=>h w (S9 _ hw)]
  split
  ·have:x≠n:=by rintro rfl;exact h v Ta
   simp[this]
  ·rfl
def rT{WO:Str->Option Wn}{x:Str}:∀{binds:List (Str×Value)}{m:Str->Option Value},(∀v,(x,v)∉binds)->bindC WO binds m x=m x
 |[],_,_=>rfl
 |(n,v)::r,m,h=>by
  unfold bindC
  rw[rT fun w hw=>h w (S9 _ hw)]
  split
  ·rfl
  ·have:x≠n:=by rintro rfl;exact h v Ta
   simp[this]
def rV{WO:Str->Option Wn}{x:Str}{v:Value}:∀{P:List Str}{vs:List Value}{i:Nat}{m:Str->Option Value},P.Nodup->P[i]? =some x->vs[i]? =some v->WO x=some .local->
 bindL WO (P.zip vs) m x=some v
 |[],_,_,_,_,h,_,_=>by simp at h
 |_::_,[],_,_,_,_,h,_=>by simp at h
 |p::P,w::vs,0,m,nd,h1,h2,hk=>by
  simp at h1 h2;subst h1;subst h2
  show bindL WO ((p,w)::P.zip vs) m p=_
  unfold bindL
  rw[rW fun v hv=>(Vc.mp nd).1 (VB hv).1,if_pos hk]
  simp
 |p::P,w::vs,i+1,m,nd,h1,h2,hk=>by
  show bindL WO ((p,w)::P.zip vs) m x=_
  unfold bindL
  exact rV (i:=i) (Vc.mp nd).2 (by simpa using h1) (by simpa using h2) hk
def rS{WO:Str->Option Wn}{x:Str}{v:Value}:∀{P:List Str}{vs:List Value}{i:Nat}{m:Str->Option Value},P.Nodup->P[i]? =some x->vs[i]? =some v->WO x≠some .local->
 bindC WO (P.zip vs) m x=some v
 |[],_,_,_,_,h,_,_=>by simp at h
 |_::_,[],_,_,_,_,h,_=>by simp at h
 |p::P,w::vs,0,m,nd,h1,h2,hk=>by
  simp at h1 h2;subst h1;subst h2
  show bindC WO ((p,w)::P.zip vs) m p=_
  unfold bindC
  rw[rT fun v hv=>(Vc.mp nd).1 (VB hv).1,if_neg hk]
  simp
 |p::P,w::vs,i+1,m,nd,h1,h2,hk=>by
  show bindC WO ((p,w)::P.zip vs) m x=_
  unfold bindC
  exact rS (i:=i) (Vc.mp nd).2 (by simpa using h1) (by simpa using h2) hk
def start(N:List Str)(vs:List V):St:=vs.map some++TB (N.length - vs.length) none
def a_(CX:zR)(P:TM)(w:World)(K:Tc)(mg:Str->Option Value)(base:Heap)(N:List Str)(qual:Str)(scope:Scope)(f:Addr)(cd:Value)(A:TY)(outer:List Env)(s:S7)(H:Hp)(E:XK):Cx where
 prog:=P
 w:=w
 K:=K
 mg:=mg
 base:=base
 A:=A.deeper (UA qual scope s.heap.objs.size f cd)
 N:=N
 s₀:=s
 H₀:=H
 env:=UA qual scope s.heap.objs.size f cd
 outer:=outer
 stack:=UA qual scope s.heap.objs.size f cd::outer
 ex:=[]
 calm:=true
 fn:=fun _=>true
 pn:=[]
 xe:=fun e s'=>wpAny (model P w) (A.deeper (UA qual scope s.heap.objs.size f cd)) (leaving (UA qual scope s.heap.objs.size f cd) e) (fun _ O1=>CX outer H s E e O1) (fun e' O1=>CX outer H s E e' O1) s'
def wt{sc:Scope}{n:Nat}{x:Str}(h:sc.names.lookup x=some .cell):∃c,(Yt n sc.names []).lookup x=some c:=by
 have q:=Wj sc.names n [] (.inl h)
 exact Uc.mp q
def sx{CX:zR}{P:TM}{w:World}{K:Tc}{mg:Str->Option Value}{base:Heap}{N ps:List Str}{qual:Str}{scope:Scope}{f:Addr}{cd:Value}{A:TY}{outer:List Env}{s s1:S7}{H:Hp}{E:XK}{us:List Value}{vs:List V}
 (S:FnScope N ps scope)(hd:A.handled=none)(e0:Env0 P w K mg base A outer s H)(hl:vs.length=ps.length)(r:Vals vs us)
 (x:InCallC s s.heap.objs.size (bindL (UA qual scope s.heap.objs.size f cd).kindOf (ps.zip us) fun _=>none) (Yt (s.heap.objs.size+1) scope.names []) (bindC (UA qual scope s.heap.objs.size f cd).kindOf (ps.zip us) fun _=>none) s1):
 Inv (a_ CX P w K mg base N qual scope f cd A outer s H E) [] (start N vs) H s1:=by
 have kf:ps.length<=N.length:=by have:=congrArg YZ S.pre;rw[Vq] at this;omega
 obtain⟨h1,tk,rfl,hk⟩:=x.done
 have Me:∀b:Addr,b∉(a_ CX P w K mg base N qual scope f cd A outer s H E).ex:=fun b z=>absurd (show b∈([]:List Addr) from z) (by simp)
 refine⟨⟨e0.mod,S.kind,rfl,rfl,Tg _,fun y z c h1 h2=>?_,fun y hy=>?_,fun y c _ h=>?_,fun _=>hd,YE e0.frames, .inr ⟨rfl,rfl⟩,fun b z=>absurd z (Me b),e0.bs,e0.bsz,fun b _ _=>Me b,fun b z=>absurd z (Me b),e0.funs,e0.frf⟩,
  rfl,e0.bare,Un.kept hk,⟨_,x.toInCall.ns,fun i y v h1 h2 h3=>?_⟩,fun y c h=>⟨_,x.cell y c h⟩,e0.hok.fresh (Tg _),fun y c h=>?_,fun p hp=>absurd (show p∈([]:List (Addr×Obj)) from hp) (by simp),e0.hok.kept hk,?_⟩
 ·exact name_of_addr x.apart (UG h1) (UG h2)
 ·have hy:scope.names.lookup y=some .cell\/scope.names.lookup y=some .free:=hy
  rcases hy with hy | hy
  ·exact wt hy
  ·exact absurd rfl (S.nofree _ (UG hy))
 ·exact UT (x.above y c (UG h))
 ·have hi:i<vs.length:=by
   unfold start at h2
   by_cases hi:i<vs.length
   ·exact hi
   ·rw[T7 (by simpa using hi)] at h2
    rw[Uw] at h2
    split at h2<;>cases h2
  have ha:vs[i]? =some v:=by
   unfold start at h2
   rw[T6 (by simpa using hi),Tu] at h2
   cases e:vs[i]? with
   |none=>rw[e] at h2;cases h2
   |some a=>rw[e] at h2;cases h2;rfl
  obtain⟨u,hu,rv⟩:=r.get ha
  have hp:ps[i]? =some y:=by
   rw[<-S.pre,List.getElem?_take_of_lt (by omega)];exact h1
  have Qo:ps.Nodup:=by rw[<-S.pre];exact S.nd.sublist (List.take_sublist _ _)
  refine⟨u,rv,?_⟩
  rcases S.par y (UU hp) with k | k
  ·exact .inl ⟨k,rV Qo hp hu k⟩
  ·obtain⟨c,e⟩:=wt (n:=s.heap.objs.size+1) k
   refine .inr ⟨.inl k,c,e,?_⟩
   have q:=x.cell y c e
   rw[rS Qo hp hu (by show scope.names.lookup y≠_;rw[k];decide)] at q
   exact q
 ·exact e0.hok.fresh (UT (x.above y c (UG h)))
 ·unfold start
  show _=N.length
  rw[Ti,S6,WE]
  omega
def Ht{CX:zR}{P:TM}{w:World}{K:Tc}{mg:Str->Option Value}{base:Heap}{k:Nat}{f:Addr}{name qual:Str}{params:Arguments}{body:List Stmt}{scope:Scope}{dV kV doc pm bo ct oc:Value}{an od:Option Addr}
 {Cg:Array (Option Value)}{N ps:List Str}{sp:Sp}(lk:K.lookup f=some ⟨oc,od, .func (Uu name qual params body scope dV kV doc pm an bo ct),Cg⟩)(vW:Vl K bo qual=true)(S:FnScope N ps scope)
 (len:∀vs H Q E,sp vs H Q E->vs.length=ps.length)
 (ix:∀(A:TY) (outer:List Env) (s:S7) (H:Hp) (vs:List V) (Q:VK) (E:XK),Room k (A.deeper (UA qual scope s.heap.objs.size f bo))->sp vs H Q E->
  ∃t,PSs (a_ CX P w K mg base N qual scope f bo A outer s H E) body t/\t {nx:=fun _ H'=>Q .non H',rt:=Q} (start N vs) H):
 FnOk P w K mg base CX (k+1) f (Uu name qual params body scope dV kV doc pm an bo ct) ps sp:=by
 refine⟨len,fun A outer s H args us vs Q E hr e0 hb r vY=>?_⟩
 have hl:=len _ _ _ _ vY
 have KX:K.In s.heap:=e0.mod.kin.keeps fun b o e=>(e0.bs b o e).1
 have lim:s.heap.NoLimit:=e0.mod.nolimit.keeps fun b o e=>(e0.bs b o e).1
 have Dg:∀y∈ps.zip us,scope.names.lookup y.1=some .local\/(scope.names.lookup y.1=some .cell/\((Yt (s.heap.objs.size+1) scope.names []).lookup y.1).isSome=true):=fun⟨n,v⟩ hy=>by
  rcases S.par n (VB hy).1 with q | q
  ·exact .inl q
  ·exact .inr ⟨q,Wj _ _ _ (.inl q)⟩
 refine codeAny_call_function hr.depth (KX _ _ lk) rfl S.co S.gen rfl (YH KX vW) (hb _ _ _ _ ?_)
 refine YF S.kind Dg fun env he s1 x=>?_
 subst he
 refine⟨lim.keeps x.toInCall.keep,codeAny_func ?_⟩
 obtain⟨t,ht,hq⟩:=ix A outer s H vs Q E (hr.deeper _) vY
 have I:Inv (a_ CX P w K mg base N qual scope f bo A outer s H E) [] (start N vs) H s1:=sx S hr.hd e0 hl r x
 refine Up (ht [] s1 (start N vs) H _ I hq) (fun fl s' hs=>?_) fun e s' hs=>hs
 have fin:∀{σ':St}{H':Hp}{v:V}{u:Value},Inv (a_ CX P w K mg base N qual scope f bo A outer s H E) [] σ' H' s'->RelV v u->Q v H'->CE outer P w H s Q u s':=
  fun {σ' H' v u} J rv q=>⟨v,H',J.os,J.bare,J.base,J.hok,rv,q⟩
 cases fl with
 |ret u=>
  obtain⟨v,σ',H',J,rv,q⟩:=hs
  exact fin J rv q
 |next=>
  obtain⟨σ',H',J,q⟩:=hs
  exact fin (v:=V.non) (u:=Us) J rfl q
 |brk=>
  obtain⟨_,_,_,q⟩:=hs
  exact Uz q
 |cont=>
  obtain⟨_,_,_,q⟩:=hs
  exact Uz q
section
variable{X:Cx}{x:Str}{p pos:Pos}{e:Expr}{es:List Expr}{t:TA}{id T:String}{r:List V->Hp->VK->Prop}
def O8(r:List V->Hp->VK->Prop)(t:TA):TE:=fun σ H Q=>t σ H fun vs H1=>r vs H1 Q
def D7(hc:CallR X (.builtin id) r)(hg:Gl X x)(hm:X.mg x=none)(hv:Ub x=some (.builtin id))(ha:PA X (e::es) t)(hn:x≠"__name__":=by decide)(kX:(x==("__debug__":Str))=false:=by decide)
 (he:To (e::es) X.env=(false,eval e X.env)::To es X.env:=by rfl)(kf:(UH pos (To es X.env)).any (·.1)=false:=by rfl):PE X (.Call (.Name x p) (e::es) [] pos) (O8 r t):=by
 intro pins s σ H Q I h
 refine Wm (mS I hg hm hv ?_ hn kX)
 exact PyProof.Rows.callWith_builtin1 (cJ (ha pos pins s σ H _ I h) fun us s1 ⟨vs,H1,I1,r1,q1⟩=>hc pins s1 σ H1 vs us Q I1 r1 q1) he kf
def tf(hc:CallR X (.type T) r)(hg:Gl X x)(hm:X.mg x=none)(hv:Ub x=some (.type T))(ha:PA X (e::es) t)(hn:x≠"__name__":=by decide)(kX:(x==("__debug__":Str))=false:=by decide)
 (he:To (e::es) X.env=(false,eval e X.env)::To es X.env:=by rfl)(kf:(UH pos (To es X.env)).any (·.1)=false:=by rfl):PE X (.Call (.Name x p) (e::es) [] pos) (O8 r t):=by
 intro pins s σ H Q I h
 refine Wm (mS I hg hm hv ?_ hn kX)
 exact UZ (cJ (ha pos pins s σ H _ I h) fun us s1 ⟨vs,H1,I1,r1,q1⟩=>hc pins s1 σ H1 vs us Q I1 r1 q1) he kf
end
end L2
namespace HT
open PySem PyProof.Rows
def lexLt:List Int->List Int->Bool
 |[],[]=>false
 |[],_::_=>true
 |_::_,[]=>false
 |x::xs,y::ys=>if x=y then lexLt xs ys else decide (x<y)
def lexLt_cons(x y:Int)(xs ys:List Int):lexLt (x::xs) (y::ys)=if x=y then lexLt xs ys else decide (x<y):=rfl
def lexLt_nil_nil:lexLt [] []=false:=rfl
def lexLt_nil_cons(y:Int)(ys:List Int):lexLt [] (y::ys)=true:=rfl
def lexLt_cons_nil(x:Int)(xs:List Int):lexLt (x::xs) []=false:=rfl
def eqAt_int(A:TY)(s:S7)(a:Int)(t:Tok)(c:Int)(u:Tok):∃e,Y8 A s (.int a t) (.int c u) e/\(e=true↔a=c):=
 ⟨(a==c),Yj a t c u,by simp⟩
def rcLt_int(A:TY)(s:S7)(a:Int)(t:Tok)(c:Int)(u:Tok)(prog:TM)(w:World)(E:Value->S7->Prop)(Q:Value->S7->Prop)(h:Q (.bool (decide (a<c))) s):
 wpAny (model prog w) A (Yr .Lt (.int a t) (.int c u)) Q E s:=
 (XF h:wpAny (model prog w) A (Ua .Lt (.int a t) (.int c u)) Q E s)
section
open PySem.SeqAt
open PySem.AutoSeq1 (wpAny_loadPart')
open PySem.MeetsSeq PySem.MeetsSeq2 PySem.MeetsSeq3
def tuple_lt_ints(l b:Addr)(items ig:Array Value)(n n2:Nat)(dd CJ:Option Addr)(sl HX:Array (Option Value))(ns ms:List Int)(hi:U2 items.toList ns)(hj:U2 ig.toList ms):
 Meets (Xq.«tuple.__lt__» ⟨[.ref l, .ref b],[]⟩)
  (fun _ R s=>s.heap.get? l=some {cls:= .type "tuple",dict:=dd,data:= .seq items n,slots:=sl}/\s.heap.get? b=some {cls:= .type "tuple",dict:=CJ,data:= .seq ig n2,slots:=HX}/\
   R (.ok (.ret (.bool (lexLt ns ms)))) s):=
 .of_wp fun prog w A R s h=>by
  obtain⟨hp,g,d,tk,os⟩:=s;obtain⟨hl,hb,h⟩:=h
  have f2:=AutoSeq1.sub_tuple_tuple
  have z1:items.size=ns.length:=by rw[<-hi.length];simp
  have z2:ig.size=ms.length:=by rw[<-hj.length];simp
  wp_walk using wpAny_loadPart' hl,wpAny_loadPart' hb,wpAny_forIn_list _ (fun rest b s'=>b.1=none/\s'=⟨hp,g,d,tk,os⟩/\∃(vs ws:List Value) (KR KO:List Int),rest=vs.zip ws/\
   U2 vs KR/\U2 ws KO/\KR.length+ig.size=KO.length+items.size/\R (.ok (.ret (.bool (lexLt KR KO)))) ⟨hp,g,d,tk,os⟩) _
  case turn=>
   rintro⟨y,x⟩ rest b s' ⟨yx,rfl,vs,ws,KR,KO,hz,Ov,Nq,hlen,hR⟩
   cases Ov with
   |nil=>rw[List.zip_nil_left] at hz;cases hz
   |cons a t Ow=>
    cases Nq with
    |nil=>rw[List.zip_nil_right] at hz;cases hz
    |cons c u Oy=>
     rw[UN] at hz
     injection hz with R3 LS
     injection R3 with hy hx
     subst hy hx
     rw[lexLt_cons] at hR
     simp only[Tj] at hlen
     obtain⟨e,he,LD⟩:=eqAt_int A.in1 ⟨hp,g,d,tk,os⟩ a t c u
     refine S5 (he prog w _ _ ?_)
     cases e with
     |true=>
      rw[if_pos (LD.mp rfl)] at hR
      wp_walk
      exact⟨rfl,rfl,_,_,_,_,LS,Ow,Oy,by omega,hR⟩
     |false=>
      rw[if_neg (fun q=>absurd (LD.mpr q) TN)] at hR
      have RM:=rcLt_int A.in1 ⟨hp,g,d,tk,os⟩ a t c u prog w
      wp_walk using RM
      exact⟨_,rfl,by simpa using hR⟩
  case fin=>
   rintro⟨b1,b2⟩ s' ⟨yx,rfl,vs,ws,KR,KO,hz,Ov,Nq,hlen,hR⟩
   simp only at yx
   subst yx
   have hv:lexLt KR KO=decide (items.size<ig.size):=by
    cases Ov with
    |nil=>
     cases Nq with
     |nil=>
      simp only[Ud] at hlen
      rw[lexLt_nil_nil]
      exact(decide_eq_false (by omega)).symm
     |cons c u hw=>
      simp only[Ud,Tj] at hlen
      rw[lexLt_nil_cons]
      exact(decide_eq_true (by omega)).symm
    |cons a t hv=>
     cases Nq with
     |nil=>
      simp only[Ud,Tj] at hlen
      rw[lexLt_cons_nil]
      exact(decide_eq_false (by omega)).symm
     |cons c u hw=>
      rw[UN] at hz
      cases hz
   rw[hv] at hR
   wp_walk
   exact⟨_,rfl,by simpa[Builtin.Tuple.tupleCompareSizes] using hR⟩
  case h=>
   exact⟨rfl,rfl,items.toList,ig.toList,ns,ms,rfl,hi,hj,by omega,h⟩
end
section
variable{prog:TM}{w:World}{A:TY}{E:Value->S7->Prop}{s:S7}
def lt_tupInts{l b:Addr}{items ig:Array Value}{ns ms:List Int}{Q:Value->S7->Prop}(hl:IsTup s.heap l items)(hb:IsTup s.heap b ig)(hi:U2 items.toList ns)(hj:U2 ig.toList ms)
 (hu:A.units<cLine)(h:Q (.bool (lexLt ns ms)) s):wpAny (model prog w) A (Ua .Lt (.ref l) (.ref b)) Q E s:=by
 obtain⟨⟨cls,dd,data,sl⟩,ho,hc,n,hd⟩:=id hl
 obtain⟨⟨Lb,CJ,data2,HX⟩,E8,Dc,n2,hd2⟩:=id hb
 simp only at hc hd Dc hd2
 subst hc hd Dc hd2
 exact richCompare_meets_room (op:= .Lt) ⟨_,ho,rfl⟩ ⟨_,E8,rfl⟩ PySem.F.slot_tuple_lt PySem.F.entry_tuple_lt (PySem.F.args_tuple_lt_2 _ _) (tuple_lt_ints l b items ig n n2 dd CJ sl HX ns ms hi hj)
  ⟨ho,E8,show U3 (lexLt ns ms)≠Value.notImplemented/\Q (.bool (lexLt ns ms)) s from⟨(fun x=>nomatch x),h⟩⟩ hu
def cat_tup{t b:Addr}{vs ws:List Value}{Q:Value->S7->Prop}(ht:IsTup s.heap t vs.toArray)(hb:IsTup s.heap b ws.toArray)(hv:vs≠[])
 (h1:ws=[]->Q (.ref t) s)(h2:ws≠[]->Q (.ref s.heap.objs.size) {s with heap:=s.heap.push {cls:= .type "tuple",data:= .seq (vs++ws).toArray} })
 (hsz:vs.length+ws.length<=Tz):wpAny (model prog w) A (V6 .Add (.ref t) (.ref b)) Q E s:=by
 obtain⟨⟨cls,dd,data,sl⟩,ho,hc,n,hd⟩:=id ht
 obtain⟨⟨Lb,CJ,data2,HX⟩,E8,Dc,n2,hd2⟩:=id hb
 simp only at hc hd Dc hd2
 subst hc hd Dc hd2
 have e:vs.toArray++ws.toArray=(vs++ws).toArray:=by simp
 by_cases hw:ws=[]
 ·exact concat_meets ⟨_,ho,rfl⟩ ⟨_,E8,rfl⟩ Yg Y4 Wk Wf (V7 _ _)
   (tuple_addW1 t b vs.toArray ws.toArray n n2 dd CJ sl HX (by simpa using hv) (by simp[hw])) ⟨ho,E8,h1 hw⟩
 ·refine concat_meets ⟨_,ho,rfl⟩ ⟨_,E8,rfl⟩ Yg Y4 Wk Wf (V7 _ _)
   (tuple_addW2 t b vs.toArray ws.toArray n n2 dd CJ sl HX (by simpa using hv) (by simpa using hw) (by rw[Td,Td];exact hsz)) ⟨ho,E8,?_⟩
  rw[e]
  exact h2 hw
def sIx(n d:Nat):Option Int->Nat
 |none=>d
 |some v=>if v<0 then(v+(n:Int)).toNat else min v.toNat n
def sIx_le(n d:Nat)(hd:d<=n)(o:Option Int):sIx n d o<=n:=by
 cases o with
 |none=>exact hd
 |some v=>
  show (if v<0 then(v+(n:Int)).toNat else min v.toNat n)<=n
  by_cases hv:v<0
  ·rw[if_pos hv];omega
  ·rw[if_neg hv];exact Nat.min_le_right _ _
def clip_eq(v:Int)(n d:Nat):(if v<0 then max (v+(n:Int)) 0 else min v (n:Int))=((sIx n d (some v):Nat):Int):=by
 show (if v<0 then max (v+(n:Int)) 0 else min v (n:Int))=(((if v<0 then(v+(n:Int)).toNat else min v.toNat n):Nat):Int)
 by_cases hv:v<0
 ·simp only[if_pos hv];omega
 ·simp only[if_neg hv];omega
def adjust_gen(lo hi:Option Int)(n:Nat):VT lo hi 1 (n:Int)=(((sIx n 0 lo:Nat):Int),((sIx n n hi:Nat):Int)):=by
 have h1:¬((1:Int)<0):=by omega
 unfold VT
 simp only[h1,if_false]
 refine XA ?_ ?_
 ·cases lo with
  |none=>rfl
  |some v=>exact clip_eq v n 0
 ·cases hi with
  |none=>rfl
  |some v=>exact clip_eq v n n
def places_gen(i j:Nat):U_ (i:Int) (j:Int) 1=j - i:=by
 unfold U_
 have h1:(1:Int)>0:=by omega
 simp only[h1,if_true,Int.ediv_one]
 split<;>omega
def slicePart_{v:Value}{o:Option Int}{Q:Option Int->S7->Prop}(p:Yc v o)(h:Q o s):wpAny (model prog w) A (Builtin.Slice.slicePartIndex v) Q E s:=by
 cases p with
 |none=>exact slicePart_none h
 |int i t=>exact slicePart_int h
def sliceApplied_gen{sl:Addr}{vl vu:Value}{lo hi:Option Int}{n:Nat}{Q:Int×Int×Nat->S7->Prop}(hs:s.heap.IsSliceOf sl vl vu .none)(pl:Yc vl lo)(pu:Yc vu hi)
 (h:Q (((sIx n 0 lo:Nat):Int),1,sIx n n hi - sIx n 0 lo) s):wpAny (model prog w) A (WZ (.ref sl) (pure (n:Int))) Q E s:=by
 obtain⟨os,Bh,II,Hz⟩:=id hs
 unfold WZ Builtin.Slice.sliceFields
 refine S5 (S5 (wpAny_field Bh Hz (x:=vl) rfl (S5 (wpAny_field Bh Hz (x:=vu) rfl (S5 (wpAny_field Bh Hz (x:= .none) rfl (Te ?_)))))))
 refine S5 (slicePart_none ?_)
 show wpAny _ _ (if ((1:Int)==0)=true then _ else _) _ _ s
 rw[if_neg (by decide)]
 refine S5 (slicePart_ pl (S5 (slicePart_ pu (S5 (Te ?_)))))
 show wpAny _ _ (match VT lo hi 1 (n:Int) with | (lo,hi)=>pure (lo,(1:Int),U_ lo hi 1)) _ _ s
 rw[adjust_gen lo hi n]
 show wpAny _ _ (pure (((sIx n 0 lo:Nat):Int),(1:Int),U_ ((sIx n 0 lo:Nat):Int) ((sIx n n hi:Nat):Int) 1)) _ _ s
 rw[places_gen]
 exact Te h
def pick_gen(xs:Array Value)(i k:Nat):((Um k).filterMap fun(m:Nat)=>xs[((i:Int)+(m:Int)*1).toNat]?).toArray=((xs.toList.drop i).take k).toArray:=by
 have e:(fun (m:Nat)=>xs[((i:Int)+(m:Int)*1).toNat]?)=fun m=>xs[i+m]? :=by
  funext m
  have:((i:Int)+(m:Int)*1).toNat=i+m:=by omega
  rw[this]
 rw[e]
 have:=pick_run xs i k
 rw[List.filterMap_map] at this
 have e2:((fun x=>xs[x]?)∘fun x=>i+x)=fun m=>xs[i+m]? :=rfl
 rw[e2] at this
 rw[this]
def getItem_tuple_cut{t sl:Addr}{items:Array Value}{vl vu:Value}{lo hi:Option Int}{Q:Value->S7->Prop}(ht:IsTup s.heap t items)(hs:s.heap.IsSliceOf sl vl vu .none)(pl:Yc vl lo)(pu:Yc vu hi)
 (hw:¬(sIx items.size 0 lo=0/\sIx items.size items.size hi=items.size))
 (h:Q (.ref s.heap.objs.size) {s with heap:=s.heap.push {cls:= .type "tuple",data:= .seq ((items.toList.drop (sIx items.size 0 lo)).take (sIx items.size items.size hi - sIx items.size 0 lo)).toArray} })
 (hsz:items.size<=Tz):wpAny (model prog w) A (WJ (.ref t) (.ref sl)) Q E s:=by
 have Ak:sizeOk (.seq ((items.toList.drop (sIx items.size 0 lo)).take (sIx items.size items.size hi - sIx items.size 0 lo)).toArray):=by
  show ((items.toList.drop (sIx items.size 0 lo)).take (sIx items.size items.size hi - sIx items.size 0 lo)).toArray.size<=Tz
  rw[Td,Vq,Ww,TZ]
  omega
 have hj:sIx items.size items.size hi<=items.size:=sIx_le _ _ (Tg _) hi
 obtain⟨os,Bh,II,Hz⟩:=id hs
 have NZ:s.TypeIs (.ref sl) "slice":=⟨os,Bh,II⟩
 unfold WJ
 try with_reducible refine U5 ?_
 first | refine S5 (Te ?_) | skip
 refine S5 (wpAny_sequenceKey ht.typeIs (by decide) ?_)
 refine S5 (VM (name:=T3 "__getitem__") ht.typeIs UK
  (Vz UK ht.typeIs entry_tuple_getitem ?_ (args_tuple_getitem _ _)))
 show wpAny _ _ (WY (.ref t)>>=_) _ _ s
 refine S5 (tupleItemsOf_ ht ?_)
 refine S5 (W0 NZ ?_)
 rw[if_pos (by decide)]
 refine S5 (sliceApplied_gen hs pl pu ?_)
 have IM:¬((((sIx items.size 0 lo:Nat):Int)==0&&(1:Int)==1&&(sIx items.size items.size hi - sIx items.size 0 lo)==items.size)=true):=by
  intro q
  rw[Ts,Ts] at q
  have q1:((sIx items.size 0 lo:Nat):Int)=0:=Ys q.1.1
  have q2:sIx items.size items.size hi - sIx items.size 0 lo=items.size:=Ys q.2
  exact hw ⟨by omega,by omega⟩
 show wpAny _ _ (if (((sIx items.size 0 lo:Nat):Int)==0&&(1:Int)==1&&(sIx items.size items.size hi - sIx items.size 0 lo)==items.size)=true then _ else _) _ _ s
 rw[if_neg IM,pick_gen]
 first
  |exact S5 (m:=Vf _) (Ut (Te ⟨_,rfl,Te h⟩) Ak)
  |exact S5 (m:=Vf _) (Ut (S5 (Te (Te ⟨_,rfl,Te h⟩))) Ak)
  |exact S5 (S5 (m:=Vf _) (Ut (Te (Te ⟨_,rfl,Te h⟩)) Ak))
  |exact S5 (S5 (m:=Vf _) (Ut (Te ⟨_,rfl,Te h⟩) Ak))
end
end HT
namespace L2
open PySem PySem.Spec PyProof.Rows
abbrev TO:=St->Hp->(Option Int->Hp->Prop)->Prop
def PO(X:Cx)(e:Option Expr)(t:TO):Prop:=
 ∀(pins:List (Addr×Obj)) (s:S7) (σ:St) (H:Hp) (Q:Option Int->Hp->Prop),Inv X pins σ H s->t σ H Q->
  wpAny (model X.prog X.w) X.A (evalPart e X.env) (fun u s'=>∃o H',Inv X pins σ H' s'/\Yc u o/\Q o H') X.xe s
def He:TO:=fun _ H Q=>Q none H
def MS(t:TE):TO:=fun σ H Q=>t σ H fun x H1=>∃i,x= .int i/\Q (some i) H1
def intsAre_of{ns:List Int}:∀{us:List Value},Vals (ns.map V.int) us->U2 us ns:=by
 induction ns with
 |nil=>intro us r;rw[UP] at r;cases r;exact .nil
 |cons n ns ih=>
  intro us r
  rw[Tf] at r
  cases r with
  |cons r1 r2=>
   obtain⟨t,e⟩:=r1
   subst e
   exact .cons n t (ih r2)
section
variable{X:Cx}{e:Expr}{te:TE}{lo hi:Option Expr}{tl th:TO}{pos p2:Pos}
def GL:PO X none He:=by
 intro pins s σ H Q I h
 rw[Y6]
 exact Te ⟨none,H,I, .none,h⟩
def GN(h:PE X e te):PO X (some e) (MS te):=by
 intro pins s σ H Q I hw
 rw[evalPart_some]
 refine cJ (h pins s σ H _ I hw) fun u s1 ⟨x,H1,I1,r1,q1⟩=>?_
 obtain⟨i,rfl,q⟩:=q1
 obtain⟨t,rfl⟩:=r1
 exact⟨some i,H1,I1, .int i t,q⟩
def SlR(X:Cx)(r:V->Option Int->Option Int->Hp->VK->Prop):Prop:=
 ∀(pins:List (Addr×Obj)) (s:S7) (σ:St) (H:Hp) (x:V) (v vl vu:Value) (lo hi:Option Int) (sl:Addr) (Q:VK),Inv X pins σ H s->RelV x v->s.heap.IsSliceOf sl vl vu .none->Yc vl lo->Yc vu hi->r x lo hi H Q->
  ∃T id,WA (.type T) "__getitem__"=pure (some (.builtin id))/\s.TypeIs v T/\wpAny (model X.prog X.w) X.A (WJ v (.ref sl)) (EP X pins σ Q) X.xe s
def SlR.or{r r':V->Option Int->Option Int->Hp->VK->Prop}(h:SlR X r)(h':SlR X r'):SlR X (fun x lo hi H Q=>r x lo hi H Q\/r' x lo hi H Q):=by
 intro pins s σ H x v vl vu lo hi sl Q I rx hs pl pu q
 rcases q with q | q
 ·exact h pins s σ H x v vl vu lo hi sl Q I rx hs pl pu q
 ·exact h' pins s σ H x v vl vu lo hi sl Q I rx hs pl pu q
def Sr(r:V->Option Int->Option Int->Hp->VK->Prop)(te:TE)(tl th:TO):TE:=fun σ H Q=>te σ H fun x H1=>tl σ H1 fun l H2=>th σ H2 fun u H3=>r x l u H3 Q
def Ee{r:V->Option Int->Option Int->Hp->VK->Prop}(hr:SlR X r)(he:PE X e te)(hl:PO X lo tl)(hu:PO X hi th):PE X (.Subscript e (.Slice lo hi none p2) pos) (Sr r te tl th):=by
 intro pins s σ H Q I h
 refine YW (cJ (he pins s σ H _ I h) fun v s1 ⟨x,H1,I1,r1,q1⟩=>?_)
 refine wpAny_Slice (cJ (hl pins s1 σ H1 _ I1 q1) fun vl s2 ⟨l,H2,I2,pl,q2⟩=>cJ (hu pins s2 σ H2 _ I2 q2) fun vu s3 ⟨u,H3,I3,pu,q3⟩=>?_)
 rw[Y6]
 refine Te ?_
 have I4:Inv X pins σ H3 {s3 with heap:=s3.heap.push {cls:= .type "slice",data:= .fields #[vl,vu, .none]} }:=I3.kept (t':=s3.toks) fun b ob q=>S_ _ q
 obtain⟨T,id,hT,ht,hg⟩:=hr pins {s3 with heap:=s3.heap.push {cls:= .type "slice",data:= .fields #[vl,vu, .none]} } σ H3 x v vl vu l u s3.heap.objs.size Q I4 r1 (XD ..) pl pu q3
 show wpAny (model X.prog X.w) X.A (Xy e (.Slice lo hi none p2) v (.ref s3.heap.objs.size)) (EP X pins σ Q) X.xe {s3 with heap:=s3.heap.push {cls:= .type "slice",data:= .fields #[vl,vu, .none]} }
 exact tail_any (ops:=[.ref s3.heap.objs.size,v]) ht hT hg (by with_unfolding_all rfl)
def wA(xs:List V)(lo hi:Option Int):List V:=(xs.drop (HT.sIx xs.length 0 lo)).take (HT.sIx xs.length xs.length hi - HT.sIx xs.length 0 lo)
def nB(xs:List V)(lo hi:Option Int):(wA xs lo hi).length<=xs.length:=by
 unfold wA
 rw[Vq,Ww]
 omega
def O0(K:Tc):V->Option Int->Option Int->Hp->VK->Prop:=fun x lo hi H Q=>∃a xs,x= .ref a/\SqT K H a xs/\
 ¬(HT.sIx xs.length 0 lo=0/\HT.sIx xs.length xs.length hi=xs.length)/\∀p,H p=none->Q (.ref p) (upd H p (.tup (wA xs lo hi)))
def Km:SlR X (O0 X.K):=by
 intro pins s σ H x v vl vu lo hi sl Q I rx hs pl pu h
 obtain⟨a,xs,rfl,hx,hw,q⟩:=h
 cases rx
 obtain⟨aR,r,ht,hz⟩:=I.tuple hx
 have hlen:aR.toArray.size=xs.length:=by rw[Td];exact r.length.symm
 refine⟨"tuple",_,PyProof.Rows.slot_tuple_getitem.lookup,ht.typeIs,?_⟩
 refine HT.getItem_tuple_cut ht hs pl pu (by rw[hlen];exact hw) ?_ (by rw[hlen];exact hz)
 rw[hlen]
 refine⟨.ref s.heap.objs.size,_,I.laid (t':=s.toks) (o:= .tup (wA xs lo hi)) (fun b ob q=>S_ _ q) (Tg _) ?_,rfl,q _ (I.hok.fresh (Tg _))⟩
 exact⟨Tw (nB xs lo hi) hz,_,(r.drop (HT.sIx xs.length 0 lo)).take (HT.sIx xs.length xs.length hi - HT.sIx xs.length 0 lo),IsTup.new _ _⟩
def ME(K:Tc):R2:=fun x y H Q=>∃a b ns ms,x= .ref a/\y= .ref b/\SqT K H a (ns.map V.int)/\SqT K H b (ms.map V.int)/\Q (.bl (HT.lexLt ns ms)) H
def JB(hu:X.A.units<cLine):OpR X (Ua .Lt) (ME X.K):=by
 intro pins s σ H x y v u Q I rx ry h
 obtain⟨a,b,ns,ms,rfl,rfl,ha,hb,q⟩:=h
 cases rx
 cases ry
 obtain⟨aR,r1,p1,_⟩:=I.tuple ha
 obtain⟨eF,r2,p2,_⟩:=I.tuple hb
 have i1:U2 aR.toArray.toList ns:=intsAre_of r1
 have i2:U2 eF.toArray.toList ms:=intsAre_of r2
 exact HT.lt_tupInts p1 p2 i1 i2 hu ⟨.bl (HT.lexLt ns ms),H,I,rfl,q⟩
def Mx(K:Tc):R2:=fun x y H Q=>∃a b xs ys,x= .ref a/\y= .ref b/\SqT K H a xs/\SqT K H b ys/\xs≠[]/\xs.length+ys.length<=Tz/\
 (ys=[]->Q (.ref a) H)/\(ys≠[]->∀p,H p=none->Q (.ref p) (upd H p (.tup (xs++ys))))
def Vals.nil_iff{xs:List V}{us:List Value}(r:Vals xs us):us=[]↔xs=[]:=by
 cases r with
 |nil=>simp
 |cons _ _=>simp
def Gi:OpR X (V6 .Add) (Mx X.K):=by
 intro pins s σ H x y v u Q I rx ry h
 obtain⟨a,b,xs,ys,rfl,rfl,ha,hb,hx,hz,q1,q2⟩:=h
 cases rx
 cases ry
 obtain⟨aR,r1,p1,_⟩:=I.tuple ha
 obtain⟨eF,r2,p2,_⟩:=I.tuple hb
 refine HT.cat_tup p1 p2 (fun z=>hx (r1.nil_iff.mp z)) (fun z=>⟨.ref a,H,I,rfl,q1 (r2.nil_iff.mp z)⟩) (fun z=>?_) (by rw[<-r1.length,<-r2.length];exact hz)
 refine⟨.ref s.heap.objs.size,_,I.laid (t':=s.toks) (o:= .tup (xs++ys)) (fun b ob q=>S_ _ q) (Tg _) ?_,rfl,q2 (fun w=>z (r2.nil_iff.mpr w)) _ (I.hok.fresh (Tg _))⟩
 exact⟨by rw[Ti];exact hz,_,r1.append r2,IsTup.new _ _⟩
end
def An(n:Nat)(i:Int):Option Nat:=if 0<=i then(if i<n then some i.toNat else none) else if -(n:Int)<=i then some (i+n).toNat else none
def atI{α:Type}(xs:List α)(i:Int):Option α:=(An xs.length i).bind fun j=>xs[j]?
def FU{n:Nat}{i:Int}{j:Nat}(h:An n i=some j):seqIndex? i n=some j/\j<n/\ -(n:Int)<=i/\i<n:=by
 unfold An at h
 by_cases h0:0<=i
 ·rw[if_pos h0] at h
  by_cases h1:i<n
  ·rw[if_pos h1] at h
   have e:i.toNat=j:=TF h
   exact⟨by rw[seqIndex_of h0 h1,e],by omega,by omega,h1⟩
  ·rw[if_neg h1] at h;cases h
 ·rw[if_neg h0] at h
  by_cases h1: -(n:Int)<=i
  ·rw[if_pos h1] at h
   have e:(i+n).toNat=j:=TF h
   exact⟨by rw[seqIndex_neg (by omega) h1,e],by omega,h1,by omega⟩
  ·rw[if_neg h1] at h;cases h
def tY{α:Type}{xs:List α}{i:Int}{v:α}(h:atI xs i=some v):∃j,seqIndex? i xs.length=some j/\xs[j]? =some v/\j<xs.length/\ -(xs.length:Int)<=i/\i<xs.length:=by
 unfold atI at h
 cases e:An xs.length i with
 |none=>rw[e] at h;cases h
 |some j=>
  rw[e] at h
  obtain⟨h1,h2,h3,h4⟩:=FU e
  exact⟨j,h1,h,h2,h3,h4⟩
def pj{α:Type}(xs:List α)(v:α):atI (xs++[v]) (-1)=some v:=by
 have hl:(xs++[v]).length=xs.length+1:=by simp
 have e:An (xs++[v]).length (-1)=some xs.length:=by
  unfold An
  rw[hl,if_neg (by decide),if_pos (by omega)]
  congr 1
  omega
 unfold atI
 rw[e]
 show (xs++[v])[xs.length]? =some v
 simp
def gQ(b:Expr):Prop:=∀o i,subscripted b false o i=operate [o,i] (WJ o i)
def K3(X:Cx)(r:R2):Prop:=
 ∀(value slice:Expr) (pins:List (Addr×Obj)) (s:S7) (σ:St) (H:Hp) (x y:V) (v u:Value) (Q:VK),Inv X pins σ H s->RelV x v->RelV y u->r x y H Q->
  subscripted slice false v u=operate [v,u] (WJ v u)->wpAny (model X.prog X.w) X.A (Xy value slice v u) (EP X pins σ Q) X.xe s
def K4(X:Cx)(id:String)(r:V->List V->Hp->VK->Prop):Prop:=
 ∀(pins:List (Addr×Obj)) (s:S7) (σ:St) (H:Hp) (x:V) (xs:List V) (v:Value) (us:List Value) (Q:VK),Inv X pins σ H s->RelV x v->Vals xs us->r x xs H Q->
  wpAny (model X.prog X.w) X.A (call (.builtin id) (v::us)) (EP X pins σ Q) X.xe s
section
variable{X:Cx}{a b:Expr}{ta tb:TE}{pos:Pos}
def Ed{r:R2}(hr:K3 X r)(ha:PE X a ta)(hb:PE X b tb)(hs:gQ b):PE X (.Subscript a b pos) (MR r ta tb):=by
 intro pins s σ H Q I h
 exact YW (Ij ha hb I h fun v u s2 x y H2 I2 rx ry q=>hr a b pins s2 σ H2 x y v u Q I2 rx ry q (hs _ _))
def Kd(K:Tc):R2:=fun x y H Q=>∃p xs i v,x= .ref p/\y= .int i/\SqL K H p xs/\atI xs i=some v/\Q v H
def MD(K:Tc):R2:=fun x y H Q=>∃p xs i v,x= .ref p/\y= .int i/\SqT K H p xs/\atI xs i=some v/\Q v H
def MC:R2:=fun x y H Q=>∃z i c,x= .str z/\y= .int i/\z.length<=Tz/\atI z.cps.toList i=some c/\Q (.str ⟨#[c]⟩) H
def oZ:K3 X (Kd X.K):=by
 intro value slice pins s σ H x y v u Q I rx ry h hs
 obtain⟨p,xs,i,z,rfl,rfl,hq,he,q⟩:=h
 cases rx
 obtain⟨t,rfl⟩:=ry
 obtain⟨aR,r,pl,hz⟩:=I.list hq
 obtain⟨j,h1,h2,h3,h4,h5⟩:=tY he
 obtain⟨w,ew,yz⟩:=r.get h2
 have hl:=r.length
 have hn:=mT
 have fin:EP X pins σ Q w s:=⟨z,H,I,yz,q⟩
 by_cases h0:0<=i
 ·have hj:i.toNat=j:=by
   rw[seqIndex_of h0 h5] at h1
   exact TF h1
  exact item_listR pl.isList h0 (by omega) (by rw[hj];simpa using ew) fin hs
 ·have hj:(i+(aR.toArray.size:Int)).toNat=j:=by
   rw[seqIndex_neg (by omega) h4] at h1
   rw[Td,<-hl]
   exact TF h1
  exact Ze (x:=w) pl.isList.typeIs slot_list_getitem.lookup
   (wpAny_getItem_list_neg (Q:=fun r s'=>r=w/\EP X pins σ Q r s') pl.isList (by omega) (by rw[Td]<;>omega) (by omega) (by rw[hj];simpa using ew) ⟨rfl,fin⟩) hs
def Jj:K3 X (MD X.K):=by
 intro value slice pins s σ H x y v u Q I rx ry h hs
 obtain⟨p,xs,i,z,rfl,rfl,hq,he,q⟩:=h
 cases rx
 obtain⟨t,rfl⟩:=ry
 obtain⟨aR,r,pl,hz⟩:=I.tuple hq
 obtain⟨j,h1,h2,h3,h4,h5⟩:=tY he
 obtain⟨w,ew,yz⟩:=r.get h2
 have hl:=r.length
 have hn:=mT
 have fin:EP X pins σ Q w s:=⟨z,H,I,yz,q⟩
 exact Ze (x:=w) pl.typeIs slot_tuple_getitem.lookup
  (getItem_tuple (j:=j) (Q:=fun r s'=>r=w/\EP X pins σ Q r s') pl (by omega) (by omega) (by rw[Td,<-hl];exact h1) (by simpa using ew) ⟨rfl,fin⟩) hs
def Ji:K3 X MC:=by
 intro value slice pins s σ H x y v u Q I rx ry h hs
 obtain⟨z,i,c,rfl,rfl,hz,he,q⟩:=h
 obtain⟨t,rfl⟩:=rx
 obtain⟨t',rfl⟩:=ry
 obtain⟨j,h1,h2,h3,h4,h5⟩:=tY he
 have hl:z.cps.toList.length=z.length:=by simp[Str.length]
 rw[hl] at h1 h4 h5
 have hn:=mT
 exact tail_any (W_ s z t) slot_str_getitem.lookup (getItem_str (c:=c) (by
  have e1:decide (i< -(2 ^ 63:Int))=false:=decide_eq_false (by omega)
  have e2:decide (i>=2 ^ 63)=false:=decide_eq_false (by omega)
  rw[e1,e2,Bool.or_false]) (by rw[h1];simpa using h2) ⟨.str ⟨#[c]⟩,H,I.tok _,⟨_,rfl⟩,q⟩) hs
def Inv.lst{pins:List (Addr×Obj)}{σ:St}{H:Hp}{s:S7}{p:Addr}{xs:List V}(I:Inv X pins σ H s)(h:H p=some (.lst xs)):
 ∃(aR:List Value) (n:Nat),Vals xs aR/\s.heap.get? p=some {cls:= .type "list",data:= .seq aR.toArray n}/\xs.length<=Tz:=by
 obtain⟨z,aR,n,r,e⟩:=I.hok p _ h
 exact⟨aR,n,r,e,z⟩
def vx(lo hi:Option Int)(n:Nat):(Wb lo hi none n).1=((HT.sIx n 0 lo:Nat):Int)/\(Wb lo hi none n).2.1=((HT.sIx n n hi:Nat):Int)/\(Wb lo hi none n).2.2=1:=by
 refine⟨?_,?_,rfl⟩
 ·cases lo with
  |none=>simp[Wb,HT.sIx]
  |some i=>
   simp only[Wb,HT.sIx,Za,show (1:Int)>0 by decide,if_true]
   by_cases h:i<0
   ·simp only[h,if_true]<;>omega
   ·simp only[h,if_false]<;>omega
 ·cases hi with
  |none=>simp[Wb,HT.sIx]
  |some i=>
   simp only[Wb,HT.sIx,Za,show (1:Int)>0 by decide,if_true]
   by_cases h:i<0
   ·simp only[h,if_true]<;>omega
   ·simp only[h,if_false]<;>omega
def rC(aR:List Value)(lo hi:Option Int):slicePick aR.toArray lo hi none=((aR.drop (HT.sIx aR.length 0 lo)).take (HT.sIx aR.length aR.length hi - HT.sIx aR.length 0 lo)).toArray:=by
 obtain⟨h1,h2,h3⟩:=vx lo hi aR.toArray.size
 unfold slicePick
 rw[h1,h2,h3]
 simp only[sliceRange_one,pick_run,Td]<;>rfl
def OZ(K:Tc):V->Option Int->Option Int->Hp->VK->Prop:=fun x lo hi H Q=>∃a xs,x= .ref a/\SqL K H a xs/\∀p,H p=none->Q (.ref p) (upd H p (.lst (wA xs lo hi)))
def G_:SlR X (OZ X.K):=by
 intro pins s σ H x v vl vu lo hi sl Q I rx hs pl pu h
 obtain⟨a,xs,rfl,hx,q⟩:=h
 cases rx
 obtain⟨aR,r,ht,hz⟩:=I.list hx
 have hlen:=r.length
 refine⟨"list",_,slot_list_getitem.lookup,ht.isList.typeIs,?_⟩
 refine YU ht.isList hs pl pu .none (by simp) ?_ (by rw[Td]<;>omega)
 rw[rC,<-hlen]
 refine⟨.ref s.heap.objs.size,_,I.laid (t':=s.toks) (o:= .lst (wA xs lo hi)) (fun b ob q=>S_ _ q) (Tg _) ?_,rfl,q _ (I.hok.fresh (Tg _))⟩
 exact⟨Tw (nB xs lo hi) hz,_,0,(r.drop (HT.sIx xs.length 0 lo)).take (HT.sIx xs.length xs.length hi - HT.sIx xs.length 0 lo),Tt _ rfl⟩
def nJ:V->Bool
 | .non=>true
 | .bl _=>true
 | .int _=>true
 | .str _=>true
 |_=>false
def E2:V->V->Bool
 | .non, .non=>true
 | .bl a, .bl b=>a==b
 | .bl a, .int b=>(if a then 1 else 0)==b
 | .int a, .bl b=>a==(if b then 1 else 0)
 | .int a, .int b=>a==b
 | .str a, .str b=>a==b
 |_,_=>false
def Iu{A:TY}{s:S7}{y x:V}{u v:Value}(ry:RelV y u)(rx:RelV x v)(fy:nJ y=true)(fx:nJ x=true):Y8 A s u v (E2 y x):=by
 cases y with
 |non=>
  cases ry
  cases x with
  |non=>cases rx;exact SeqAt.EqAt.same _
  |bl b=>cases rx;exact SeqAt.EqAt.none_bool b
  |int b=>obtain⟨t,rfl⟩:=rx;exact SeqAt.EqAt.none_int b t
  |str b=>obtain⟨t,rfl⟩:=rx;exact SeqAt.EqAt.none_str b t
  |_=>exact absurd (show false=true from fx) TN
 |bl a=>
  cases ry
  cases x with
  |non=>cases rx;exact SeqAt.EqAt.bool_none a
  |bl b=>cases rx;exact SeqAt.EqAt.bool_bool a b
  |int b=>obtain⟨t,rfl⟩:=rx;exact SeqAt.EqAt.bool_int a b t
  |str b=>obtain⟨t,rfl⟩:=rx;exact SeqAt.EqAt.bool_str a b t
  |_=>exact absurd (show false=true from fx) TN
 |int a=>
  obtain⟨t',rfl⟩:=ry
  cases x with
  |non=>cases rx;exact SeqAt.EqAt.int_none a t'
  |bl b=>cases rx;exact SeqAt.EqAt.int_bool a t' b
  |int b=>obtain⟨t,rfl⟩:=rx;exact Yj a t' b t
  |str b=>obtain⟨t,rfl⟩:=rx;exact Yi a t' b t
  |_=>exact absurd (show false=true from fx) TN
 |str a=>
  obtain⟨t',rfl⟩:=ry
  cases x with
  |non=>cases rx;exact SeqAt.EqAt.str_none a t'
  |bl b=>cases rx;exact SeqAt.EqAt.str_bool a t' b
  |int b=>obtain⟨t,rfl⟩:=rx;exact Yh a t' b t
  |str b=>obtain⟨t,rfl⟩:=rx;exact SeqAt.EqAt.str_str a t' b t
  |_=>exact absurd (show false=true from fx) TN
 |_=>exact absurd (show false=true from fy) TN
def Fv(x:V)(u:Value):Bool:=match u with
 | .none=>E2 .non x
 | .bool b=>E2 (.bl b) x
 | .int i _=>E2 (.int i) x
 | .str z _=>E2 (.str z) x
 |_=>false
def CS{x y:V}{u:Value}(r:RelV y u)(f:nJ y=true):Fv x u=E2 y x:=by
 cases y with
 |non=>cases r;rfl
 |bl b=>cases r;rfl
 |int i=>obtain⟨t,rfl⟩:=r;rfl
 |str z=>obtain⟨t,rfl⟩:=r;rfl
 |_=>exact absurd (show false=true from f) TN
def tV{x:V}:∀{xs:List V}{us:List Value},Vals xs us->xs.all nJ=true->us.any (Fv x)=xs.any fun y=>E2 y x
 |_,_, .nil,_=>rfl
 |y::xs,u::us, .cons r t,f=>by
  rw[UR,Ts] at f
  rw[U0,U0,CS r f.1,tV t f.2]
def p5{A:TY}{s:S7}{x:V}{v:Value}(rx:RelV x v)(fx:nJ x=true):∀{xs:List V}{us:List Value},Vals xs us->xs.all nJ=true->∀u∈us,Y8 A s u v (Fv x u)
 |_,_, .nil,_=>fun u hu=>by cases hu
 |y::xs,u::us, .cons r t,f=>fun u' hu=>by
  rw[UR,Ts] at f
  rcases Th.mp hu with rfl | hu
  ·rw[CS r f.1];exact Iu r rx f.1 fx
  ·exact p5 rx fx t f.2 u' hu
def Nt(x:V)(xs:List V):Bool:=xs.any fun y=>E2 y x
def Qs(K:Tc)(neg:Bool):R2:=fun x y H Q=>∃p xs,y= .ref p/\(SqL K H p xs\/SqT K H p xs)/\nJ x=true/\xs.all nJ=true/\Q (.bl (if neg then !Nt x xs else Nt x xs)) H
def uX:OpR X (Ua .NotIn) (Qs X.K true):=by
 intro pins s σ H x y v u Q I rx ry h
 obtain⟨p,xs,rfl,hq,fx,fs,q⟩:=h
 cases ry
 rcases hq with hq | hq
 ·obtain⟨aR,r,pl,hz⟩:=I.list hq
  refine W5 (Fv x) pl.isList (fun w hw=>p5 rx fx r fs w (by simpa using hw)) ⟨.bl _,H,I,rfl,?_⟩
  rw[show aR.toArray.any (Fv x)=aR.any (Fv x) by simp,tV r fs]
  exact q
 ·obtain⟨aR,r,pl,hz⟩:=I.tuple hq
  refine YK (Fv x) pl (fun w hw=>p5 rx fx r fs w (by simpa using hw)) ⟨.bl _,H,I,rfl,?_⟩
  rw[show aR.toArray.any (Fv x)=aR.any (Fv x) by simp,tV r fs]
  exact q
def ub:CallR X (.builtin "len") (fun xs H Q=>∃p ys,xs=[.ref p]/\(SqL X.K H p ys\/SqT X.K H p ys)/\Q (.int ys.length) H):=by
 intro pins s σ H xs us Q I r h
 obtain⟨p,ys,rfl,hq,q⟩:=h
 obtain⟨u,rfl,rx⟩:=vals1 r
 cases rx
 have hn:=mT
 rcases hq with hq | hq
 ·obtain⟨aR,r',pl,hz⟩:=I.list hq
  have hlen:=r'.length
  exact Calls.call_len_list pl.isList (by simp only[Td]<;>omega) ⟨.int ys.length,H,I.tok _,⟨s.toks+1,by rw[Td,hlen]⟩,q⟩
 ·obtain⟨aR,r',pl,hz⟩:=I.tuple hq
  have hlen:=r'.length
  exact len_tuple pl (by simp only[Td]<;>omega) ⟨.int ys.length,H,I.tok _,⟨s.toks+1,by rw[Td,hlen]⟩,q⟩
def uc:CallR X (.builtin "len") (fun xs H Q=>∃z,xs=[.str z]/\z.length<=Tz/\Q (.int z.length) H):=by
 intro pins s σ H xs us Q I r h
 obtain⟨z,rfl,hz,q⟩:=h
 obtain⟨u,rfl,t,rfl⟩:=vals1 r
 have hn:=mT
 exact len_str (by omega) ⟨.int z.length,H,I.tok _,⟨_,rfl⟩,q⟩
def CallR.or{f:Value}{r r':List V->Hp->VK->Prop}(h:CallR X f r)(h':CallR X f r'):CallR X f (fun xs H Q=>r xs H Q\/r' xs H Q):=by
 intro pins s σ H xs us Q I rs q
 rcases q with q | q
 ·exact h pins s σ H xs us Q I rs q
 ·exact h' pins s σ H xs us Q I rs q
def ud:CallR X (.type "list") (fun xs H Q=>∃p ys,xs=[.ref p]/\(SqL X.K H p ys\/SqT X.K H p ys)/\∀l,H l=none->Q (.ref l) (upd H l (.lst ys))):=by
 intro pins s σ H xs us Q I r h
 obtain⟨p,ys,rfl,hq,q⟩:=h
 obtain⟨u,rfl,rx⟩:=vals1 r
 cases rx
 have fin:∀(aR:List Value),Vals ys aR->ys.length<=Tz->∀(h':Heap) (c':Nat),(∀b o',s.heap.get? b=some o'->h'.get? b=some o')->
  h'.get? s.heap.objs.size=some {cls:= .type "list",dict:=none,data:= .seq aR.toArray c',slots:= #[]}->EP X pins σ Q (.ref s.heap.objs.size) {s with heap:=h'}:=fun aR r' hz h' c' kp e=>
  ⟨.ref s.heap.objs.size,_,I.laid (t':=s.toks) kp (Tg _) (show ObjOk X.prog X.w _ h' _ (.lst ys) from⟨hz,aR,c',r',e⟩),rfl,q _ (I.hok.fresh (Tg _))⟩
 rcases hq with hq | hq
 ·obtain⟨aR,r',pl,hz⟩:=I.list hq
  have hlen:=r'.length
  obtain⟨o,ho,hc,n,hd⟩:=pl.isList
  exact call_list_seq p (.inl rfl) ho hc hd (fun h' c' kp e=>fin aR r' hz h' c' kp e) (by simp only[Td]<;>omega)
 ·obtain⟨aR,r',pl,hz⟩:=I.tuple hq
  have hlen:=r'.length
  obtain⟨o,ho,hc,n,hd⟩:=pl
  exact call_list_seq p (.inr rfl) ho hc hd (fun h' c' kp e=>fin aR r' hz h' c' kp e) (by simp only[Td]<;>omega)
def qW:CallR X (.type "tuple") (fun xs H Q=>∃p ys,xs=[.ref p]/\((SqL X.K H p ys/\∀l,H l=none->Q (.ref l) (upd H l (.tup ys)))\/(SqT X.K H p ys/\Q (.ref p) H))):=by
 intro pins s σ H xs us Q I r h
 obtain⟨p,ys,rfl,h⟩:=h
 obtain⟨u,rfl,rx⟩:=vals1 r
 cases rx
 rcases h with⟨hq,q⟩ | ⟨hq,q⟩
 ·obtain⟨aR,r',pl,hz⟩:=I.list hq
  have hlen:=r'.length
  refine call_tuple_list pl.isList (fun h' kp=>?_) (by simp only[Td]<;>omega)
  have I1:Inv X pins σ H {s with heap:=h'}:=I.kept (t':=s.toks) kp
  have I2:Inv X pins σ (upd H h'.objs.size (.tup ys)) {s with heap:=h'.push {cls:= .type "tuple",data:= .seq aR.toArray} }:=
   I1.laid (t':=s.toks) (fun b o e=>S_ _ e) (Tg _) (show ObjOk X.prog X.w _ _ _ (.tup ys) from⟨hz,aR,r',IsTup.new _ _⟩)
  exact⟨.ref h'.objs.size,_,I2,rfl,q _ (I1.hok.fresh (Tg _))⟩
 ·obtain⟨aR,r',pl,hz⟩:=I.tuple hq
  exact call_tuple_same pl ⟨.ref p,H,I,rfl,q⟩
def MT(K:Tc)(T:String)(x:V)(H:Hp):Prop:=match x with
 | .str _=>T="str"
 | .int _=>T="int"
 | .ref p=>(T="list"/\∃xs,SqL K H p xs)\/(T="tuple"/\∃o,K.lookup p=some o/\o.cls= .type "tuple"/\o.dict=none)\/
    (T="dict"/\((∃aK,H p=some (.dK aK))\/∃aK,H p=some (.dT aK)))\/(T="set"/\∃S n,H p=some (.set S n))
 |_=>False
def Ku{pins:List (Addr×Obj)}{σ:St}{H:Hp}{s:S7}{T:String}{x:V}{v:Value}(I:Inv X pins σ H s)(r:RelV x v)(ty:MT X.K T x H):
 s.TypeIs v T/\∀a,v= .ref a->∃ob,s.heap.get? a=some ob/\ob.dict=none:=by
 cases x with
 |str z=>
  obtain⟨t,rfl⟩:=r
  cases (show T="str" from ty)
  exact⟨W_ s z t,fun _ e=>nomatch e⟩
 |int i=>
  obtain⟨t,rfl⟩:=r
  cases (show T="int" from ty)
  exact⟨typeIs_int s i t,fun _ e=>nomatch e⟩
 |ref p=>
  cases r
  rcases ty with⟨rfl,xs,hq⟩ | ⟨rfl,o,hk,hc,hd⟩ | ⟨rfl,hk⟩ | ⟨rfl,S,n,hk⟩
  ·obtain⟨aR,_,pl,_⟩:=I.list hq
   refine⟨pl.isList.typeIs,fun a e=>?_⟩
   cases e
   obtain⟨o,n,e,c,hd,_⟩:=pl
   exact⟨o,e,hd⟩
  ·refine⟨⟨o,I.kIn p o hk,hc⟩,fun a e=>?_⟩
   cases e
   exact⟨o,I.kIn _ o hk,hd⟩
  ·have z:∃o,s.heap.get? p=some o/\o.ExactDict:=by
    rcases hk with⟨aK,hk⟩ | ⟨aK,hk⟩
    ·obtain⟨_,_,_,_,o,_,_,e,ex,_⟩:=I.hok p _ hk
     exact⟨o,e,ex⟩
    ·obtain⟨_,_,_,_,o,_,_,e,ex,_⟩:=I.hok p _ hk
     exact⟨o,e,ex⟩
   obtain⟨o,e,ex⟩:=z
   refine⟨⟨o,e,ex.1⟩,fun a e2=>?_⟩
   cases e2
   exact⟨o,e,ex.2.1⟩
  ·obtain⟨o,_,_,_,e,ex,_⟩:=I.hok p _ hk
   refine⟨⟨o,e,ex.1⟩,fun a e2=>?_⟩
   cases e2
   exact⟨o,e,ex.2.1⟩
 |_=>exact Uz ty
def Qw(K:Tc)(T:String)(r:V->List V->Hp->VK->Prop)(to:TE)(t:TA):TE:=fun σ H Q=>to σ H fun x H1=>MT K T x H1/\t σ H1 fun xs H2=>r x xs H2 Q
variable{o e:Expr}{es:List Expr}{to:TE}{t:TA}{name:Str}{apos bP:Pos}{T id:String}{r:V->List V->Hp->VK->Prop}
def HU(pa:PlainAttrs T)(slot:Slot T name id)(Ou:typeOf (.builtin id)=pure (.type "method_descriptor"))(hm:K4 X id r)(ho:PE X o to)(ha:PA X (e::es) t)
 (jx:Vp o name X.env (eval o X.env)=eval o X.env:=by rfl)
 (pM:((UH bP (To (e::es) X.env)).all (fun x=>!x.1)&&(WK bP (VF [] X.env)).all (fun x=>x.1.isSome)
  &&decide ((e::es).length+([]:List VO).length+(if ([]:List VO).isEmpty then 0 else 1)<30))=true:=by rfl)
 (jy:(apos.endLine==bP.line)=true:=by rfl) (hs:To (e::es) X.env=(false,eval e X.env)::To es X.env:=by rfl) (yW:(UH bP (To es X.env)).any (·.1)=false:=by rfl):
 PE X (.Call (.Attribute o name apos) (e::es) [] bP) (Qw X.K T r to t):=by
 intro pins s σ H Q I h
 refine wpAny_Call_method_late jx pM jy rfl (cJ (ho pins s σ H _ I h) fun v s1 ⟨x,H1,I1,r1,ty,q1⟩=>?_)
 obtain⟨h1,h2⟩:=Ku I1 r1 ty
 refine⟨T,id,pa,slot,Ou,h1,h2,?_⟩
 have hA:=ha bP pins s1 σ H1 _ I1 q1
 rw[hs] at hA⊢
 refine Wx (by show (false||(UH bP (To es X.env)).any (·.1))=false;rw[yW]<;>rfl) (VU ?_)
 exact cJ hA fun us s2 ⟨vs,H2,I2,r2,q2⟩=>hm pins s2 σ H2 x vs v us Q I2 r1 r2 q2
end
def Pn(X:Cx)(id:String)(r:V->List V->Hp->VK->Prop):Prop:=
 ∀(pins:List (Addr×Obj)) (s:S7) (σ:St) (H:Hp) (x:V) (xs:List V) (v:Value) (us:List Value) (Q:VK),Inv X pins σ H s->RelV x v->Vals xs us->r x xs H Q->
  wpAny (model X.prog X.w) X.A (call (.builtin id) (v::us)) (EP X pins σ Q) X.xe s
def Vals.one:∀{x:V}{us:List Value},Vals [x] us->∃u,us=[u]/\RelV x u
 |_,_, .cons r .nil=>⟨_,rfl,r⟩
def Vals.reverse{xs:List V}{us:List Value}(h:Vals xs us):Vals xs.reverse us.reverse:=by
 induction h with
 |nil=>exact .nil
 |cons r t ih=>rw[Wg,Wg];exact Vals.append ih (.cons r .nil)
section
variable{X:Cx}{pins:List (Addr×Obj)}{σ:St}{H:Hp}{s:S7}{l:Addr}{xs ys:List V}
def Inv.lset{aR its':List Value}{n:Nat}{f:Array Value->Array Value}{t':Nat}(I:Inv X pins σ H s)(hH:H l=some (.lst xs))
 (e:s.heap.get? l=some {cls:= .type "list",data:= .seq aR.toArray n})(hf:f aR.toArray=its'.toArray)(hv:Vals ys its')(hz:ys.length<=Tz):
 Inv X pins σ (upd H l (.lst ys)) {s with heap:=s.heap.update l (U4 f),toks:=t'}:=by
 have q:=PySem.IsL.update e f
 rw[hf] at q
 refine I.write (x:=l) (e:=l) (by rw[hH];exact trivial) (.inl rfl) (fun b' u hb hu=>(Wz s.heap (U4 f) (Uq hb)).trans hu) ⟨_,q⟩ ?_
 exact⟨hz,its',_,hv,q⟩
def Inv.lnew{aR:List Value}{t':Nat}(I:Inv X pins σ H s)(hv:Vals ys aR)(hz:ys.length<=Tz):
 Inv X pins σ (upd H s.heap.objs.size (.lst ys)) {s with heap:=s.heap.push {cls:= .type "list",data:= .seq aR.toArray},toks:=t'}:=
 I.laid (fun _ _ q=>S_ _ q) (Tg _) ⟨hz,aR,0,hv,Tt _ rfl⟩
def Inv.fresh(I:Inv X pins σ H s):H s.heap.objs.size=none:=I.hok.fresh (Tg _)
def Inv.lstM(I:Inv X pins σ H s)(hH:H l=some (.lst xs)):xs.length<=Tz/\∃(aR:List Value) (n:Nat),Vals xs aR/\xs.length=aR.length/\s.heap.get? l=some {cls:= .type "list",data:= .seq aR.toArray n}:=by
 obtain⟨z,aR,n,r,e⟩:=I.hok l _ hH
 exact⟨z,aR,n,r,r.length,e⟩
def DI{n:Nat}(h:n<=Tz):V0 n=false:=by
 unfold V0
 exact decide_eq_false (by omega)
end
section
variable{X:Cx}
def AI:V->List V->Hp->VK->Prop:=fun x vs H Q=>∃l xs y,x= .ref l/\vs=[y]/\H l=some (.lst xs)/\xs.length<Tz/\Q .non (upd H l (.lst (xs++[y])))
def sO:Pn X "list.append" AI:=by
 intro pins s σ H x vs v us Q I rx rv h
 obtain⟨l,xs,y,rfl,rfl,hH,hz,q⟩:=h
 cases rx
 obtain⟨u,rfl,ru⟩:=rv.one
 obtain⟨z,aR,n,r,hl,e⟩:=I.lstM hH
 refine XW F.slot_list_append ⟨_,e,rfl⟩ F.entry_list_append (F.args_list_append_2 _ _) (PySem.list_append l aR.toArray n u (by rw[Td];omega)) ⟨e,?_⟩
 refine⟨.non,_,I.lset (its':=aR++[u]) hH e (by simp) (r.append (.cons ru .nil)) ?_,rfl,q⟩
 rw[Ti,List.length_singleton]
 omega
def G0:V->List V->Hp->VK->Prop:=fun x vs H Q=>∃l b xs zs,x= .ref l/\vs=[.ref b]/\H l=some (.lst xs)/\H b=some (.lst zs)/\xs.length+zs.length<=Tz/\Q .non (upd H l (.lst (xs++zs)))
def KP:Pn X "list.extend" G0:=by
 intro pins s σ H x vs v us Q I rx rv h
 obtain⟨l,b,xs,zs,rfl,rfl,hH,hB,hz,q⟩:=h
 cases rx
 obtain⟨u,rfl,ru⟩:=rv.one
 cases ru
 obtain⟨z,aR,n,r,hl,e⟩:=I.lstM hH
 obtain⟨z2,eF,n2,r2,HD,e2⟩:=I.lstM hB
 have hsz:aR.toArray.size+eF.toArray.size<=Tz:=by rw[Td,Td];omega
 have LM:¬(!aR.toArray.isEmpty&&V0 (aR.toArray.size+eF.toArray.size))=true:=by
  rw[DI hsz,WT]
  exact TN
 refine XW F.slot_list_extend ⟨_,e,rfl⟩ F.entry_list_extend (F.args_list_extend_2 _ _)
  (AutoSeq1.list_extend_list_list_0 l aR.toArray n b eF.toArray n2 LM (by rw[Td];omega) (by omega)) ⟨e,e2,?_⟩
 refine⟨.non,_,I.lset (its':=aR++eF) hH e (by simp) (r.append r2) ?_,rfl,q⟩
 rw[Ti]
 omega
def OV:R2:=fun x y H Q=>∃l b xs zs,x= .ref l/\y= .ref b/\H l=some (.lst xs)/\H b=some (.lst zs)/\xs.length+zs.length<=Tz/\∀p,H p=none->Q (.ref p) (upd H p (.lst (xs++zs)))
def Jy:OpR X (V6 .Add) OV:=by
 intro pins s σ H x y v u Q I rx ry h
 obtain⟨l,b,xs,zs,rfl,rfl,hH,hB,hz,q⟩:=h
 cases rx
 cases ry
 obtain⟨z,aR,n,r,hl,e⟩:=I.lstM hH
 obtain⟨z2,eF,n2,r2,HD,e2⟩:=I.lstM hB
 refine PySem.P.add_list e e2 ?_ (by rw[Td,Td];omega)
 have ea:aR.toArray++eF.toArray=(aR++eF).toArray:=by simp
 rw[ea]
 exact⟨.ref _,_,I.lnew (t':=s.toks) (r.append r2) (by rw[Ti];omega),rfl,q _ I.fresh⟩
end
end L2
namespace Att
open PySem PySem.W PySem.Calls PyProof.Rows
def ints_of_wellAll{P:Params}{h:Heap}:∀(ns:List Int) (vs:List Value),WellAll P h vs (ns.map WData.int)->U2 vs ns:=by
 intro ns
 induction ns with
 |nil=>
  intro vs w
  rw[UP] at w
  cases w
  exact .nil
 |cons n ns ih=>
  intro vs w
  rw[Tf] at w
  cases w with
  |cons a b=>
   cases a
   exact .cons _ _ (ih _ b)
def script_of{l:OpenLaw}{n:Nat}(hn:l.most=some n){P:Params}{h:Heap}{args:List WData}{vals:List Value}
 (FH:l.row.toRowW.claim.pre args=true)(Oz:WellAll P h vals args):
 ∃a vs ns,vals=[TV a]/\args=[WData.list (ns.map WData.int)]/\h.get? a=some {cls:= .type "list",data:= .seq vs.toArray}/\U2 vs ns/\ns.length<=n:=by
 have RO:WShape.hasAll [] args [.list .int]=true:=(pre_splitW FH).1
 have hc:l.pre.holds [] {args:=args}=true:=(pre_splitW FH).2
 obtain⟨d,r,rfl,h1,h2⟩:=hasAllW_cons RO
 obtain rfl:=hasAllW_nil h2
 obtain⟨xs,rfl,h3⟩:=hasW_list h1
 obtain⟨ns,rfl⟩:=items_int h3
 have hlen:ns.length<=n:=by
  unfold OpenLaw.pre at hc
  have h4:(WTm.not (.lt (.lit (.int (n:Int))) (.len (.arg 0)))).holds [] {args:=[.list (ns.map .int)]}=true:=by
   have h4:=(holds_andW hc).1
   rw[hn] at h4
   exact h4
  have h5:=condW_of h4 (w_not (w_lt w_lit (w_len_list (w_arg rfl))))
  rw[S6] at h5
  refine Nat.le_of_not_lt fun q=>?_
  have q':(n:Int)<((ns.length:Nat):Int):=by omega
  first
   |(rw [decide_eq_true q'] at h5;exact absurd h5 (by decide))
   |(simp at h5;omega)
 cases Oz with
 |cons w1 w2=>
  cases w2
  cases w1 with
  |list ho N0=>exact⟨_,_,ns,rfl,rfl,ho,ints_of_wellAll ns _ N0,hlen⟩
def post_true(l:OpenLaw)(args:List WData):l.row.toRowW.claim.post args (.bool true) args=true:=
 postW_of (r:=l.row.toRowW) (X:=(true==true))
  (show WShape.has [] (.bool true) .bool=true by first | rfl | decide | simp[WShape.has,WShape.arms,WShape.armsAll])
  (show (WTm.eq .res (.lit (.bool true))).value [] {args:=args,res:=some (.bool true),after:=args}=some (.bool (true==true)) from w_eq_bool (w_res rfl) w_lit) rfl
def attach_call{l:OpenLaw}{n:Nat}{q:TM}{loose:List Str}{XP:(Str->Option Value)->Heap->Prop}{YP:World->Heap->Prop}{d:DefRec}
 (hn:l.most=some n)(Lw:d.params.defaults=[])
 (call:∀(w:World) (s₀ s₁:S7) (mg mb:Str->Option Value) (fa:Addr) (o:Obj) (pm cd doc:Value) (a:Addr) (vs:List Value) (ns:List Int),
  Ground q loose [] XP w s₀ mg mb s₁.heap->YP w s₁.heap->
  s₁.heap.get? fa=some o->o.data= .func (docDef d.name d.params d.body d.scope pm cd doc)->s₁.heap.CodeRec cd d.name->mg d.name=some (.ref fa)->
  s₁.heap.get? a=some {cls:= .type "list",data:= .seq vs.toArray}->U2 vs ns->ns.length<=n->s₁.gens= #[]->
  Wc (model l.prog w) XU (.call (.ref fa) ⟨[.ref a],[]⟩) (fun r s'=>r= .ok (.ret (.bool true))/\OldK s₁.heap s'.heap/\s'.os=s₁.os/\W9 s'.gens) s₁):
 WalkO q loose XP YP l.row.toRowW d [] (fun f vs=>Y9 f vs):=by
 intro w s₀ s₁ mg mb G Y fa o pm cd doc dV kV ho hd vW hD IK hg args vals as FH RD SS Oz SO
 obtain rfl:dV= .none:=Dflts.none hD Lw
 obtain rfl:kV= .none:=Dflts.noKw hD
 obtain⟨a,vs,ns,rfl,rfl,Dj,hints,hlen⟩:=script_of hn FH Oz
 refine enter_call (X7 (call w s₀ s₁ mg mb fa o pm cd doc a vs ns G Y ho (fd_plain hd) vW IK Dj hints hlen hg) fun r s' hq=>?_)
 obtain⟨rfl,h2,h3,h4⟩:=hq
 exact⟨.inl ⟨.bool true, .bool true,[],rfl,fun _=>rfl, .bool true,post_true l _,fun _=>⟨X3,fun _ hm=>(nomatch hm)⟩⟩,h2,h3,h4⟩
section
def ledger(h:Heap)(L d:Addr):List (Addr×Obj):=(Um h.objs.size).filterMap fun a=>if a=L\/a=d then none else(h.get? a).map fun o=>(a,o)
end
end Att
namespace L2
open PySem PySem.Spec PyProof.Rows
def tM:∀{vs:List Value}{ns:List Int},U2 vs ns->Vals (ns.map V.int) vs
 |_,_, .nil=> .nil
 |_,_, .cons n t h=> .cons ⟨t,rfl⟩ (tM h)
def Ih(H:Hp):Prop:=∀b,H b=none\/∃o xs,H b=some (.frz o (.lst xs))
def w9{P:TM}{w:World}{K:Tc}{mg mb:Str->Option Value}{CX:zR}{k:Nat}{fa a:Addr}{fd:U1}{x:Str}{sp:Sp}{s₁:S7}{vs:List Value}{ns:List Int}
 (KX:K.In s₁.heap)(Nj:s₁.heap.Ns Tx mg)(hb:s₁.heap.Ns builtinsNs mb)(Q7:∀x:Str,x≠"__name__"->mb x=Ub x)(LL:s₁.heap.NoLimit)(hg:s₁.gens= #[])
 (ha:s₁.heap.get? a=some {cls:= .type "list",data:= .seq vs.toArray})(hi:U2 vs ns)(hl:ns.length<=Tz)(hr:Room k XU)
 (F:∀base:Heap,K.In base->base.Ns Tx mg->FnOk P w K mg base CX k fa fd [x] sp)(Lu:∀(s:S7) (u:Value),YD s fd ⟨[u],[]⟩ [(x,u)])
 (vY:∀H:Hp,Ih H->SqL K H a (ns.map V.int)->sp [.ref a] H (fun v _=>v= .bl true) fun _ _ _=>False)
 (NV:∀H e s',CX [] H s₁ (fun _ _ _=>False) e s'->False):
 Wc (model P w) XU (.call (.ref fa) ⟨[.ref a],[]⟩) (fun r s'=>r= .ok (.ret (.bool true))/\OldK s₁.heap s'.heap/\s'.os=s₁.os/\W9 s'.gens) s₁:=by
 have rv:=tM hi
 have OK:=hi.length
 have core:∀H:Hp,Ih H->SqL K H a (ns.map V.int)->HOk P w H s₁.heap->(∀b,H b≠none->b=a)->(H a≠none->K.lookup a=none)->
  Wc (model P w) XU (.call (.ref fa) ⟨[.ref a],[]⟩) (fun r s'=>r= .ok (.ret (.bool true))/\OldK s₁.heap s'.heap/\s'.os=s₁.os/\W9 s'.gens) s₁:=by
  intro H hO hS hok hA hK
  have zZ:∀{b:Addr}{o:Obj},s₁.heap.get? b=some o->H b=none->(ur s₁.heap H).get? b=some o:=fun e n=>Df e n
  have Me:∀{b:Addr}{o:Obj}{es:Array Vy}{ep:Nat},s₁.heap.get? b=some o->o.data= .dict es ep->H b=none:=fun {b o es ep} e d=>by
   cases q:H b with
   |none=>rfl
   |some u=>
    have e':b=a:=hA b (by rw[q];simp)
    subst e'
    rw[ha] at e;cases e
    have d':Data.seq vs.toArray _=VD es ep:=d
    cases d'
  have Nw:∀{b:Addr}{m:Str->Option Value},s₁.heap.Ns b m->(ur s₁.heap H).Ns b m:=fun {b m} ⟨o,es,ep,e,d,r⟩=>⟨o,es,ep,zZ e (Me e d),d,r⟩
  have PQ:K.In (ur s₁.heap H):=fun b o e=>zZ (KX b o e) (by
   cases q:H b with
   |none=>rfl
   |some u=>
    have e':b=a:=hA b (by rw[q];simp)
    subst e'
    rw[hK (by rw[q];simp)] at e;cases e)
  have hM:Mod K mg (ur s₁.heap H):=⟨PQ,Nw Nj,⟨mb,Nw hb,Q7⟩,let ⟨mc,h1,h2⟩:=LL;⟨mc,Nw h1,h2⟩⟩
  have e0:Env0 P w K mg (ur s₁.heap H) XU [] s₁ H:=⟨rfl,hM,fun b o e=>Gg e,Nat.le_of_eq (Bg _ _),trivial,fun b hb=>absurd (show b∈([]:List Addr) from hb) (by simp),hok, .of_eq hg⟩
  refine X7 ((F _ PQ (Nw Nj)).run XU [] s₁ H ⟨[.ref a],[]⟩ [.ref a] [.ref a] _ _ hr e0 (Lu s₁ (.ref a)) (.cons rfl .nil) (vY H hO hS)) fun r s' h=>?_
  cases r with
  |error e=>exact(NV H e s' h).elim
  |ok fl=>
   cases fl with
   |next=>exact Uz h
   |brk=>exact Uz h
   |cont=>exact Uz h
   |ret u=>
    obtain⟨v,H',os,bare,un,Oj,r',q⟩:=h
    have q':v= .bl true:=q
    subst q'
    obtain rfl:u=U3 true:=r'
    refine⟨rfl,OldK.of_keep fun b o e=>?_,os,bare⟩
    cases q:H b with
    |none=>exact un.keep b o e q (by intro z;exact absurd (show b∈([]:List Addr) from z) (by simp)) (by simp)
    |some u=>
     rcases hO b with z | ⟨ob,xs,z⟩
     ·rw[q] at z;cases z
     ·have z2:=un.frzs b ob _ z
      obtain⟨e1,_⟩:=hok b _ z
      obtain⟨e2,_⟩:=Oj b _ z2
      rw[e] at e1;cases e1
      exact e2
 cases hk:K.lookup a with
 |some o=>
  have e:=KX a o hk
  rw[ha] at e
  cases e
  refine core (fun _=>none) (fun _=> .inl rfl) (.inr ⟨_,vs.toArray,_,hk,rfl,rfl,rfl,by rw[Td,OK];exact hl,by simpa using rv⟩) (fun b u z=>by have z':(none:Option HO)=some u:=z;cases z') (fun b z=>absurd rfl z) fun z=>absurd rfl z
 |none=>
  refine core (fun b=>if b=a then some (.frz {cls:= .type "list",data:= .seq vs.toArray} (.lst (ns.map V.int))) else none) (fun b=>?_) (.inl (.inr ⟨{cls:= .type "list",data:= .seq vs.toArray},if_pos rfl⟩)) (fun b u z=>?_) (fun b z=>?_) fun _=>hk
  ·by_cases hb:b=a
   ·exact .inr ⟨_,_,if_pos hb⟩
   ·exact .inl (if_neg hb)
  ·by_cases hb:b=a
   ·have z':=(if_pos hb).symm.trans z
    cases z'
    subst hb
    exact⟨ha,by rw[S6];exact hl,vs,_,rv,ha⟩
   ·have z':=(if_neg hb).symm.trans z
    cases z'
  ·by_cases hb:b=a
   ·exact hb
   ·exact absurd (if_neg hb) z
abbrev SG{K:Tc}{h:Heap}(_:K.In h):Tc:=K
def ND{l:Y_}{n k:Nat}{q:TM}{loose:List Str}{XP:(Str->Option Value)->Heap->Prop}{YP:World->Heap->Prop}{d:DefRec}{K:Params->Tc}{CX:World->zR}{sp:World->Sp}{x:Str}
 (hn:l.most=some n)(Ni:n<=Tz)(Lw:d.params.defaults=[])(hr:Room k XU)
 (hY:∀(w:World) (h:Heap),YP w h->(K w.params).In h)
 (F:∀(w:World) (mg:Str->Option Value) (fa:Addr) (h:Heap),(K w.params).In h->h.Ns Tx mg->mg d.name=some (.ref fa)->
  ∃fd:U1,(∀(s:S7) (u:Value),YD s fd ⟨[u],[]⟩ [(x,u)])/\
   ∀base:Heap,(K w.params).In base->base.Ns Tx mg->FnOk l.prog w (K w.params) mg base (CX w) k fa fd [x] (sp w))
 (vY:∀(w:World) (H:Hp) (a:Addr) (ns:List Int),ns.length<=n->Ih H->SqL (K w.params) H a (ns.map V.int)->sp w [.ref a] H (fun v _=>v= .bl true) fun _ _ _=>False)
 (NV:∀(w:World) (H:Hp) (s:S7) (e:Value) (s':S7),CX w [] H s (fun _ _ _=>False) e s'->False):
 PySem.W.WalkO q loose XP YP l.row.toRowW d [] (fun f vs=>Y9 f vs):=by
 refine Att.attach_call hn Lw fun w s₀ s₁ mg mb fa o pm cd doc a vs ns G Y ho hd vW IK Dj hints hlen hg=>?_
 have KX:=hY w _ Y
 obtain⟨fd,hb,hF⟩:=F w mg fa _ KX G.T.g IK
 exact w9 KX G.T.g G.T.b G.T.builtins G.T.nolimit hg Dj hints (Tw hlen Ni) hr hF hb (fun H hO hS=>vY w H a ns hlen hO hS) fun H e s'=>NV w H s₁ e s'
abbrev K0:zR:=fun _ _ _ _ _ _=>False
abbrev E0:XK:=fun _ _ _=>False
structure Fun (K:Tc) (x qual:Str) (st:Stmt) (f:Addr) (fd:U1):Prop where
 ex:∃(oc:Value) (od:Option Addr) (kV doc pm:Value) (an:Option Addr) (bo ct:Value) (Cg:Array (Option Value)),
  fd=Uu x qual (eJ st) (aV st) (ai st) .none kV doc pm an bo ct/\K.lookup f=some ⟨oc,od, .func fd,Cg⟩/\Vl K bo qual=true
 kp:Ux K (.ref f)=true
section
variable{P:TM}{w:World}{K:Tc}{mg:Str->Option Value}{base:Heap}
def Fun.ok{x qual:Str}{st:Stmt}{f:Addr}{fd:U1}{N ps:List Str}{k:Nat}{sp:Sp}(F:Fun K x qual st f fd)(S:FnScope N ps (ai st))(len:∀vs H Q E,sp vs H Q E->vs.length=ps.length)
 (ix:∀(bo:Value) (A:TY) (outer:List Env) (s:S7) (H:Hp) (vs:List V) (Q:VK) (E:XK),Room k (A.deeper (UA qual (ai st) s.heap.objs.size f bo))->sp vs H Q E->
  ∃t,PSs (a_ K0 P w K mg base N qual (ai st) f bo A outer s H E).nox (aV st) t/\t {nx:=fun _ H'=>Q .non H',rt:=Q} (start N vs) H):FnOk P w K mg base K0 (k+1) f fd ps sp:=by
 obtain⟨oc,od,kV,doc,pm,an,bo,ct,Cg,rfl,lk,vW⟩:=F.ex
 refine Ht lk vW S len fun A outer s H vs Q E hr vY=>?_
 obtain⟨t,h,q⟩:=ix bo A outer s H vs Q E hr vY
 exact⟨t,h.nox,q⟩
def Fun.binds{x qual:Str}{st:Stmt}{f:Addr}{fd:U1}{ps:List Str}(F:Fun K x qual st f fd)
 (h:∀(kV doc pm:Value) (an:Option Addr) (bo ct:Value) (us:List Value),us.length=ps.length->bindArgs (Uu x qual (eJ st) (aV st) (ai st) .none kV doc pm an bo ct) ⟨us,[]⟩=pure (ps.zip us)):Binds K fd ps []:=by
 obtain⟨oc,od,kV,doc,pm,an,bo,ct,Cg,rfl,lk,vW⟩:=F.ex
 exact .all (h kV doc pm an bo ct)
def CV{x qual:Str}{st:Stmt}{f:Addr}{oc:Value}{od an:Option Addr}{Cg:Array (Option Value)}{kV doc pm bo ct:Value}(l:K.lookup f=some ⟨oc,od, .func (Uu x qual (eJ st) (aV st) (ai st) .none kV doc pm an bo ct),Cg⟩)
 (c:Vl K bo qual=true)(k:Ux K (.ref f)=true):Fun K x qual st f (Uu x qual (eJ st) (aV st) (ai st) .none kV doc pm an bo ct):=⟨⟨oc,od,kV,doc,pm,an,bo,ct,Cg,rfl,l,c⟩,k⟩
end
section
variable{X:Cx}
def pv(i:Nat){x:Str}{pos:Pos}(hN:X.N[i]? =some x:=by rfl)(hv:NM X.env.scope x:=by first | exact Or.inl rfl | exact Or.inr (Or.inl rfl) | exact Or.inr (Or.inr rfl))(hd:(x==("__debug__":Str))=false:=by decide)
 (vW:(x==("__classdict__":Str))=false:=by decide):PE X (.Name x pos) (vK i):=JX hN hv hd vW
end
def Same(H H':Hp):Prop:=∀b o,H b=some o->H' b=some o
def Same.refl(H:Hp):Same H H:=fun _ _ h=>h
def Same.trans{H H1 H2:Hp}(a:Same H H1)(b:Same H1 H2):Same H H2:=fun c o h=>b c o (a c o h)
def Same.free{H H':Hp}(e:Same H H'){l:Addr}(h:H' l=Option.none):H l=Option.none:=by
 cases q:H l with
 |none=>rfl
 |some o=>
  rw[e l o q] at h
  cases h
def Same.seq{K:Tc}{H H':Hp}{a:Addr}{xs:List V}(e:Same H H')(h:SqL K H a xs):SqL K H' a xs:=by
 rcases h with(h | ⟨o,h⟩) | h
 ·exact .inl (.inl (e _ _ h))
 ·exact .inl (.inr ⟨o,e _ _ h⟩)
 ·exact .inr h
section
variable{κ:Type}[DecidableEq κ]
def mD(aK:List (κ×V))(k:κ):Option V:=(aK.find? fun kv=>decide (kv.1=k)).map (·.2)
def putK(aK:List (κ×V))(k:κ)(v:V):List (κ×V):=
 if (aK.any fun kv=>decide (kv.1=k))=true then aK.map (fun kv=>if kv.1=k then(kv.1,v) else kv) else aK++[(k,v)]
def mF{p:κ×V}{r:List (κ×V)}{k:κ}(e:p.1=k):mD (p::r) k=some p.2:=by simp[mD,VC,e]
def mE{p:κ×V}{r:List (κ×V)}{k:κ}(e:¬p.1=k):mD (p::r) k=mD r k:=by simp[mD,VC,e]
def qQ(k:κ):∀aK:List (κ×V),(aK.any fun kv=>decide (kv.1=k))=(mD aK k).isSome
 |[]=>rfl
 |p::r=>by
  rw[U0]
  by_cases e:p.1=k
  ·simp only[mF e,decide_eq_true e,Bool.true_or,Option.isSome_some]
  ·rw[mE e,decide_eq_false e,Bool.false_or];exact qQ k r
def gU(aK:List (κ×V))(k:κ)(v:V):(putK aK k v).length<=aK.length+1:=by
 unfold putK
 split
 ·rw[S6];omega
 ·rw[Ti,Tj,Ud];omega
def RelO.isSome_eq{o:Option V}{u:Option Value}(r:RelO o u):o.isSome=u.isSome:=by
 cases o with
 |none=>cases u with
  |none=>rfl
  |some _=>exact(show False from r).elim
 |some _=>cases u with
  |none=>exact(show False from r).elim
  |some _=>rfl
def RelO.getD{o:Option V}{u:Option Value}{d:V}{d':Value}(r:RelO o u)(rd:RelV d d'):RelV (o.getD d) (u.getD d'):=by
 cases o with
 |none=>cases u with
  |none=>exact rd
  |some _=>exact(show False from r).elim
 |some _=>cases u with
  |none=>exact(show False from r).elim
  |some _=>exact r
def KV.val{aK:List (κ×V)}{vs:List (κ×Value)}(r:KV aK vs)(k:κ):RelO (mD aK k) (Yq vs k):=by
 unfold KV at r
 induction r with
 |nil=>exact UB
 | @cons p q ps qs h t ih=>
   obtain⟨h1,h2⟩:=h
   by_cases e:p.1=k
   ·have e':q.1=k:=h1.symm.trans e
    have b:Yq (q::qs) k=some q.2:=by simp[Yq,VC,e']
    rw[mF e,b];exact h2
   ·have e':¬q.1=k:=fun z=>e (h1.trans z)
    have b:Yq (q::qs) k=Yq qs k:=by simp[Yq,VC,e']
    rw[mE e,b];exact ih
def KV.any{aK:List (κ×V)}{vs:List (κ×Value)}(r:KV aK vs)(k:κ):(aK.any fun kv=>decide (kv.1=k))=vs.any fun kv=>decide (kv.1=k):=by
 unfold KV at r
 induction r with
 |nil=>rfl
 |cons h t ih=>rw[U0,U0,ih,h.1]
def KV.repl{aK:List (κ×V)}{vs:List (κ×Value)}(r:KV aK vs)(k:κ){y:V}{u:Value}(ry:RelV y u):
 KV (aK.map fun kv=>if kv.1=k then(kv.1,y) else kv) (vs.map fun kv=>if kv.1=k then(kv.1,u) else kv):=by
 unfold KV at r⊢
 induction r with
 |nil=>exact .nil
 | @cons p q ps qs h t ih=>
   rw[Tf,Tf]
   refine .cons ?_ ih
   obtain⟨h1,h2⟩:=h
   by_cases e:p.1=k
   ·rw[if_pos e,if_pos (h1.symm.trans e)];exact⟨h1,ry⟩
   ·rw[if_neg e,if_neg (fun z=>e (h1.trans z))];exact⟨h1,h2⟩
def KV.put{aK:List (κ×V)}{vs:List (κ×Value)}(r:KV aK vs)(k:κ){y:V}{u:Value}(ry:RelV y u):KV (putK aK k y) (stored vs k u):=by
 unfold putK stored
 rw[r.any k]
 by_cases e:(vs.any fun kv=>decide (kv.1=k))=true
 ·rw[if_pos e,if_pos e];exact r.repl k ry
 ·rw[if_neg e,if_neg e];exact Paired.snoc r ⟨rfl,ry⟩
def KV.length{aK:List (κ×V)}{vs:List (κ×Value)}(r:KV aK vs):aK.length=vs.length:=Vw r
end
def nN{P:TM}{w:World}{k:Key}{u:Value}(r:RelV (kV k) u):(bK P w).is k u=true:=by
 cases k with
 |inl i=>obtain⟨t,e⟩:=(show∃t,u=Yv i t from r);subst e;exact xh P w i t
 |inr x=>obtain⟨t,e⟩:=(show∃t,u=Yu x t from r);subst e;exact xi P w x t
def Jk{a b:Key}(e:kV a=kV b):a=b:=by
 cases a with
 |inl i=>cases b with
  |inl j=>have e':V.int i=V.int j:=e;injection e' with e';rw[e']
  |inr y=>exact nomatch (show V.int i=V.str y from e)
 |inr x=>cases b with
  |inl j=>exact nomatch (show V.str x=V.int j from e)
  |inr y=>have e':V.str x=V.str y:=e;injection e' with e';rw[e']
def Ao:∀{a b:List Key},a.map kV=b.map kV->a=b
 |[],[],_=>rfl
 |[],_::_,e=>by simp at e
 |_::_,[],e=>by simp at e
 |x::xs,y::ys,e=>by
  rw[Tf,Tf] at e
  injection e with e1 e2
  rw[Jk e1,Ao e2]
def sA{P:TM}{w:World}:∀{ks:List Key}{us:List Value},Vals (ks.map kV) us->ItemsAre (bK P w) ks us
 |[],_,r=>by rw[UP] at r;cases r;exact .nil
 |k::ks,_,r=>by
  rw[Tf] at r
  cases r with
  |cons h t=>exact .cons (nN h) (sA t)
abbrev KT(H:Hp):List (List Key×V)->List (List Key×Addr×Value)->Prop:=XB fun p q=>p.1=q.1/\H q.2.1=some (.tup (p.1.map kV))/\RelV p.2 q.2.2
def KT.val{H:Hp}{aK:List (List Key×V)}{xs:List (List Key×Addr×Value)}(r:KT H aK xs)(k:List Key):RelO (mD aK k) ((atKey xs k).map (·.2)):=by
 induction r with
 |nil=>exact UB
 | @cons p q ps qs h t ih=>
   obtain⟨h1,_,h2⟩:=h
   by_cases e:p.1=k
   ·have e':q.1=k:=h1.symm.trans e
    have b:atKey (q::qs) k=some q.2:=by simp[atKey,VC,e']
    rw[mF e,b];exact h2
   ·have e':¬q.1=k:=fun z=>e (h1.trans z)
    have b:atKey (q::qs) k=atKey qs k:=by simp[atKey,VC,e']
    rw[mE e,b];exact ih
def KT.repl{H:Hp}{aK:List (List Key×V)}{xs:List (List Key×Addr×Value)}(r:KT H aK xs)(k:List Key){y:V}{u:Value}(ry:RelV y u):
 KT H (aK.map fun kv=>if kv.1=k then(kv.1,y) else kv) (xs.map (putAt k u)):=by
 induction r with
 |nil=>exact .nil
 | @cons p q ps qs h t ih=>
   rw[Tf,Tf]
   refine .cons ?_ ih
   obtain⟨h1,h2,h3⟩:=h
   unfold putAt
   by_cases e:p.1=k
   ·rw[if_pos e,if_pos (h1.symm.trans e)];exact⟨h1,h2,ry⟩
   ·rw[if_neg e,if_neg (fun z=>e (h1.trans z))];exact⟨h1,h2,h3⟩
def KT.put{H:Hp}{aK:List (List Key×V)}{xs:List (List Key×Addr×Value)}(r:KT H aK xs)(k:List Key){b:Addr}{y:V}{u:Value}(hb:H b=some (.tup (k.map kV)))(ry:RelV y u):
 KT H (putK aK k y) (Wt xs k b u):=by
 have e:(aK.any fun kv=>decide (kv.1=k))=(atKey xs k).isSome:=by
  rw[qQ,(r.val k).isSome_eq,Xa]
 unfold putK Wt
 rw[e]
 by_cases q:(atKey xs k).isSome=true
 ·rw[if_pos q,if_pos q];exact r.repl k ry
 ·rw[if_neg q,if_neg q];exact Paired.snoc r ⟨rfl,hb,ry⟩
def KT.keeps{H H':Hp}{aK:List (List Key×V)}{xs:List (List Key×Addr×Value)}(r:KT H aK xs)(ht:∀b ys,H b=some (.tup ys)->H' b=some (.tup ys)):KT H' aK xs:=
 Paired.mapP r fun _ _ z=>⟨z.1,ht _ _ z.2.1,z.2.2⟩
section
variable{P:TM}{w:World}{H:Hp}{h:Heap}{a:Addr}
def HV{u:HO}(ok:HOk P w H h)(e:Rd H a u):ObjOk P w H h a u:=e.ok ok
def nE{aK:List (Key×V)}(ok:HOk P w H h)(e:Rd H a (.dK aK)):aK.length<=Tz/\(a==UI)=false/\∃vs,KV aK vs/\h.DictOf (bK P w) a vs:=
 show ObjOk P w H h a (.dK aK) from HV ok e
def Ho{aK:List (Key×V)}(ok:HOk P w H h)(e:H a=some (.dK aK)):aK.length<=Tz/\(a==UI)=false/\∃vs,KV aK vs/\h.DictOf (bK P w) a vs:=nE ok (.inl e)
def iW{ks:List Key}(ok:HOk P w H h)(e:H a=some (.tup (ks.map kV))):(V1 (bK P w)).is h ks a:=by
 obtain⟨_,aR,r,o,h1,h2,n,h3⟩:=(show ObjOk P w H h a (.tup (ks.map kV)) from ok a _ e)
 exact⟨o,aR.toArray,n,h1,h2,h3,by simpa using sA r⟩
def nG{aK:List (List Key×V)}(ok:HOk P w H h)(e:Rd H a (.dT aK)):aK.length<=Tz/\(a==UI)=false/\
 ∃xs,KT H aK xs/\h.DictOfH (V1 (bK P w)) a xs:=by
 obtain⟨z,y,xs,r,o,es,ep,h1,h2,h3,h4,h5⟩:=(show ObjOk P w H h a (.dT aK) from HV ok e)
 refine⟨z,y,xs,r,o,es,ep,h1,h2,h3,h4,fun x hx=>?_,h5⟩
 have all:∀{l:List (List Key×V)}{m:List (List Key×Addr×Value)},KT H l m->∀x∈m,(V1 (bK P w)).is h x.1 x.2.1:=by
  intro l m q
  induction q with
  |nil=>intro x hx;exact nomatch hx
  | @cons p q ps qs hq t ih=>
    intro x hx
    rcases Th.mp hx with e | hx
    ·subst e
     exact iW ok (by rw[<-hq.1];exact hq.2.1)
    ·exact ih x hx
 exact all r x hx
def Hq{aK:List (List Key×V)}(ok:HOk P w H h)(e:H a=some (.dT aK)):aK.length<=Tz/\(a==UI)=false/\
 ∃xs,KT H aK xs/\h.DictOfH (V1 (bK P w)) a xs:=nG ok (.inl e)
end
def kK(H:Hp)(a:Addr)(y:V)(r:Option V):Prop:=
 (∃aK k,Rd H a (.dK aK)/\y=kV k/\r=mD aK k)\/∃aK k b,Rd H a (.dT aK)/\y= .ref b/\H b=some (.tup (k.map kV))/\r=mD aK k
def DPut(H:Hp)(a:Addr)(y v:V)(H':Hp):Prop:=
 (∃aK k,H a=some (.dK aK)/\y=kV k/\aK.length<Tz/\H'=upd H a (.dK (putK aK k v)))\/
 ∃aK k b,H a=some (.dT aK)/\y= .ref b/\H b=some (.tup (k.map kV))/\aK.length<Tz/\H'=upd H a (.dT (putK aK k v))
def DPut.k{H:Hp}{a:Addr}{aK:List (Key×V)}{k:Key}{v:V}(e:H a=some (.dK aK))(hl:aK.length<Tz):DPut H a (kV k) v (upd H a (.dK (putK aK k v))):= .inl ⟨aK,k,e,rfl,hl,rfl⟩
def DPut.t{H:Hp}{a b:Addr}{aK:List (List Key×V)}{k:List Key}{v:V}(e:H a=some (.dT aK))(eb:H b=some (.tup (k.map kV)))(hl:aK.length<Tz):
 DPut H a (.ref b) v (upd H a (.dT (putK aK k v))):= .inr ⟨aK,k,b,e,rfl,eb,hl,rfl⟩
section
variable{X:Cx}{pins:List (Addr×Obj)}{σ:St}{H:Hp}{s:S7}{a:Addr}{y v:V}{u r:Value}{o:Option V}{A:TY}{E:Value->S7->Prop}
def Inv.big(I:Inv X pins σ H s):UI<s.heap.objs.size:=by
 have h:Tx<s.heap.objs.size:=(I.mod.glob.keeps I.bk).lt
 exact Vx (by decide) h
def A9{Q:Value->S7->Prop}(hu:A.units+1<cLine)(I:Inv X pins σ H s)(g:kK H a y (some v))(ry:RelV y u)(h:∀w' s',Inv X pins σ H s'->RelV v w'->Q w' s'):
 wpAny (model X.prog X.w) A (WJ (.ref a) u) Q E s:=by
 rcases g with⟨aK,k,e,ey,l⟩ | ⟨aK,k,b,e,ey,eb,l⟩
 ·subst ey
  obtain⟨z,hd,vs,rel,dd⟩:=nE I.hok e
  obtain⟨w',hw,yz⟩:=RelO.some_of (v:=v) (o:=Yq vs k) (by rw[l];exact rel.val k)
  exact wpAny_getItem_of (nN ry) dd.mapOf hw (h w' _ (I.tok _) yz)
 ·subst ey
  cases (show u=TV b from ry)
  obtain⟨z,hd,xs,rel,dd⟩:=nG I.hok e
  obtain⟨w',hw,yz⟩:=RelO.some_of (v:=v) (o:=(atKey xs k).map (·.2)) (by rw[l];exact rel.val k)
  obtain⟨p,hp,Oo⟩:=Option.map_eq_some_iff.mp hw
  refine wpAny_getItem_heap (Vh hu) (iW I.hok eb) dd hp ?_
  rw[Oo]
  exact h w' _ (I.tok _) yz
def Lf{Q:Value->S7->Prop}(hu:A.units+1<cLine)(I:Inv X pins σ H s)(g:kK H a y o)(ry:RelV y u)(h:∀s',Inv X pins σ H s'->Q (.bool o.isSome) s'):
 wpAny (model X.prog X.w) A (Ua .In u (.ref a)) Q E s:=by
 rcases g with⟨aK,k,e,ey,l⟩ | ⟨aK,k,b,e,ey,eb,l⟩
 ·subst ey
  obtain⟨z,hd,vs,rel,dd⟩:=nE I.hok e
  refine wpAny_in_of (nN ry) hd dd.mapOf ?_
  rw[<-(rel.val k).isSome_eq,<-l]
  exact h _ (I.tok _)
 ·subst ey
  cases (show u=TV b from ry)
  obtain⟨z,hd,xs,rel,dd⟩:=nG I.hok e
  refine wpAny_in_heap (Vh hu) (iW I.hok eb) hd dd ?_
  have q:=(rel.val k).isSome_eq
  rw[Xa] at q
  rw[<-q,<-l]
  exact h _ (I.tok _)
def Ft{Q:Value->S7->Prop}(hu:A.units+1<cLine)(I:Inv X pins σ H s)(g:kK H a y o)(ry:RelV y u)(h:∀s',Inv X pins σ H s'->Q (.bool (!o.isSome)) s'):
 wpAny (model X.prog X.w) A (Ua .NotIn u (.ref a)) Q E s:=by
 rcases g with⟨aK,k,e,ey,l⟩ | ⟨aK,k,b,e,ey,eb,l⟩
 ·subst ey
  obtain⟨z,hd,vs,rel,dd⟩:=nE I.hok e
  refine wpAny_notIn_of (nN ry) hd dd.mapOf ?_
  rw[<-(rel.val k).isSome_eq,<-l]
  exact h _ (I.tok _)
 ·subst ey
  cases (show u=TV b from ry)
  obtain⟨z,hd,xs,rel,dd⟩:=nG I.hok e
  refine wpAny_notIn_heap (Vh hu) (iW I.hok eb) hd dd ?_
  have q:=(rel.val k).isSome_eq
  rw[Xa] at q
  rw[<-q,<-l]
  exact h _ (I.tok _)
def oT{h':Heap}{t':Nat}{ob:HO}(I:Inv X pins σ H s)(mu:K5 (H a))(hs:Vv a s.heap h')(he:∃q,h'.get? a=some q)(new:ObjOk X.prog X.w (upd H a ob) h' a ob):
 Inv X pins σ (upd H a ob) {s with heap:=h',toks:=t'}:=
 I.write (x:=a) (e:=a) mu (.inl rfl) (fun b q hb z=>(hs.2 b hb).trans z) he new
def CM{P:TM}{w:World}{H':Hp}{h':Heap}{aK:List (Key×V)}{vs:List (Key×Value)}(z:aK.length<=Tz)(hd:(a==UI)=false)(rel:KV aK vs)(dd:h'.DictOf (bK P w) a vs):
 ObjOk P w H' h' a (.dK aK):=⟨z,hd,vs,rel,dd⟩
def A_{H':Hp}{Q:Unit->S7->Prop}(hu:A.units+1<cLine)(I:Inv X pins σ H s)(g:DPut H a y v H')(ry:RelV y u)(rv:RelV v r)(h:∀s',Inv X pins σ H' s'->Q () s'):
 wpAny (model X.prog X.w) A (setItem (.ref a) u r) Q E s:=by
 rcases g with⟨aK,k,e,ey,l,eH⟩ | ⟨aK,k,b,e,ey,eb,l,eH⟩
 ·subst ey eH
  obtain⟨z,hd,vs,rel,dd⟩:=Ho I.hok e
  have hz:vs.length<=Tz:=by rw[<-rel.length];exact z
  have hl:(putK aK k v).length<=Tz:=by have:=gU aK k v;omega
  refine wpAny_setItem_pairs (hsz:=hz) (nN ry) dd fun h' CI hs=>h _ ?_
  have he:∃q,h'.get? a=some q:=let ⟨q,_,_,hq,_⟩:=CI;⟨q,hq⟩
  exact oT I (by rw[e];exact UB) hs he (CM hl hd (rel.put k rv) CI)
 ·subst ey eH
  cases (show u=TV b from ry)
  obtain⟨z,hd,xs,rel,dd⟩:=Hq I.hok e
  have hz:xs.length<=Tz:=by rw[<-Vw rel];exact z
  have hl:(putK aK k v).length<=Tz:=by have:=gU aK k v;omega
  refine wpAny_setItem_heap (hsz:=hz) (Vh hu) (iW I.hok eb) dd fun h' CI hs=>h _ ?_
  obtain⟨q,es,ep,hq,h2,h3,h4,_,h5⟩:=CI
  refine oT I (by rw[e];exact UB) hs ⟨q,hq⟩ ⟨hl,hd,_,(rel.put k eb rv).keeps fun c ys ec=>?_,q,es,ep,hq,h2,h3,h4,h5⟩
  rw[aB (HP ec e (fun z=>nomatch z))]
  exact ec
end
def Ig(i:Expr):Prop:=∀ov iv,subscripted i false ov iv=operate [ov,iv] (WJ ov iv)
def Hc{prog:TM}{w:World}{A:TY}{E:Value->S7->Prop}{s:S7}{env:Env}{value slice:Expr}{pos:Pos}{T id:String}{Q:Value->S7->Prop}
 (hl:WA (.type T) "__getitem__"=pure (some (.builtin id)))(hs:Ig slice)
 (h:wpAny (model prog w) A (eval value env) (fun o s₁=>wpAny (model prog w) A (eval slice env) (fun i s₂=>s₂.TypeIs o T/\wpAny (model prog w) A (WJ o i) Q E s₂) E s₁) E s):
 wpAny (model prog w) A (eval (.Subscript value slice pos) env) Q E s:=by
 refine YW (Up h (fun o s₁ h₁=>Up h₁ (fun i s₂ h₂=>?_) fun _ _ x=>x) fun _ _ x=>x)
 obtain⟨hT,h₂⟩:=h₂
 unfold Xy
 refine S5 ?_
 rw[getitemInPython_of_ne hT.not_modules]
 refine S5 (wpAny_specialOf hT hl ?_)
 have fin:wpAny (model prog w) A (subscripted slice false o i) (fun r s₃=>wpAny (model prog w) A (letTemporaryGo value o r>>=fun _=>pure r) Q E s₃) E s₂:=by
  rw[hs o i]
  exact wpAny_operating (Up h₂ (fun r s₃ h₃=>S5 (wpAny_letTemporaryGo (Te h₃))) fun _ _ x=>x)
 first
  |exact Te (S5 fin)
  |exact S5 (Te (S5 fin))
  |exact S5 fin
def wF{X:Cx}{pins:List (Addr×Obj)}{σ:St}{H:Hp}{s:S7}{a:Addr}{y:V}{o:Option V}(I:Inv X pins σ H s)(g:kK H a y o):s.TypeIs (.ref a) "dict":=by
 rcases g with⟨aK,k,e,_,_⟩ | ⟨aK,k,b,e,_,_,_⟩
 ·obtain⟨_,_,vs,_,dd⟩:=nE I.hok e
  exact dd.typeIs
 ·obtain⟨_,_,xs,_,dd⟩:=nG I.hok e
  exact dd.typeIs
def MN(td ty:TE):TE:=fun σ H Q=>td σ H fun x H1=>ty σ H1 fun y H2=>∃a v,x= .ref a/\kK H2 a y (some v)/\Q v H2
def O9(ty td:TE):TE:=fun σ H Q=>ty σ H fun y H1=>td σ H1 fun x H2=>∃a o,x= .ref a/\kK H2 a y o/\Q (.bl o.isSome) H2
def MJ(td ty tv:TE):TS:=fun D σ H=>tv σ H fun v H1=>td σ H1 fun x H2=>ty σ H2 fun y H3=>∃a H4,x= .ref a/\DPut H3 a y v H4/\D.nx σ H4
section
variable{X:Cx}{o i value:Expr}{pos pos':Pos}{td ty tv:TE}
def GJ(hu:X.A.units+1<cLine)(ho:PE X o td)(hi:PE X i ty)(hs:Ig i):PE X (.Subscript o i pos) (MN td ty):=by
 intro pins s σ H Q I h
 refine Hc PySem.F.slot_dict_getitem.lookup hs (cJ (ho pins s σ H _ I h) fun u s1 ⟨x,H1,I1,rx,q1⟩=>cJ (hi pins s1 σ H1 _ I1 q1) fun iv s2 ⟨y,H2,I2,ry,a,v,ex,g,q2⟩=>?_)
 subst ex
 obtain rfl:u=TV a:=rx
 exact⟨wF I2 g,A9 hu I2 g ry fun w' s3 I3 yz=>⟨v,H2,I3,yz,q2⟩⟩
def JH(hu:X.A.units+1<cLine)(hi:PE X i ty)(ho:PE X o td):PC X .In i o (O9 ty td):=by
 intro pins s σ H Q I h
 refine cJ (hi pins s σ H _ I h) fun iv s1 ⟨y,H1,I1,ry,q1⟩=>cJ (ho pins s1 σ H1 _ I1 q1) fun u s2 ⟨x,H2,I2,rx,a,ov,ex,g,q2⟩=>?_
 subst ex
 obtain rfl:u=TV a:=rx
 exact Lf hu I2 g ry fun s3 I3=>⟨.bl ov.isSome,H2,I3,rfl,q2⟩
def GR(hu:X.A.units+1<cLine)(ho:PE X o td)(hi:PE X i ty)(hv:PE X value tv)(hs:Xx value (some (.Subscript o i pos')) pos.line X.env=pure false):
 PS X (.Assign [.Subscript o i pos'] value pos) (MJ td ty tv):=by
 intro pins s σ H D I h
 refine wpAny_Assign_Subscript (cJ (hv pins s σ H _ I h) fun r s1 ⟨v,H1,I1,rv,q1⟩=>cJ (ho pins s1 σ H1 _ I1 q1) fun u s2 ⟨x,H2,I2,rx,q2⟩=>cJ (hi pins s2 σ H2 _ I2 q2) fun iv s3 ⟨y,H3,I3,ry,a,H4,ex,g,q3⟩=>?_) hs
 subst ex
 obtain rfl:u=TV a:=rx
 exact A_ hu I3 g ry rv fun s4 I4=>⟨σ,H4,I4,q3⟩
end
def wG{P:TM}{w:World}{H:Hp}(h:Heap)(hb:UI<h.objs.size):ObjOk P w H (h.push {cls:= .type "dict",data:= .dict #[]}) h.objs.size (.dT []):=
 ⟨Ue _,beq_eq_false_iff_ne.mpr (Uq (TR hb)),[], .nil,_,#[],0,Tt _ rfl,⟨rfl,rfl,rfl⟩,rfl,rfl,X9⟩
def Kq:TE:=fun _ H Q=>∀p,H p=none->Q (.ref p) (upd H p (.dT []))
section
variable{X:Cx}{pos:Pos}
def Ea:PE X (.Dict [] [] pos) Kq:=fun pins s σ H Q I h=>
 wpAny_Dict_empty ⟨.ref s.heap.objs.size,_,I.laid (a:=s.heap.objs.size) (o:= .dT []) (t':=s.toks) (fun _ _ q=>S_ _ q) (Tg _) (wG s.heap I.big),rfl,h _ (I.hok.fresh (Tg _))⟩
end
def EL:List (TE×TE)->St->Hp->(List (V×V)->Hp->Prop)->Prop
 |[],_,H,Q=>Q [] H
 |(tk,tv)::r,σ,H,Q=>tk σ H fun x H1=>tv σ H1 fun y H2=>EL r σ H2 fun ps H3=>Q ((x,y)::ps) H3
abbrev VV:List (V×V)->List (Value×Value)->Prop:=XB fun p q=>RelV p.1 q.1/\RelV p.2 q.2
def NI(X:Cx)(pos:Pos)(keys:List (Option Expr))(values:List Expr)(NC:List (TE×TE)):Prop:=
 ∀(pins:List (Addr×Obj)) (s:S7) (σ:St) (H:Hp) (Q:List (V×V)->Hp->Prop),Inv X pins σ H s->EL NC σ H Q->
  wpAny (model X.prog X.w) X.A (evalPairs (pairTrees keys values X.env pos)) (fun vs s'=>∃ps H',Inv X pins σ H' s'/\VV ps vs/\Q ps H') X.xe s
def GO{X:Cx}{pos:Pos}:NI X pos [] [] []:=fun pins s σ H Q I h=>pairTrees_nil_walk ⟨[],H,I, .nil,h⟩
def Eh{X:Cx}{pos:Pos}{k v:Expr}{ks:List (Option Expr)}{vs:List Expr}{tk tv:TE}{NC:List (TE×TE)}(hk:PE X k tk)(hv:PE X v tv)(hr:NI X pos ks vs NC):
 NI X pos (some k::ks) (v::vs) ((tk,tv)::NC):=fun pins s σ H Q I h=>
 pairTrees_cons_walk (cJ (hk pins s σ H _ I h) fun u s1 ⟨x,H1,I1,rx,q1⟩=>cJ (hv pins s1 σ H1 _ I1 q1) fun w2 s2 ⟨y,H2,I2,ry,q2⟩=>
  cJ (hr pins s2 σ H2 _ I2 q2) fun ws s3 ⟨ps,H3,I3,rel,q3⟩=>⟨(x,y)::ps,H3,I3, .cons ⟨rx,ry⟩ rel,q3⟩)
structure M1 (X:Cx) (o:Expr) (m:Str) (apos:Pos) (e:Expr) (bP:Pos):Prop where
 base:Vp o m X.env (eval o X.env)=eval o X.env
 few:((UH bP (To [e] X.env)).all (fun x=>!x.1)&&(WK bP (VF [] X.env)).all (fun x=>x.1.isSome)
  &&decide (([e]:List Expr).length+([]:List VO).length+(if ([]:List VO).isEmpty then 0 else 1)<30))=true
 line:(apos.endLine==bP.line)=true
 trees:UH bP (To [e] X.env)=[(false,eval e X.env)]
structure M2 (X:Cx) (o:Expr) (m:Str) (apos:Pos) (e f:Expr) (bP:Pos):Prop where
 base:Vp o m X.env (eval o X.env)=eval o X.env
 few:((UH bP (To [e,f] X.env)).all (fun x=>!x.1)&&(WK bP (VF [] X.env)).all (fun x=>x.1.isSome)
  &&decide (([e,f]:List Expr).length+([]:List VO).length+(if ([]:List VO).isEmpty then 0 else 1)<30))=true
 line:(apos.endLine==bP.line)=true
 trees:UH bP (To [e,f] X.env)=[(false,eval e X.env),(false,eval f X.env)]
def MX(H:Hp)(a:Addr):Prop:=(∃aK,Rd H a (.dK aK))\/∃aK,Rd H a (.dT aK)
def Dp{X:Cx}{pins:List (Addr×Obj)}{σ:St}{H:Hp}{s:S7}{a:Addr}(I:Inv X pins σ H s)(d:MX H a):
 s.TypeIs (.ref a) "dict"/\(∀b,TV a= .ref b->∃ob,s.heap.get? b=some ob/\ob.dict=none)/\(a==UI)=false:=by
 rcases d with⟨aK,e⟩ | ⟨aK,e⟩
 ·obtain⟨_,hd,vs,_,dd⟩:=nE I.hok e
  refine⟨dd.typeIs,fun b q=>?_,hd⟩
  cases q
  obtain⟨ob,_,_,h1,h2,_⟩:=dd
  exact⟨ob,h1,h2.2.1⟩
 ·obtain⟨_,hd,xs,_,dd⟩:=nG I.hok e
  refine⟨dd.typeIs,fun b q=>?_,hd⟩
  cases q
  obtain⟨ob,_,_,h1,h2,_⟩:=dd
  exact⟨ob,h1,h2.2.1⟩
section
variable{X:Cx}{pins:List (Addr×Obj)}{σ:St}{H:Hp}{s:S7}{a:Addr}{y d:V}{u r:Value}{o:Option V}{A:TY}{E:Value->S7->Prop}
def Ip{Q:Value->S7->Prop}(hu:A.units+1<cLine)(I:Inv X pins σ H s)(g:kK H a y o)(ry:RelV y u)(h:∀w' s',Inv X pins σ H s'->RelV (o.getD .non) w'->Q w' s'):
 wpAny (model X.prog X.w) A (call (.builtin "dict.get") [.ref a,u]) Q E s:=by
 rcases g with⟨aK,k,e,ey,l⟩ | ⟨aK,k,b,e,ey,eb,l⟩
 ·subst ey
  obtain⟨z,hd,vs,rel,dd⟩:=nE I.hok e
  refine X8 UJ dd.typeIs VA (X0 _ _) (meets_dict_get (bK X.prog X.w) a (nN ry) hd) ⟨_,dd.mapOf,h _ _ (I.tok _) ?_⟩
  rw[l]
  exact(rel.val k).getD rfl
 ·subst ey
  cases (show u=TV b from ry)
  obtain⟨z,hd,xs,rel,dd⟩:=nG I.hok e
  refine X8 UJ dd.typeIs VA (X0 _ _) (meetsH_dict_get (V1 (bK X.prog X.w)) a b hd) ⟨Vh hu,k,xs,iW I.hok eb,dd,h _ _ (I.tok _) ?_⟩
  rw[l]
  exact(rel.val k).getD rfl
def Iq{Q:Value->S7->Prop}(hu:A.units+1<cLine)(I:Inv X pins σ H s)(g:kK H a y o)(ry:RelV y u)(rd:RelV d r)(h:∀w' s',Inv X pins σ H s'->RelV (o.getD d) w'->Q w' s'):
 wpAny (model X.prog X.w) A (call (.builtin "dict.get") [.ref a,u,r]) Q E s:=by
 rcases g with⟨aK,k,e,ey,l⟩ | ⟨aK,k,b,e,ey,eb,l⟩
 ·subst ey
  obtain⟨z,hd,vs,rel,dd⟩:=nE I.hok e
  refine X8 UJ dd.typeIs VA (XZ _ _ _) (meets_dict_get_default (bK X.prog X.w) a (nN ry) hd r) ⟨_,dd.mapOf,h _ _ (I.tok _) ?_⟩
  rw[l]
  exact(rel.val k).getD rd
 ·subst ey
  cases (show u=TV b from ry)
  obtain⟨z,hd,xs,rel,dd⟩:=nG I.hok e
  refine X8 UJ dd.typeIs VA (XZ _ _ _) (meetsH_dict_get_default (V1 (bK X.prog X.w)) a b hd r) ⟨Vh hu,k,xs,iW I.hok eb,dd,h _ _ (I.tok _) ?_⟩
  rw[l]
  exact(rel.val k).getD rd
end
def Ko(td ty:TE):TE:=fun σ H Q=>td σ H fun x H1=>∃a,x= .ref a/\MX H1 a/\ty σ H1 fun y H2=>∃o,kK H2 a y o/\Q (o.getD .non) H2
def Kp(td ty tx:TE):TE:=fun σ H Q=>td σ H fun x H1=>∃a,x= .ref a/\MX H1 a/\ty σ H1 fun y H2=>tx σ H2 fun z H3=>∃o,kK H3 a y o/\Q (o.getD z) H3
section
variable{X:Cx}{o e f:Expr}{apos bP:Pos}{td ty tx:TE}
def D9(hu:X.A.units+1<cLine)(ho:PE X o td)(he:PE X e ty)(m:M1 X o "get" apos e bP):PE X (.Call (.Attribute o "get" apos) [e] [] bP) (Ko td ty):=by
 intro pins s σ H Q I h
 refine wpAny_Call_method m.base m.few m.line XY UJ Yk (cJ (ho pins s σ H _ I h) fun u s1 ⟨x,H1,I1,rx,a,ex,d,q1⟩=>?_)
 subst ex
 obtain rfl:u=TV a:=rx
 obtain⟨t1,t2,_⟩:=Dp I1 d
 refine⟨t1,t2,?_⟩
 rw[m.trees]
 refine Wx rfl (VU (V4 (cJ (he pins s1 σ H1 _ I1 q1) fun iv s2 ⟨y,H2,I2,ry,ov,g,q2⟩=>Xf ?_)))
 exact Ip hu I2 g ry fun w' s3 I3 yz=>⟨_,H2,I3,yz,q2⟩
def D_(hu:X.A.units+1<cLine)(ho:PE X o td)(he:PE X e ty)(hf:PE X f tx)(m:M2 X o "get" apos e f bP):PE X (.Call (.Attribute o "get" apos) [e,f] [] bP) (Kp td ty tx):=by
 intro pins s σ H Q I h
 refine wpAny_Call_method m.base m.few m.line XY UJ Yk (cJ (ho pins s σ H _ I h) fun u s1 ⟨x,H1,I1,rx,a,ex,d,q1⟩=>?_)
 subst ex
 obtain rfl:u=TV a:=rx
 obtain⟨t1,t2,_⟩:=Dp I1 d
 refine⟨t1,t2,?_⟩
 rw[m.trees]
 refine Wx rfl (VU (V4 (cJ (he pins s1 σ H1 _ I1 q1) fun iv s2 ⟨y,H2,I2,ry,q2⟩=>
  V4 (cJ (hf pins s2 σ H2 _ I2 q2) fun fv s3 ⟨z,H3,I3,rz,ov,g,q3⟩=>Xf ?_))))
 exact Iq hu I3 g ry rz fun w' s4 I4 yz=>⟨_,H3,I4,yz,q3⟩
end
end L2
namespace L3
open PySem PySem.Spec L2
open PyProof.Rows hiding St
inductive Rs (α:Type) where
 |ok (a:α) | ex (n:Nat)
def M(α:Type):=Option (Rs α)
def ae{α:Type}(a:α):M α:=some (.ok a)
def M.bind{α β:Type}(m:M α)(k:α->M β):M β:=match m with
 |none=>none
 |some (.ex n)=>some (.ex n)
 |some (.ok a)=>k a
def ah{α:Type}:M α:=none
def bz{α:Type}(n:Nat):M α:=some (.ex n)
instance:Monad M where
 pure:=ae
 bind:=M.bind
@[simp] def ay{α β:Type}(a:α)(k:α->M β):(ae a>>=k)=k a:=rfl
@[simp] def Ik{α β:Type}(a:α)(k:α->M β):((pure a:M α)>>=k)=k a:=rfl
@[simp] def Il{α β:Type}(n:Nat)(k:α->M β):(bz n>>=k)=bz n:=rfl
@[simp] def Im{α β:Type}(k:α->M β):((ah:M α)>>=k)=ah:=rfl
def M.cs{α:Type}(m:M α):m=ah\/(∃n,m=bz n)\/∃a,m=ae a:=by
 match m with
 |none=>exact .inl rfl
 |some (.ex n)=>exact .inr (.inl ⟨n,rfl⟩)
 |some (.ok a)=>exact .inr (.inr ⟨a,rfl⟩)
def gj{α:Type}{a b:α}(h:ae a=ae b):a=b:=by
 have h:some (Rs.ok a)=some (Rs.ok b):=h
 cases h
 rfl
def gP{α:Type}{a:α}(h:ah=ae a):False:=by
 have h:none=some (Rs.ok a):=h
 cases h
def Er{α:Type}{n:Nat}{a:α}(h:bz n=ae a):False:=by
 have h:some (Rs.ex n)=some (Rs.ok a):=h
 cases h
def iQ{α β:Type}{m:M α}{k:α->M β}{r:β}(h:(m>>=k)=ae r):∃a,m=ae a/\k a=ae r:=by
 rcases m.cs with e | ⟨n,e⟩ | ⟨a,e⟩
 ·subst e;exact(gP h).elim
 ·subst e;exact(Er h).elim
 ·subst e;exact⟨a,rfl,h⟩
def zS(h:Heap)(ea D:Addr):Prop:=∃ox,h.get? ea=some ox/\ox.cls= .ref D
def Ie(ea D:Addr):HO:= .ext fun h=>zS h ea D
inductive D where
 |non | bl (b:Bool) | int (i:Int) | str (x:Str) | raw (v:V) | exc (C:Addr) | scr (l:List Int) | tup (l:List D) | lst (l:List D)
 |dct (ks:List (List Key)) (l:List D) | dci (ks:List Key) (l:List D)
instance:Inhabited D:=⟨.non⟩
def lim:Nat:=4096
def eO:lim<Tz:=by rw[VE];decide
mutual
def Den(K:Tc)(F:Hp):D->V->Prop
 | .non,v=>v= .non
 | .bl b,v=>v= .bl b
 | .int i,v=>v= .int i
 | .str x,v=>v= .str x/\x.length<=lim
 | .raw u,v=>v=u
 | .exc C,v=>∃ea,v= .ref ea/\F ea=some (Ie ea C)
 | .scr ns,v=>∃a,v= .ref a/\SqL K F a (ns.map V.int)/\ns.length<=lim
 | .tup ds,v=>∃a vs,v= .ref a/\F a=some (.tup vs)/\DenL K F ds vs/\ds.length<=lim
 | .lst ds,v=>∃a vs,v= .ref a/\F a=some (.lst vs)/\DenL K F ds vs/\ds.length<=lim
 | .dct ks ds,v=>∃a ob vs,v= .ref a/\F a=some (.frz ob (.dT (ks.zip vs)))/\DenL K F ds vs/\ks.length=ds.length/\ds.length<=lim
 | .dci ks ds,v=>∃a ob vs,v= .ref a/\F a=some (.frz ob (.dK (ks.zip vs)))/\DenL K F ds vs/\ks.length=ds.length/\ds.length<=lim
def DenL(K:Tc)(F:Hp):List D->List V->Prop
 |[],vs=>vs=[]
 |d::ds,vs=>∃v r,vs=v::r/\Den K F d v/\DenL K F ds r
end
def Same.rd{H H':Hp}{a:Addr}{u:HO}(e:Same H H')(h:Rd H a u):Rd H' a u:=by
 rcases h with h | ⟨o,h⟩
 ·exact .inl (e _ _ h)
 ·exact .inr ⟨o,e _ _ h⟩
def Same.tup{K:Tc}{H H':Hp}{a:Addr}{xs:List V}(e:Same H H')(h:SqT K H a xs):SqT K H' a xs:=by
 rcases h with h | h
 ·exact .inl (Same.rd e h)
 ·exact .inr h
section
variable{K:Tc}{F F':Hp}
mutual
def Den.mono(e:Same F F'):∀{d:D}{v:V},Den K F d v->Den K F' d v
 | .non,_,h=>h
 | .bl _,_,h=>h
 | .int _,_,h=>h
 | .str _,_,h=>h
 | .raw _,_,h=>h
 | .exc _,_,⟨a,h1,h2⟩=>⟨a,h1,e _ _ h2⟩
 | .scr _,_,⟨a,h1,h2,h3⟩=>⟨a,h1,Same.seq e h2,h3⟩
 | .tup _,_,⟨a,vs,h1,h2,h3,h4⟩=>⟨a,vs,h1,e _ _ h2,DenL.mono e h3,h4⟩
 | .lst _,_,⟨a,vs,h1,h2,h3,h4⟩=>⟨a,vs,h1,e _ _ h2,DenL.mono e h3,h4⟩
 | .dct _ _,_,⟨a,ob,vs,h1,h2,h3,h4⟩=>⟨a,ob,vs,h1,e _ _ h2,DenL.mono e h3,h4⟩
 | .dci _ _,_,⟨a,ob,vs,h1,h2,h3,h4⟩=>⟨a,ob,vs,h1,e _ _ h2,DenL.mono e h3,h4⟩
def DenL.mono(e:Same F F'):∀{ds:List D}{vs:List V},DenL K F ds vs->DenL K F' ds vs
 |[],_,h=>h
 |_::_,_,⟨v,r,h1,h2,h3⟩=>⟨v,r,h1,Den.mono e h2,DenL.mono e h3⟩
end
def DenL.nil:DenL K F [] []:=rfl
def DenL.cons{d:D}{v:V}{ds:List D}{vs:List V}(h:Den K F d v)(r:DenL K F ds vs):DenL K F (d::ds) (v::vs):=⟨v,vs,rfl,h,r⟩
def DenL.len:∀{ds:List D}{vs:List V},DenL K F ds vs->ds.length=vs.length
 |[],_,h=>by cases (show _=_ from h);rfl
 |_::ds,_,⟨v,r,h1,_,h3⟩=>by subst h1;rw[Tj,Tj,DenL.len h3]
def DenL.get:∀{ds:List D}{vs:List V}{i:Nat}{d:D},DenL K F ds vs->ds[i]? =some d->∃v,vs[i]? =some v/\Den K F d v
 |[],_,_,_,_,e=>by simp at e
 |d::ds,_,0,_,⟨v,r,h1,h2,h3⟩,e=>by subst h1;simp at e;subst e;exact⟨v,rfl,h2⟩
 |d::ds,_,i+1,_,⟨v,r,h1,h2,h3⟩,e=>by
  subst h1
  obtain⟨w,e1,e2⟩:=DenL.get (i:=i) h3 (by simpa using e)
  exact⟨w,by simpa using e1,e2⟩
def DenL.at:∀{ds:List D}{vs:List V}{i:Nat}{v:V},DenL K F ds vs->vs[i]? =some v->∃d,ds[i]? =some d/\Den K F d v
 |[],_,_,_,h,e=>by cases (show _=_ from h);simp at e
 |d::ds,_,0,_,⟨v,r,h1,h2,h3⟩,e=>by subst h1;simp at e;subst e;exact⟨d,rfl,h2⟩
 |d::ds,_,i+1,_,⟨v,r,h1,h2,h3⟩,e=>by
  subst h1
  obtain⟨w,e1,e2⟩:=DenL.at (i:=i) h3 (by simpa using e)
  exact⟨w,by simpa using e1,e2⟩
def DenL.append:∀{ds es:List D}{vs ws:List V},DenL K F ds vs->DenL K F es ws->DenL K F (ds++es) (vs++ws)
 |[],_,_,_,h,h'=>by cases (show _=_ from h);exact h'
 |d::ds,_,_,_,⟨v,r,h1,h2,h3⟩,h'=>by subst h1;exact⟨v,_,rfl,h2,DenL.append h3 h'⟩
def DenL.take:∀{ds:List D}{vs:List V}(n:Nat),DenL K F ds vs->DenL K F (ds.take n) (vs.take n)
 |_,_,0,_=>by simp[List.take];rfl
 |[],_,_+1,h=>by cases (show _=_ from h);rfl
 |d::ds,_,n+1,⟨v,r,h1,h2,h3⟩=>by subst h1;exact⟨v,_,rfl,h2,DenL.take n h3⟩
def DenL.drop:∀{ds:List D}{vs:List V}(n:Nat),DenL K F ds vs->DenL K F (ds.drop n) (vs.drop n)
 |_,_,0,h=>by simpa using h
 |[],_,_+1,h=>by cases (show _=_ from h);rfl
 |d::ds,_,n+1,⟨v,r,h1,h2,h3⟩=>by subst h1;exact DenL.drop n h3
def DenL.reverse:∀{ds:List D}{vs:List V},DenL K F ds vs->DenL K F ds.reverse vs.reverse
 |[],_,h=>by cases (show _=_ from h);rfl
 |d::ds,_,⟨v,r,h1,h2,h3⟩=>by
  subst h1
  rw[Wg,Wg]
  exact DenL.append (DenL.reverse h3) (.cons h2 .nil)
def DenL.ints(ns:List Int):DenL K F (ns.map D.int) (ns.map V.int):=by
 induction ns with
 |nil=>rfl
 |cons n ns ih=>exact .cons rfl ih
end
structure Ext (F H F' H':Hp):Prop where
 hh:Same H H'
 ff:Same F F'
 fh:Same F' H'
 new:∀a,H a≠none->F' a=F a\/∃ts,H a=some (.tup ts)
def Ext.old{F H F' H':Hp}(e:Ext F H F' H'){a:Addr}{o:HO}(h:H a=some o)(hn:∀ts,o≠ .tup ts):F' a=F a:=by
 rcases e.new a (by rw[h];exact fun z=>nomatch z) with q | ⟨ts,q⟩
 ·exact q
 ·rw[h] at q;cases q;exact absurd rfl (hn ts)
def Ext.refl{F H:Hp}(h:Same F H):Ext F H F H:=⟨Same.refl _,Same.refl _,h,fun _ _=> .inl rfl⟩
def Ext.trans{F H F' H' F'' H'':Hp}(a:Ext F H F' H')(b:Ext F' H' F'' H''):Ext F H F'' H'':=
 ⟨a.hh.trans b.hh,a.ff.trans b.ff,b.fh,fun c hc=>by
  have:H' c≠none:=by
   cases q:H c with
   |none=>exact absurd q hc
   |some o=>rw[a.hh c o q];exact fun z=>nomatch z
  rcases a.new c hc with p | p
  ·rcases b.new c this with q | ⟨ts,q⟩
   ·exact .inl (q.trans p)
   ·cases z:H c with
    |none=>exact absurd z hc
    |some o=>
     rw[a.hh c o z] at q
     exact .inr ⟨ts,q⟩
  ·exact .inr p⟩
def Ext.lay{F H:Hp}{a:Addr}{o:HO}(h:Same F H)(n:H a=none):Ext F H (upd F a o) (upd H a o):=by
 have nf:F a=none:=Same.free h n
 refine⟨fun b u e=>?_,fun b u e=>?_,fun b u e=>?_,fun b hb=>?_⟩
 ·rw[aB (bG e n)];exact e
 ·rw[aB (bG e nf)];exact e
 ·by_cases q:b=a
  ·subst q;rw[aO] at e⊢;exact e
  ·rw[aB q] at e⊢;exact h b u e
 ·exact .inl (aB fun z=>hb (by rw[z];exact n))
def Ext.free{F H:Hp}{a:Addr}{o:HO}(h:Same F H)(n:H a=none):Ext F H F (upd H a o):=
 ⟨fun b u e=>by rw[aB (bG e n)];exact e,Same.refl _,fun b u e=>by rw[aB (bG (h b u e) n)];exact h b u e,fun _ _=> .inl rfl⟩
def Ext.tup{F H:Hp}{a:Addr}{ts:List V}(h:Same F H)(e:H a=some (.tup ts)):Ext F H (upd F a (.tup ts)) H:=by
 refine⟨Same.refl _,fun b u q=>?_,fun b u q=>?_,fun b hb=>?_⟩
 ·by_cases z:b=a
  ·subst z;rw[aO,<-e];exact h b u q
  ·rw[aB z];exact q
 ·by_cases z:b=a
  ·subst z;rw[aO] at q;rw[e];exact q
  ·rw[aB z] at q;exact h b u q
 ·by_cases z:b=a
  ·subst z;exact .inr ⟨ts,e⟩
  ·exact .inl (aB z)
def WP(K:Tc)(Xw:Nat->Hp->Prop)(F H:Hp)(m:M D)(Q:VK):Prop:=
 match m with
 |none=>False
 |some (.ok d)=>∀v H' F',Ext F H F' H'->Den K F' d v->Q v H'
 |some (.ex n)=>∀F' H',Ext F H F' H'->Xw n H'
def WPL(K:Tc)(Xw:Nat->Hp->Prop)(F H:Hp)(m:M (List D))(Q:List V->Hp->Prop):Prop:=
 match m with
 |none=>False
 |some (.ok ds)=>∀vs H' F',Ext F H F' H'->DenL K F' ds vs->Q vs H'
 |some (.ex n)=>∀F' H',Ext F H F' H'->Xw n H'
def WPB(Xw:Nat->Hp->Prop)(F H:Hp)(m:M Bool)(Q:Bool->Hp->Prop):Prop:=
 match m with
 |none=>False
 |some (.ok b)=>∀H' F',Ext F H F' H'->Q b H'
 |some (.ex n)=>∀F' H',Ext F H F' H'->Xw n H'
section
variable{K:Tc}{Xw:Nat->Hp->Prop}{F F' H H':Hp}{Q:VK}
def WP.ext{m:M D}(e:Ext F H F' H')(h:WP K Xw F H m Q):WP K Xw F' H' m Q:=by
 match m,h with
 |none,h=>exact h
 |some (.ok d),h=>exact fun v H2 F2 e2 q=>h v H2 F2 (e.trans e2) q
 |some (.ex n),h=>exact fun F2 H2 e2=>h F2 H2 (e.trans e2)
def WPL.ext{m:M (List D)}{Q:List V->Hp->Prop}(e:Ext F H F' H')(h:WPL K Xw F H m Q):WPL K Xw F' H' m Q:=by
 match m,h with
 |none,h=>exact h
 |some (.ok d),h=>exact fun v H2 F2 e2 q=>h v H2 F2 (e.trans e2) q
 |some (.ex n),h=>exact fun F2 H2 e2=>h F2 H2 (e.trans e2)
def WPB.ext{m:M Bool}{Q:Bool->Hp->Prop}(e:Ext F H F' H')(h:WPB Xw F H m Q):WPB Xw F' H' m Q:=by
 match m,h with
 |none,h=>exact h
 |some (.ok d),h=>exact fun H2 F2 e2=>h H2 F2 (e.trans e2)
 |some (.ex n),h=>exact fun F2 H2 e2=>h F2 H2 (e.trans e2)
def WP.fin{d:D}{v:V}(h:WP K Xw F H (ae d) Q)(e:Ext F H F' H')(q:Den K F' d v):Q v H':=h v H' F' e q
def WP.now{d:D}{v:V}(h:WP K Xw F H (ae d) Q)(s:Same F H)(q:Den K F d v):Q v H:=h v H F (Ext.refl s) q
def WP.bind{m:M D}{k:D->M D}(h:WP K Xw F H (m>>=k) Q):WP K Xw F H m fun v H1=>∃F1 d,Ext F H F1 H1/\Den K F1 d v/\WP K Xw F1 H1 (k d) Q:=by
 match m,h with
 |none,h=>exact h
 |some (.ok d),h=>exact fun v H2 F2 e2 q=>⟨F2,d,e2,q,WP.ext e2 (show WP K Xw F H (k d) Q from h)⟩
 |some (.ex n),h=>exact h
def WP.bindL{m:M (List D)}{k:List D->M D}(h:WP K Xw F H (m>>=k) Q):WPL K Xw F H m fun vs H1=>∃F1 ds,Ext F H F1 H1/\DenL K F1 ds vs/\WP K Xw F1 H1 (k ds) Q:=by
 match m,h with
 |none,h=>exact h
 |some (.ok d),h=>exact fun v H2 F2 e2 q=>⟨F2,d,e2,q,WP.ext e2 (show WP K Xw F H (k d) Q from h)⟩
 |some (.ex n),h=>exact h
def WP.bindB{m:M Bool}{k:Bool->M D}(h:WP K Xw F H (m>>=k) Q):WPB Xw F H m fun b H1=>∃F1,Ext F H F1 H1/\WP K Xw F1 H1 (k b) Q:=by
 match m,h with
 |none,h=>exact h
 |some (.ok d),h=>exact fun H2 F2 e2=>⟨F2,e2,WP.ext e2 (show WP K Xw F H (k d) Q from h)⟩
 |some (.ex n),h=>exact h
def WPB.bind{m:M D}{k:D->M Bool}{Q:Bool->Hp->Prop}(h:WPB Xw F H (m>>=k) Q):WP K Xw F H m fun v H1=>∃F1 d,Ext F H F1 H1/\Den K F1 d v/\WPB Xw F1 H1 (k d) Q:=by
 match m,h with
 |none,h=>exact h
 |some (.ok d),h=>exact fun v H2 F2 e2 q=>⟨F2,d,e2,q,WPB.ext e2 (show WPB Xw F H (k d) Q from h)⟩
 |some (.ex n),h=>exact h
def WPB.bindB{m:M Bool}{k:Bool->M Bool}{Q:Bool->Hp->Prop}(h:WPB Xw F H (m>>=k) Q):WPB Xw F H m fun b H1=>∃F1,Ext F H F1 H1/\WPB Xw F1 H1 (k b) Q:=by
 match m,h with
 |none,h=>exact h
 |some (.ok d),h=>exact fun H2 F2 e2=>⟨F2,e2,WPB.ext e2 (show WPB Xw F H (k d) Q from h)⟩
 |some (.ex n),h=>exact h
def WPL.bind{m:M D}{k:D->M (List D)}{Q:List V->Hp->Prop}(h:WPL K Xw F H (m>>=k) Q):WP K Xw F H m fun v H1=>∃F1 d,Ext F H F1 H1/\Den K F1 d v/\WPL K Xw F1 H1 (k d) Q:=by
 match m,h with
 |none,h=>exact h
 |some (.ok d),h=>exact fun v H2 F2 e2 q=>⟨F2,d,e2,q,WPL.ext e2 (show WPL K Xw F H (k d) Q from h)⟩
 |some (.ex n),h=>exact h
def WPL.bindL{m:M (List D)}{k:List D->M (List D)}{Q:List V->Hp->Prop}(h:WPL K Xw F H (m>>=k) Q):WPL K Xw F H m fun vs H1=>∃F1 ds,Ext F H F1 H1/\DenL K F1 ds vs/\WPL K Xw F1 H1 (k ds) Q:=by
 match m,h with
 |none,h=>exact h
 |some (.ok d),h=>exact fun v H2 F2 e2 q=>⟨F2,d,e2,q,WPL.ext e2 (show WPL K Xw F H (k d) Q from h)⟩
 |some (.ex n),h=>exact h
def WP.mono{m:M D}{Q':VK}(h:WP K Xw F H m Q)(k:∀v H',Q v H'->Q' v H'):WP K Xw F H m Q':=by
 match m,h with
 |none,h=>exact h
 |some (.ok d),h=>exact fun v H2 F2 e2 q=>k _ _ (h v H2 F2 e2 q)
 |some (.ex n),h=>exact h
def WPL.mono{m:M (List D)}{Q Q':List V->Hp->Prop}(h:WPL K Xw F H m Q)(k:∀v H',Q v H'->Q' v H'):WPL K Xw F H m Q':=by
 match m,h with
 |none,h=>exact h
 |some (.ok d),h=>exact fun v H2 F2 e2 q=>k _ _ (h v H2 F2 e2 q)
 |some (.ex n),h=>exact h
def WPB.mono{m:M Bool}{Q Q':Bool->Hp->Prop}(h:WPB Xw F H m Q)(k:∀v H',Q v H'->Q' v H'):WPB Xw F H m Q':=by
 match m,h with
 |none,h=>exact h
 |some (.ok d),h=>exact fun H2 F2 e2=>k _ _ (h H2 F2 e2)
 |some (.ex n),h=>exact h
end
inductive C where
 |lst (l:List D) | dct (ks:List (List Key)) (l:List D) | dci (ks:List Key) (l:List D)
def C.d:C->D
 | .lst ds=> .lst ds
 | .dct ks ds=> .dct ks ds
 | .dci ks ds=> .dci ks ds
inductive Sl where
 |fz (d:D) | ow (c:C)
abbrev bf:=List (Option Sl)
def DenC(K:Tc)(F:Hp):C->HO->Prop
 | .lst ds,o=>∃vs,o= .lst vs/\DenL K F ds vs/\ds.length<=lim
 | .dct ks ds,o=>∃vs,o= .dT (ks.zip vs)/\DenL K F ds vs/\ks.length=ds.length/\ds.length<=lim
 | .dci ks ds,o=>∃vs,o= .dK (ks.zip vs)/\DenL K F ds vs/\ks.length=ds.length/\ds.length<=lim
def DenC.mono{K:Tc}{F F':Hp}(e:Same F F'):∀{c:C}{o:HO},DenC K F c o->DenC K F' c o
 | .lst _,_,⟨vs,h1,h2,h3⟩=>⟨vs,h1,DenL.mono e h2,h3⟩
 | .dct _ _,_,⟨vs,h1,h2,h3⟩=>⟨vs,h1,DenL.mono e h2,h3⟩
 | .dci _ _,_,⟨vs,h1,h2,h3⟩=>⟨vs,h1,DenL.mono e h2,h3⟩
def DenC.notup{K:Tc}{F:Hp}:∀{c:C}{o:HO},DenC K F c o->∀ts,o≠ .tup ts
 | .lst _,_,⟨_,h1,_⟩,ts,z=>by rw[h1] at z;cases z
 | .dct _ _,_,⟨_,h1,_⟩,ts,z=>by rw[h1] at z;cases z
 | .dci _ _,_,⟨_,h1,_⟩,ts,z=>by rw[h1] at z;cases z
def oM(ob:Obj):HO->HO
 | .dT aK=> .frz ob (.dT aK)
 | .dK aK=> .frz ob (.dK aK)
 |o=>o
def DenC.den{K:Tc}{F F':Hp}{a:Addr}{ob:Obj}:∀{c:C}{o:HO},DenC K F c o->Same F F'->F' a=some (oM ob o)->Den K F' c.d (.ref a)
 | .lst _,_,⟨vs,h1,h2,h3⟩,e,q=>by subst h1;exact⟨a,vs,rfl,q,DenL.mono e h2,h3⟩
 | .dct _ _,_,⟨vs,h1,h2,h3⟩,e,q=>by subst h1;exact⟨a,ob,vs,rfl,q,DenL.mono e h2,h3⟩
 | .dci _ _,_,⟨vs,h1,h2,h3⟩,e,q=>by subst h1;exact⟨a,ob,vs,rfl,q,DenL.mono e h2,h3⟩
def DenO(K:Tc)(F H:Hp):Sl->V->Prop
 | .fz d,v=>Den K F d v
 | .ow c,v=>∃a o,v= .ref a/\H a=some o/\F a=none/\DenC K F c o
structure StE (K:Tc) (F H:Hp) (σ:St) (ρ:bf):Prop where
 fh:Same F H
 den:∀(i:Nat) (sl:Sl),ρ[i]? =some (some sl)->∃v,σ[i]? =some (some v)/\DenO K F H sl v
def DenO.ext{K:Tc}{F H F' H':Hp}(e:Ext F H F' H'):∀{sl:Sl}{v:V},DenO K F H sl v->DenO K F' H' sl v
 | .fz _,_,h=>Den.mono e.ff h
 | .ow _,_,⟨a,o,h1,h2,h3,h4⟩=>⟨a,o,h1,e.hh _ _ h2,by rw[e.old h2 h4.notup];exact h3,DenC.mono e.ff h4⟩
def StE.ext{K:Tc}{F H F' H':Hp}{σ:St}{ρ:bf}(s:StE K F H σ ρ)(e:Ext F H F' H'):StE K F' H' σ ρ:=
 ⟨e.fh,fun i sl q=>let ⟨v,h1,h2⟩:=s.den i sl q;⟨v,h1,h2.ext e⟩⟩
abbrev DE:=bf->M D
abbrev DT:=bf->M Bool
abbrev DA:=bf->M (List D)
def tD(K:Tc)(Xw:Nat->Hp->Prop)(δ:DE):TE:=fun σ H Q=>∃F ρ,StE K F H σ ρ/\WP K Xw F H (δ ρ) Q
def O_(K:Tc)(Xw:Nat->Hp->Prop)(δ:DT):TT:=fun σ H Q=>∃F ρ,StE K F H σ ρ/\WPB Xw F H (δ ρ) Q
def Qx(K:Tc)(Xw:Nat->Hp->Prop)(δ:DA):TA:=fun σ H Q=>∃F ρ,StE K F H σ ρ/\WPL K Xw F H (δ ρ) Q
def PD(X:Cx)(Xw:Nat->Hp->Prop)(e:Expr)(δ:DE):Prop:=PE X e (tD X.K Xw δ)
def mH(X:Cx)(Xw:Nat->Hp->Prop)(e:Expr)(δ:DT):Prop:=PT X e (O_ X.K Xw δ)
def kr(X:Cx)(Xw:Nat->Hp->Prop)(es:List Expr)(δ:DA):Prop:=PA X es (Qx X.K Xw δ)
def PE.weak{X:Cx}{e:Expr}{t t':TE}(h:PE X e t)(k:∀σ H Q,t' σ H Q->t σ H Q):PE X e t':=fun pins s σ H Q I w=>h pins s σ H Q I (k σ H Q w)
def PT.weak{X:Cx}{e:Expr}{t t':TT}(h:PT X e t)(k:∀σ H Q,t' σ H Q->t σ H Q):PT X e t':=fun pins s σ H Q I w=>h pins s σ H Q I (k σ H Q w)
def PA.weak{X:Cx}{e:List Expr}{t t':TA}(h:PA X e t)(k:∀σ H Q,t' σ H Q->t σ H Q):PA X e t':=fun pos pins s σ H Q I w=>h pos pins s σ H Q I (k σ H Q w)
def dV(i:Nat):DE:=fun ρ=>match ρ[i]? with
 |some (some (.fz d))=>ae d
 |_=>ah
def dC(d:D):DE:=fun _=>ae d
def d1(g:D->M D)(a:DE):DE:=fun ρ=>a ρ>>=g
def d2(g:D->D->M D)(a b:DE):DE:=fun ρ=>a ρ>>=fun x=>b ρ>>=fun y=>g x y
def aN:DA:=fun _=>ae []
def aC(a:DE)(r:DA):DA:=fun ρ=>a ρ>>=fun x=>r ρ>>=fun xs=>ae (x::xs)
def dA(g:List D->M D)(a:DA):DE:=fun ρ=>a ρ>>=g
def Cc:D->M Bool
 | .bl b=>ae b
 |_=>ah
def bH(a:DE):DT:=fun ρ=>a ρ>>=Cc
def gA(a b:DT):DT:=fun ρ=>a ρ>>=fun x=>if x then b ρ else ae false
def fS(a b:DT):DT:=fun ρ=>a ρ>>=fun x=>if x then ae true else b ρ
def bV(a:DT):DT:=fun ρ=>a ρ>>=fun x=>ae (!x)
def M7(c:DT)(a b:DE):DE:=fun ρ=>c ρ>>=fun x=>if x then a ρ else b ρ
def dH(a b:DE):DE:=fun ρ=>a ρ>>=fun x=>Cc x>>=fun c=>if c then b ρ else ae (.bl false)
def Hm(a:DE):DE:=fun ρ=>a ρ>>=fun x=>Cc x>>=fun c=>ae (.bl (!c))
section
variable{X:Cx}{Xw:Nat->Hp->Prop}{a b:Expr}{δa δb:DE}{pos:Pos}
def af{i:Nat}{x:Str}(h:PE X (.Name x pos) (vK i)):PD X Xw (.Name x pos) (dV i):=PE.weak h fun σ H Q ⟨F,ρ,s,w⟩=>by
 unfold dV at w
 split at w
 ·rename_i d e
  obtain⟨v,h1,h2⟩:=s.den i _ e
  exact⟨v,h1,WP.now w s.fh h2⟩
 ·exact w.elim
def iF{e:Expr}{d:D}{v:V}(h:PE X e (tC v))(hd:∀F,Den X.K F d v):PD X Xw e (dC d):=PE.weak h fun σ H Q ⟨F,ρ,s,w⟩=>WP.now w s.fh (hd F)
def aq{i j}:PD X Xw (.Constant (.int i) j pos) (dC (.int i)):=iF JQ fun _=>rfl
def ck{i j}:PD X Xw (.Constant (.bool i) j pos) (dC (.bl i)):=iF Mp fun _=>rfl
def dh{j}:PD X Xw (.Constant .none j pos) (dC .non):=iF JR fun _=>rfl
def eS{x j}(h:x.length<=lim:=by decide):PD X Xw (.Constant (.str x) j pos) (dC (.str x)):=iF JV fun _=>⟨rfl,h⟩
def tR(K:Tc)(r:R2)(g:D->D->M D):Prop:=∀(Xw:Nat->Hp->Prop) (F H:Hp) (x y:V) (dx dy:D) (Q:VK),Same F H->Den K F dx x->Den K F dy y->WP K Xw F H (g dx dy) Q->r x y H Q
def vJ{r:R2}{g:D->D->M D}(hg:tR X.K r g):∀σ H Q,tD X.K Xw (d2 g δa δb) σ H Q->MR r (tD X.K Xw δa) (tD X.K Xw δb) σ H Q:=fun σ H Q ⟨F,ρ,s,w⟩=>by
 refine⟨F,ρ,s,WP.mono (WP.bind w) fun v H1 ⟨F1,d,e1,q1,w1⟩=>?_⟩
 refine⟨F1,ρ,s.ext e1,WP.mono (WP.bind w1) fun u H2 ⟨F2,d',e2,q2,w2⟩=>?_⟩
 exact hg Xw F2 H2 v u d d' Q e2.fh (Den.mono e2.ff q1) q2 w2
def qx{op:Operator}{r:R2}{g:D->D->M D}(ho:OpR X (V6 op) r)(hg:tR X.K r g)(ha:PD X Xw a δa)(hb:PD X Xw b δb):PD X Xw (.BinOp a op b pos) (d2 g δa δb):=
 PE.weak (Mq ho ha hb) (vJ hg)
def qt{op:CmpOp}{r:R2}{g:D->D->M D}(ho:OpR X (Ua op) r)(hg:tR X.K r g)(ha:PD X Xw a δa)(hb:PD X Xw b δb)(hm:Ug op b=false:=by first | exact DH _ | rfl):PD X Xw (.Compare a [op] [b] pos) (d2 g δa δb):=
 PE.weak (GI ho ha hb hm) (vJ hg)
def eU{op:CmpOp}{r:R2}{g:D->D->M D}(ho:OpR X (Ua op) r)(hg:tR X.K r g)(ha:PD X Xw a δa)(hb:PD X Xw b δb)(hm:Ug op b=false:=by first | exact DH _ | rfl):mH X Xw (.Compare a [op] [b] pos) (bH (d2 g δa δb)):=
 PT.weak (GW ho ha hb hm) fun σ H Q ⟨F,ρ,s,w⟩=>by
  refine vJ hg σ H _ ⟨F,ρ,s,WP.mono (WPB.bind w) fun v H1 ⟨F1,d,e1,q1,w1⟩=>?_⟩
  cases d with
  |bl k=>exact⟨k,q1,w1 _ _ (Ext.refl e1.fh)⟩
  |_=>exact w1.elim
def AB{r:R2}{g:D->D->M D}(hr:K3 X r)(hg:tR X.K r g)(ha:PD X Xw a δa)(hb:PD X Xw b δb)(hs:gQ b:=by intro _ _;rfl):PD X Xw (.Subscript a b pos) (d2 g δa δb):=
 PE.weak (Ed hr ha hb hs) (vJ hg)
def ag:kr X Xw [] aN:=PA.weak uZ fun σ H Q ⟨F,ρ,s,w⟩=>w [] H F (Ext.refl s.fh) rfl
def aa{es:List Expr}{δs:DA}(ha:PD X Xw a δa)(hr:kr X Xw es δs)(hs:To (a::es) X.env=(false,eval a X.env)::To es X.env:=by rfl):kr X Xw (a::es) (aC δa δs):=
 PA.weak (o3 ha hr hs) fun σ H Q ⟨F,ρ,s,w⟩=>by
  refine⟨F,ρ,s,WP.mono (WPL.bind w) fun v H1 ⟨F1,d,e1,q1,w1⟩=>?_⟩
  refine⟨F1,ρ,s.ext e1,WPL.mono (WPL.bindL w1) fun vs H2 ⟨F2,ds,e2,q2,w2⟩=>?_⟩
  exact w2 _ _ _ (Ext.refl e2.fh) (.cons (Den.mono e2.ff q1) q2)
def bc(ds:List D):M D:=if ds.length<=lim then ae (.tup ds) else ah
def aX(ds:List D):M D:=if ds.length<=lim then ae (.lst ds) else ah
def zd{ds:List D}{f:List D->D}{Q:VK}{F H:Hp}(w:WP X.K Xw F H (if ds.length<=lim then ae (f ds) else ah) Q):ds.length<=lim/\WP X.K Xw F H (ae (f ds)) Q:=by
 split at w
 ·rename_i h;exact⟨h,w⟩
 ·exact w.elim
def cu{x1}{es:List Expr}{δs:DA}(h:kr X Xw es δs):PD X Xw (.Tuple es x1 pos) (dA bc δs):=PE.weak (JW h) fun σ H Q ⟨F,ρ,s,w⟩=>by
 refine⟨F,ρ,s,WPL.mono (WP.bindL w) fun vs H1 ⟨F1,ds,e1,q1,w1⟩=>?_⟩
 obtain⟨hl,w1⟩:=zd (X:=X) w1
 have hv:=q1.len
 refine⟨by have:=eO;omega,fun p hp=>WP.fin w1 (Ext.lay e1.fh hp) ⟨p,vs,rfl,aO,DenL.mono (Ext.lay e1.fh hp).ff q1,hl⟩⟩
def bw{es:List Expr}{δs:DA}(h:kr X Xw es δs):PD X Xw (.List es pos) (dA aX δs):=PE.weak (ve h) fun σ H Q ⟨F,ρ,s,w⟩=>by
 refine⟨F,ρ,s,WPL.mono (WP.bindL w) fun vs H1 ⟨F1,ds,e1,q1,w1⟩=>?_⟩
 obtain⟨hl,w1⟩:=zd (X:=X) w1
 have hv:=q1.len
 refine⟨by have:=eO;omega,fun p hp=>WP.fin w1 (Ext.lay e1.fh hp) ⟨p,vs,rfl,aO,DenL.mono (Ext.lay e1.fh hp).ff q1,hl⟩⟩
end
def ItD(K:Tc)(F:Hp)(J:It)(ds:List D):Prop:=∀(F' H':Hp) (i:Nat),Same F F'->Same F' H'->
 (∀d,ds[i]? =some d->J.go i H'/\∀x H'',J.yld i H' x H''->∃F'',Ext F' H' F'' H''/\Den K F'' d x)/\(ds.length<=i->J.stop i H')
def ItD.mono{K:Tc}{F F1:Hp}{J:It}{ds:List D}(h:ItD K F J ds)(e:Same F F1):ItD K F1 J ds:=fun F' H' i s1 s2=>h F' H' i (e.trans s1) s2
def WPI(K:Tc)(Xw:Nat->Hp->Prop)(F H:Hp)(m:M (List D))(R:It->Hp->Prop):Prop:=
 match m with
 |none=>False
 |some (.ok ds)=>∀J H' F',Ext F H F' H'->ItD K F' J ds->R J H'
 |some (.ex n)=>∀F' H',Ext F H F' H'->Xw n H'
def Sm(K:Tc)(Xw:Nat->Hp->Prop)(δ:DA):TI:=fun σ H R=>∃F ρ,StE K F H σ ρ/\WPI K Xw F H (δ ρ) R
def zT(X:Cx)(Xw:Nat->Hp->Prop)(tg iter:Expr)(δ:DA):Prop:=PI X tg iter (Sm X.K Xw δ)
def PI.weak{X:Cx}{tg e:Expr}{t t':TI}(h:PI X tg e t)(k:∀σ H Q,t' σ H Q->t σ H Q):PI X tg e t':=fun pins s σ H Q I w=>h pins s σ H Q I (k σ H Q w)
def WPI.bind{K:Tc}{Xw:Nat->Hp->Prop}{F H:Hp}{m:M D}{k:D->M (List D)}{R:It->Hp->Prop}(h:WPI K Xw F H (m>>=k) R):
 WP K Xw F H m fun v H1=>∃F1 d,Ext F H F1 H1/\Den K F1 d v/\WPI K Xw F1 H1 (k d) R:=by
 match m,h with
 |none,h=>exact h
 |some (.ok d),h=>
  refine fun v H2 F2 e2 q=>⟨F2,d,e2,q,?_⟩
  have h:WPI K Xw F H (k d) R:=h
  show WPI K Xw F2 H2 (k d) R
  match k d,h with
  |none,h=>exact h
  |some (.ok ds),h=>exact fun J H3 F3 e3 q3=>h J H3 F3 (e2.trans e3) q3
  |some (.ex n),h=>exact fun F3 H3 e3=>h F3 H3 (e2.trans e3)
 |some (.ex n),h=>exact h
def WPI.bindL{K:Tc}{Xw:Nat->Hp->Prop}{F H:Hp}{m:M (List D)}{k:List D->M (List D)}{R:It->Hp->Prop}(h:WPI K Xw F H (m>>=k) R):
 WPL K Xw F H m fun v H1=>∃F1 d,Ext F H F1 H1/\DenL K F1 d v/\WPI K Xw F1 H1 (k d) R:=by
 match m,h with
 |none,h=>exact h
 |some (.ok d),h=>
  refine fun v H2 F2 e2 q=>⟨F2,d,e2,q,?_⟩
  have h:WPI K Xw F H (k d) R:=h
  show WPI K Xw F2 H2 (k d) R
  match k d,h with
  |none,h=>exact h
  |some (.ok ds),h=>exact fun J H3 F3 e3 q3=>h J H3 F3 (e2.trans e3) q3
  |some (.ex n),h=>exact fun F3 H3 e3=>h F3 H3 (e2.trans e3)
 |some (.ex n),h=>exact h
def lstM:D->M (List D)
 | .lst ds=>ae ds
 |_=>ah
def Pj:D->M (List D)
 | .tup ds=>ae ds
 |_=>ah
def cQ(a:DE):DA:=fun ρ=>a ρ>>=lstM
def oK(a:DE):DA:=fun ρ=>a ρ>>=Pj
def Dt{K:Tc}{F:Hp}{a:Addr}{vs:List V}{ds:List D}(h:SqL K F a vs)(hd:DenL K F ds vs):ItD K F (NF K a) ds:=fun F' H' i s1 s2=>by
 have hs:=Same.seq s2 (Same.seq s1 h)
 refine⟨fun d e=>?_,fun hl=>⟨vs,hs,by rw[<-hd.len];exact hl⟩⟩
 obtain⟨v,e1,q⟩:=hd.get e
 refine⟨⟨vs,v,hs,e1⟩,fun x H'' y=>?_⟩
 obtain⟨e2,y⟩:=y
 subst e2
 have:=y vs hs
 rw[e1] at this
 cases this
 exact⟨F',Ext.refl s2,Den.mono s1 q⟩
def FQ{K:Tc}{F:Hp}{a:Addr}{vs:List V}{ds:List D}(h:SqT K F a vs)(hd:DenL K F ds vs):ItD K F (NG K a) ds:=fun F' H' i s1 s2=>by
 have hs:=Same.tup s2 (Same.tup s1 h)
 refine⟨fun d e=>?_,fun hl=>⟨vs,hs,by rw[<-hd.len];exact hl⟩⟩
 obtain⟨v,e1,q⟩:=hd.get e
 refine⟨⟨vs,v,hs,e1⟩,fun x H'' y=>?_⟩
 obtain⟨e2,y⟩:=y
 subst e2
 have:=y vs hs
 rw[e1] at this
 cases this
 exact⟨F',Ext.refl s2,Den.mono s1 q⟩
def iL(lo:Int)(n:Nat):List D:=(Um n).map fun(i:Nat)=>D.int (lo+(i:Int))
def sy{K:Tc}{F:Hp}(lo:Int)(n:Nat):ItD K F (K2 lo n) (iL lo n):=fun F' H' i s1 s2=>by
 refine⟨fun d e=>?_,fun hl=>show n<=i by simpa[iL] using hl⟩
 unfold iL at e
 rw[Tu] at e
 have hi:i<n:=by
  by_cases hi:i<n
  ·exact hi
  ·rw[WG (by simpa using hi)] at e;cases e
 rw[Y0 hi] at e
 cases e
 refine⟨hi,fun x H'' y=>?_⟩
 obtain⟨e2,y⟩:=y
 subst e2 y
 exact⟨F',Ext.refl s2,rfl⟩
section
variable{X:Cx}{Xw:Nat->Hp->Prop}{tg l:Expr}{δ:DE}{pos:Pos}
def bJ(h:PD X Xw l δ):zT X Xw tg l (cQ δ):=PI.weak (GK h) fun σ H R ⟨F,ρ,s,w⟩=>by
 refine⟨F,ρ,s,WP.mono (WPI.bind w) fun v H1 ⟨F1,d,e1,q1,w1⟩=>?_⟩
 cases d with
 |lst ds=>
  obtain⟨a,vs,h1,h2,h3,h4⟩:=q1
  exact⟨a,h1,⟨vs,Same.seq e1.fh (SqL.of h2)⟩,w1 _ _ _ (Ext.refl e1.fh) (Dt (SqL.of h2) h3)⟩
 |_=>exact w1.elim
def mq(h:PD X Xw l δ):zT X Xw tg l (oK δ):=PI.weak (JZ h) fun σ H R ⟨F,ρ,s,w⟩=>by
 refine⟨F,ρ,s,WP.mono (WPI.bind w) fun v H1 ⟨F1,d,e1,q1,w1⟩=>?_⟩
 cases d with
 |tup ds=>
  obtain⟨a,vs,h1,h2,h3,h4⟩:=q1
  exact⟨a,h1,⟨vs,Same.tup e1.fh (SqT.of h2)⟩,w1 _ _ _ (Ext.refl e1.fh) (FQ (SqT.of h2) h3)⟩
 |_=>exact w1.elim
def jl:List D->M (List D)
 |[.int j]=>if -4096<=j/\j<=4096 then ae (iL 0 j.toNat) else ah
 |_=>ah
def qH:List D->M (List D)
 |[.int i, .int j]=>if (-4096<=i/\i<=4096)/\(-4096<=j/\j<=4096) then ae (iL i (j - i).toNat) else ah
 |_=>ah
def DenL.one{K:Tc}{F:Hp}{d:D}{vs:List V}(h:DenL K F [d] vs):∃v,vs=[v]/\Den K F d v:=by
 obtain⟨v,r,h1,h2,h3⟩:=h
 cases (show r=[] from h3)
 exact⟨v,h1,h2⟩
def DenL.two{K:Tc}{F:Hp}{d d':D}{vs:List V}(h:DenL K F [d,d'] vs):∃v v',vs=[v,v']/\Den K F d v/\Den K F d' v':=by
 obtain⟨v,r,h1,h2,h3⟩:=h
 obtain⟨v',h4,h5⟩:=h3.one
 subst h4
 exact⟨v,v',h1,h2,h5⟩
def gL{a:Expr}{δs:DA}{p:Pos}(hg:Gl X "range")(hm:X.mg "range"=none)(ha:kr X Xw [a] δs)(hs:To [a] X.env=[(false,eval a X.env)]:=by rfl):zT X Xw tg (.Call (.Name "range" p) [a] [] pos) (fun ρ=>δs ρ>>=jl):=
 PI.weak (BU hg hm ha hs) fun σ H R ⟨F,ρ,s,w⟩=>by
  refine⟨F,ρ,s,WPL.mono (WPI.bindL w) fun vs H1 ⟨F1,ds,e1,q1,w1⟩=>?_⟩
  unfold jl at w1
  split at w1
  ·rename_i j
   obtain⟨v,h1,h2⟩:=q1.one
   cases (show v=_ from h2)
   split at w1
   ·exact⟨j,h1,by omega,by omega,w1 _ _ _ (Ext.refl e1.fh) (sy 0 _)⟩
   ·exact w1.elim
  ·exact w1.elim
def ll{a b:Expr}{δs:DA}{p:Pos}(hg:Gl X "range")(hm:X.mg "range"=none)(ha:kr X Xw [a,b] δs)(hs:To [a,b] X.env=[(false,eval a X.env),(false,eval b X.env)]:=by rfl)
 (FI:To [b] X.env=[(false,eval b X.env)]:=by rfl):zT X Xw tg (.Call (.Name "range" p) [a,b] [] pos) (fun ρ=>δs ρ>>=qH):=
 PI.weak (BV hg hm ha hs FI) fun σ H R ⟨F,ρ,s,w⟩=>by
  refine⟨F,ρ,s,WPL.mono (WPI.bindL w) fun vs H1 ⟨F1,ds,e1,q1,w1⟩=>?_⟩
  unfold qH at w1
  split at w1
  ·rename_i i j
   obtain⟨v,v',h1,h2,h3⟩:=q1.two
   cases (show v=_ from h2)
   cases (show v'=_ from h3)
   split at w1
   ·exact⟨i,j,h1,⟨by omega,by omega,by omega,by omega⟩,w1 _ _ _ (Ext.refl e1.fh) (sy i _)⟩
   ·exact w1.elim
  ·exact w1.elim
end
def dr(tg N:List Str):List Str:=N.map fun y=>if tg.contains y then y++(" ":Str) else y
def kA(X:Cx)(scope:Scope)(tn:List Str)(pins:List (Addr×Obj))(cl:List (Str×Addr))(C:Addr)(fp:List Addr)(s₂:S7)(H:Hp):Cx:=
 {X with N:=tn++dr tn X.N,s₀:=s₂,H₀:=H,env:=compEnvC scope cl C X.env,outer:=X.stack,ex:=fp,fn:=fun _=>false,pn:=X.pn++pins,xe:=fun _ _=>False}
structure CompSc (X:Cx) (scope:Scope) (tn:List Str):Prop where
 kind:scope.kind= .function
 nocell:∀y∈scope.names,y.2≠ .cell
 names:∀y∈scope.names,y.2= .local->scope.names.lookup y.1=some .local
 frees:∀y∈scope.names,y.2= .free->X.env.kindOf y.1=some .cell\/X.env.kindOf y.1=some .free
 vis:∀p∈(dr tn X.N).zip X.N,scope.names.lookup p.1=none\/(p.1=p.2/\scope.names.lookup p.1=some .free)
def kQ{env:Env}:∀(names:List (Str×Wn)) (acc:List (Str×Addr)),(∀y∈names,y.2= .free->∃c,env.cells.lookup y.1=some c)->
 (∀x c,acc.lookup x=some c->env.cells.lookup x=some c)->
 ∃cl,(forIn names acc (fun (x:Str×Wn) (r:List (Str×Addr))=>do
   let __x:=x
   if (__x.2==Zi)=true then do let c<-cellOf env __x.1;pure (Vs ((__x.1,c)::r)) else pure (Vs r)):Sem (List (Str×Addr)))=pure cl/\
  (∀x c,cl.lookup x=some c->env.cells.lookup x=some c)/\(∀x c,acc.lookup x=some c->∃c',cl.lookup x=some c')/\(∀x,names.lookup x=some .free->∃c,cl.lookup x=some c)
 |[],acc,_,h2=>⟨acc,rfl,h2,fun x c e=>⟨c,e⟩,fun x e=>by simp at e⟩
 |(n,k)::r,acc,h1,h2=>by
  by_cases hk:k= .free
  ·subst hk
   obtain⟨c,hc⟩:=h1 (n, .free) Ta rfl
   obtain⟨cl,e,a1,a2,a3⟩:=kQ r ((n,c)::acc) (fun y hy=>h1 y (S9 _ hy)) (fun x c' q=>by
    rw[UL] at q
    split at q
    ·rename_i hx
     cases q
     rw[show x=n from by simpa using hx];exact hc
    ·exact h2 x c' q)
   refine⟨cl,?_,a1,fun x c' q=>?_,fun x q=>?_⟩
   ·rw[XH]
    have:cellOf env n=pure c:=by unfold cellOf;rw[hc]
    simp only[beq_self_eq_true,if_true,this,pure_bind]
    exact e
   ·by_cases hx:x=n
    ·subst hx
     exact a2 x c (by simp[UL])
    ·exact a2 x c' (by rw[UL,show (x==n)=false from by simpa using hx];exact q)
   ·rw[UL] at q
    split at q
    ·rename_i hx
     exact a2 x c (by rw[UL,hx])
    ·exact a3 x q
  ·obtain⟨cl,e,a1,a2,a3⟩:=kQ r acc (fun y hy=>h1 y (S9 _ hy)) h2
   refine⟨cl,?_,a1,a2,fun x q=>?_⟩
   ·rw[XH]
    have:((k==Zi)=true)=False:=by simpa using hk
    simp only[this,if_false,pure_bind]
    exact e
   ·rw[UL] at q
    split at q
    ·cases q;exact absurd rfl hk
    ·exact a3 x q
def pA{scope:Scope}{env:Env}(h:∀y∈scope.names,y.2= .free->∃c,env.cells.lookup y.1=some c):
 ∃cl,closureFor scope env=pure cl/\(∀x c,cl.lookup x=some c->env.cells.lookup x=some c)/\(∀x,scope.names.lookup x=some .free->∃c,cl.lookup x=some c):=by
 obtain⟨cl,e,a1,_,a3⟩:=kQ (env:=env) scope.names [] h (fun x c q=>by simp at q)
 refine⟨cl,?_,a1,a3⟩
 unfold closureFor
 show (forIn scope.names [] _>>=fun r=>pure r)=_
 rw[bind_pure]
 exact e
def noex{α:Type}:M α->M α
 |some (.ok a)=>some (.ok a)
 |_=>none
def eh(f:D->M (Option D)):List D->M (List D)
 |[]=>ae []
 |d::ds=>f d>>=fun o=>eh f ds>>=fun r=>ae (match o with | some y=>y::r | none=>r)
def Qy(n:Nat):D->M (List D):=fun d=>match n,d with
 |0,d=>ae [d]
 |n, .tup ds=>if ds.length=n then ae ds else ah
 |_,_=>ah
def jk(n:Nat)(δt:DT)(δe:DE)(ρ:bf):D->M (Option D):=fun d=>
 Qy n d>>=fun ts=>δt (ts.map (fun t=>some (Sl.fz t))++ρ)>>=fun b=>if b then δe (ts.map (fun t=>some (Sl.fz t))++ρ)>>=fun y=>ae (some y) else ae none
def bA(n:Nat)(δi:DA)(δt:DT)(δe:DE):DE:=fun ρ=>δi ρ>>=fun ds=>noex (eh (jk n δt δe ρ) ds)>>=aX
def cw:DT:=fun _=>ae true
def fe(f:D->M (Option D))(d:D)(ds:List D):eh f (d::ds)=(f d>>=fun o=>eh f ds>>=fun r=>ae (match o with | some y=>y::r | none=>r)):=rfl
def yN{f:D->M (Option D)}{ds:List D}{i:Nat}{d:D}{ys R:List D}(hd:ds[i]? =some d)
 (h:eh f ds=(eh f (ds.drop i)>>=fun r=>ae (ys++r)))(hR:eh f ds=ae R):
 ∃o,f d=ae o/\eh f ds=(eh f (ds.drop (i+1))>>=fun r=>ae ((match o with | some y=>ys++[y] | none=>ys)++r)):=by
 have e:ds.drop i=d::ds.drop (i+1):=by
  obtain⟨hi,e⟩:=Tn.mp hd
  rw[Yb hi,e]
 rw[e,fe] at h
 have h':=h.symm.trans hR
 obtain⟨r,h1,h2⟩:=iQ h'
 obtain⟨o,h3,h4⟩:=iQ h1
 refine⟨o,h3,?_⟩
 obtain⟨r',h5,h6⟩:=iQ h4
 rw[h5,hR]
 rw[<-h2,<-gj h6]
 show ae _=ae _
 cases o with
 |none=>rfl
 |some y=>simp
def ya{P:TM}{w:World}{H:Hp}{h1 h2:Heap}{a:Addr}(x:HOk P w H h1)(s:Vv a h1 h2)(n:H a=none):HOk P w H h2:=fun b o e=>by
 refine(x b o e).stay (fun c v hc q=>(s.2 c ?_).trans q) (fun _ q=>q) fun _ _ q=>q
 rintro rfl
 rcases hc with rfl | hc
 ·rw[n] at e;cases e
 ·rw[n] at hc;cases hc
def A7{prog:TM}{w:World}{A:TY}{R:Result->S7->Prop}{s:S7}{elt target iter:Expr}{ifs:List Expr}{scope:Scope}{pos:Pos}{it acc:Value}{env:Env}(I:Nat->S7->Prop)
 (turn:∀n s,I n s->wpAny (model prog w) A (W2 it) (fun r s₁=>match r with
  |none=>R (.ok .next) s₁
  |some v=>wpAny (model prog w) A (W4 target it v) (fun _ Qv=>wpAny (model prog w) A (assign target env v) (fun _ s₂=>
    wpAny (model prog w) A (forIn ifs true fun c r=>if r=true then do let ok<-isTrue c env (eval c env);pure (Vs ok) else pure (Vs r)) (fun ok s₃=>
     if ok=true then wpAny (model prog w) A (eval elt env) (fun x s₄=>
      wpAny (model prog w) A (call (.builtin "list.append") [acc,x]) (fun _ s₅=>∃m,m<n/\I m s₅) (Y5 (model prog w) A env fun e s'=>R (.error e) s') s₄) (Y5 (model prog w) A env fun e s'=>R (.error e) s') s₃
     else∃m,m<n/\I m s₃) (Y5 (model prog w) A env fun e s'=>R (.error e) s') s₂) (Y5 (model prog w) A env fun e s'=>R (.error e) s') Qv) (Y5 (model prog w) A env fun e s'=>R (.error e) s') s₁) (Y5 (model prog w) A env fun e s'=>R (.error e) s') s)
 (n:Nat) (h:I n s):
 Wc (model prog w) A (.compLoop (.ListComp elt [⟨target,iter,ifs,0⟩] scope pos) 0 it acc env) R s:=by
 refine codeAny_loop rfl I (fun n s hI=>?_) n h
 show wpAny _ A ((compTurn (.ListComp elt [⟨target,iter,ifs,0⟩] scope pos) 0 it acc env).onRaise (fun x=>do noteFrame x env;theTreesLotGoes x)) _ _ s
 refine wpAny_noted ?_
 rw[compTurn_list]
 refine S5 (wpAny_standAt (S5 (Up (turn n s hI) (fun r s₁ h₁=>?_) fun _ _ h'=>h')))
 cases r with
 |none=>exact Te h₁
 |some v=>
  refine S5 (Up h₁ (fun _ Qv h₁=>?_) fun _ _ h'=>h')
  refine S5 (Up h₁ (fun _ s₂ h₂=>S5 (Up h₂ (fun ok s₃ h₃=>?_) fun _ _ h'=>h')) fun _ _ h'=>h')
  cases ok with
  |false=>exact Te ⟨rfl,h₃⟩
  |true=>
   exact S5 (S5 (Up h₃ (fun x s₄ h₄=>S5 (Up h₄ (fun _ s₅ h₅=>Te (Te ⟨rfl,h₅⟩)) fun _ _ h'=>h')) fun _ _ h'=>h'))
def AR(X:Cx)(tg:Expr)(n:Nat)(σ:St):Prop:=∀(pins:List (Addr×Obj)) (s:S7) (σ':St) (F H:Hp) (d:D) (ts:List D) (v:V) (u:Value),Inv X pins σ' H s->Same F H->σ'.drop (max n 1)=σ->RelV v u->Den X.K F d v->Qy n d=ae ts->
 wpAny (model X.prog X.w) X.A (assign tg X.env u) (fun _ s'=>∃vs,Inv X pins (vs.map some++σ) H s'/\DenL X.K F ts vs) X.xe s
def mI(X:Cx)(ifs:List Expr)(δt:DT):Prop:=∀(pins:List (Addr×Obj)) (s:S7) (σ:St) (H:Hp) (Q:Bool->Hp->Prop),Inv X pins σ H s->O_ X.K (fun _ _=>False) δt σ H Q->
 wpAny (model X.prog X.w) X.A (forIn ifs true fun c r=>if r=true then do let ok<-isTrue c X.env (eval c X.env);pure (Vs ok) else pure (Vs r)) (TP X pins σ Q) X.xe s
def du{X:Cx}:mI X [] cw:=fun pins s σ H Q I ⟨F,ρ,S,w⟩=>wpAny_tests_nil ⟨H,I,w H F (Ext.refl S.fh)⟩
def mB{X:Cx}{c:Expr}{δ:DT}(h:mH X (fun _ _=>False) c δ):mI X [c] δ:=fun pins s σ H Q I w=>wpAny_tests_one (h pins s σ H Q I w)
def StE.cons{K:Tc}{F H:Hp}{σ:St}{ρ:bf}{ts:List D}{vs:List V}(s:StE K F H σ ρ)(h:DenL K F ts vs):StE K F H (vs.map some++σ) (ts.map (fun t=>some (Sl.fz t))++ρ):=by
 refine⟨s.fh,fun i sl e=>?_⟩
 have hl:=h.len
 by_cases hi:i<ts.length
 ·rw[T6 (by simpa using hi),Tu] at e
  cases q:ts[i]? with
  |none=>rw[q] at e;cases e
  |some t=>
   rw[q] at e
   cases e
   obtain⟨v,e1,e2⟩:=h.get q
   exact⟨v,by rw[T6 (by simp;omega),Tu,e1];rfl,e2⟩
 ·rw[T7 (by simpa using hi)] at e
  obtain⟨v,e1,e2⟩:=s.den _ _ e
  refine⟨v,?_,e2⟩
  rw[T7 (by simp;omega)]
  simpa[hl] using e1
def WPB.take{Xw:Nat->Hp->Prop}{F H:Hp}{b:Bool}:WPB Xw F H (ae b) fun b' H'=>b'=b/\∃F',Ext F H F' H':=fun H' F' e=>⟨rfl,F',e⟩
def WP.take{K:Tc}{Xw:Nat->Hp->Prop}{F H:Hp}{d:D}:WP K Xw F H (ae d) fun v H'=>∃F',Ext F H F' H'/\Den K F' d v:=fun v H' F' e q=>⟨F',e,q⟩
def ng(env:Env)(p:Str×Wn):Str×Wn:=if (p.2== .free&&env.scope.kind== .function&&env.kindOf p.1==some .cell) then(p.1, .cell) else(p.1,p.2)
def ik(scope:Scope)(env:Env):(relabel scope env).names=scope.names.map (ng env):=rfl
def Es(env:Env)(p:Str×Wn):(ng env p).1=p.1:=by unfold ng;split<;>rfl
def iX(env:Env)(x:Str):∀ns:List (Str×Wn),(ns.map (ng env)).lookup x=(ns.lookup x).map fun k=>(ng env (x,k)).2
 |[]=>rfl
 |(m,k)::r=>by
  rw[Tf,UL,UL]
  have e:ng env (m,k)=(m,(ng env (m,k)).2):=XA (Es env (m,k)) rfl
  rw[e]
  dsimp only
  by_cases hx:(x==m)=true
  ·have hm:x=m:=by simpa using hx
   subst hm
   rw[hx]
   rfl
  ·have hx:(x==m)=false:=by simpa using hx
   rw[hx]
   exact iX env x r
def vj{scope:Scope}{env:Env}{x:Str}(h:scope.names.lookup x=none):(relabel scope env).names.lookup x=none:=by
 rw[ik,iX,h];rfl
def vi{scope:Scope}{env:Env}{x:Str}(hc:∀y∈scope.names,y.2≠ .cell)(h:(relabel scope env).names.lookup x=some .cell\/(relabel scope env).names.lookup x=some .free):scope.names.lookup x=some .free:=by
 rw[ik,iX] at h
 cases q:scope.names.lookup x with
 |none=>rw[q] at h;rcases h with h | h<;>cases h
 |some k=>
  rw[q] at h
  have hk:k≠ .cell:=hc _ (UG q)
  have h:(ng env (x,k)).2= .cell\/(ng env (x,k)).2= .free:=by simpa using h
  by_cases hf:k= .free
  ·rw[hf]
  ·have:(ng env (x,k)).2=k:=by
    unfold ng
    rw[if_neg]
    simp[hf]
   rw[this] at h
   rcases h with h | h
   ·exact absurd h hk
   ·exact absurd h hf
def nh{scope:Scope}{env:Env}{x:Str}(h:scope.names.lookup x=some .free):¬(relabel scope env).names.lookup x=some .local:=by
 rw[ik,iX,h]
 intro z
 have z:(ng env (x, .free)).2= .local:=by simpa using z
 unfold ng at z
 split at z<;>cases z
structure BlockEnd (X:Cx) (pins:List (Addr×Obj)) (C:Addr) (H':Hp) (s1:S7):Prop where
 ns:∃m,s1.heap.Ns C m
 free:H' C=none
 nl:C≠X.env.locals
 nw:X.s₀.heap.objs.size<=C
 nc:∀x c,X.env.cells.lookup x=some c->c≠C
 np:∀p∈X.pn++pins,p.1≠C
def wx{X:Cx}{Xw:Nat->Hp->Prop}{elt iter tg:Expr}{ifs:List Expr}{scope:Scope}{pos:Pos}{tn:List Str}{n:Nat}{δi:DA}{δt:DT}{δe:DE}{cl:List (Str×Addr)}{pins:List (Addr×Obj)}{s:S7}{σ:St}{H F:Hp}{ρ:bf}{Q:VK}{RR:Value->Addr->Result->S7->Prop}
 (sc:CompSc X scope tn)(hn:tn.length=max n 1)(hc:X.calm=true)(hi:zT X Xw tg iter δi)
 (hg:∀pins cl C fp s₂ H σ,AR (kA X scope tn pins cl C fp s₂ H) tg n σ)
 (ht:∀pins cl C fp s₂ H,mI (kA X scope tn pins cl C fp s₂ H) ifs δt)
 (he:∀pins cl C fp s₂ H,PD (kA X scope tn pins cl C fp s₂ H) (fun _ _=>False) elt δe)
 (I:Inv X pins σ H s)(S:StE X.K F H σ ρ)(w:WP X.K Xw F H (bA n δi δt δe ρ) Q)
 (cl1:∀x c,cl.lookup x=some c->X.env.cells.lookup x=some c)(cl2:∀x,scope.names.lookup x=some .free->∃c,cl.lookup x=some c)
 (Q3:∀(s1:S7) (C D:Addr) (H':Hp),Inv X pins σ H' s1->Q (.ref D) H'->BlockEnd X pins C H' s1->RR (.ref D) C (.ok .next) s1):
 wpAny (model X.prog X.w) X.A (eval iter X.env) (fun x s₁=>wpAny (model X.prog X.w) X.A (pyIter x) (fun it s₂=>wpAny (model X.prog X.w) X.A (newList []) (fun acc s₃=>
  wpAny (model X.prog X.w) X.A (newFunctionEnv scope X.env.globals cl [] X.env.qual none .none (some X.env)) (fun La s₄=>
   Wc (model X.prog X.w) X.A (.compStart (.ListComp elt [⟨tg,iter,ifs,0⟩] scope pos) 0 it acc {La with scope:=relabel scope X.env}) (RR acc La.locals) s₄) X.xe s₃) X.xe s₂) X.xe s₁) X.xe s:=by
 refine cJ (hi pins s σ H (fun J H2=>∃F2 ds,Ext F H F2 H2/\ItD X.K F2 J ds/\WP X.K Xw F2 H2 (noex (eh (jk n δt δe ρ) ds)>>=aX) Q) I ⟨F,ρ,S,?_⟩) fun xv s₁ h₁=>cJ h₁ fun it s₂ h₂=>?_
 ·unfold bA at w
  rcases(δi ρ).cs with hq | ⟨m,hq⟩ | ⟨ds,hq⟩
  ·rw[hq] at w;exact w.elim
  ·rw[hq] at w⊢;exact w
  ·rw[hq] at w⊢;exact fun J H' F' e q=>⟨F',ds,e,q,WP.ext e w⟩
 obtain⟨ia,fp,QA,J,H2,rfl,I2,T,HY,f2,F2,ds,e2,Qf,w2⟩:=h₂
 obtain⟨R,hR,PU,w2⟩:∃R,eh (jk n δt δe ρ) ds=ae R/\R.length<=lim/\WP X.K Xw F2 H2 (ae (.lst R)) Q:=by
  rcases(eh (jk n δt δe ρ) ds).cs with hq | ⟨m,hq⟩ | ⟨R,hq⟩
  ·rw[hq] at w2;exact w2.elim
  ·rw[hq] at w2;exact w2.elim
  ·rw[hq] at w2
   obtain⟨h1,h2⟩:=zd (X:=X) (f:=D.lst) (show WP X.K Xw F2 H2 (aX R) Q from w2)
   exact⟨R,hq,h1,h2⟩
 refine Ut (wpAny_newFunctionEnv sc.nocell (by intro y hy;simp at hy) (fun h₁ IP FJ=>?_) sc.kind)
 dsimp only at IP FJ⊢
 generalize NY:s₂.heap.push {cls:= .type "list",dict:=none,data:= .seq ([]:List Value).toArray}=HL at IP FJ⊢
 have hC:HL.objs.size=s₂.heap.objs.size+1:=by rw[<-NY,V_]
 have Be:s₂.heap.objs.size<HL.objs.size:=by rw[hC];exact VX _
 have old:∀b o,s₂.heap.get? b=some o->h₁.get? b=some o:=fun b o e=>FJ.extBut b o (TR (Vx (Tq e) Be)) (S_ _ (NY▸S_ _ e))
 have C_:h₁.get? s₂.heap.objs.size=some {cls:= .type "list",data:= .seq ([]:List Value).toArray}:=FJ.extBut _ _ (TR Be) (S_ _ (NY▸Tt _ rfl))
 have nD:H2 s₂.heap.objs.size=none:=I2.hok.fresh (Tg _)
 have nC:H2 HL.objs.size=none:=I2.hok.fresh (UT Be)
 have gC:s₂.heap.get? HL.objs.size=none:=YS (UT Be)
 have fl:∀b∈fp,b<s₂.heap.objs.size:=fun b hb=>by
  obtain⟨o,e,_⟩:=T.obj 0 _ HY b hb
  exact Tq e
 generalize wU:kA X scope tn pins cl HL.objs.size fp s₂ H2=X'
 have Qp:X'.Ok:=by
  subst wU
  refine⟨I2.ok.mod,sc.kind,I2.ok.glob,I2.ok.blt,UT Be,fun x y c h1 h2=>I2.ok.inj x y c (cl1 _ _ h1) (cl1 _ _ h2),fun x hx=>?_,fun _ _ h=>(by cases h),I2.ok.hd,I2.ok.frames, .inl rfl,
   fun b hb=>⟨TR (Vx (fl b hb) Be),fun x c h=>(f2 b hb).2.2.2.2.1 x c (cl1 _ _ h)⟩,I2.bs,Tw I2.ok.bsz I2.sz,fun b o e hb=>?_,fun b hb z=>?_,I2.stack,I2.stkFree⟩
  ·have hx:(relabel scope X.env).names.lookup x=some .cell\/(relabel scope X.env).names.lookup x=some .free:=hx
   exact cl2 x (vi sc.nocell hx)
  ·rcases(f2 b hb).2.2.2.1 with z | z
   ·exact I2.ok.noex b o e z
   ·exact absurd (TQ (Tq (I2.ok.bs b o e).1) z) (Uk _)
  ·rcases Th.mp (I2.stkSub b z) with q | q
   ·exact(f2 b hb).2.1 q
   ·exact(f2 b hb).2.2.1 q
 have OM:∀b o,H2 b=some o->b≠s₂.heap.objs.size:=fun b o e=>bG e nD
 have ID:∀{H':Hp},(∀b∈fp,H' b=none)->∀b∈fp,qU X' [] H' b:=fun RJ b hb=>by
  subst wU
  refine⟨RJ b hb,TR (Vx (fl b hb) Be),fun z=>Qp.exfs b hb z, .inl hb,fun x c h=>(f2 b hb).2.2.2.2.1 x c (cl1 _ _ h),fun p hp=>?_⟩
  rw[T9] at hp
  exact(f2 b hb).2.2.2.2.2 p hp
 have I0:Inv X' [] (TB (max n 1) none++σ) (upd H2 s₂.heap.objs.size (.lst [])) {s₂ with heap:=h₁,toks:=s₂.toks+([]:List (Str×Value)).length}:=by
  subst wU
  have Om:HOk X.prog X.w (upd H2 s₂.heap.objs.size (.lst [])) h₁:=I2.hok.laid old (Tg _) ⟨Ue _,[],_, .nil,C_⟩
  refine⟨Qp,rfl,I2.bare,Un.laid old (Tg _) nD,⟨_,IP,fun i x v h1 h2 h3=>?_⟩,fun x c h=>?_,?_,fun x c h=>?_,fun p hp=>?_,Om,?_⟩
  ·by_cases hi:i<max n 1
   ·rw[T6 (by simpa using hi),Uw,if_pos hi] at h2
    cases h2
   ·have N9:tn.length<=i:=by omega
    have h1:(tn++dr tn X.N)[i]? =some x:=h1
    rw[T7 N9] at h1
    rw[T7 (by simpa using hi),WE,<-hn] at h2
    have hN:∃y,X.N[i - tn.length]? =some y/\(x,y)∈(dr tn X.N).zip X.N:=by
     have lD:=(Tn.mp h1).1
     have FG:i - tn.length<X.N.length:=by simpa[dr] using lD
     refine⟨X.N[i - tn.length],Tb FG,?_⟩
     refine List.mem_iff_getElem?.mpr ⟨i - tn.length,?_⟩
     rw[X_]
     exact⟨h1,Tb FG⟩
    obtain⟨y,hy,hm⟩:=hN
    have hV:(relabel scope X.env).names.lookup x=some .local\/(relabel scope X.env).names.lookup x=some .cell\/(relabel scope X.env).names.lookup x=some .free:=h3
    rcases sc.vis _ hm with IM | ⟨OC,Cf⟩
    ·have IM:scope.names.lookup x=none:=IM
     have:(relabel scope X.env).names.lookup x=none:=vj IM
     rw[this] at hV
     rcases hV with z | z | z<;>cases z
    ·have OC:x=y:=OC
     subst OC
     have Cf:scope.names.lookup x=some .free:=Cf
     have hk:=sc.frees (x, .free) (UG Cf) rfl
     obtain⟨m,KJ,HD⟩:=I2.loc
     obtain⟨u,ru,lk⟩:=HD _ x v hy h2 (by rcases hk with z | z;exact .inr (.inl z);exact .inr (.inr z))
     refine⟨u,ru, .inr ⟨?_,?_⟩⟩
     ·rcases hV with z | z | z
      ·exact absurd z (nh Cf)
      ·exact .inl z
      ·exact .inr z
     ·rcases lk with⟨z,_⟩ | ⟨_,c,PV,Dc⟩
      ·rcases hk with q | q
       ·rw[show X.env.kindOf x=some .local from z] at q;cases q
       ·rw[show X.env.kindOf x=some .local from z] at q;cases q
      ·obtain⟨c',Hv⟩:=cl2 x Cf
       have:=cl1 _ _ Hv
       rw[PV] at this
       cases this
       obtain⟨o,ho,hd⟩:=Dc
       exact⟨c,Hv,o,old _ _ ho,hd⟩
  ·obtain⟨v,o,ho,hd⟩:=I2.cell x c (cl1 _ _ h)
   exact⟨v,o,old _ _ ho,hd⟩
  ·show upd H2 s₂.heap.objs.size (.lst []) HL.objs.size=none
   rw[aB (VS Be)]
   exact nC
  ·have Dd:=cl1 _ _ h
   obtain⟨v,q⟩:=I2.cell x c Dd
   rw[aB (TR q.lt)]
   exact I2.freeC x c Dd
  ·rw[T9] at hp
   obtain⟨e,nn,ne,nf,d⟩:=I2.pin p hp
   have lD:=Tq e
   refine⟨old _ _ e,by rw[aB (TR lD)];exact nn,TR (Vx lD Be),fun z=>?_,d⟩
   rcases Th.mp (I2.stkSub p.1 z) with q | q
   ·exact ne q
   ·exact nf q
  ·show (TB (max n 1) none++σ).length=(tn++dr tn X.N).length
   rw[Ti,Ti,WE,hn,show (dr tn X.N).length=X.N.length from by simp[dr],I2.len]
 have loop:∀s₃:S7,s₃={s₂ with heap:=h₁,toks:=s₂.toks+([]:List (Str×Value)).length}->
  Wc (model X.prog X.w) X.A (.compLoop (.ListComp elt [⟨tg,iter,ifs,0⟩] scope pos) 0 (.ref ia) (.ref s₂.heap.objs.size) (compEnvC scope cl HL.objs.size X.env))
   (RR (.ref s₂.heap.objs.size) HL.objs.size) s₃:=by
  intro s₃ RS
  have CP:X'.env=compEnvC scope cl HL.objs.size X.env:=by subst wU;rfl
  have hA:X'.A=X.A:=by subst wU;rfl
  have hP:X'.prog=X.prog:=by subst wU;rfl
  have hw:X'.w=X.w:=by subst wU;rfl
  have hK:X'.K=X.K:=by subst wU;rfl
  have R0:X'.xe=fun _ _=>False:=by subst wU;rfl
  have Hw:X'.calm=true:=by subst wU;exact hc
  have Rl:X'.fs=hZ X.stack:=by subst wU;rfl
  have hex:X'.ex=fp:=by subst wU;rfl
  have QW:X'.H₀=H2:=by subst wU;rfl
  have P8:X'.s₀=s₂:=by subst wU;rfl
  have pass:∀{α:Type}{t:Sem α}{P:α->S7->Prop}{E':Value->S7->Prop}{s:S7},wpAny (model X'.prog X'.w) X'.A t P X'.xe s->wpAny (model X.prog X.w) X.A t P E' s:=fun {α t P E' s} h=>by
   rw[hP,hw,hA,R0] at h
   exact Up h (fun _ _ q=>q) fun _ _ q=>q.elim
  refine A7 (fun m s'=>∃(i:Nat) (F' H':Hp) (vs:List V) (ys:List D) (σt:St),m=ds.length - i/\i<=ds.length/\σt.length=max n 1/\Inv X' [] (σt++σ) H' s'/\QA i s'.heap/\(∀b∈fp,H' b=none)/\Ext F2 H2 F' H'/\
   H' s₂.heap.objs.size=some (.lst vs)/\F' s₂.heap.objs.size=none/\DenL X.K F' ys vs/\eh (jk n δt δe ρ) ds=(eh (jk n δt δe ρ) (ds.drop i)>>=fun r=>ae (ys++r))) ?_ ds.length ?_
  ·rintro m s' ⟨i,F',H',vs,ys,σt,rfl,N_,R5,I',qL,Py,yP,hD,fD,Nr,heq⟩
   by_cases lD:i<ds.length
   ·
    obtain⟨d,hd⟩:∃d,ds[i]? =some d:=⟨_,Tb lD⟩
    obtain⟨N8,IY⟩:=(Qf F' H' i yP.ff yP.fh).1 d hd
    obtain⟨o,ho,Lz⟩:=yN hd heq hR
    have OD:ys.length<=lim:=by
     rw[heq] at hR
     obtain⟨r,_,hr⟩:=iQ hR
     rw[<-gj hr,Ti] at PU
     omega
    obtain⟨ts,RV,ho⟩:=iQ ho
    refine pass ?_
    rw[hP,hw]
    refine cJ (T.item X' hP hw hK Hw i [] s' (σt++σ) H' X'.xe I' (ID Py) qL N8) ?_
    rintro r s1 ⟨u,rfl,h1⟩
    refine pass ?_
    rw[hP,hw]
    refine cJ h1 ?_
    rintro _ s2 ⟨x,H3,I3,rx,y3,HZ,M_⟩
    obtain⟨F3,E3,q3⟩:=IY x H3 y3
    have PK:H3 s₂.heap.objs.size=some (.lst vs):=E3.hh _ _ hD
    have QL:F3 s₂.heap.objs.size=none:=by rw[E3.old hD (fun _ z=>nomatch z)];exact fD
    have I3':=I3.pinned (ID M_) (T.obj _ _ HZ)
    have Ap:∀{σ7:St}{H7:Hp}{s7:S7},Inv X' ([]++qA fp s2.heap) σ7 H7 s7->QA (i+1) s7.heap/\∀b∈fp,H7 b=none:=fun {σ7 H7 s7} I7=>
     ⟨T.keep _ _ _ HZ fun b hb o e=>(I7.pin (b,o) (T8 _ (T8 _ (iY hb e)))).1,fun b hb=>by
      obtain⟨o,e,_⟩:=T.obj _ _ HZ b hb
      exact(I7.pin (b,o) (T8 _ (T8 _ (iY hb e)))).2.1⟩
    have Ro:AR X' tg n σ:=by subst wU;exact hg _ _ _ _ _ _ _
    have RT:mI X' ifs δt:=by subst wU;exact ht _ _ _ _ _ _
    have Rj:PD X' (fun _ _=>False) elt δe:=by subst wU;exact he _ _ _ _ _ _
    refine pass ?_
    rw[<-CP]
    refine cJ (Ro _ s2 (σt++σ) F3 H3 d ts x u I3' E3.fh (by rw[<-R5];simp) rx (by rw[hK];exact q3) RV) ?_
    rintro _ s4 ⟨vt,I4,dt⟩
    rw[hK] at dt
    have S4:StE X.K F3 H3 (vt.map some++σ) (ts.map (fun t=>some (Sl.fz t))++ρ):=StE.cons ((S.ext e2).ext (yP.trans E3)) dt
    obtain⟨b,hb,ho⟩:=iQ ho
    refine pass ?_
    try rw[<-CP]
    refine cJ (RT _ s4 _ H3 (fun b' H5=>b'=b/\∃F5,Ext F3 H3 F5 H5) I4 ⟨F3,_,by rw[hK];exact S4,by rw[hb];exact WPB.take⟩) ?_
    rintro b' s5 ⟨H5,I5,rfl,F5,Iw⟩
    have NW:H5 s₂.heap.objs.size=some (.lst vs):=Iw.hh _ _ PK
    have Pw:F5 s₂.heap.objs.size=none:=by rw[Iw.old PK (fun _ z=>nomatch z)];exact QL
    cases b' with
    |false=>
     rw[if_neg TN] at ho⊢
     obtain rfl:=gj ho
     refine⟨ds.length - (i+1),by omega,i+1,F5,H5,vs,ys,vt.map some,rfl,lD,?_,I5.unpinned,(Ap I5).1,(Ap I5).2,yP.trans (E3.trans Iw),NW,Pw,DenL.mono (E3.trans Iw).ff Nr,Lz⟩
     have h1:=I5.len
     have h2:=I3.len
     rw[Ti] at h1 h2
     omega
    |true=>
     rw[if_pos rfl] at ho⊢
     obtain⟨yv,hy,ho⟩:=iQ ho
     obtain rfl:=gj ho
     refine pass ?_
     try rw[<-CP]
     refine cJ (Rj _ s5 _ H5 (fun v H6=>∃F6,Ext F5 H5 F6 H6/\Den X.K F6 yv v) I5 ⟨F5,_,by rw[hK];exact S4.ext Iw,by rw[hy,hK];exact WP.take⟩) ?_
     rintro xv s6 ⟨v,H6,I6,rv,F6,M9,qv⟩
     have QV:H6 s₂.heap.objs.size=some (.lst vs):=M9.hh _ _ NW
     have Px:F6 s₂.heap.objs.size=none:=by rw[M9.old NW (fun _ z=>nomatch z)];exact Pw
     have RY:vs.length<Tz:=by
      have:=Nr.len
      have:=eO
      omega
     refine pass ?_
     refine cJ (sO _ s6 _ H6 (.ref s₂.heap.objs.size) [v] (.ref s₂.heap.objs.size) [xv] (fun _ H7=>H7=upd H6 s₂.heap.objs.size (.lst (vs++[v]))) I6 rfl (.cons rv .nil) ⟨_,vs,v,rfl,rfl,QV,RY,rfl⟩) ?_
     rintro _ s7 ⟨_,H7,I7,_,rfl⟩
     have QK:Ext F2 H2 F6 (upd H6 s₂.heap.objs.size (.lst (vs++[v]))):=by
      have e:=yP.trans (E3.trans (Iw.trans M9))
      refine⟨fun b u q=>?_,e.ff,fun b u q=>?_,e.new⟩
      ·rw[aB (OM b u q)];exact e.hh b u q
      ·rw[aB (fun z=>by rw[z,Px] at q;cases q)];exact e.fh b u q
     refine⟨ds.length - (i+1),by omega,i+1,F6,_,vs++[v],ys++[yv],vt.map some,rfl,lD,?_,I7.unpinned,(Ap I7).1,(Ap I7).2,QK,aO,Px,
      DenL.append (DenL.mono (E3.trans (Iw.trans M9)).ff Nr) (.cons qv .nil),Lz⟩
     have h1:=I5.len
     have h2:=I3.len
     rw[Ti] at h1 h2
     omega
   ·
    have hi:i=ds.length:=by omega
    subst hi
    rw[List.drop_length] at heq
    have Q4:R=ys:=by
     rw[heq] at hR
     have hR:ae (ys++[])=ae R:=hR
     rw[<-gj hR,T9]
    subst Q4
    refine pass ?_
    rw[hP,hw]
    refine cJ (T.done X' hP hw hK Hw ds.length [] s' (σt++σ) H' X'.xe I' (ID Py) qL ((Qf F' H' ds.length yP.ff yP.fh).2 (Tg _))) ?_
    rintro r s1 ⟨rfl,I1⟩
    obtain⟨m,hm,_⟩:=I1.loc
    rw[CP] at hm
    have QT:H' HL.objs.size=none:=by
     have:=I1.free
     rw[CP] at this
     exact this
    have u:=I1.base
    rw[Rl,hex,QW,P8] at u
    have Bh:s1.os=s₂.os:=by have:=I1.os;rw[P8] at this;exact this
    have LA:=I1.hok
    rw[hP,hw] at LA
    refine Q3 s1 HL.objs.size s₂.heap.objs.size H' (I2.call' (s':=s1) (ch:=fp) Bh u LA I1.bare (fun b hb=>⟨(f2 b hb).2.2.2.1,(f2 b hb).2.1,(f2 b hb).2.2.2.2.1,(f2 b hb).2.2.2.2.2⟩)) ?_
     ⟨⟨m,hm⟩,QT,VS (Vx I2.lt Be),Tw I2.sz (UT Be),fun x c q z=>?_,fun p hp z=>?_⟩
    rotate_left
    ·obtain⟨v,q'⟩:=I2.cell x c q
     exact absurd (Vx q'.lt Be) (by rw[z];exact Uk _)
    ·exact absurd (Vx (Tq (I2.pin p hp).1) Be) (by rw[z];exact Uk _)
    refine WP.fin w2 (F':=upd F' s₂.heap.objs.size (.lst vs)) ⟨yP.hh,fun b u q=>?_,fun b u q=>?_,fun a ha=>?_⟩ ⟨_,vs,rfl,aO,DenL.mono (fun b u q=>?_) Nr,PU⟩
    ·rw[aB (fun z=>by have:=yP.ff b u q;rw[z,fD] at this;cases this)];exact yP.ff b u q
    ·by_cases z:b=s₂.heap.objs.size
     ·rw[z,aO] at q;rw[z,hD];exact q
     ·rw[aB z] at q;exact yP.fh b u q
    ·rcases yP.new a ha with q | q
     ·exact .inl (by rw[aB (fun z=>ha (by rw[z];exact nD))];exact q)
     ·exact .inr q
    ·rw[aB (fun z=>by rw[z,fD] at q;cases q)];exact q
  ·rw[RS]
   refine⟨0,F2,_,[],[],TB (max n 1) none,by simp,Ue _,by simp,I0,T.keep _ _ _ HY (fun b hb o e=>old b o e),fun b hb=>?_,⟨fun b u q=>?_,Same.refl _,fun b u q=>?_,fun _ _=> .inl rfl⟩,aO,Same.free e2.fh nD,rfl,?_⟩
   ·rw[aB (TR (fl b hb))];exact(f2 b hb).1
   ·rw[aB (OM b u q)];exact q
   ·rw[aB (OM b u (e2.fh b u q))];exact e2.fh b u q
   ·rw[List.drop_zero]
    rcases(eh (jk n δt δe ρ) ds).cs with hq | ⟨m,hq⟩ | ⟨R,hq⟩<;>rw[hq]<;>rfl
 exact codeAny_compStart_list (loop _ rfl) (T.self X.A 0 _ _ _ (T.keep _ _ _ HY (fun b hb o e=>old b o e)) (loop _ rfl))
def Inv.block{X:Cx}{pins:List (Addr×Obj)}{σ:St}{H':Hp}{s1:S7}{C:Addr}{h':Heap}(I:Inv X pins σ H' s1)(b:BlockEnd X pins C H' s1)(Ai:Vv C s1.heap h'):Inv X pins σ H' {s1 with heap:=h'}:=
 I.turned (t':=s1.toks) (fun a o ha e=>(Ai.2 a ha).trans e) b.free b.nl (.inr b.nw) b.nc b.np
section
variable{X:Cx}{Xw:Nat->Hp->Prop}{elt iter tg:Expr}{ifs:List Expr}{scope:Scope}{pos:Pos}{tn:List Str}{n:Nat}{δi:DA}{δt:DT}{δe:DE}
def dg(sc:CompSc X scope tn)(hn:tn.length=max n 1)(hc:X.calm=true)(hi:zT X Xw tg iter δi)
 (hg:∀pins cl C fp s₂ H σ,AR (kA X scope tn pins cl C fp s₂ H) tg n σ)
 (ht:∀pins cl C fp s₂ H,mI (kA X scope tn pins cl C fp s₂ H) ifs δt)
 (he:∀pins cl C fp s₂ H,PD (kA X scope tn pins cl C fp s₂ H) (fun _ _=>False) elt δe)
 (hs:∀x,WB iter X.env x=pure x:=by intro _;rfl):
 PD X Xw (.ListComp elt [⟨tg,iter,ifs,0⟩] scope pos) (bA n δi δt δe):=by
 intro pins s σ H Q I ⟨F,ρ,S,w⟩
 obtain⟨cl,De,cl1,cl2⟩:=pA (scope:=scope) (env:=X.env) fun y hy hf=>I.ok.has y.1 (sc.frees y hy hf)
 rw[eval_ListComp]
 refine YV (use:=none) rfl hs De sc.kind sc.names (wx (RR:=fun acc C=>compPost (model X.prog X.w) X.A X.xe none (EP X pins σ Q) acc C) sc hn hc hi hg ht he I S w cl1 cl2 fun s1 C D H' I1 q b=>?_)
 obtain⟨m,hm⟩:=b.ns
 exact⟨m,hm,fun h' Ai=>⟨.ref D,H',Inv.block I1 b Ai,rfl,q⟩⟩
end
inductive Out where
 |nx (ρ:bf) | rt (d:D)
abbrev DS:=bf->M Out
structure StOk (K:Tc) (F₀ H₀ F H:Hp) (σ:St) (ρ:bf):Prop where
 ext:Ext F₀ H₀ F H
 st:StE K F H σ ρ
 len:ρ.length=σ.length
 own:∀(i:Nat) (c:C) (a:Addr),ρ[i]? =some (some (.ow c))->σ[i]? =some (some (.ref a))->H₀ a=none
 sep:∀(i j:Nat) (c c':C) (a:Addr),ρ[i]? =some (some (.ow c))->ρ[j]? =some (some (.ow c'))->σ[i]? =some (some (.ref a))->σ[j]? =some (some (.ref a))->i=j
def WPS(K:Tc)(Xw:Nat->Hp->Prop)(F₀ H₀:Hp)(m:M Out)(Dn:Ends):Prop:=
 match m with
 |none=>False
 |some (.ok (.nx ρ))=>∀σ F H,StOk K F₀ H₀ F H σ ρ->Dn.nx σ H
 |some (.ok (.rt d))=>∀v F H,Ext F₀ H₀ F H->Den K F d v->Dn.rt v H
 |some (.ex n)=>∀F H,Ext F₀ H₀ F H->Xw n H
def tS(K:Tc)(Xw:Nat->Hp->Prop)(F₀ H₀:Hp)(τ:DS):TS:=fun Dn σ H=>∃F ρ,StOk K F₀ H₀ F H σ ρ/\WPS K Xw F₀ H₀ (τ ρ) Dn
def iq(X:Cx)(Xw:Nat->Hp->Prop)(st:Stmt)(τ:DS):Prop:=∀F₀ H₀,PS X st (tS X.K Xw F₀ H₀ τ)
def PSDs(X:Cx)(Xw:Nat->Hp->Prop)(st:List Stmt)(τ:DS):Prop:=∀F₀ H₀,PSs X st (tS X.K Xw F₀ H₀ τ)
def PS.weak{X:Cx}{st:Stmt}{t t':TS}(h:PS X st t)(k:∀D σ H,t' D σ H->t D σ H):PS X st t':=fun pins s σ H D I w=>h pins s σ H D I (k D σ H w)
def PSs.weak{X:Cx}{st:List Stmt}{t t':TS}(h:PSs X st t)(k:∀D σ H,t' D σ H->t D σ H):PSs X st t':=fun pins s σ H D I w=>h pins s σ H D I (k D σ H w)
section
variable{K:Tc}{F₀ H₀ F H F' H':Hp}{σ:St}{ρ:bf}
def StOk.ext'(s:StOk K F₀ H₀ F H σ ρ)(e:Ext F H F' H'):StOk K F₀ H₀ F' H' σ ρ:=⟨s.ext.trans e,s.st.ext e,s.len,s.own,s.sep⟩
def StOk.set(s:StOk K F₀ H₀ F H σ ρ){i:Nat}{d:D}{v:V}(h:Den K F d v):StOk K F₀ H₀ F H (σ.set i (some v)) (ρ.set i (some (.fz d))):=by
 have hl:=s.len
 have get:∀(j:Nat) (sl:Sl),(ρ.set i (some (.fz d)))[j]? =some (some sl)->(j=i/\i<ρ.length/\sl= .fz d)\/(j≠i/\ρ[j]? =some (some sl)):=fun j sl e=>by
  by_cases hj:j=i
  ·subst hj
   have hi:j<ρ.length:=by
    have:=(Tn.mp e).1
    simpa using this
   rw[Tv hi] at e
   cases e
   exact .inl ⟨rfl,hi,rfl⟩
  ·rw[Tr (Uq hj)] at e
   exact .inr ⟨hj,e⟩
 refine⟨s.ext,⟨s.st.fh,fun j sl e=>?_⟩,by simp[hl],fun j c a e e'=>?_,fun j k c c' a e1 e2 e3 e4=>?_⟩
 ·rcases get j sl e with⟨rfl,hi,rfl⟩ | ⟨hj,e⟩
  ·exact⟨v,by rw[Tv (by omega)],h⟩
  ·obtain⟨u,h1,h2⟩:=s.st.den j sl e
   exact⟨u,by rw[Tr (Uq hj)];exact h1,h2⟩
 ·rcases get j _ e with⟨_,_,z⟩ | ⟨hj,e⟩
  ·cases z
  ·rw[Tr (Uq hj)] at e'
   exact s.own j c a e e'
 ·rcases get j _ e1 with⟨_,_,z⟩ | ⟨hj,e1⟩
  ·cases z
  ·rcases get k _ e2 with⟨_,_,z⟩ | ⟨hk,e2⟩
   ·cases z
   ·rw[Tr (Uq hj)] at e3
    rw[Tr (Uq hk)] at e4
    exact s.sep j k c c' a e1 e2 e3 e4
def StOk.setNew(s:StOk K F₀ H₀ F H σ ρ){i:Nat}{a:Addr}{o:HO}{c₀:C}(n:H a=none)(h:DenC K F c₀ o):
 StOk K F₀ H₀ F (upd H a o) (σ.set i (some (.ref a))) (ρ.set i (some (.ow c₀))):=by
 have hle:=s.len
 have e0:=Ext.free (o:=o) s.st.fh n
 have nF:F a=none:=Same.free s.st.fh n
 have get:∀(j:Nat) (sl:Sl),(ρ.set i (some (.ow c₀)))[j]? =some (some sl)->(j=i/\i<ρ.length/\sl= .ow c₀)\/(j≠i/\ρ[j]? =some (some sl)):=fun j sl e=>by
  by_cases hj:j=i
  ·subst hj
   have hi:j<ρ.length:=by
    have:=(Tn.mp e).1
    simpa using this
   rw[Tv hi] at e
   cases e
   exact .inl ⟨rfl,hi,rfl⟩
  ·rw[Tr (Uq hj)] at e
   exact .inr ⟨hj,e⟩
 have old:∀(j:Nat) (c:C) (b:Addr),ρ[j]? =some (some (.ow c))->σ[j]? =some (some (.ref b))->b≠a:=fun j c b e e' z=>by
  obtain⟨u,h1,b',o,h2,h3,_⟩:=s.st.den j _ e
  rw[h1] at e'
  cases e'
  cases h2
  rw[z,n] at h3
  cases h3
 refine⟨s.ext.trans e0,⟨e0.fh,fun j sl e=>?_⟩,by simp[hle],fun j c b e e'=>?_,fun j k c c' b e1 e2 e3 e4=>?_⟩
 ·rcases get j sl e with⟨rfl,hi,rfl⟩ | ⟨hj,e⟩
  ·exact⟨.ref a,by rw[Tv (by omega)],a,_,rfl,aO,nF,h⟩
  ·obtain⟨u,h1,h2⟩:=s.st.den j sl e
   exact⟨u,by rw[Tr (Uq hj)];exact h1,h2.ext e0⟩
 ·rcases get j _ e with⟨rfl,hi,_⟩ | ⟨hj,e⟩
  ·rw[Tv (by omega)] at e'
   cases e'
   exact Same.free s.ext.hh n
  ·rw[Tr (Uq hj)] at e'
   exact s.own j c b e e'
 ·rcases get j _ e1 with⟨rfl,hi,_⟩ | ⟨hj,e1⟩
  ·rw[Tv (by omega)] at e3
   cases e3
   rcases get k _ e2 with⟨rfl,_,_⟩ | ⟨hk,e2⟩
   ·rfl
   ·rw[Tr (Uq hk)] at e4
    exact absurd rfl (old k c' a e2 e4)
  ·rcases get k _ e2 with⟨Od,hi,_⟩ | ⟨hk,e2⟩
   ·rw[Od,Tv (by omega)] at e4
    cases e4
    rw[Tr (Uq hj)] at e3
    exact absurd rfl (old j c a (by assumption) e3)
   ·rw[Tr (Uq hj)] at e3
    rw[Tr (Uq hk)] at e4
    exact s.sep j k c c' b e1 e2 e3 e4
def StOk.chg(s:StOk K F₀ H₀ F H σ ρ){i:Nat}{a:Addr}{c c₀:C}{o₀:HO}(hi:ρ[i]? =some (some (.ow c)))(ha:σ[i]? =some (some (.ref a)))(h:DenC K F c₀ o₀):
 StOk K F₀ H₀ F (upd H a o₀) σ (ρ.set i (some (.ow c₀))):=by
 have hle:=s.len
 have h0:=s.own i c a hi ha
 obtain⟨u,q1,a',o,q2,q3,q4,q5⟩:=s.st.den i _ hi
 rw[ha] at q1
 cases q1
 cases q2
 have KG:i<ρ.length:=(Tn.mp hi).1
 have get:∀(j:Nat) (sl:Sl),(ρ.set i (some (.ow c₀)))[j]? =some (some sl)->(j=i/\sl= .ow c₀)\/(j≠i/\ρ[j]? =some (some sl)):=fun j sl e=>by
  by_cases hj:j=i
  ·subst hj
   rw[Tv KG] at e
   cases e
   exact .inl ⟨rfl,rfl⟩
  ·rw[Tr (Uq hj)] at e
   exact .inr ⟨hj,e⟩
 have fh:Same F (upd H a o₀):=fun b o e=>by
  rw[aB (fun z=>by rw[z,q4] at e;cases e)];exact s.st.fh b o e
 refine⟨⟨fun b o e=>?_,s.ext.ff,fh,s.ext.new⟩,⟨fh,fun j sl e=>?_⟩,by simp[hle],fun j c' b e e'=>?_,fun j k c1 c2 b e1 e2 e3 e4=>?_⟩
 ·rw[aB (fun z=>by rw[z,h0] at e;cases e)];exact s.ext.hh b o e
 ·rcases get j sl e with⟨rfl,rfl⟩ | ⟨hj,e⟩
  ·exact⟨.ref a,ha,a,_,rfl,aO,q4,h⟩
  ·obtain⟨u,h1,h2⟩:=s.st.den j sl e
   refine⟨u,h1,?_⟩
   cases sl with
   |fz d=>exact h2
   |ow c'=>
    obtain⟨b,o',r1,r2,r3,r4⟩:=h2
    refine⟨b,o',r1,?_,r3,r4⟩
    rw[aB (fun z=>hj (s.sep j i c' c a e hi (by rw[h1,r1,z]) ha))];exact r2
 ·rcases get j _ e with⟨rfl,_⟩ | ⟨hj,e⟩
  ·rw[ha] at e';cases e';exact h0
  ·exact s.own j c' b e e'
 ·have k1:∃c,ρ[j]? =some (some (.ow c)):=by
   rcases get j _ e1 with⟨rfl,_⟩ | ⟨_,e⟩
   ·exact⟨c,hi⟩
   ·exact⟨_,e⟩
  have k2:∃c,ρ[k]? =some (some (.ow c)):=by
   rcases get k _ e2 with⟨rfl,_⟩ | ⟨_,e⟩
   ·exact⟨c,hi⟩
   ·exact⟨_,e⟩
  obtain⟨_,k1⟩:=k1
  obtain⟨_,k2⟩:=k2
  exact s.sep j k _ _ b k1 k2 e3 e4
def frz(i:Nat)(ρ:bf):bf:=match ρ[i]? with
 |some (some (.ow c))=>ρ.set i (some (.fz c.d))
 |_=>ρ
def StOk.frz(s:StOk K F₀ H₀ F H σ ρ)(i:Nat)(obj:Addr->Obj):(∃a o,H a=some o/\DenC K F (ρ[i]?.elim (.lst []) fun x=>x.elim (.lst []) fun y=>match y with | .ow c=>c | _=> .lst []) o/\σ[i]? =some (some (.ref a))/\StOk K F₀ H₀ (upd F a (oM (obj a) o)) (upd H a (oM (obj a) o)) σ (frz i ρ))\/frz i ρ=ρ:=by
 unfold L3.frz
 split
 ·rename_i c₀ hi
  have hle:=s.len
  obtain⟨u,ha,a,o,rfl,q3,q4,Hz⟩:=s.st.den i _ hi
  refine .inl ⟨a,o,q3,by rw[hi];exact Hz,ha,?_⟩
  have h0:=s.own i _ a hi ha
  have KG:i<ρ.length:=(Tn.mp hi).1
  have ff:Same F (upd F a (oM (obj a) o)):=fun b o e=>by rw[aB (fun z=>by rw[z,q4] at e;cases e)];exact e
  have fh:Same (upd F a (oM (obj a) o)) (upd H a (oM (obj a) o)):=fun b o e=>by
   by_cases z:b=a
   ·rw[z,aO] at e⊢;exact e
   ·rw[aB z] at e⊢;exact s.st.fh b o e
  have get:∀(j:Nat) (sl:Sl),(ρ.set i (some (.fz c₀.d)))[j]? =some (some sl)->(j=i/\sl= .fz c₀.d)\/(j≠i/\ρ[j]? =some (some sl)):=fun j sl e=>by
   by_cases hj:j=i
   ·subst hj
    rw[Tv KG] at e
    cases e
    exact .inl ⟨rfl,rfl⟩
   ·rw[Tr (Uq hj)] at e
    exact .inr ⟨hj,e⟩
  refine⟨⟨fun b u q=>?_,s.ext.ff.trans ff,fh,fun b hb=>?_⟩,⟨fh,fun j sl e=>?_⟩,by simp[hle],fun j c' b e e'=>?_,fun j k c1 c2 b e1 e2 e3 e4=>?_⟩
  ·rw[aB (fun z=>by rw[z,h0] at q;cases q)];exact s.ext.hh b u q
  ·rcases s.ext.new b hb with q | q
   ·exact .inl (by rw[aB (fun z=>hb (by rw[z];exact h0))];exact q)
   ·exact .inr q
  ·rcases get j sl e with⟨rfl,rfl⟩ | ⟨hj,e⟩
   ·exact⟨.ref a,ha,DenC.den Hz ff aO⟩
   ·obtain⟨u,h1,h2⟩:=s.st.den j sl e
    refine⟨u,h1,?_⟩
    cases sl with
    |fz d=>exact Den.mono ff h2
    |ow c'=>
     obtain⟨b,o',r1,r2,r3,r4⟩:=h2
     have nK:b≠a:=fun z=>hj (s.sep j i c' _ a e hi (by rw[h1,r1,z]) ha)
     exact⟨b,o',r1,by rw[aB nK];exact r2,by rw[aB nK];exact r3,DenC.mono ff r4⟩
  ·rcases get j _ e with⟨_,z⟩ | ⟨hj,e⟩
   ·cases z
   ·exact s.own j c' b e e'
  ·rcases get j _ e1 with⟨_,z⟩ | ⟨_,e1⟩
   ·cases z
   ·rcases get k _ e2 with⟨_,z⟩ | ⟨_,e2⟩
    ·cases z
    ·exact s.sep j k _ _ b e1 e2 e3 e4
 ·exact .inr rfl
end
def join(F H:Hp):Hp:=fun a=>match F a with
 |some o=>some o
 |none=>H a
def StOk.rebase{K:Tc}{F₀ H₀ F H:Hp}{σ:St}{ρ:bf}(s:StOk K F₀ H₀ F H σ ρ):StOk K F (join F H₀) F H σ ρ/\∀F' H',Ext F (join F H₀) F' H'->Ext F₀ H₀ F' H':=by
 have hj:Same (join F H₀) H:=fun b o e=>by
  unfold join at e
  cases q:F b with
  |some u=>rw[q] at e;cases e;exact s.st.fh b _ q
  |none=>rw[q] at e;exact s.ext.hh b o e
 have h0:Same H₀ (join F H₀):=fun b o e=>by
  unfold join
  cases q:F b with
  |some u=>
   have h1:=s.st.fh b u q
   rw[s.ext.hh b o e] at h1
   exact h1.symm
  |none=>exact e
 refine⟨⟨⟨hj,Same.refl _,s.st.fh,fun _ _=> .inl rfl⟩,s.st,s.len,fun i c a e e'=>?_,s.sep⟩,fun F' H' x=>⟨h0.trans x.hh,s.ext.ff.trans x.ff,x.fh,fun a ha=>?_⟩⟩
 ·have h1:=s.own i c a e e'
  obtain⟨v,q1,a',o,q2,q3,q4,_⟩:=s.st.den i _ e
  rw[e'] at q1
  cases q1
  cases q2
  unfold join
  rw[q4]
  exact h1
 ·have:join F H₀ a≠none:=by
   cases q:H₀ a with
   |none=>exact absurd q ha
   |some o=>rw[h0 a o q];exact fun z=>nomatch z
  rcases s.ext.new a ha with p | p
  ·rcases x.new a this with q | ⟨ts,q⟩
   ·exact .inl (q.trans p)
   ·cases z:H₀ a with
    |none=>exact absurd z ha
    |some o=>
     rw[h0 a o z] at q
     exact .inr ⟨ts,q⟩
  ·exact .inr p
def StOk.unbase{K:Tc}{F₀ H₀ F U F' H':Hp}{σ:St}{ρ:bf}(k:∀F' H',Ext F U F' H'->Ext F₀ H₀ F' H')(s:StOk K F U F' H' σ ρ)(h:Same H₀ U):StOk K F₀ H₀ F' H' σ ρ:=
 ⟨k _ _ s.ext,s.st,s.len,fun i c a e e'=>Same.free h (s.own i c a e e'),s.sep⟩
def Bq{K:Tc}{F₀ H₀ F H:Hp}{σ:St}{ρ:bf}(s:StOk K F₀ H₀ F H σ ρ):Same H₀ (join F H₀):=fun b o e=>by
 unfold join
 cases q:F b with
 |some u=>
  have h1:=s.st.fh b u q
  rw[s.ext.hh b o e] at h1
  exact h1.symm
 |none=>exact e
def Inv.refrz{X:Cx}{pins:List (Addr×Obj)}{σ:St}{H:Hp}{s:S7}{a:Addr}{o o':HO}(I:Inv X pins σ H s)(e:H a=some o)
 (ho:o'=o\/∃u,o'= .frz ((s.heap.get? a).getD {cls:= .none,data:= .fields #[]}) u/\((∃k,o= .dT k/\u= .dT k)\/∃k,o= .dK k/\u= .dK k)):Inv X pins σ (upd H a o') s:=by
 rcases ho with rfl | ⟨u,rfl,hu⟩
 ·have:upd H a o'=H:=by
   funext b
   by_cases z:b=a
   ·rw[z,aO,e]
   ·rw[aB z]
  rw[this];exact I
 have RK:o=u:=by rcases hu with⟨k,h1,h2⟩ | ⟨k,h1,h2⟩<;>rw[h1,h2]
 subst RK
 have nt:∀ts,o≠ .tup ts:=fun ts z=>by rcases hu with⟨k,h1,_⟩ | ⟨k,h1,_⟩<;>rw[h1] at z<;>cases z
 have nf:∀ob v,o≠ .frz ob v:=fun ob v z=>by rcases hu with⟨k,h1,_⟩ | ⟨k,h1,_⟩<;>rw[h1] at z<;>cases z
 have nb:∀p,o≠ .tbl p:=fun p z=>by rcases hu with⟨k,h1,_⟩ | ⟨k,h1,_⟩<;>rw[h1] at z<;>cases z
 have no:∀p,o≠ .own p:=fun p z=>by rcases hu with⟨k,h1,_⟩ | ⟨k,h1,_⟩<;>rw[h1] at z<;>cases z
 have ne:∀b,H b=none->b≠a:=fun b hb z=>by rw[z,e] at hb;cases hb
 have hk:=I.hok a o e
 have lD:=hk.lt
 obtain⟨ob,LO⟩:∃ob,s.heap.get? a=some ob:=by
  rcases hu with⟨k,h1,_⟩ | ⟨k,h1,_⟩
  ·subst h1;obtain⟨_,_,_,_,ob,_,_,q,_⟩:=hk;exact⟨ob,q⟩
  ·subst h1;obtain⟨_,_,_,_,ob,_,_,q,_⟩:=hk;exact⟨ob,q⟩
 rw[LO]
 refine⟨I.ok,I.os,I.bare,⟨I.base.keep,I.base.slot,fun b q h1 h2 h3=>?_,I.base.there,fun b xs q=>?_,fun b q1 v q=>?_,fun b ps q=>?_⟩,I.loc,I.cell,?_,fun x c q=>?_,fun p hp=>?_,fun b v q=>?_,I.len⟩
 ·have:=I.base.free b q h1 h2 h3
  rw[aB (ne b this)];exact this
 ·have:=I.base.tups b xs q
  rw[aB (fun z=>by rw[z,e] at this;exact nt xs (TF this))];exact this
 ·have:=I.base.frzs b q1 v q
  rw[aB (fun z=>by rw[z,e] at this;exact nf _ _ (TF this))];exact this
 ·obtain⟨m,this⟩:=I.base.tbls b ps q
  exact⟨m,by rw[aB (fun z=>by rw[z,e] at this;exact nb _ (TF this))];exact this⟩
 ·rw[aB (ne _ I.free)];exact I.free
 ·rw[aB (ne _ (I.freeC x c q))];exact I.freeC x c q
 ·obtain⟨h1,h2,h3⟩:=I.pin p hp
  exact⟨h1,by rw[aB (ne _ h2)];exact h2,h3⟩
 ·have st:∀{c:Addr}{v:HO},ObjOk X.prog X.w H s.heap c v->ObjOk X.prog X.w (upd H a (.frz ob o)) s.heap c v:=fun {c v} k=>k.stay (fun _ _ _ q=>q)
   (fun c' q=>by rw[aB (fun z=>by rw[z,e] at q;exact no _ (TF q))];exact q) fun c' xs q=>by rw[aB (fun z=>by rw[z,e] at q;exact nt _ (TF q))];exact q
  by_cases z:b=a
  ·subst z
   rw[show (some ob).getD _=ob from rfl,aO] at q
   cases q
   exact⟨LO,st hk⟩
  ·rw[aB z] at q
   exact st (I.hok b v q)
def aA(a b:DS):DS:=fun ρ=>a ρ>>=fun o=>match o with | .nx ρ'=>b ρ' | .rt d=>ae (.rt d)
def bS:DS:=fun ρ=>ae (.nx ρ)
def a9(δ:DE):DS:=fun ρ=>δ ρ>>=fun d=>ae (.rt d)
def mw(δ:DE):DS:=fun ρ=>δ ρ>>=fun _=>ae (.nx ρ)
def bD(i:Nat)(δ:DE):DS:=fun ρ=>δ ρ>>=fun d=>ae (.nx (ρ.set i (some (.fz d))))
def el(c:DT)(a b:DS):DS:=fun ρ=>c ρ>>=fun x=>if x then a ρ else b ρ
def vZ(i:Nat)(a:DS):DS:=fun ρ=>a (frz i ρ)
def x_(i:Nat):DS:=fun ρ=>ae (.nx (ρ.set i (some (.ow (.lst [])))))
def zq(ρ:bf)(i:Nat):Option (List D):=match ρ[i]? with
 |some (some (.ow (.lst ds)))=>some ds
 |_=>none
def sU{ρ:bf}{i:Nat}{ds:List D}(h:zq ρ i=some ds):ρ[i]? =some (some (.ow (.lst ds))):=by
 unfold zq at h
 split at h
 ·rename_i SI e
  cases h
  exact e
 ·cases h
def fQ(i:Nat)(δ:DE):DS:=fun ρ=>match zq ρ i with
 |some ds=>δ ρ>>=fun d=>if ds.length<lim then ae (.nx (ρ.set i (some (.ow (.lst (ds++[d])))))) else ah
 |none=>ah
def forL(put:D->bf->Option bf)(body:DS):List D->DS
 |[],ρ=>ae (.nx ρ)
 |d::ds,ρ=>(match put d ρ with | none=>ah | some ρ1=>body ρ1>>=fun o=>match o with | .nx ρ2=>forL put body ds ρ2 | .rt v=>ae (.rt v))
def putN(i:Nat):D->bf->Option bf:=fun d ρ=>some (ρ.set i (some (.fz d)))
def dj(put:D->bf->Option bf)(δi:DA)(body:DS):DS:=fun ρ=>δi ρ>>=fun ds=>forL put body ds ρ
section
variable{X:Cx}{Xw:Nat->Hp->Prop}{F₀ H₀:Hp}{st:Stmt}{rest:List Stmt}{τ τ':DS}{e:Expr}{δ:DE}{pos:Pos}
def aW:PSDs X Xw [] bS:=fun F₀ H₀=>PSs.weak GU fun D σ H ⟨F,ρ,s,w⟩=>w σ F H s
def ao(h1:iq X Xw st τ)(h2:PSDs X Xw rest τ'):PSDs X Xw (st::rest) (aA τ τ'):=fun F₀ H₀=>PSs.weak (Ej (h1 F₀ H₀) (h2 F₀ H₀)) fun D σ H ⟨F,ρ,s,w⟩=>by
 refine⟨F,ρ,s,?_⟩
 unfold aA at w
 match τ ρ,w with
 |none,w=>exact w
 |some (.ok (.nx ρ')),w=>exact fun σ' F' H' s'=>⟨F',ρ',s',w⟩
 |some (.ok (.rt d)),w=>exact w
 |some (.ex n),w=>exact w
def au(h1:iq X Xw st τ):PSDs X Xw [st] τ:=fun F₀ H₀=>GV (h1 F₀ H₀)
def eT{i:Nat}(h:iq X Xw st τ):iq X Xw st (vZ i τ):=fun F₀ H₀ pins sh σ H D I ⟨F,ρ,s,w⟩=>by
 rcases s.frz i (fun a=>(sh.heap.get? a).getD {cls:= .none,data:= .fields #[]}) with⟨a,o,ha,hc,hσ,s'⟩ | e
 ·refine h F₀ H₀ pins sh σ _ D (L3.Inv.refrz I ha ?_) ⟨_,_,s',w⟩
  generalize (ρ[i]?.elim (C.lst []) fun x=>x.elim (.lst []) fun y=>match y with | .ow c=>c | _=> .lst [])=c at hc
  cases c with
  |lst ds=>obtain⟨vs,rfl,_⟩:=hc;exact .inl rfl
  |dct ks ds=>obtain⟨vs,rfl,_⟩:=hc;exact .inr ⟨_,rfl, .inl ⟨_,rfl,rfl⟩⟩
  |dci ks ds=>obtain⟨vs,rfl,_⟩:=hc;exact .inr ⟨_,rfl, .inr ⟨_,rfl,rfl⟩⟩
 ·exact h F₀ H₀ pins sh σ H D I ⟨F,ρ,s,by unfold vZ at w;rw[e] at w;exact w⟩
def aE(h:PD X Xw e δ):iq X Xw (.Return (some e) pos) (a9 δ):=fun F₀ H₀=>PS.weak (J2 h) fun D σ H ⟨F,ρ,s,w⟩=>by
 refine⟨F,ρ,s.st,?_⟩
 unfold a9 at w
 match δ ρ,w with
 |none,w=>exact w
 |some (.ok d),w=>exact fun v H' F' e' q=>w v F' H' (s.ext.trans e') q
 |some (.ex n),w=>exact fun F' H' e'=>w F' H' (s.ext.trans e')
def gY(h:PD X Xw e δ)(hs:Xx e none pos.line X.env=pure false:=by rfl):iq X Xw (.Expr e pos) (mw δ):=fun F₀ H₀=>PS.weak (AG h hs) fun D σ H ⟨F,ρ,s,w⟩=>by
 refine⟨F,ρ,s.st,?_⟩
 unfold mw at w
 match δ ρ,w with
 |none,w=>exact w
 |some (.ok d),w=>exact fun v H' F' e' q=>w σ F' H' (s.ext' e')
 |some (.ex n),w=>exact fun F' H' e'=>w F' H' (s.ext.trans e')
def aL{i:Nat}{x:Str}{pos':Pos}(hN:X.N.Nodup)(hi:X.N[i]? =some x)(hx:Loc X.env.scope x)(he:PD X Xw e δ)(hf:X.fn x=true\/X.env.scope.names.lookup x=some .local:=by first | exact .inl rfl | exact .inr rfl)
 (hs:Y3 [.Name x pos'] e pos.line X.env=pure false:=by rfl):
 iq X Xw (.Assign [.Name x pos'] e pos) (bD i δ):=fun F₀ H₀=>PS.weak (vf he (bu hN hi hx hf) hs) fun D σ H ⟨F,ρ,s,w⟩=>by
 refine⟨F,ρ,s.st,?_⟩
 unfold bD at w
 match δ ρ,w with
 |none,w=>exact w
 |some (.ok d),w=>exact fun v H' F' e' q=>w _ F' H' ((s.ext' e').set q)
 |some (.ex n),w=>exact fun F' H' e'=>w F' H' (s.ext.trans e')
def xP{elt iter tg:Expr}{ifs:List Expr}{scope:Scope}{bP:Pos}{tn:List Str}{n:Nat}{δi:DA}{δt:DT}{δe:DE}{i:Nat}{x:Str}{pos':Pos}(hN:X.N.Nodup)(N9:X.N[i]? =some x)(hx:Loc X.env.scope x)
 (sc:CompSc X scope tn)(hn:tn.length=max n 1)(hc:X.calm=true)(hi:zT X Xw tg iter δi)
 (hg:∀pins cl C fp s₂ H σ,AR (kA X scope tn pins cl C fp s₂ H) tg n σ)
 (ht:∀pins cl C fp s₂ H,mI (kA X scope tn pins cl C fp s₂ H) ifs δt)
 (he:∀pins cl C fp s₂ H,PD (kA X scope tn pins cl C fp s₂ H) (fun _ _=>False) elt δe)
 (hf:X.fn x=true\/X.env.scope.names.lookup x=some .local:=by first | exact .inl rfl | exact .inr rfl)
 (RQ:Xx (.ListComp elt [⟨tg,iter,ifs,0⟩] scope bP) (some (.Name x pos')) pos.line X.env=pure true:=by rfl)
 (hs:∀x,WB iter X.env x=pure x:=by intro _;rfl):
 iq X Xw (.Assign [.Name x pos'] (.ListComp elt [⟨tg,iter,ifs,0⟩] scope bP) pos) (bD i (bA n δi δt δe)):=fun F₀ H₀ pins s σ H D I ⟨F,ρ,S,w⟩=>by
 obtain⟨cl,De,cl1,cl2⟩:=pA (scope:=scope) (env:=X.env) fun y hy hf=>I.ok.has y.1 (sc.frees y hy hf)
 have w':WP X.K Xw F H (bA n δi δt δe ρ) (fun v H'=>D.nx (σ.set i (some v)) H'):=by
  have w:WPS X.K Xw F₀ H₀ (bA n δi δt δe ρ>>=fun d=>ae (.nx (ρ.set i (some (.fz d))))) D:=w
  match bA n δi δt δe ρ,w with
  |none,w=>exact w
  |some (.ok d),w=>exact fun v H' F' e' q=>w _ F' H' ((S.ext' e').set q)
  |some (.ex n),w=>exact fun F' H' e'=>w F' H' (S.ext.trans e')
 rw[exec_Assign_Name_used _ _ _ _ RQ]
 refine S5 (wpAny_standAt (S5 ?_))
 show wpAny _ X.A (do let _<-comprehension (.ListComp elt [⟨tg,iter,ifs,0⟩] scope bP) scope X.env _ (newList []) false (eval iter X.env) (some (assign (.Name x pos') X.env))) _ _ s
 refine S5 (Up (YV (use:=some (assign (.Name x pos') X.env)) (Q:=fun _ s'=>SP X pins D .next s') rfl hs De sc.kind sc.names
  (wx (RR:=fun acc C=>compPost (model X.prog X.w) X.A X.xe (some (assign (.Name x pos') X.env)) (fun _ s'=>SP X pins D .next s') acc C) sc hn hc hi hg ht he I S.st w' cl1 cl2 fun s1 C D' H' I1 q b=>?_)) (fun _ s' hq=>Te (Te hq)) fun _ _ e=>e)
 show wpAny _ X.A (assign (.Name x pos') X.env (.ref D')) _ _ _
 refine XT (nu I1 hN N9 hx (v:= .ref D') rfl (fun s2 I2 ⟨a,sb,ha⟩=>?_) hf)
 have QS:C≠a:=by
  rcases ha with z | z
  ·rw[z];exact b.nl
  ·exact Uq (b.nc x a z)
 obtain⟨m,hm⟩:=b.ns
 have KJ:s2.heap.Ns C m:=hm.sameBut sb QS
 refine⟨m,KJ,fun h' Ai=>⟨_,H',Inv.block I2 ⟨⟨m,KJ⟩,b.free,b.nl,b.nw,b.nc,b.np⟩ Ai,q⟩⟩
def bh{c:Expr}{a b:List Stmt}{tc:DT}(hc:mH X Xw c tc)(ha:PSDs X Xw a τ)(hb:PSDs X Xw b τ'):iq X Xw (.If c a b pos) (el tc τ τ'):=fun F₀ H₀=>PS.weak (Mt hc (ha F₀ H₀) (hb F₀ H₀)) fun D σ H ⟨F,ρ,s,w⟩=>by
 refine⟨F,ρ,s.st,?_⟩
 unfold el at w
 match tc ρ,w with
 |none,w=>exact w
 |some (.ok true),w=>exact fun H' F' e'=>⟨F',ρ,s.ext' e',w⟩
 |some (.ok false),w=>exact fun H' F' e'=>⟨F',ρ,s.ext' e',w⟩
 |some (.ex n),w=>exact fun F' H' e'=>w F' H' (s.ext.trans e')
def mv{i:Nat}{x:Str}{pos' J0:Pos}(hN:X.N.Nodup)(hi:X.N[i]? =some x)(hx:Loc X.env.scope x)(hf:X.fn x=true\/X.env.scope.names.lookup x=some .local:=by first | exact .inl rfl | exact .inr rfl):
 iq X Xw (.Assign [.Name x pos'] (.List [] J0) pos) (x_ i):=fun F₀ H₀=>PS.weak (vf (ve uZ) (bu hN hi hx hf) rfl) fun D σ H ⟨F,ρ,s,w⟩=>by
 refine⟨Ue _,fun p hp=>?_⟩
 exact w _ F _ (s.setNew (c₀:= .lst []) hp ⟨[],rfl,rfl,Ue _⟩)
def Ck(K:Tc)(g:TG)(put:D->bf->Option bf):Prop:=∀(F₀ H₀ F H:Hp) (σ:St) (ρ ρ':bf) (d:D) (v:V) (Q:St->Hp->Prop),StOk K F₀ H₀ F H σ ρ->Den K F d v->put d ρ=some ρ'->
 (∀σ',StOk K F₀ H₀ F H σ' ρ'->Q σ' H)->g v σ H Q
def bN{K:Tc}{i:Nat}:Ck K (C7 i) (putN i):=fun F₀ H₀ F H σ ρ ρ' d v Q s q e k=>by
 cases e
 exact k _ (s.set q)
def Ss(K:Tc)(Xw:Nat->Hp->Prop)(τ:DS):TS:=fun D σ H=>∃F₀ H₀,tS K Xw F₀ H₀ τ D σ H
def PSDs.ex{body:List Stmt}(h:PSDs X Xw body τ):PSs X body (Ss X.K Xw τ):=fun pins s σ H D I ⟨F₀,H₀,w⟩=>h F₀ H₀ pins s σ H D I w
def b_{tg iter:Expr}{body:List Stmt}{δi:DA}{g:TG}{put:D->bf->Option bf}(hp:PassesOwn (model X.prog X.w) X.A X.env X.xe)(hc:X.calm=true)(hi:zT X Xw tg iter δi)(hg:PG X tg g)(Ot:Ck X.K g put)(hb:PSDs X Xw body τ)
 (hs:∀x,WB iter X.env x=pure x:=by intro _;rfl):iq X Xw (.For tg iter body [] pos) (dj put δi τ):=fun F₀ H₀=>PS.weak (J1 hp hc hi hg hb.ex hs) fun D σ H ⟨F,ρ,s,w⟩=>by
 refine⟨F,ρ,s.st,?_⟩
 unfold dj at w
 match δi ρ,w with
 |none,w=>exact w
 |some (.ex n),w=>exact fun F' H' e'=>w F' H' (s.ext.trans e')
 |some (.ok ds),w=>
  have w:WPS X.K Xw F₀ H₀ (forL put τ ds ρ) D:=w
  intro J H1 F1 e1 Qg
  obtain⟨s1,back⟩:=(s.ext' e1).rebase
  have hU:=Bq (s.ext' e1)
  generalize join F1 H₀=U at s1 back hU
  refine⟨fun i m σ H=>m=ds.length - i/\i<=ds.length/\∃F ρ,StOk X.K F1 U F H σ ρ/\WPS X.K Xw F₀ H₀ (forL put τ (ds.drop i) ρ) D,⟨ds.length,by simp,Ue _,F1,ρ,s1,by simpa using w⟩,?_⟩
  rintro i m σ2 H2 ⟨rfl,N_,F2,ρ2,s2,w2⟩
  by_cases lD:i<ds.length
  ·obtain⟨d,hd⟩:∃d,ds[i]? =some d:=⟨_,Tb lD⟩
   obtain⟨N8,IY⟩:=(Qg F2 H2 i s2.ext.ff s2.st.fh).1 d hd
   have ed:ds.drop i=d::ds.drop (i+1):=by
    obtain⟨hi,e⟩:=Tn.mp hd
    rw[Yb hi,e]
   rw[ed] at w2
   unfold forL at w2
   refine .inr ⟨N8,fun σ' H'=>∃F' ρ',StOk X.K F1 U F' H' σ' ρ'/\WPS X.K Xw F₀ H₀ (forL put τ (ds.drop (i+1)) ρ') D,fun σ' H' ⟨F',ρ',h2,h3⟩=>⟨ds.length - (i+1),by omega,rfl,lD,F',ρ',h2,h3⟩,fun x H3 y3=>?_⟩
   obtain⟨F3,E3,q3⟩:=IY x H3 y3
   match Oq:put d ρ2,w2 with
   |none,w2=>exact w2.elim
   |some ρ3,w2=>
    refine Ot F1 U F3 H3 σ2 ρ2 ρ3 d x _ (s2.ext' E3) q3 Oq fun σ3 s3=>⟨F1,U,F3,ρ3,s3,?_⟩
    have w2:WPS X.K Xw F₀ H₀ (τ ρ3>>=fun o=>match o with | .nx ρ2=>forL put τ (ds.drop (i+1)) ρ2 | .rt v=>ae (.rt v)) D:=w2
    match τ ρ3,w2 with
    |none,w2=>exact w2
    |some (.ok (.nx ρ')),w2=>exact fun σ' F' H' s'=>⟨F',ρ',s',w2⟩
    |some (.ok (.rt d)),w2=>exact fun v F' H' e q=>w2 v F' H' (back _ _ e) q
    |some (.ex n),w2=>exact fun F' H' e=>w2 F' H' (back _ _ e)
  ·have hi:i=ds.length:=by omega
   subst hi
   rw[List.drop_length] at w2
   exact .inl ⟨(Qg F2 H2 ds.length s2.ext.ff s2.st.fh).2 (Tg _),w2 σ2 F2 H2 (s2.unbase back hU)⟩
end
def gI(f:Int->Int->D):D->D->M D
 | .int i, .int j=>ae (f i j)
 |_,_=>ah
def Lp(c:Int->Int->Bool)(f:Int->Int->D):D->D->M D
 | .int i, .int j=>if c i j then ae (f i j) else ah
 |_,_=>ah
def Ay{K:Tc}{gv:Int->Int->V}{gd:Int->Int->D}(h:∀F i j,Den K F (gd i j) (gv i j)):tR K (BY gv) (gI gd):=fun Xw F H x y dx dy Q s hx hy w=>by
 unfold gI at w
 split at w
 ·rename_i i j
  exact⟨i,j,hx,hy,WP.now w s (h F i j)⟩
 ·exact w.elim
def zo{K:Tc}{gv:Int->Int->V}{gd:Int->Int->D}{c:Int->Int->Bool}{C:Int->Int->Prop}(h:∀F i j,Den K F (gd i j) (gv i j))(hc:∀i j,c i j=true->C i j):tR K (rI C gv) (Lp c gd):=fun Xw F H x y dx dy Q s hx hy w=>by
 unfold Lp at w
 split at w
 ·rename_i i j
  split at w
  ·rename_i Ng
   exact⟨i,j,hx,hy,hc i j Ng,WP.now w s (h F i j)⟩
  ·exact w.elim
 ·exact w.elim
def d8:=gI fun i j=> .int (i+j)
def q_:=gI fun i j=> .int (i - j)
def ib:=Lp (fun i j=>decide ((-(2 ^ 64)<i/\i<2 ^ 64)\/(-(2 ^ 64)<j/\j<2 ^ 64))) fun i j=> .int (i*j)
def qZ:=Lp (fun _ j=>decide (0<j/\j<1073741824)) fun i j=> .int (i / j)
def lL:=Lp (fun _ j=>decide (0<j)) fun i j=> .int (i % j)
def PB:=gI fun i j=> .bl (decide (i<j))
section
variable{X:Cx}{Xw:Nat->Hp->Prop}{a b:Expr}{δa δb:DE}{pos:Pos}
def df(ha:PD X Xw a δa)(hb:PD X Xw b δb):PD X Xw (.BinOp a .Add b pos) (d2 d8 δa δb):=qx Jx (Ay fun _ _ _=>rfl) ha hb
def m6(ha:PD X Xw a δa)(hb:PD X Xw b δb):PD X Xw (.BinOp a .Sub b pos) (d2 q_ δa δb):=qx JF (Ay fun _ _ _=>rfl) ha hb
def jL(ha:PD X Xw a δa)(hb:PD X Xw b δb):PD X Xw (.BinOp a .Mult b pos) (d2 ib δa δb):=qx JD (zo (fun _ _ _=>rfl) fun i j h=>by unfold CMul;exact of_decide_eq_true h) ha hb
def va(ha:PD X Xw a δa)(hb:PD X Xw b δb):PD X Xw (.BinOp a .FloorDiv b pos) (d2 qZ δa δb):=qx Gj (zo (fun _ _ _=>rfl) fun i j h=>by unfold KZ;exact of_decide_eq_true h) ha hb
def mZ(ha:PD X Xw a δa)(hb:PD X Xw b δb):PD X Xw (.BinOp a .Mod b pos) (d2 lL δa δb):=qx JC (zo (fun _ _ _=>rfl) fun i j h=>of_decide_eq_true h) ha hb
def Mu(ha:PD X Xw a δa)(hb:PD X Xw b δb):mH X Xw (.Compare a [.Lt] [b] pos) (bH (d2 PB δa δb)):=eU xE (Ay fun _ _ _=>rfl) ha hb
def bZ:D->D->M D
 | .lst ds, .int i=>match atI ds i with | some d=>ae d | none=>ah
 |_,_=>ah
def aZ:D->D->M D
 | .tup ds, .int i=>match atI ds i with | some d=>ae d | none=>ah
 |_,_=>ah
def CY:D->D->M D
 | .scr ns, .int i=>match atI ns i with | some n=>ae (.int n) | none=>ah
 |_,_=>ah
def jw:D->D->M D
 | .str x, .int i=>match atI x.cps.toList i with | some c=>ae (.str ⟨#[c]⟩) | none=>ah
 |_,_=>ah
def DenL.atI{K:Tc}{F:Hp}{ds:List D}{vs:List V}(h:DenL K F ds vs){i:Int}{d:D}(e:L2.atI ds i=some d):∃v,L2.atI vs i=some v/\Den K F d v:=by
 unfold L2.atI at e⊢
 rw[<-h.len]
 cases q:An ds.length i with
 |none=>rw[q] at e;cases e
 |some j=>
  rw[q] at e
  exact h.get e
def Gk{K:Tc}:tR K (Kd K) bZ:=fun Xw F H x y dx dy Q s hx hy w=>by
 unfold bZ at w
 split at w
 ·rename_i ds i
  obtain⟨a,vs,h1,h2,h3,h4⟩:=hx
  split at w
  ·rename_i d e
   obtain⟨v,e1,q⟩:=h3.atI e
   exact⟨a,vs,i,v,h1,hy,SqL.of (s _ _ h2),e1,WP.now w s q⟩
  ·exact w.elim
 ·exact w.elim
def Gp{K:Tc}:tR K (MD K) aZ:=fun Xw F H x y dx dy Q s hx hy w=>by
 unfold aZ at w
 split at w
 ·rename_i ds i
  obtain⟨a,vs,h1,h2,h3,h4⟩:=hx
  split at w
  ·rename_i d e
   obtain⟨v,e1,q⟩:=h3.atI e
   exact⟨a,vs,i,v,h1,hy,SqT.of (s _ _ h2),e1,WP.now w s q⟩
  ·exact w.elim
 ·exact w.elim
def Gm{K:Tc}:tR K (Kd K) CY:=fun Xw F H x y dx dy Q s hx hy w=>by
 unfold CY at w
 split at w
 ·rename_i ns i
  obtain⟨a,h1,h2,h3⟩:=hx
  split at w
  ·rename_i n e
   refine⟨a,_,i, .int n,h1,hy,Same.seq s h2,?_,WP.now w s rfl⟩
   unfold L2.atI at e⊢
   rw[S6]
   cases q:An ns.length i with
   |none=>rw[q] at e;cases e
   |some j=>
    rw[q] at e
    have e:ns[j]? =some n:=e
    show (ns.map V.int)[j]? =some (.int n)
    rw[Tu,e];rfl
  ·exact w.elim
 ·exact w.elim
def Gn{K:Tc}:tR K MC jw:=fun Xw F H x y dx dy Q s hx hy w=>by
 unfold jw at w
 split at w
 ·rename_i z i
  obtain⟨h1,h2⟩:=hx
  split at w
  ·rename_i c e
   exact⟨z,i,c,h1,hy,by have:=eO;omega,e,WP.now w s ⟨rfl,by show 1<=lim;decide⟩⟩
  ·exact w.elim
 ·exact w.elim
def dD(ha:PD X Xw a δa)(hb:PD X Xw b δb)(hs:gQ b:=by intro _ _;rfl):PD X Xw (.Subscript a b pos) (d2 bZ δa δb):=AB oZ Gk ha hb hs
def JM(ha:PD X Xw a δa)(hb:PD X Xw b δb)(hs:gQ b:=by intro _ _;rfl):PD X Xw (.Subscript a b pos) (d2 CY δa δb):=AB oZ Gm ha hb hs
def bI(ha:PD X Xw a δa)(hb:PD X Xw b δb)(hs:gQ b:=by intro _ _;rfl):PD X Xw (.Subscript a b pos) (d2 aZ δa δb):=AB Jj Gp ha hb hs
def qu(ha:PD X Xw a δa)(hb:PD X Xw b δb)(hs:gQ b:=by intro _ _;rfl):PD X Xw (.Subscript a b pos) (d2 jw δa δb):=AB Ji Gn ha hb hs
def cY:D->D->M D
 | .lst x, .lst y=>if x.length+y.length<=lim then ae (.lst (x++y)) else ah
 |_,_=>ah
def j5(x y:Str):(x++y).length=x.length+y.length:=by
 show (x.cps++y.cps).size=_
 simp[Str.length]
def cV(ha:PD X Xw a δa)(hb:PD X Xw b δb):PD X Xw (.BinOp a .Add b pos) (d2 cY δa δb):=qx Jy (fun Xw F H x y dx dy Q s hx hy w=>by
 unfold cY at w
 split at w
 ·rename_i i j
  obtain⟨a,vs,h1,h2,h3,h4⟩:=hx
  obtain⟨a',EV,k1,k2,k3,k4⟩:=hy
  split at w
  ·rename_i hl
   have e1:=h3.len
   have e2:=k3.len
   have:=eO
   refine⟨a,a',vs,EV,h1,k1,s _ _ h2,s _ _ k2,by omega,fun p hp=>?_⟩
   exact WP.fin w (Ext.lay s hp) ⟨p,_,rfl,aO,DenL.mono (Ext.lay s hp).ff (h3.append k3),by rw[Ti];exact hl⟩
  ·exact w.elim
 ·exact w.elim) ha hb
end
end L3
namespace L3
open PySem PySem.Spec L2 SeqAt
open PyProof.Rows hiding St
def nH(f:D->D->Option Bool):List D->List D->Option Bool
 |[],[]=>some true
 |x::xs,y::ys=>match f x y,nH f xs ys with
  |some b,some r=>some (b&&r)
  |_,_=>none
 |[],_::_=>some false
 |_::_,[]=>some false
def yO:D->D->Option Bool
 | .non, .non=>some true
 | .bl a, .bl b=>some (a==b)
 | .bl a, .int j=>some ((if a then 1 else 0)==j)
 | .int i, .bl b=>some (i==(if b then 1 else 0))
 | .int i, .int j=>some (i==j)
 | .str x, .str y=>some (x==y)
 | .non, .bl _=>some false
 | .non, .int _=>some false
 | .non, .str _=>some false
 | .non, .lst _=>some false
 | .non, .tup _=>some false
 | .bl _, .non=>some false
 | .bl _, .str _=>some false
 | .bl _, .lst _=>some false
 | .bl _, .tup _=>some false
 | .int _, .non=>some false
 | .int _, .str _=>some false
 | .int _, .lst _=>some false
 | .int _, .tup _=>some false
 | .str _, .non=>some false
 | .str _, .bl _=>some false
 | .str _, .int _=>some false
 | .str _, .lst _=>some false
 | .str _, .tup _=>some false
 | .lst _, .non=>some false
 | .lst _, .bl _=>some false
 | .lst _, .int _=>some false
 | .lst _, .str _=>some false
 | .lst _, .tup _=>some false
 | .tup _, .non=>some false
 | .tup _, .bl _=>some false
 | .tup _, .int _=>some false
 | .tup _, .str _=>some false
 | .tup _, .lst _=>some false
 |_,_=>none
def ju:Nat->D->D->Option Bool
 |n+1, .tup xs, .tup ys=>nH (ju n) xs ys
 |n+1, .lst xs, .lst ys=>nH (ju n) xs ys
 |n+1, .scr xs, .lst ys=>nH (ju n) (xs.map D.int) ys
 |_,x,y=>yO x y
structure EqAll (A:TY) (s:S7) (u v:Value) (b:Bool):Prop where
 rc:RcAt A s u v b
 ne:RcNeAt A s u v (!b)
 eq:EqAt A s u v b
section
variable{X:Cx}{pins:List (Addr×Obj)}{σ:St}{F H:Hp}{s:S7}{A:TY}
def fY(I:Inv X pins σ H s)(hs:Same F H){ds:List D}{v:V}{u:Value}(h:Den X.K F (.tup ds) v)(r:RelV v u):∃a vs aR,u= .ref a/\v= .ref a/\F a=some (.tup vs)/\DenL X.K F ds vs/\Vals vs aR/\s.heap.IsTuple a aR.toArray:=by
 obtain⟨a,vs,rfl,h2,h3,h4⟩:=h
 obtain⟨aR,r1,p1,_⟩:=I.tuple (SqT.of (hs _ _ h2))
 exact⟨a,vs,aR,r,rfl,h2,h3,r1,p1⟩
def fk(I:Inv X pins σ H s)(hs:Same F H){ds:List D}{v:V}{u:Value}(h:Den X.K F (.lst ds) v)(r:RelV v u):∃a vs aR,u= .ref a/\v= .ref a/\F a=some (.lst vs)/\DenL X.K F ds vs/\Vals vs aR/\s.heap.IsList a aR.toArray:=by
 obtain⟨a,vs,rfl,h2,h3,h4⟩:=h
 obtain⟨aR,r1,p1,_⟩:=I.list (SqL.of (hs _ _ h2))
 exact⟨a,vs,aR,r,rfl,h2,h3,r1,p1.isList⟩
def Kj(I:Inv X pins σ H s)(hs:Same F H){ns:List Int}{v:V}{u:Value}(h:Den X.K F (.scr ns) v)(r:RelV v u):∃a aR,u= .ref a/\v= .ref a/\SqL X.K F a (ns.map V.int)/\Vals (ns.map V.int) aR/\s.heap.IsList a aR.toArray:=by
 obtain⟨a,rfl,h2,h3⟩:=h
 obtain⟨aR,r1,p1,_⟩:=I.list (Same.seq hs h2)
 exact⟨a,aR,r,rfl,h2,r1,p1.isList⟩
def wK(I:Inv X pins σ H s)(hs:Same F H)(hu:A.units<cLine){x y:D}{v w:V}{u t:Value}{b:Bool}(hx:Den X.K F x v)(hy:Den X.K F y w)(rx:RelV v u)(ry:RelV w t)(e:yO x y=some b):EqAll A s u t b:=by
 cases x with
 |non=>
  cases y with
  |non=>
   cases e
   cases (show _=_ from hx)
   cases rx
   cases (show _=_ from hy)
   cases ry
   exact⟨RcAt.none_none,RcNeAt.none_none,EqAt.same _⟩
  |bl d=>
   cases e
   cases (show _=_ from hx)
   cases rx
   cases (show _=_ from hy)
   cases ry
   exact⟨RcAt.none_bool _,RcNeAt.none_bool _,EqAt.none_bool _⟩
  |int d=>
   cases e
   cases (show _=_ from hx)
   cases rx
   cases (show _=_ from hy)
   obtain⟨t2,rfl⟩:=ry
   exact⟨RcAt.none_int _ _,RcNeAt.none_int _ _,EqAt.none_int _ _⟩
  |str d=>
   cases e
   cases (show _=_ from hx)
   cases rx
   cases (show _=_ from hy.1)
   obtain⟨t2,rfl⟩:=ry
   exact⟨RcAt.none_str _ _,RcNeAt.none_str _ _,EqAt.none_str _ _⟩
  |raw d=>cases e
  |dct _ _=>cases e
  |dci _ _=>cases e
  |exc d=>cases e
  |scr d=>cases e
  |tup d=>
   cases e
   cases (show _=_ from hx)
   cases rx
   obtain⟨a2,_,_,rfl,_,_,_,_,p2⟩:=fY I hs hy ry
   exact⟨RcAt.none_tuple p2 hu,RcNeAt.none_tuple p2 hu,EqAt.none_tuple p2 hu⟩
  |lst d=>
   cases e
   cases (show _=_ from hx)
   cases rx
   obtain⟨a2,_,_,rfl,_,_,_,_,p2⟩:=fk I hs hy ry
   exact⟨RcAt.none_list p2 hu,RcNeAt.none_list p2 hu,EqAt.none_list p2 hu⟩
 |bl c=>
  cases y with
  |non=>
   cases e
   cases (show _=_ from hx)
   cases rx
   cases (show _=_ from hy)
   cases ry
   exact⟨RcAt.bool_none _,RcNeAt.bool_none _,EqAt.bool_none _⟩
  |bl d=>
   cases e
   cases (show _=_ from hx)
   cases rx
   cases (show _=_ from hy)
   cases ry
   exact⟨RcAt.bool_bool _ _,RcNeAt.bool_bool _ _,EqAt.bool_bool _ _⟩
  |int d=>
   cases e
   cases (show _=_ from hx)
   cases rx
   cases (show _=_ from hy)
   obtain⟨t2,rfl⟩:=ry
   exact⟨RcAt.bool_int _ _ _,RcNeAt.bool_int _ _ _,EqAt.bool_int _ _ _⟩
  |str d=>
   cases e
   cases (show _=_ from hx)
   cases rx
   cases (show _=_ from hy.1)
   obtain⟨t2,rfl⟩:=ry
   exact⟨RcAt.bool_str _ _ _,RcNeAt.bool_str _ _ _,EqAt.bool_str _ _ _⟩
  |raw d=>cases e
  |dct _ _=>cases e
  |dci _ _=>cases e
  |exc d=>cases e
  |scr d=>cases e
  |tup d=>
   cases e
   cases (show _=_ from hx)
   cases rx
   obtain⟨a2,_,_,rfl,_,_,_,_,p2⟩:=fY I hs hy ry
   exact⟨RcAt.bool_tuple _ p2 hu,RcNeAt.bool_tuple _ p2 hu,EqAt.bool_tuple _ p2 hu⟩
  |lst d=>
   cases e
   cases (show _=_ from hx)
   cases rx
   obtain⟨a2,_,_,rfl,_,_,_,_,p2⟩:=fk I hs hy ry
   exact⟨RcAt.bool_list _ p2 hu,RcNeAt.bool_list _ p2 hu,EqAt.bool_list _ p2 hu⟩
 |int c=>
  cases y with
  |non=>
   cases e
   cases (show _=_ from hx)
   obtain⟨t1,rfl⟩:=rx
   cases (show _=_ from hy)
   cases ry
   exact⟨RcAt.int_none _ _,RcNeAt.int_none _ _,EqAt.int_none _ _⟩
  |bl d=>
   cases e
   cases (show _=_ from hx)
   obtain⟨t1,rfl⟩:=rx
   cases (show _=_ from hy)
   cases ry
   exact⟨RcAt.int_bool _ _ _,RcNeAt.int_bool _ _ _,EqAt.int_bool _ _ _⟩
  |int d=>
   cases e
   cases (show _=_ from hx)
   obtain⟨t1,rfl⟩:=rx
   cases (show _=_ from hy)
   obtain⟨t2,rfl⟩:=ry
   exact⟨RcAt.int_int _ _ _ _,RcNeAt.int_int _ _ _ _,EqAt.int_int _ _ _ _⟩
  |str d=>
   cases e
   cases (show _=_ from hx)
   obtain⟨t1,rfl⟩:=rx
   cases (show _=_ from hy.1)
   obtain⟨t2,rfl⟩:=ry
   exact⟨RcAt.int_str _ _ _ _,RcNeAt.int_str _ _ _ _,EqAt.int_str _ _ _ _⟩
  |raw d=>cases e
  |dct _ _=>cases e
  |dci _ _=>cases e
  |exc d=>cases e
  |scr d=>cases e
  |tup d=>
   cases e
   cases (show _=_ from hx)
   obtain⟨t1,rfl⟩:=rx
   obtain⟨a2,_,_,rfl,_,_,_,_,p2⟩:=fY I hs hy ry
   exact⟨RcAt.int_tuple _ _ p2 hu,RcNeAt.int_tuple _ _ p2 hu,EqAt.int_tuple _ _ p2 hu⟩
  |lst d=>
   cases e
   cases (show _=_ from hx)
   obtain⟨t1,rfl⟩:=rx
   obtain⟨a2,_,_,rfl,_,_,_,_,p2⟩:=fk I hs hy ry
   exact⟨RcAt.int_list _ _ p2 hu,RcNeAt.int_list _ _ p2 hu,EqAt.int_list _ _ p2 hu⟩
 |str c=>
  cases y with
  |non=>
   cases e
   cases (show _=_ from hx.1)
   obtain⟨t1,rfl⟩:=rx
   cases (show _=_ from hy)
   cases ry
   exact⟨RcAt.str_none _ _,RcNeAt.str_none _ _,EqAt.str_none _ _⟩
  |bl d=>
   cases e
   cases (show _=_ from hx.1)
   obtain⟨t1,rfl⟩:=rx
   cases (show _=_ from hy)
   cases ry
   exact⟨RcAt.str_bool _ _ _,RcNeAt.str_bool _ _ _,EqAt.str_bool _ _ _⟩
  |int d=>
   cases e
   cases (show _=_ from hx.1)
   obtain⟨t1,rfl⟩:=rx
   cases (show _=_ from hy)
   obtain⟨t2,rfl⟩:=ry
   exact⟨RcAt.str_int _ _ _ _,RcNeAt.str_int _ _ _ _,EqAt.str_int _ _ _ _⟩
  |str d=>
   cases e
   cases (show _=_ from hx.1)
   obtain⟨t1,rfl⟩:=rx
   cases (show _=_ from hy.1)
   obtain⟨t2,rfl⟩:=ry
   exact⟨RcAt.str_str _ _ _ _,RcNeAt.str_str _ _ _ _,EqAt.str_str _ _ _ _⟩
  |raw d=>cases e
  |dct _ _=>cases e
  |dci _ _=>cases e
  |exc d=>cases e
  |scr d=>cases e
  |tup d=>
   cases e
   cases (show _=_ from hx.1)
   obtain⟨t1,rfl⟩:=rx
   obtain⟨a2,_,_,rfl,_,_,_,_,p2⟩:=fY I hs hy ry
   exact⟨RcAt.str_tuple _ _ p2 hu,RcNeAt.str_tuple _ _ p2 hu,EqAt.str_tuple _ _ p2 hu⟩
  |lst d=>
   cases e
   cases (show _=_ from hx.1)
   obtain⟨t1,rfl⟩:=rx
   obtain⟨a2,_,_,rfl,_,_,_,_,p2⟩:=fk I hs hy ry
   exact⟨RcAt.str_list _ _ p2 hu,RcNeAt.str_list _ _ p2 hu,EqAt.str_list _ _ p2 hu⟩
 |raw _=>cases y<;>cases e
 |dct _ _=>cases y<;>cases e
 |dci _ _=>cases y<;>cases e
 |exc _=>cases y<;>cases e
 |scr c=>cases y<;>cases e
 |tup c=>
  cases y with
  |non=>
   cases e
   obtain⟨a1,_,_,rfl,_,_,_,_,p1⟩:=fY I hs hx rx
   cases (show _=_ from hy)
   cases ry
   exact⟨RcAt.tuple_none p1 hu,RcNeAt.tuple_none p1 hu,EqAt.tuple_none p1 hu⟩
  |bl d=>
   cases e
   obtain⟨a1,_,_,rfl,_,_,_,_,p1⟩:=fY I hs hx rx
   cases (show _=_ from hy)
   cases ry
   exact⟨RcAt.tuple_bool _ p1 hu,RcNeAt.tuple_bool _ p1 hu,EqAt.tuple_bool _ p1 hu⟩
  |int d=>
   cases e
   obtain⟨a1,_,_,rfl,_,_,_,_,p1⟩:=fY I hs hx rx
   cases (show _=_ from hy)
   obtain⟨t2,rfl⟩:=ry
   exact⟨RcAt.tuple_int _ _ p1 hu,RcNeAt.tuple_int _ _ p1 hu,EqAt.tuple_int _ _ p1 hu⟩
  |str d=>
   cases e
   obtain⟨a1,_,_,rfl,_,_,_,_,p1⟩:=fY I hs hx rx
   cases (show _=_ from hy.1)
   obtain⟨t2,rfl⟩:=ry
   exact⟨RcAt.tuple_str _ _ p1 hu,RcNeAt.tuple_str _ _ p1 hu,EqAt.tuple_str _ _ p1 hu⟩
  |raw d=>cases e
  |dct _ _=>cases e
  |dci _ _=>cases e
  |exc d=>cases e
  |scr d=>cases e
  |tup d=>cases e
  |lst d=>
   cases e
   obtain⟨a1,_,_,rfl,_,_,_,_,p1⟩:=fY I hs hx rx
   obtain⟨a2,_,_,rfl,_,_,_,_,p2⟩:=fk I hs hy ry
   exact⟨RcAt.tuple_list p1 p2 hu,RcNeAt.tuple_list p1 p2 hu,EqAt.tuple_list p1 p2 hu⟩
 |lst c=>
  cases y with
  |non=>
   cases e
   obtain⟨a1,_,_,rfl,_,_,_,_,p1⟩:=fk I hs hx rx
   cases (show _=_ from hy)
   cases ry
   exact⟨RcAt.list_none p1 hu,RcNeAt.list_none p1 hu,EqAt.list_none p1 hu⟩
  |bl d=>
   cases e
   obtain⟨a1,_,_,rfl,_,_,_,_,p1⟩:=fk I hs hx rx
   cases (show _=_ from hy)
   cases ry
   exact⟨RcAt.list_bool _ p1 hu,RcNeAt.list_bool _ p1 hu,EqAt.list_bool _ p1 hu⟩
  |int d=>
   cases e
   obtain⟨a1,_,_,rfl,_,_,_,_,p1⟩:=fk I hs hx rx
   cases (show _=_ from hy)
   obtain⟨t2,rfl⟩:=ry
   exact⟨RcAt.list_int _ _ p1 hu,RcNeAt.list_int _ _ p1 hu,EqAt.list_int _ _ p1 hu⟩
  |str d=>
   cases e
   obtain⟨a1,_,_,rfl,_,_,_,_,p1⟩:=fk I hs hx rx
   cases (show _=_ from hy.1)
   obtain⟨t2,rfl⟩:=ry
   exact⟨RcAt.list_str _ _ p1 hu,RcNeAt.list_str _ _ p1 hu,EqAt.list_str _ _ p1 hu⟩
  |raw d=>cases e
  |dct _ _=>cases e
  |dci _ _=>cases e
  |exc d=>cases e
  |scr d=>cases e
  |tup d=>
   cases e
   obtain⟨a1,_,_,rfl,_,_,_,_,p1⟩:=fk I hs hx rx
   obtain⟨a2,_,_,rfl,_,_,_,_,p2⟩:=fY I hs hy ry
   exact⟨RcAt.list_tuple p1 p2 hu,RcNeAt.list_tuple p1 p2 hu,EqAt.list_tuple p1 p2 hu⟩
  |lst d=>cases e
end
def ev(f:D->D->Option Bool)(xs ys:List D)(j:Nat):Bool:=match xs[j]?,ys[j]? with
 |some x,some y=>(f x y).getD false
 |_,_=>false
def wH{f:D->D->Option Bool}:∀{xs ys:List D}{b:Bool},nH f xs ys=some b->∀(j:Nat) (x y:D),xs[j]? =some x->ys[j]? =some y->∃c,f x y=some c
 |[],_,_,_,_,_,_,h,_=>by simp at h
 |_::_,[],_,_,_,_,_,_,h=>by simp at h
 |x::xs,y::ys,b,e,j,x',y',hx,hy=>by
  unfold nH at e
  split at e
  ·rename_i b1 r1 e1 e2
   cases j with
   |zero=>simp at hx hy;subst hx hy;exact⟨_,e1⟩
   |succ j=>exact wH e2 j x' y' (by simpa using hx) (by simpa using hy)
  ·cases e
def uk{f:D->D->Option Bool}:∀{xs ys:List D}{b:Bool},nH f xs ys=some b->b=((Um (min xs.length ys.length)).all (ev f xs ys)&&xs.length==ys.length)
 |[],[],_,e=>by cases e;rfl
 |[],_::_,_,e=>by cases e;simp
 |_::_,[],_,e=>by cases e;simp
 |x::xs,y::ys,b,e=>by
  unfold nH at e
  split at e
  ·rename_i b1 r1 e1 e2
   cases e
   have h:=uk e2
   rw[Tj,Tj,Nat.succ_min_succ,Yy,UR,Vu]
   have e0:ev f (x::xs) (y::ys) 0=b1:=by unfold ev;simp[e1]
   have e3:(ev f (x::xs) (y::ys)∘Nat.succ)=ev f xs ys:=by funext j;simp[ev,XI]
   have e4:(xs.length+1==ys.length+1)=(xs.length==ys.length):=by simp
   rw[e0,e3,e4,h,Bool.and_assoc]
  ·cases e
section
variable{X:Cx}{pins:List (Addr×Obj)}{σ:St}{F H:Hp}{s:S7}
def lI{f:D->D->Option Bool}(h:∀x y v b,Den X.K F x v->Den X.K F y v->f x y=some b->b=true):∀{xs ys:List D}{vs:List V}{b:Bool},DenL X.K F xs vs->DenL X.K F ys vs->nH f xs ys=some b->b=true
 |[],[],_,_,_,_,e=>by cases e;rfl
 |[],_::_,_,_,h1,h2,_=>by
  cases (show _=_ from h1)
  obtain⟨v,r,z,_⟩:=h2
  cases z
 |_::_,[],_,_,h1,h2,_=>by
  cases (show _=_ from h2)
  obtain⟨v,r,z,_⟩:=h1
  cases z
 |x::xs,y::ys,_,b,⟨v,r,e1,q1,q2⟩,⟨v',r',e2,q3,q4⟩,e=>by
  subst e1
  cases e2
  unfold nH at e
  split at e
  ·rename_i b1 r1 f1 f2
   cases e
   rw[h x y v b1 q1 q3 f1,lI h q2 q4 f2]
   rfl
  ·cases e
def sk{x y:D}{v:V}{b:Bool}(hx:Den X.K F x v)(hy:Den X.K F y v)(e:yO x y=some b):b=true:=by
 cases x<;>cases y<;>first
  |(cases e;done)
  |(cases e;cases (show _=_ from hx);cases (show _=_ from hy);first | rfl | simp)
  |(cases e;cases (show _=_ from hx.1);cases (show _=_ from hy.1);simp)
  |(cases e;cases (show _=_ from hx);cases (show _=_ from hy.1))
  |(cases e;cases (show _=_ from hx.1);cases (show _=_ from hy))
  |(cases e;obtain⟨_,_,z,_⟩:=hx;subst z;cases (show _=_ from hy);done)
  |(cases e;obtain⟨_,_,z,_⟩:=hx;subst z;cases (show _=_ from hy.1);done)
  |(cases e;obtain⟨_,z,_⟩:=hx;subst z;cases (show _=_ from hy);done)
  |(cases e;obtain⟨_,z,_⟩:=hx;subst z;cases (show _=_ from hy.1);done)
  |(cases e;obtain⟨_,_,z,_⟩:=hy;subst z;cases (show _=_ from hx);done)
  |(cases e;obtain⟨_,_,z,_⟩:=hy;subst z;cases (show _=_ from hx.1);done)
  |(cases e;obtain⟨_,z,_⟩:=hy;subst z;cases (show _=_ from hx);done)
  |(cases e;obtain⟨_,z,_⟩:=hy;subst z;cases (show _=_ from hx.1);done)
  |(cases e;obtain⟨_,_,z,h2,_⟩:=hx;obtain⟨_,_,z',PF,_⟩:=hy;subst z;cases z';rw[h2] at PF;cases PF;done)
  |(cases e;cases (show _=_ from hx);cases (show _=_ from hy);done)
  |(cases e;cases (show _=_ from hx.1);cases (show _=_ from hy.1);done)
def lH(I:Inv X pins σ H s)(hs:Same F H):∀(n:Nat) (x y:D) (v:V) (b:Bool),Den X.K F x v->Den X.K F y v->ju n x y=some b->b=true
 |0,x,y,v,b,hx,hy,e=>sk hx hy (by unfold ju at e;exact e)
 |n+1,x,y,v,b,hx,hy,e=>by
  unfold ju at e
  split at e
  ·rename_i xs ys _
   obtain⟨a,vs,rfl,h2,h3,_⟩:=hx
   obtain⟨a',EV,z,k2,k3,_⟩:=hy
   cases z
   rw[h2] at k2
   cases k2
   exact lI (lH I hs _) h3 k3 (by simpa using e)
  ·rename_i xs ys _
   obtain⟨a,vs,rfl,h2,h3,_⟩:=hx
   obtain⟨a',EV,z,k2,k3,_⟩:=hy
   cases z
   rw[h2] at k2
   cases k2
   exact lI (lH I hs _) h3 k3 (by simpa using e)
  ·rename_i xs ys _
   obtain⟨a,rfl,h2,_⟩:=hx
   obtain⟨a',EV,z,k2,k3,_⟩:=hy
   cases z
   have hv:=I.list_inj (Same.seq hs h2) (SqL.of (hs _ _ k2))
   rw[<-hv] at k3
   exact lI (lH I hs _) (DenL.ints xs) k3 (by simpa using e)
  ·exact sk hx hy e
def Vals.at{vs:List V}{aR:List Value}(r:Vals vs aR){j:Nat}(h:j<aR.toArray.size):∃v,vs[j]? =some v/\RelV v aR.toArray[j]:=by
 have hl:=r.length
 have hj:j<vs.length:=by rw[Td] at h;omega
 obtain⟨u,e1,e2⟩:=r.get (Tb hj)
 refine⟨vs[j],Tb hj,?_⟩
 have:aR.toArray[j]=u:=by
  have:=(Tn.mp e1).2
  simpa using this
 rw[this]
 exact e2
def oU{f:D->D->Option Bool}{A:TY}{xs ys:List D}{vs ws:List V}{aR eF:List Value}{b:Bool}(h1:DenL X.K F xs vs)(h2:DenL X.K F ys ws)(r1:Vals vs aR)(r2:Vals ws eF)(e:nH f xs ys=some b)
 (ih:∀x y v w u t c,Den X.K F x v->Den X.K F y w->RelV v u->RelV w t->f x y=some c->EqAt A s u t c):
 ∀j (k1:j<aR.toArray.size) (k2:j<eF.toArray.size),EqAt A s aR.toArray[j] eF.toArray[j] (ev f xs ys j):=fun j k1 k2=>by
 obtain⟨v,e1,q1⟩:=Vals.at r1 k1
 obtain⟨w,e2,q2⟩:=Vals.at r2 k2
 obtain⟨x,e3,q3⟩:=h1.at e1
 obtain⟨y,e4,q4⟩:=h2.at e2
 obtain⟨c,hc⟩:=wH e j x y e3 e4
 have:ev f xs ys j=c:=by unfold ev;rw[e3,e4];simp[hc]
 rw[this]
 exact ih x y v w _ _ c q3 q4 q1 q2 hc
def sJ{f:D->D->Option Bool}{A:TY}(hu:A.units<cLine){xs ys:List D}{vs ws:List V}{aR eF:List Value}{b:Bool}{a a':Addr}(h1:DenL X.K F xs vs)(h2:DenL X.K F ys ws)(r1:Vals vs aR)(r2:Vals ws eF)
 (p1:s.heap.IsList a aR.toArray)(p2:s.heap.IsList a' eF.toArray)(e:nH f xs ys=some b)(hr:a=a'->b=true)
 (ih:∀x y v w u t c,Den X.K F x v->Den X.K F y w->RelV v u->RelV w t->f x y=some c->EqAt A.in1 s u t c):EqAll A s (.ref a) (.ref a') b:=by
 have l1:=h1.len
 have l2:=h2.len
 have l3:=r1.length
 have l4:=r2.length
 have hv:=uk e
 have core:RcAt A s (.ref a) (.ref a') b/\RcNeAt A s (.ref a) (.ref a') (!b):=by
  by_cases hl:xs.length=ys.length
  ·have hsz:aR.toArray.size=eF.toArray.size:=by rw[Td,Td];omega
   have hb:b=(Um aR.toArray.size).all (ev f xs ys):=by
    rw[hv,hl,Nat.min_self,beq_self_eq_true,Xc]
    congr 2
    rw[Td];omega
   rw[hb]
   exact⟨RcAt.lists p1 p2 hsz hu (oU h1 h2 r1 r2 e ih),RcNeAt.lists p1 p2 hsz hu (oU h1 h2 r1 r2 e ih)⟩
  ·have hb:b=false:=by rw[hv,show (xs.length==ys.length)=false from by simpa using hl,WT]
   have hsz:(aR.toArray.size !=eF.toArray.size)=true:=by
    rw[Td,Td]
    simp
    omega
   rw[hb]
   exact⟨RcAt.lists_lengths p1 p2 hsz hu,RcNeAt.lists_lengths p1 p2 hsz hu⟩
 refine⟨core.1,core.2,?_⟩
 by_cases hq:a=a'
 ·rw[hr hq]
  subst hq
  exact EqAt.same _
 ·exact EqAt.of_refs hq core.1
def zI{f:D->D->Option Bool}{A:TY}(hu:A.units<cLine){xs ys:List D}{vs ws:List V}{aR eF:List Value}{b:Bool}{a a':Addr}(h1:DenL X.K F xs vs)(h2:DenL X.K F ys ws)(r1:Vals vs aR)(r2:Vals ws eF)
 (p1:s.heap.IsTuple a aR.toArray)(p2:s.heap.IsTuple a' eF.toArray)(e:nH f xs ys=some b)(hr:a=a'->b=true)
 (ih:∀x y v w u t c,Den X.K F x v->Den X.K F y w->RelV v u->RelV w t->f x y=some c->EqAt A.in1 s u t c):EqAll A s (.ref a) (.ref a') b:=by
 have l1:=h1.len
 have l2:=h2.len
 have l3:=r1.length
 have l4:=r2.length
 have hb:b=((Um (min aR.toArray.size eF.toArray.size)).all (ev f xs ys)&&aR.toArray.size==eF.toArray.size):=by
  rw[uk e,Td,Td,<-l3,<-l4,<-l1,<-l2]
 have core:RcAt A s (.ref a) (.ref a') b/\RcNeAt A s (.ref a) (.ref a') (!b):=by
  rw[hb]
  exact⟨RcAt.tuples p1 p2 hu (oU h1 h2 r1 r2 e ih),RcNeAt.tuples p1 p2 hu (oU h1 h2 r1 r2 e ih)⟩
 refine⟨core.1,core.2,?_⟩
 by_cases hq:a=a'
 ·rw[hr hq]
  subst hq
  exact EqAt.same _
 ·exact EqAt.of_refs hq core.1
def pH(I:Inv X pins σ H s)(hs:Same F H):∀(n:Nat) (A:TY) (x y:D) (v w:V) (u t:Value) (b:Bool),A.units+n<cLine->Den X.K F x v->Den X.K F y w->RelV v u->RelV w t->ju n x y=some b->EqAll A s u t b
 |0,A,x,y,v,w,u,t,b,hu,hx,hy,rx,ry,e=>wK I hs (by omega) hx hy rx ry (by unfold ju at e;exact e)
 |n+1,A,x,y,v,w,u,t,b,hu,hx,hy,rx,ry,e=>by
  have Np:A.units<cLine:=by omega
  have RW:A.in1.units+n<cLine:=by show A.units+1+n<cLine;omega
  have hrefl:=lH (F:=F) I hs (n+1) x y
  have ih:∀x y v w u t c,Den X.K F x v->Den X.K F y w->RelV v u->RelV w t->ju n x y=some c->EqAt A.in1 s u t c:=fun x y v w u t c q1 q2 q3 q4 q5=>(pH I hs n A.in1 x y v w u t c RW q1 q2 q3 q4 q5).eq
  have e0:=e
  unfold ju at e
  split at e
  ·rename_i xs ys heq
   cases heq
   obtain⟨a,vs,aR,rfl,Lk,h2,h3,r1,p1⟩:=fY I hs hx rx
   obtain⟨a',EV,its',rfl,Ll,k2,k3,Mw,Mm⟩:=fY I hs hy ry
   exact zI Np h3 k3 r1 Mw p1 Mm e (fun z=>by subst z;exact hrefl v b hx (by rw[Lk,<-Ll];exact hy) e0) ih
  ·rename_i xs ys heq
   cases heq
   obtain⟨a,vs,aR,rfl,Lk,h2,h3,r1,p1⟩:=fk I hs hx rx
   obtain⟨a',EV,its',rfl,Ll,k2,k3,Mw,Mm⟩:=fk I hs hy ry
   exact sJ Np h3 k3 r1 Mw p1 Mm e (fun z=>by subst z;exact hrefl v b hx (by rw[Lk,<-Ll];exact hy) e0) ih
  ·rename_i xs ys heq
   cases heq
   obtain⟨a,aR,rfl,Lk,h2,r1,p1⟩:=Kj I hs hx rx
   obtain⟨a',EV,its',rfl,Ll,k2,k3,Mw,Mm⟩:=fk I hs hy ry
   exact sJ Np (DenL.ints _) k3 r1 Mw p1 Mm e (fun z=>by subst z;exact hrefl v b hx (by rw[Lk,<-Ll];exact hy) e0) ih
  ·exact wK I hs Np hx hy rx ry e
end
def gE(x y:D):M D:=match ju 6 x y with | some b=>ae (.bl b) | none=>ah
def gw(x y:D):M D:=match ju 6 x y with | some b=>ae (.bl (!b)) | none=>ah
def My(K:Tc):R2:=fun x y H Q=>∃F dx dy b,Same F H/\Den K F dx x/\Den K F dy y/\ju 6 dx dy=some b/\Q (.bl b) H
def MG(K:Tc):R2:=fun x y H Q=>∃F dx dy b,Same F H/\Den K F dx x/\Den K F dy y/\ju 6 dx dy=some b/\Q (.bl (!b)) H
section
variable{X:Cx}{Xw:Nat->Hp->Prop}{a b:Expr}{δa δb:DE}{pos:Pos}
def DU(hu:X.A.units+64<cLine):OpR X (Ua .Eq) (My X.K):=by
 intro pins s σ H x y v u Q I rx ry h
 obtain⟨F,dx,dy,b,hs,hx,hy,e,q⟩:=h
 exact(pH I hs 6 X.A dx dy x y v u b (by omega) hx hy rx ry e).rc _ _ _ _ ⟨.bl b,H,I,rfl,q⟩
def JE(hu:X.A.units+64<cLine):OpR X (Ua .NotEq) (MG X.K):=by
 intro pins s σ H x y v u Q I rx ry h
 obtain⟨F,dx,dy,b,hs,hx,hy,e,q⟩:=h
 exact(pH I hs 6 X.A dx dy x y v u b (by omega) hx hy rx ry e).ne _ _ _ _ ⟨.bl (!b),H,I,rfl,q⟩
def DW{K:Tc}:tR K (My K) gE:=fun Xw F H x y dx dy Q s hx hy w=>by
 unfold gE at w
 split at w
 ·rename_i b e
  exact⟨F,dx,dy,b,s,hx,hy,e,WP.now w s rfl⟩
 ·exact w.elim
def JG{K:Tc}:tR K (MG K) gw:=fun Xw F H x y dx dy Q s hx hy w=>by
 unfold gw at w
 split at w
 ·rename_i b e
  exact⟨F,dx,dy,b,s,hx,hy,e,WP.now w s rfl⟩
 ·exact w.elim
def kI(hu:X.A.units+64<cLine)(ha:PD X Xw a δa)(hb:PD X Xw b δb):mH X Xw (.Compare a [.Eq] [b] pos) (bH (d2 gE δa δb)):=eU (DU hu) DW ha hb
def fP(hu:X.A.units+64<cLine)(ha:PD X Xw a δa)(hb:PD X Xw b δb):mH X Xw (.Compare a [.NotEq] [b] pos) (bH (d2 gw δa δb)):=eU (JE hu) JG ha hb
def s_(hu:X.A.units+64<cLine)(ha:PD X Xw a δa)(hb:PD X Xw b δb):PD X Xw (.Compare a [.Eq] [b] pos) (d2 gE δa δb):=qt (DU hu) DW ha hb
end
def PDW(X:Cx)(Xw:Nat->Hp->Prop)(e:Expr)(δ:DT):Prop:=PW X e (O_ X.K Xw δ)
def PW.weak{X:Cx}{e:Expr}{t t':TT}(h:PW X e t)(k:∀σ H Q,t' σ H Q->t σ H Q):PW X e t':=fun wh pins s σ H Q I w=>h wh pins s σ H Q I (k σ H Q w)
section
variable{X:Cx}{Xw:Nat->Hp->Prop}{a b c:Expr}{rest:List Expr}{δa δb δc:DE}{τa τb:DT}{pos:Pos}
def iG(ha:mH X Xw a τa):PDW X Xw (.BoolOp .And [a] pos) τa:=GZ ha
def di(ha:mH X Xw a τa):PDW X Xw (.BoolOp .Or [a] pos) τa:=J_ ha
def i7(ha:mH X Xw a τa)(hb:PDW X Xw (.BoolOp .And (b::rest) pos) τb):PDW X Xw (.BoolOp .And (a::b::rest) pos) (gA τa τb):=PW.weak (J8 ha hb) fun σ H Q ⟨F,ρ,s,w⟩=>by
 refine⟨F,ρ,s,WPB.mono (WPB.bindB w) fun v H1 ⟨F1,e1,w1⟩=>?_⟩
 cases v with
 |true=>exact⟨F1,ρ,s.ext e1,w1⟩
 |false=>exact w1 _ _ (Ext.refl e1.fh)
def dE(ha:mH X Xw a τa)(hb:PDW X Xw (.BoolOp .Or (b::rest) pos) τb):PDW X Xw (.BoolOp .Or (a::b::rest) pos) (fS τa τb):=PW.weak (Mv ha hb) fun σ H Q ⟨F,ρ,s,w⟩=>by
 refine⟨F,ρ,s,WPB.mono (WPB.bindB w) fun v H1 ⟨F1,e1,w1⟩=>?_⟩
 cases v with
 |false=>exact⟨F1,ρ,s.ext e1,w1⟩
 |true=>exact w1 _ _ (Ext.refl e1.fh)
def PDW.t(h:PDW X Xw a τa):mH X Xw a τa:=PW.pt h
def b9(ha:mH X Xw a τa):mH X Xw (.UnaryOp .Not a pos) (bV τa):=PT.weak (J7 ha) fun σ H Q ⟨F,ρ,s,w⟩=>
 ⟨F,ρ,s,WPB.mono (WPB.bindB w) fun v H1 ⟨F1,e1,w1⟩=>w1 _ _ (Ext.refl e1.fh)⟩
def yj:D->M Bool
 | .non=>ae false
 | .bl b=>ae b
 | .lst ds=>ae (!ds.isEmpty)
 | .tup ds=>ae (!ds.isEmpty)
 |_=>ah
def bE(δ:DE):DT:=fun ρ=>δ ρ>>=yj
def DenL.isEmpty{K:Tc}{F:Hp}{ds:List D}{vs:List V}(h:DenL K F ds vs):ds.isEmpty=vs.isEmpty:=by
 have:=h.len
 cases ds<;>cases vs<;>simp_all
def bO(ha:PD X Xw a δa)(he:∀whole,isTrue a X.env whole=(do let v<-whole;standAt a.pos;holding [v] (truthy v)):=by intro _;rfl):mH X Xw a (bE δa):=PT.weak (Em ha he) fun σ H Q ⟨F,ρ,s,w⟩=>by
 refine⟨F,ρ,s,WP.mono (WPB.bind (K:=X.K) w) fun v H1 ⟨F1,d,e1,q1,w1⟩=>?_⟩
 cases d with
 |non=>cases (show _=_ from q1);exact⟨false,rfl,w1 _ _ (Ext.refl e1.fh)⟩
 |bl b=>cases (show _=_ from q1);exact⟨b,rfl,w1 _ _ (Ext.refl e1.fh)⟩
 |lst ds=>
  obtain⟨a,vs,rfl,h2,h3,_⟩:=q1
  exact⟨!ds.isEmpty, .inl ⟨vs,SqL.of (e1.fh _ _ h2),by rw[h3.isEmpty]⟩,w1 _ _ (Ext.refl e1.fh)⟩
 |tup ds=>
  obtain⟨a,vs,rfl,h2,h3,_⟩:=q1
  exact⟨!ds.isEmpty, .inr (.inl ⟨vs,SqT.of (e1.fh _ _ h2),by rw[h3.isEmpty]⟩),w1 _ _ (Ext.refl e1.fh)⟩
 |_=>exact w1.elim
def qw{op}(h:PD X Xw a δa):PD X Xw (.BoolOp op [a] pos) δa:=JT h
def mY(ha:PD X Xw a δa)(hb:PD X Xw (.BoolOp .And (b::rest) pos) δb):PD X Xw (.BoolOp .And (a::b::rest) pos) (dH δa δb):=PE.weak (JO ha hb) fun σ H Q ⟨F,ρ,s,w⟩=>by
 refine⟨F,ρ,s,WP.mono (WP.bind w) fun v H1 ⟨F1,d,e1,q1,w1⟩=>?_⟩
 cases d with
 |bl k=>
  refine⟨k,q1,?_⟩
  cases k with
  |true=>exact⟨F1,ρ,s.ext e1,w1⟩
  |false=>exact WP.now w1 e1.fh rfl
 |_=>exact w1.elim
def JN(ha:PD X Xw a δa):PD X Xw (.UnaryOp .Not a pos) (Hm δa):=PE.weak (JS ha) fun σ H Q ⟨F,ρ,s,w⟩=>by
 refine⟨F,ρ,s,WP.mono (WP.bind w) fun v H1 ⟨F1,d,e1,q1,w1⟩=>?_⟩
 cases d with
 |bl k=>exact⟨k,q1,WP.now w1 e1.fh rfl⟩
 |_=>exact w1.elim
def Mn(hc:mH X Xw c τa)(ha:PD X Xw a δa)(hb:PD X Xw b δb):PD X Xw (.IfExp c a b pos) (M7 τa δa δb):=PE.weak (Eb hc ha hb) fun σ H Q ⟨F,ρ,s,w⟩=>by
 refine⟨F,ρ,s,WPB.mono (WP.bindB w) fun v H1 ⟨F1,e1,w1⟩=>?_⟩
 cases v with
 |true=>exact⟨F1,ρ,s.ext e1,w1⟩
 |false=>exact⟨F1,ρ,s.ext e1,w1⟩
def qX(p q:Int->Int->Bool)(a b c:DE):DE:=fun ρ=>a ρ>>=fun x=>b ρ>>=fun y=>match x,y with
 | .int i, .int j=>if p i j then c ρ>>=fun z=>gI (fun i j=> .bl (q i j)) y z else ae (.bl false)
 |_,_=>ah
def tJ{p q:Int->Int->Bool}:∀σ H Q,tD X.K Xw (qX p q δa δb δc) σ H Q->zF (BY fun i j=> .bl (p i j)) (BY fun i j=> .bl (q i j)) (tD X.K Xw δa) (tD X.K Xw δb) (tD X.K Xw δc) σ H Q:=fun σ H Q ⟨F,ρ,s,w⟩=>by
 refine⟨F,ρ,s,WP.mono (WP.bind w) fun v H1 ⟨F1,d,e1,q1,w1⟩=>?_⟩
 refine⟨F1,ρ,s.ext e1,WP.mono (WP.bind w1) fun u H2 ⟨F2,d',e2,q2,w2⟩=>?_⟩
 cases d with
 |int i=>
  cases d' with
  |int j=>
   refine⟨i,j,q1,q2,p i j,rfl,?_⟩
   have w2:WP X.K Xw F2 H2 (if p i j then δc ρ>>=fun z=>gI (fun i j=> .bl (q i j)) (.int j) z else ae (.bl false)) Q:=w2
   cases hp:p i j with
   |false=>
    rw[hp] at w2
    exact WP.now w2 e2.fh rfl
   |true=>
    rw[hp] at w2
    refine⟨F2,ρ,(s.ext e1).ext e2,WP.mono (WP.bind w2) fun u' H3 ⟨F3,QG,e3,q3,w3⟩=>?_⟩
    exact Ay (K:=X.K) (gv:=fun i j=> .bl (q i j)) (gd:=fun i j=> .bl (q i j)) (fun _ _ _=>rfl) Xw F3 H3 u u' (.int j) QG Q e3.fh q2 q3 w3
  |_=>exact w2.elim
 |_=>exact w2.elim
def u_{op zm:CmpOp}{p q:Int->Int->Bool}(ho:OpR X (Ua op) (BY fun i j=> .bl (p i j)))(lM:OpR X (Ua zm) (BY fun i j=> .bl (q i j)))(ha:PD X Xw a δa)(hb:PD X Xw b δb)(hc:PD X Xw c δc)
 (hm:lastMarks [op,zm] [b,c]=false:=by with_unfolding_all rfl):PD X Xw (.Compare a [op,zm] [b,c] pos) (qX p q δa δb δc):=PE.weak (D8 ho lM ha hb hc hm) tJ
def Ek{op zm:CmpOp}{p q:Int->Int->Bool}(ho:OpR X (Ua op) (BY fun i j=> .bl (p i j)))(lM:OpR X (Ua zm) (BY fun i j=> .bl (q i j)))(ha:PD X Xw a δa)(hb:PD X Xw b δb)(hc:PD X Xw c δc)
 (hm:lastMarks [op,zm] [b,c]=false:=by with_unfolding_all rfl):mH X Xw (.Compare a [op,zm] [b,c] pos) (bH (qX p q δa δb δc)):=PT.weak (El ho lM ha hb hc hm) fun σ H Q ⟨F,ρ,s,w⟩=>by
 refine tJ σ H _ ⟨F,ρ,s,WP.mono (WPB.bind w) fun v H1 ⟨F1,d,e1,q1,w1⟩=>?_⟩
 cases d with
 |bl k=>exact⟨k,q1,w1 _ _ (Ext.refl e1.fh)⟩
 |_=>exact w1.elim
def v_(K:Tc)(r:List V->Hp->VK->Prop)(g:List D->M D):Prop:=∀(Xw:Nat->Hp->Prop) (F H:Hp) (vs:List V) (ds:List D) (Q:VK),Same F H->DenL K F ds vs->WP K Xw F H (g ds) Q->r vs H Q
variable{x:Str}{p:Pos}{e:Expr}{es:List Expr}{δs:DA}{id T:String}{r:List V->Hp->VK->Prop}{g:List D->M D}
def EK(h:v_ X.K r g):∀σ H Q,tD X.K Xw (dA g δs) σ H Q->O8 r (Qx X.K Xw δs) σ H Q:=fun σ H Q ⟨F,ρ,s,w⟩=>
 ⟨F,ρ,s,WPL.mono (WP.bindL w) fun vs H1 ⟨F1,ds,e1,q1,w1⟩=>h Xw F1 H1 vs ds Q e1.fh q1 w1⟩
def eR(hc:CallR X (.builtin id) r)(hd:v_ X.K r g)(hg:Gl X x)(hm:X.mg x=none)(hv:Ub x=some (.builtin id))(ha:kr X Xw (e::es) δs)(hn:x≠"__name__":=by decide)(kX:(x==("__debug__":Str))=false:=by decide)
 (he:To (e::es) X.env=(false,eval e X.env)::To es X.env:=by rfl)(kf:(UH pos (To es X.env)).any (·.1)=false:=by rfl):PD X Xw (.Call (.Name x p) (e::es) [] pos) (dA g δs):=
 PE.weak (D7 hc hg hm hv ha hn kX he kf) (EK hd)
def s9(hc:CallR X (.type T) r)(hd:v_ X.K r g)(hg:Gl X x)(hm:X.mg x=none)(hv:Ub x=some (.type T))(ha:kr X Xw (e::es) δs)(hn:x≠"__name__":=by decide)(kX:(x==("__debug__":Str))=false:=by decide)
 (he:To (e::es) X.env=(false,eval e X.env)::To es X.env:=by rfl)(kf:(UH pos (To es X.env)).any (·.1)=false:=by rfl):PD X Xw (.Call (.Name x p) (e::es) [] pos) (dA g δs):=
 PE.weak (tf hc hg hm hv ha hn kX he kf) (EK hd)
def bB:List D->M D
 |[.lst ds]=>ae (.int ds.length)
 |[.tup ds]=>ae (.int ds.length)
 |[.str x]=>ae (.int x.length)
 |[.scr ns]=>ae (.int ns.length)
 |_=>ah
def Bx:v_ X.K (fun xs H Q=>(∃p ys,xs=[.ref p]/\(SqL X.K H p ys\/SqT X.K H p ys)/\Q (.int ys.length) H)\/∃z,xs=[.str z]/\z.length<=Tz/\Q (.int z.length) H) bB:=fun Xw F H vs ds Q s h w=>by
 unfold bB at w
 split at w
 ·obtain⟨v,rfl,h1⟩:=h.one
  obtain⟨a,vs,rfl,h2,h3,_⟩:=h1
  exact .inl ⟨a,vs,rfl, .inl (SqL.of (s _ _ h2)),by rw[<-h3.len];exact WP.now w s rfl⟩
 ·obtain⟨v,rfl,h1⟩:=h.one
  obtain⟨a,vs,rfl,h2,h3,_⟩:=h1
  exact .inl ⟨a,vs,rfl, .inr (SqT.of (s _ _ h2)),by rw[<-h3.len];exact WP.now w s rfl⟩
 ·obtain⟨v,rfl,h1⟩:=h.one
  cases (show _=_ from h1.1)
  exact .inr ⟨_,rfl,by have:=h1.2;have:=eO;omega,WP.now w s rfl⟩
 ·obtain⟨v,rfl,h1⟩:=h.one
  obtain⟨a,rfl,h2,_⟩:=h1
  exact .inl ⟨a,_,rfl, .inl (Same.seq s h2),by rw[S6];exact WP.now w s rfl⟩
 ·exact w.elim
def cg(hg:Gl X "len")(hm:X.mg "len"=none)(ha:kr X Xw [e] δs)(he:To [e] X.env=[(false,eval e X.env)]:=by rfl):PD X Xw (.Call (.Name "len" p) [e] [] pos) (dA bB δs):=
 eR (ub.or uc) Bx hg hm PySem.boot_len ha (by decide) (by decide) he rfl
def Cm:List D->M D
 |[.int i]=>ae (.int (if i<0 then -i else i))
 |_=>ah
def zc:List D->M D
 |[.int i, .int j]=>ae (.int (if j>i then j else i))
 |_=>ah
def BC:List D->M D
 |[.int i, .int j]=>ae (.int (if j<i then j else i))
 |_=>ah
def DZ(hg:Gl X "abs")(hm:X.mg "abs"=none)(ha:kr X Xw [e] δs)(hb:Ub "abs"=some (.builtin "abs"))(he:To [e] X.env=[(false,eval e X.env)]:=by rfl):PD X Xw (.Call (.Name "abs" p) [e] [] pos) (dA Cm δs):=
 eR Cy (fun Xw F H vs ds Q s h w=>by
  unfold Cm at w
  split at w
  ·obtain⟨v,rfl,h1⟩:=h.one
   cases (show _=_ from h1)
   exact⟨_,rfl,WP.now w s rfl⟩
  ·exact w.elim) hg hm hb ha (by decide) (by decide) he rfl
end
def WP.xw{K:Tc}{Xw Xw':Nat->Hp->Prop}{F H:Hp}{m:M D}{Q:VK}(h:WP K Xw F H m Q)(k:∀n H,Xw n H->Xw' n H):WP K Xw' F H m Q:=by
 match m,h with
 |none,h=>exact h
 |some (.ok d),h=>exact h
 |some (.ex n),h=>exact fun F' H' e=>k n H' (h F' H' e)
def cW{X:Cx}{Xw:Nat->Hp->Prop}{st:Stmt}{τ:DS}(h:iq X.nox (fun _ _=>False) st τ):iq X Xw st (fun ρ=>noex (τ ρ)):=fun F₀ H₀ pins s σ H D I ⟨F,ρ,S,w⟩=>by
 have w:WPS X.K Xw F₀ H₀ (noex (τ ρ)) D:=w
 have w':tS X.K (fun _ _=>False) F₀ H₀ τ D σ H:=by
  refine⟨F,ρ,S,?_⟩
  rcases(τ ρ).cs with e | ⟨n,e⟩ | ⟨o,e⟩
  ·rw[e] at w;exact w.elim
  ·rw[e] at w;exact w.elim
  ·rw[e] at w⊢
   cases o with
   |nx ρ'=>exact w
   |rt d=>exact w
 refine Up (h F₀ H₀ pins s σ H D (I.wish _) w') (fun f s' q=>SP.unwish q) fun _ _ z=>z.elim
def EX(cv:Nat->Value)(Xw:Nat->Hp->Prop):XK:=fun c _ H=>∃n,c=cv n/\Xw n H
def Ci(K:Tc)(cv:Nat->Value)(k:Nat)(f:List D->M D):Sp:=fun vs H Q E=>∃F ds,Same F H/\DenL K F ds vs/\vs.length=k/\WP K (fun n H'=>E (cv n) none H') F H (f ds) Q
def cj(n:Nat)(τ:DS):List D->M D:=fun ds=>τ (ds.map (fun d=>some (Sl.fz d))++TB (n - ds.length) none)>>=fun o=>match o with
 | .nx _=>ae .non
 | .rt d=>ae d
section
variable{P:TM}{w:World}{K:Tc}{mg:Str->Option Value}{base:Heap}{CX:zR}{cv:Nat->Value}
def Ln{x qual:Str}{st:Stmt}{f:Addr}{fd:U1}{N ps:List Str}{k:Nat}{τ:DS}(Fn:Fun K x qual st f fd)(S:FnScope N ps (ai st))
 (ix:∀(bo:Value) (A:TY) (outer:List Env) (s:S7) (H:Hp) (E:XK),Room k (A.deeper (UA qual (ai st) s.heap.objs.size f bo))->
  PSDs (a_ CX P w K mg base N qual (ai st) f bo A outer s H E) (fun n H'=>E (cv n) none H') (aV st) τ):FnOk P w K mg base CX (k+1) f fd ps (Ci K cv ps.length (cj N.length τ)):=by
 obtain⟨oc,od,kV,doc,pm,an,bo,ct,Cg,rfl,lk,vW⟩:=Fn.ex
 refine Ht lk vW S (fun vs H Q E ⟨_,_,_,_,hl,_⟩=>hl) fun A outer s H vs Q E hr vY=>?_
 obtain⟨F,ds,fh,hd,hl,hw⟩:=vY
 refine⟨_,ix bo A outer s H E hr F H,F,ds.map (fun d=>some (Sl.fz d))++TB (N.length - ds.length) none,⟨Ext.refl fh,⟨fh,fun i sl e=>?_⟩,?_,fun i c a e=>?_,fun i j c c' a e=>?_⟩,?_⟩
 ·have hlen:=hd.len
  by_cases hi:i<ds.length
  ·rw[T6 (by simpa using hi),Tu] at e
   cases q:ds[i]? with
   |none=>rw[q] at e;cases e
   |some d=>
    rw[q] at e
    cases e
    obtain⟨v,e1,e2⟩:=hd.get q
    refine⟨v,?_,e2⟩
    unfold L2.start
    rw[T6 (by simp;omega),Tu,e1]
    rfl
  ·rw[T7 (by simpa using hi),Uw] at e
   split at e<;>cases e
 ·have hlen:=hd.len
  unfold L2.start
  simp[hlen]
 ·exfalso
  by_cases hi:i<ds.length
  ·rw[T6 (by simpa using hi),Tu] at e
   cases q:ds[i]? with
   |none=>rw[q] at e;cases e
   |some d=>rw[q] at e;cases e
  ·rw[T7 (by simpa using hi),Uw] at e
   split at e<;>cases e
 ·exfalso
  by_cases hi:i<ds.length
  ·rw[T6 (by simpa using hi),Tu] at e
   cases q:ds[i]? with
   |none=>rw[q] at e;cases e
   |some d=>rw[q] at e;cases e
  ·rw[T7 (by simpa using hi),Uw] at e
   split at e<;>cases e
 ·have hw:WP K (fun n H'=>E (cv n) none H') F H (τ (ds.map (fun d=>some (Sl.fz d))++TB (N.length - ds.length) none)>>=fun o=>match o with | .nx _=>ae .non | .rt d=>ae d) Q:=hw
  rcases(τ (ds.map (fun d=>some (Sl.fz d))++TB (N.length - ds.length) none)).cs with e | ⟨n,e⟩ | ⟨o,e⟩
  ·rw[e] at hw;exact hw.elim
  ·rw[e] at hw⊢;exact hw
  ·rw[e] at hw⊢
   cases o with
   |nx ρ'=>exact fun σ' F' H' s'=>hw .non H' F' s'.ext rfl
   |rt d=>exact fun v F' H' e' q=>hw v H' F' e' q
end
section
variable{X:Cx}{Xw:Nat->Hp->Prop}{CX:zR}{cv:Nat->Value}{k m:Nat}{f:Addr}{fd:U1}{ps:List Str}{g:List D->M D}{x:Str}{p pos:Pos}{e:Expr}{es:List Expr}{δs:DA}
def Gs(F:FnOk X.prog X.w X.K X.mg X.base CX k f fd ps (Ci X.K cv m g))(hr:Room k X.A)(hg:Gl X x)(hm:X.mg x=some (.ref f))(hk:Ux X.K (.ref f)=true)(hb:Binds X.K fd ps [])(hx:Passes CX X (EX cv Xw))
 (ha:kr X Xw (e::es) δs)(hl:(e::es).length=m)(kX:(x==("__debug__":Str))=false:=by decide)(he:To (e::es) X.env=(false,eval e X.env)::To es X.env:=by rfl)(kf:(UH pos (To es X.env)).any (·.1)=false:=by rfl):
 PD X Xw (.Call (.Name x p) (e::es) [] pos) (fun ρ=>δs ρ>>=fun ds=>if ds.length=m then g ds else ah):=PE.weak (GH F hr hg hm hk hb .nil hx ha kX he kf) fun σ H Q ⟨F,ρ,s,w⟩=>by
 refine⟨F,ρ,s,WPL.mono (WP.bindL w) fun vs H1 ⟨F1,ds,e1,q1,w1⟩=>?_⟩
 split at w1
 ·rename_i Dh
  refine⟨F1,ds,e1.fh,by simpa using q1,by rw[T9,<-q1.len];exact Dh,WP.xw w1 fun n H h=>⟨n,rfl,h⟩⟩
 ·exact w1.elim
def vb{x:Str}{d:D}{v:V}{u:Value}(hg:Gl X x)(hm:X.mg x=some u)(r:RelV v u)(hd:∀F,Den X.K F d v)(kX:(x==("__debug__":Str))=false:=by decide):PD X Xw (.Name x pos) (dC d):=
 iF (vc hg hm r kX) hd
end
def obj_some{P:TM}{w:World}{H:Hp}{h:Heap}{a:Addr}{o:HO}(x:ObjOk P w H h a o):∃ob,h.get? a=some ob:=by
 cases o with
 |lst xs=>obtain⟨_,_,_,_,e⟩:=x;exact⟨_,e⟩
 |tup xs=>obtain⟨_,_,_,ob,e,_⟩:=x;exact⟨_,e⟩
 |dK aK=>obtain⟨_,_,_,_,o,_,_,e,_⟩:=x;exact⟨_,e⟩
 |dT aK=>obtain⟨_,_,_,_,o,_,_,e,_⟩:=x;exact⟨_,e⟩
 |set S n=>obtain⟨o,_,_,_,e,_⟩:=x;exact⟨_,e⟩
 |ins C dx fs=>obtain⟨_,_,_,e,_⟩:=x;exact⟨_,e⟩
 |own y=>obtain⟨_,e⟩:=x;exact⟨_,e⟩
 |xd fs=>obtain⟨_,⟨_,_,_,e,_⟩,_⟩:=x;exact⟨_,e⟩
 |rng lo hi=>obtain⟨_,_,_,e⟩:=x;exact⟨_,e⟩
 |frz ob u=>obtain⟨e,_⟩:=x;exact⟨_,e⟩
 |tbl ps=>exact⟨_,(show h.get? a=some _ from x)⟩
 |met f y=>exact⟨_,(show h.get? a=some _ from x)⟩
 |ext φ=>obtain⟨_,⟨_,e⟩,_⟩:=x;exact⟨_,e⟩
def cT(P:TM)(w:World)(cv:Nat->Value):zR:=fun outer H s E e s'=>∃(ea:Addr) (n:Nat) (a0:Value) (B:Heap) (H':Hp),e= .ref ea/\s'.os=s.os/\W9 s'.gens/\HOk P w H' s'.heap/\Un (hZ outer) [] H H' s.heap s'.heap/\
 Heap.FlyingW B outer ea (cv n) a0 s'.heap/\(∀b o,s'.heap.get? b=some o->(H' b≠none\/(s.heap.get? b).isSome=true)->b∉hZ outer->B.get? b=some o)/\E (cv n) none H'
section
variable{P:TM}{w:World}{fs:List Addr}{H₀ H:Hp}{h₀ h h':Heap}
def vM(u:Un fs [] H₀ H h₀ h)(ka:∀b o,h.get? b=some o->b∉fs->(H b≠none\/(h₀.get? b).isSome=true)->h'.get? b=some o)(kb:∀b o,h.get? b=some o->b∈fs->∃sl,h'.get? b=some {o with slots:=sl}):Un fs [] H₀ H h₀ h' where
 keep:=fun b o e n hb hx=>ka b o (u.keep b o e n hb hx) hb (.inr (by rw[e];rfl))
 slot:=fun b o e n hb hx=>by
  obtain⟨sl,q⟩:=u.slot b o e n hb hx
  obtain⟨G9,q'⟩:=kb b _ q hb
  exact⟨G9,q'⟩
 free:=u.free
 there:=fun b o e hx=>by
  obtain⟨o',q⟩:=u.there b o e hx
  by_cases hb:b∈fs
  ·obtain⟨sl,q'⟩:=kb b _ q hb
   exact⟨_,q'⟩
  ·exact⟨o',ka b o' q hb (.inr (by rw[e];rfl))⟩
 tups:=u.tups
 frzs:=u.frzs
 tbls:=u.tbls
def pN(x:HOk P w H h)(hf:∀b∈fs,H b=none)(ka:∀b o,h.get? b=some o->b∉fs->H b≠none->h'.get? b=some o):HOk P w H h':=fun a o e=>by
 refine(x a o e).stay (fun b u hb q=>ka b u q (fun z=>?_) ?_) (fun _ q=>q) fun _ _ q=>q
 ·have hz:=hf b z
  rcases hb with rfl | hb
  ·rw[hz] at e;cases e
  ·rw[hz] at hb;cases hb
 ·rcases hb with rfl | hb
  ·rw[e];exact fun z=>nomatch z
  ·rw[hb];exact fun z=>nomatch z
end
section
variable{P:TM}{w:World}{K:Tc}{mg:Str->Option Value}{base:Heap}{N:List Str}{qual:Str}{scope:Scope}{f:Addr}{cd:Value}{A:TY}{outer:List Env}{s₀:S7}{H₀:Hp}{E:XK}{cv:Nat->Value}
def bC:Passes (cT P w cv) (a_ (cT P w cv) P w K mg base N qual scope f cd A outer s₀ H₀ E) (EX cv fun n H'=>E (cv n) none H'):=by
 intro pins σ H s e s' I ⟨ea,n,a0,B,H',he,Bh,hg,hok,un,Bc,hB,m,hm,hE⟩
 subst he
 have yU:((a_ (cT P w cv) P w K mg base N qual scope f cd A outer s₀ H₀ E)).env.locals=s₀.heap.objs.size:=rfl
 have uv:hZ ((a_ (cT P w cv) P w K mg base N qual scope f cd A outer s₀ H₀ E)).stack=s₀.heap.objs.size::hZ outer:=rfl
 show wpAny (model P w) (A.deeper (UA qual scope s₀.heap.objs.size f cd)) (leaving (UA qual scope s₀.heap.objs.size f cd) (.ref ea)) _ _ s'
 refine wpAny_leaves_onW (base:=B) (outer:=outer) (L:=s₀.heap.objs.size) I.ok.frames rfl Bc fun h' Iz ups=>?_
 have Cf:∀b∈hZ ((a_ (cT P w cv) P w K mg base N qual scope f cd A outer s₀ H₀ E)).stack,H' b=none:=fun b hb=>by
  obtain⟨o,ho⟩:∃o,s.heap.get? b=some o:=by
   obtain⟨_,o,ho,_⟩:=I.stack.mem hb
   exact⟨o,ho⟩
  exact un.free b o ho (I.stkFree b hb) (by simp)
 have lQ:∀b o,s'.heap.get? b=some o->b∉hZ ((a_ (cT P w cv) P w K mg base N qual scope f cd A outer s₀ H₀ E)).stack->(H' b≠none\/(s.heap.get? b).isSome=true)->h'.get? b=some o:=fun b o e hb hc=>Iz.1 b o (hB b o e hc hb)
 have unA:Un (hZ outer) [] H₀ H' s₀.heap s'.heap:=by
  have u1:Un (hZ outer) [] H₀ H s₀.heap s.heap:=I.base
  refine⟨fun b o e nn hb hx=>?_,fun b o e nn hb hx=>?_,fun b o e nn hx=>?_,fun b o e hx=>?_,fun b xs q=>un.tups b xs (u1.tups b xs q),fun b o u q=>un.frzs b o u (u1.frzs b o u q),fun b ps q=>?_⟩
  ·refine un.keep b o (u1.keep b o e nn hb hx) (u1.free b o e nn hx) (fun z=>?_) (by simp)
   rw[uv] at z
   rcases Th.mp z with z | z
   ·exact absurd (Tq e) (by rw[z];exact Uk _)
   ·exact hb z
  ·obtain⟨sl,q⟩:=u1.slot b o e nn hb hx
   obtain⟨G9,q'⟩:=un.slot b _ q (u1.free b o e nn hx) (by rw[uv];exact S9 _ hb) (by simp)
   exact⟨G9,q'⟩
  ·obtain⟨o',q⟩:=u1.there b o e hx
   exact un.free b o' q (u1.free b o e nn hx) (by simp)
  ·obtain⟨o',q⟩:=u1.there b o e hx
   exact un.there b o' q (by simp)
  ·obtain⟨m1,q1⟩:=u1.tbls b ps q
   obtain⟨m2,q2⟩:=un.tbls b _ q1
   exact⟨m1++m2,by rw[q2,W8]⟩
 have Qd:∀b,(s₀.heap.get? b).isSome=true->(s.heap.get? b).isSome=true:=fun b hb=>by
  obtain⟨o,ho⟩:=Uc.mp hb
  obtain⟨o',q⟩:=(show Un (hZ outer) [] H₀ H s₀.heap s.heap from I.base).there b o ho (by simp)
  rw[q];rfl
 have BE:∀b,(s₀.heap.get? b).isSome=true->b≠s₀.heap.objs.size:=fun b hb z=>by
  obtain⟨o,ho⟩:=Uc.mp hb
  exact absurd (Tq ho) (by rw[z];exact Uk _)
 have DJ:∀b,b∉hZ outer->(H' b≠none\/(s₀.heap.get? b).isSome=true)->b∉hZ ((a_ (cT P w cv) P w K mg base N qual scope f cd A outer s₀ H₀ E)).stack:=fun b hb hc z=>by
  rcases hc with hc | hc
  ·exact hc (Cf b z)
  ·rw[uv] at z
   rcases Th.mp z with z | z
   ·exact BE b hc z
   ·exact hb z
 refine⟨ea,n,a0,B,H',rfl,Bh.trans I.os,hg,pN hok Cf (fun b o e hb hc=>lQ b o e hb (.inl hc)),vM unA (fun b o e hb hc=>lQ b o e (DJ b hb hc) (hc.imp id (Qd b))) (fun b o e hb=>?_),Iz,fun b o e hc hb=>?_,?_⟩
 ·obtain⟨_,o',lM,hd⟩:=Bc.2.2.1.mem (show b∈hZ ((a_ (cT P w cv) P w K mg base N qual scope f cd A outer s₀ H₀ E)).stack by rw[uv];exact S9 _ hb)
  rw[e] at lM
  cases lM
  exact ups b o e hd
 ·have yx:=DJ b hb hc
  obtain⟨o',lM⟩:∃o',s'.heap.get? b=some o':=by
   rcases hc with hc | hc
   ·cases q:H' b with
    |none=>exact absurd q hc
    |some u=>
     exact obj_some (hok b u q)
   ·obtain⟨o1,h1⟩:=Uc.mp hc
    exact unA.there b o1 h1 (by simp)
  have:=hB b o' lM (hc.imp id (Qd b)) yx
  rw[Iz.1 b o' this] at e
  cases e
  exact this
 ·rw[hm];exact hE
def Hl(X:Cx)(cv:Nat->Value)(Xw:Nat->Hp->Prop):Prop:=∀(n:Nat) (pins:List (Addr×Obj)) (σ:St) (H:Hp) (s:S7) (h':Heap) (ea:Addr) (args:List Value),Inv X pins σ H s->Heap.MadeExcOf s.heap h' ea (cv n) args->Xw n H->X.xe (.ref ea) {s with heap:=h'}
def Dz:Hl (a_ (cT P w cv) P w K mg base N qual scope f cd A outer s₀ H₀ E) cv (fun n H'=>E (cv n) none H'):=by
 intro n pins σ H s hh ea args I hx hE
 have uv:hZ ((a_ (cT P w cv) P w K mg base N qual scope f cd A outer s₀ H₀ E)).stack=s₀.heap.objs.size::hZ outer:=rfl
 have yy:∀env∈((a_ (cT P w cv) P w K mg base N qual scope f cd A outer s₀ H₀ E)).stack,∀b,env.frame=some b->b∈hZ ((a_ (cT P w cv) P w K mg base N qual scope f cd A outer s₀ H₀ E)).stack:=fun env he b hb=>Xb.mpr ⟨env,he,hb⟩
 have stays:(VW s.heap (hZ ((a_ (cT P w cv) P w K mg base N qual scope f cd A outer s₀ H₀ E)).stack)).StaysIn s.heap:=fun b o q=>YG _ q
 show wpAny (model P w) (A.deeper (UA qual scope s₀.heap.objs.size f cd)) (leaving (UA qual scope s₀.heap.objs.size f cd) (.ref ea)) _ _ _
 refine wpAny_leaves_madeW (base:=VW s.heap (hZ ((a_ (cT P w cv) P w K mg base N qual scope f cd A outer s₀ H₀ E)).stack)) (h:=s.heap) (outer:=outer) (L:=s₀.heap.objs.size) I.ok.frames rfl stays (PySem.W.funFrames_hide I.stack yy) hx fun h' t Bc _ _ ups=>?_
 have hB:∀b o,s.heap.get? b=some o->b∉hZ ((a_ (cT P w cv) P w K mg base N qual scope f cd A outer s₀ H₀ E)).stack->(VW s.heap (hZ ((a_ (cT P w cv) P w K mg base N qual scope f cd A outer s₀ H₀ E)).stack)).get? b=some o:=fun b o e hb=>Yx _ e hb
 have lQ:∀b o,s.heap.get? b=some o->b∉hZ ((a_ (cT P w cv) P w K mg base N qual scope f cd A outer s₀ H₀ E)).stack->h'.get? b=some o:=fun b o e hb=>Bc.1 b o (hB b o e hb)
 have u1:Un (hZ outer) [] H₀ H s₀.heap s.heap:=I.base
 have BE:∀b,(s₀.heap.get? b).isSome=true->b≠s₀.heap.objs.size:=fun b hb z=>by
  obtain⟨o,ho⟩:=Uc.mp hb
  exact absurd (Tq ho) (by rw[z];exact Uk _)
 have DJ:∀b,b∉hZ outer->(H b≠none\/(s₀.heap.get? b).isSome=true)->b∉hZ ((a_ (cT P w cv) P w K mg base N qual scope f cd A outer s₀ H₀ E)).stack:=fun b hb hc z=>by
  rcases hc with hc | hc
  ·exact hc (I.stkFree b z)
  ·rw[uv] at z
   rcases Th.mp z with z | z
   ·exact BE b hc z
   ·exact hb z
 refine⟨ea,n, .ref t,VW s.heap (hZ ((a_ (cT P w cv) P w K mg base N qual scope f cd A outer s₀ H₀ E)).stack),H,rfl,I.os,I.bare,pN I.hok I.stkFree (fun b o e hb hc=>lQ b o e hb),vM u1 (fun b o e hb hc=>lQ b o e (DJ b hb hc)) (fun b o e hb=>?_),Bc,fun b o e hc hb=>?_,hE⟩
 ·obtain⟨_,o',lM,hd⟩:=I.stack.mem (show b∈hZ ((a_ (cT P w cv) P w K mg base N qual scope f cd A outer s₀ H₀ E)).stack by rw[uv];exact S9 _ hb)
  rw[e] at lM
  cases lM
  exact ups b o (hx.keeps b o e) hd
 ·obtain⟨o',lM⟩:∃o',s.heap.get? b=some o':=by
   rcases hc with hc | hc
   ·cases q:H b with
    |none=>exact absurd q hc
    |some u=>exact obj_some (I.hok b u q)
   ·obtain⟨o1,h1⟩:=Uc.mp hc
    exact u1.there b o1 h1 (by simp)
  have yx:=DJ b hb hc
  rw[lQ b o' lM yx] at e
  cases e
  exact hB b o lM yx
end
section
variable{X:Cx}{Xw:Nat->Hp->Prop}{cv:Nat->Value}{n:Nat}{C:Addr}{x:Str}{np bP pos:Pos}{e:Expr}{es:List Expr}{δs:DA}{bm:List Value}{B newId Je:String}
def m8(O:OwnCls x C bm newId X.mg X.base)(FB:ExcBaseFacts B newId Je bm)(hg:Gl X x)(hc:X.calm=true)(Lv:cv n= .ref C)(hx:Hl X cv Xw)(ha:kr X Xw (e::es) δs)(kX:(x==("__debug__":Str))=false:=by decide)
 (he:To (e::es) X.env=(false,eval e X.env)::To es X.env:=by rfl)(kf:(UH bP (To es X.env)).any (·.1)=false:=by rfl):
 iq X Xw (.Raise (some (.Call (.Name x np) (e::es) [] bP)) none pos) (fun ρ=>δs ρ>>=fun ds=>if ds.length<=lim then bz n else ah):=fun F₀ H₀ pins s σ H D I ⟨F,ρ,S,w⟩=>by
 obtain⟨tl,Nn,nm,q,bs,hdct,sn,sub,ab,col,dd,k0,k1,k2,k3,k5,mN,hC,hN,RI,T⟩:=O.obj
 refine wpAny_Raise_call_subT (C:=C) (nm:=nm) (q:=q) (N:=Nn) (bs:=bs) (bm:=tl) (hdct:=hdct) (sn:=sn) (sub:=sub) (ab:=ab) (col:=col) (dd:=dd) (k0:=k0) (k1:=k1) (k2:=k2) (k3:=k3) (k5:=k5)
  FB (mN:=mN) (T.hasType FB.hasBase) (I.ok.hd hc) (by rw[he];show (false||(UH bP (To es X.env)).any (·.1))=false;rw[kf];rfl) RI (lT I hg O.bound ⟨rfl,?_⟩ kX)
 have w:WPS X.K Xw F₀ H₀ (δs ρ>>=fun ds=>if ds.length<=lim then bz n else ah) D:=w
 have hA:=ha bP pins s σ H (fun vs H1=>vs.length<=lim/\Xw n H1) I ⟨F,ρ,S.st,by
  rcases(δs ρ).cs with q | ⟨m,q⟩ | ⟨ds,q⟩
  ·rw[q] at w;exact w.elim
  ·rw[q] at w⊢;exact fun F' H' e'=>w F' H' (S.ext.trans e')
  ·rw[q] at w⊢
   intro vs H' F' e' hd
   have w:WPS X.K Xw F₀ H₀ (if ds.length<=lim then bz n else ah) D:=w
   split at w
   ·rename_i hl
    exact⟨by rw[<-hd.len];exact hl,w F' H' (S.ext.trans e')⟩
   ·exact w.elim⟩
 rw[he] at hA⊢
 refine VU (cJ hA fun us s₂ ⟨vs,H1,I1,r,hl,hX⟩=>⟨rfl,by rw[<-r.length];have:=eO;omega,I1.bk _ _ hC,hN.keeps I1.bk,T.keeps I1.bk,fun h' ea hm=>hx n pins σ H1 s₂ h' ea us I1 (by rw[Lv];exact hm) hX⟩)
end
def HH:D->Option String
 | .non=>some "NoneType"
 | .bl _=>some "bool"
 | .int _=>some "int"
 | .str _=>some "str"
 | .tup _=>some "tuple"
 | .lst _=>some "list"
 |_=>none
def Jh(k T:String):Option Bool:=if T="str"\/T="int"\/T="bool"\/T="tuple"\/T="list" then some (decide (k=T)||(decide (k="bool")&&decide (T="int"))) else none
def fX:List D->M D
 |[d, .raw (.ty T)]=>match HH d with
  |some k=>match Jh k T with
   |some b=>ae (.bl b)
   |none=>ah
  |none=>ah
 |_=>ah
def Jq{K:Tc}{k T:String}{b:Bool}(hk:k="NoneType"\/k="bool"\/k="int"\/k="str"\/k="tuple"\/k="list")(h:Jh k T=some b):Tp K (.type k) (.type T)=some b:=by
 unfold Jh at h
 split at h
 ·rename_i hT
  cases h
  rcases hk with rfl | rfl | rfl | rfl | rfl | rfl<;>rcases hT with rfl | rfl | rfl | rfl | rfl<;>with_unfolding_all rfl
 ·cases h
section
variable{X:Cx}{Xw:Nat->Hp->Prop}{a b e e2:Expr}{δs:DA}{pos p:Pos}
def MA(K:Tc):List V->Hp->VK->Prop:=fun xs H Q=>∃x T t b,xs=[x, .ty T]/\TyOf K H x t/\Tp K t (.type T)=some b/\Q (.bl b) H
def Cz:CallR X (.builtin "isinstance") (MA X.K):=by
 intro pins s σ H xs us Q I r h
 obtain⟨x,T,t,b,rfl,ty,e,q⟩:=h
 obtain⟨u,w',rfl,r1,r2⟩:=vals2 r
 cases (show w'=_ from r2)
 exact Bp I r1 ty e fun tk=>⟨.bl b,H,I.tok tk,rfl,q⟩
def EU{K:Tc}{F H:Hp}{d:D}{v:V}{k:String}(s:Same F H)(h:Den K F d v)(hk:HH d=some k):TyOf K H v (.type k)/\(k="NoneType"\/k="bool"\/k="int"\/k="str"\/k="tuple"\/k="list"):=by
 cases d with
 |non=>cases hk;cases (show _=_ from h);exact⟨.non, .inl rfl⟩
 |bl x=>cases hk;cases (show _=_ from h);exact⟨.bl x, .inr (.inl rfl)⟩
 |int x=>cases hk;cases (show _=_ from h);exact⟨.int x, .inr (.inr (.inl rfl))⟩
 |str x=>cases hk;cases (show _=_ from h.1);exact⟨.str x, .inr (.inr (.inr (.inl rfl)))⟩
 |tup x=>cases hk;obtain⟨a,vs,rfl,h2,_⟩:=h;exact⟨.tup (s _ _ h2), .inr (.inr (.inr (.inr (.inl rfl))))⟩
 |lst x=>cases hk;obtain⟨a,vs,rfl,h2,_⟩:=h;exact⟨.lst (s _ _ h2), .inr (.inr (.inr (.inr (.inr rfl))))⟩
 |_=>cases hk
def Bo{K:Tc}:v_ K (MA K) fX:=fun Xw F H vs ds Q s h w=>by
 unfold fX at w
 split at w
 ·rename_i d T
  obtain⟨v,v',rfl,h1,h2⟩:=h.two
  cases (show _=_ from h2)
  split at w
  ·rename_i k hk
   split at w
   ·rename_i b hb
    obtain⟨ty,Nh⟩:=EU s h1 hk
    exact⟨v,T, .type k,b,rfl,ty,Jq Nh hb,WP.now w s rfl⟩
   ·exact w.elim
  ·exact w.elim
 ·exact w.elim
def ij(hg:Gl X "isinstance")(hm:X.mg "isinstance"=none)(hb:Ub "isinstance"=some (.builtin "isinstance"))(ha:kr X Xw [e,e2] δs)(he:To [e,e2] X.env=(false,eval e X.env)::To [e2] X.env:=by rfl)
 (kf:(UH pos (To [e2] X.env)).any (·.1)=false:=by rfl):PD X Xw (.Call (.Name "isinstance" p) [e,e2] [] pos) (dA fX δs):=
 eR Cz Bo hg hm hb ha (by decide) (by decide) he kf
def jM{x:Str}{T:String}(hg:Gl X x)(hm:X.mg x=none)(hv:Ub x=some (.type T))(hn:x≠"__name__":=by decide)(hd:(x==("__debug__":Str))=false:=by decide):PD X Xw (.Name x pos) (dC (.raw (.ty T))):=
 iF (v:= .ty T) (GG hg hm hv (show RelV (.ty T) (.type T) from rfl) hn hd) fun _=>rfl
def bools:List D->Option (List Bool)
 |[]=>some []
 | .bl b::r=>(bools r).map (b:: ·)
 |_=>none
def allM:List D->M D
 |[.lst ds]=>match bools ds with
  |some bs=>ae (.bl (bs.all id))
  |none=>ah
 |_=>ah
def j9{K:Tc}{F:Hp}:∀{ds:List D}{vs:List V}{bs:List Bool},bools ds=some bs->DenL K F ds vs->vs=bs.map V.bl
 |[],_,_,e,h=>by cases e;exact h
 | .bl b::r,_,_,e,⟨v,r',h1,h2,h3⟩=>by
   unfold bools at e
   cases q:bools r with
   |none=>rw[q] at e;cases e
   |some bs=>rw[q] at e;cases e;subst h1;rw[j9 q h3,show v= .bl b from h2];rfl
 | .non::_,_,_,e,_=>by cases e
 | .int _::_,_,_,e,_=>by cases e
 | .str _::_,_,_,e,_=>by cases e
 | .raw _::_,_,_,e,_=>by cases e
 | .exc _::_,_,_,e,_=>by cases e
 | .scr _::_,_,_,e,_=>by cases e
 | .tup _::_,_,_,e,_=>by cases e
 | .lst _::_,_,_,e,_=>by cases e
def o_:∀{bs:List Bool}{aR:List Value},Vals (bs.map V.bl) aR->aR=bs.map U3
 |[],_,r=>by cases r;rfl
 |b::bs,_,r=>by
  cases r with
  |cons r1 r2=>cases (show _=_ from r1);rw[o_ r2];rfl
def OU:List V->Hp->VK->Prop:=fun xs H Q=>∃(a:Addr) (bs:List Bool),xs=[.ref a]/\H a=some (.lst (bs.map V.bl))/\Q (.bl (bs.all id)) H
def all_range{bs:List Bool}:(Um bs.length).all (fun i=>bs.getD i false)=bs.all id:=by
 induction bs with
 |nil=>rfl
 |cons b bs ih=>
  rw[Tj,Yy,UR,Vu,UR]
  congr 1
def A0(hc:X.calm=true):CallR X (.builtin "all") OU:=by
 intro pins s σ H xs us Q I r h
 obtain⟨a,bs,rfl,hH,q⟩:=h
 obtain⟨u,rfl,r1⟩:=vals1 r
 cases (show u=_ from r1)
 obtain⟨aR,r2,pl,hz⟩:=I.list (SqL.of (K:=X.K) hH)
 obtain rfl:=o_ r2
 have nK:a≠s.heap.objs.size:=TR (I.hok.lt hH)
 refine call_all_walk (XQ pl.isList ?_)
 refine⟨s.heap.objs.size,_,_,_,_,_,fun i=>bs.getD i false,rfl,Walks.list (A:=X.A.in1) (show X.A.in1.handled=none from I.ok.hd hc) s.heap.objs.size a nK (bs.map U3).toArray,⟨⟨_,Tt _ rfl,rfl,rfl⟩,Heap.IsList.at pl.isList fun o e=>S_ _ e⟩,?_,fun h' tk k=>?_⟩
 ·intro i v s' Q' E' hv hq
  have hv:(bs.map U3).toArray[i]? =some v:=hv
  rw[List.getElem?_toArray,Tu] at hv
  cases q':bs[i]? with
  |none=>rw[q'] at hv;cases hv
  |some b=>
   rw[q'] at hv
   cases hv
   have:bs.getD i false=b:=by rw[TU,q'];rfl
   have hq:Q' (bs.getD i false) s':=hq
   rw[this] at hq
   exact UD hq
 ·have e:(Um (bs.map U3).toArray.size).all (fun i=>bs.getD i false)=bs.all id:=by
   rw[Td,S6];exact all_range
  rw[e]
  refine⟨.bl (bs.all id),H,I.kept (h':=h') (t':=tk) fun b o e'=>k b o (fun z=>?_) (S_ _ e'),rfl,q⟩
  have z:b=s.heap.objs.size:=by simpa using z
  exact absurd (Tq e') (by rw[z];exact Uk _)
def lj(hc:X.calm=true)(hg:Gl X "all")(hm:X.mg "all"=none)(hb:Ub "all"=some (.builtin "all"))(ha:kr X Xw [e] δs)(he:To [e] X.env=[(false,eval e X.env)]:=by rfl):PD X Xw (.Call (.Name "all" p) [e] [] pos) (dA allM δs):=
 eR (A0 hc) (fun Xw F H vs ds Q s h w=>by
  unfold allM at w
  split at w
  ·rename_i ds
   obtain⟨v,rfl,h1⟩:=h.one
   obtain⟨a,ws,rfl,h2,h3,_⟩:=h1
   split at w
   ·rename_i bs hb
    exact⟨a,bs,rfl,by rw[<-j9 hb h3];exact s _ _ h2,WP.now w s rfl⟩
   ·exact w.elim
  ·exact w.elim) hg hm hb ha (by decide) (by decide) he rfl
end
section
variable{X:Cx}{Xw:Nat->Hp->Prop}{a b e e2:Expr}{δ δa δb:DE}{pos p apos bP:Pos}
def Hd{i:Nat}:∀F₀ H₀ D σ H,tS X.K Xw F₀ H₀ (fQ i δ) D σ H->H8 (Qw X.K "list" AI (vK i) (H0 (tD X.K Xw δ) MP)) D σ H:=fun F₀ H₀ D σ H ⟨F,ρ,s,w⟩=>by
 unfold fQ at w
 cases ho:zq ρ i with
 |none=>rw[ho] at w;exact w.elim
 |some ds=>
  rw[ho] at w
  have hi:=sU ho
  obtain⟨v,hv,a,o,rfl,hH,hF,vs,rfl,hd,hl⟩:=s.st.den i _ hi
  have w:WPS X.K Xw F₀ H₀ (δ ρ>>=fun d=>if ds.length<lim then ae (.nx (ρ.set i (some (.ow (.lst (ds++[d])))))) else ah) D:=w
  refine⟨.ref a,hv, .inl ⟨rfl,vs,SqL.of hH⟩,F,ρ,s.st,?_⟩
  rcases(δ ρ).cs with q | ⟨n,q⟩ | ⟨d,q⟩
  ·rw[q] at w;exact w.elim
  ·rw[q] at w⊢;exact fun F' H' e'=>w F' H' (s.ext.trans e')
  ·rw[q] at w⊢
   intro u H1 F1 e1 hq
   have w:WPS X.K Xw F₀ H₀ (if ds.length<lim then ae (.nx (ρ.set i (some (.ow (.lst (ds++[d])))))) else ah) D:=w
   split at w
   ·rename_i lD
    have hlen:=hd.len
    refine⟨a,vs,u,rfl,rfl,e1.hh _ _ hH,by have:=eO;omega,?_⟩
    exact w σ F1 _ ((s.ext' e1).chg (c₀:= .lst (ds++[d])) hi hv ⟨_,rfl,DenL.append (DenL.mono e1.ff hd) (.cons hq .nil),by rw[Ti];exact lD⟩)
   ·exact w.elim
def fF{i:Nat}{x:Str}(hv:PE X (.Name x p) (vK i))(he:PD X Xw e δ)(hs:Xx (.Call (.Attribute (.Name x p) "append" apos) [e] [] bP) none pos.line X.env=pure false:=by rfl)
 (jx:Vp (.Name x p) "append" X.env (eval (.Name x p) X.env)=eval (.Name x p) X.env:=by rfl)
 (pM:((UH bP (To [e] X.env)).all (fun x=>!x.1)&&(WK bP (VF [] X.env)).all (fun x=>x.1.isSome)&&decide ([e].length+([]:List VO).length+(if ([]:List VO).isEmpty then 0 else 1)<30))=true:=by rfl)
 (jy:(apos.endLine==bP.line)=true:=by rfl)(Aj:To [e] X.env=[(false,eval e X.env)]:=by rfl):iq X Xw (.Expr (.Call (.Attribute (.Name x p) "append" apos) [e] [] bP) pos) (fQ i δ):=fun F₀ H₀=>
 PS.weak (AG (HU We PySem.F.slot_list_append PySem.F.type_list_append sO hv (o3 he uZ Aj) jx pM jy Aj rfl) hs) fun D σ H w=>Hd F₀ H₀ D σ H w
def DR:OpR X (V6 .Add) (fun x y H Q=>∃a b ys,x= .ref a/\y= .ref b/\SqT X.K H a []/\SqT X.K H b ys/\Q (.ref b) H):=by
 intro pins s σ H x y v u Q I rx ry h
 obtain⟨a,b,ys,rfl,rfl,ha,hb,q⟩:=h
 cases rx
 cases ry
 obtain⟨aR,r1,p1,_⟩:=I.tuple ha
 obtain⟨eF,r2,p2,_⟩:=I.tuple hb
 cases r1
 obtain⟨⟨cls,dd,data,sl⟩,ho,hc,n,hd⟩:=id p1
 obtain⟨⟨Lb,CJ,data2,HX⟩,E8,Dc,n2,hd2⟩:=id p2
 simp only at hc hd Dc hd2
 subst hc hd Dc hd2
 exact concat_meets ⟨_,ho,rfl⟩ ⟨_,E8,rfl⟩ Yg Y4 Wk Wf (V7 _ _)
  (tuple_addW0 a b _ _ n n2 dd CJ sl HX (by simp)) ⟨ho,E8,⟨.ref b,H,I,rfl,q⟩⟩
def wO:D->D->M D
 | .tup x, .tup y=>if x.length+y.length<=lim then ae (.tup (x++y)) else ah
 |_,_=>ah
def Gu(ha:PD X Xw a δa)(hb:PD X Xw b δb):PD X Xw (.BinOp a .Add b pos) (d2 wO δa δb):=qx (DR.or Gi) (fun Xw F H x y dx dy Q s hx hy w=>by
 unfold wO at w
 split at w
 ·rename_i i j
  obtain⟨a,vs,h1,h2,h3,h4⟩:=hx
  obtain⟨a',EV,k1,k2,k3,k4⟩:=hy
  split at w
  ·rename_i hl
   have e1:=h3.len
   have e2:=k3.len
   have:=eO
   by_cases hv:vs=[]
   ·subst hv
    have:i=[]:=by cases i with | nil=>rfl | cons _ _=>simp at e1
    subst this
    exact .inl ⟨a,a',EV,h1,k1,SqT.of (s _ _ h2),SqT.of (s _ _ k2),WP.now w s ⟨a',EV,k1▸rfl,k2,k3,k4⟩⟩
   ·refine .inr ⟨a,a',vs,EV,h1,k1,SqT.of (s _ _ h2),SqT.of (s _ _ k2),hv,by omega,fun z=>?_,fun z p hp=>?_⟩
    ·subst z
     have:j=[]:=by cases j with | nil=>rfl | cons _ _=>simp at e2
     subst this
     rw[T9] at w
     exact WP.now w s ⟨a,vs,rfl,h2,h3,h4⟩
    ·exact WP.fin w (Ext.lay s hp) ⟨p,_,rfl,aO,DenL.mono (Ext.lay s hp).ff (h3.append k3),by rw[Ti];exact hl⟩
  ·exact w.elim
 ·exact w.elim) ha hb
end
section
variable{X:Cx}{Xw:Nat->Hp->Prop}{a b e e2 o:Expr}{es:List Expr}{δa δb δo:DE}{δs:DA}{pos p apos bP:Pos}
def dM(kd:D->Bool)(g:D->List D->M D)(o:DE)(s:DA):DE:=fun ρ=>o ρ>>=fun d=>if kd d then s ρ>>=fun ds=>g d ds else ah
def D0{T:String}{name:Str}{id:String}{r:V->List V->Hp->VK->Prop}{kd:D->Bool}{g:D->List D->M D}(pa:PlainAttrs T)(slot:Slot T name id)(Ou:typeOf (.builtin id)=pure (.type "method_descriptor"))(hm:K4 X id r)
 (hk:∀(F H:Hp) (x:V) (d:D),kd d=true->Same F H->Den X.K F d x->MT X.K T x H)
 (hd:∀(Xw:Nat->Hp->Prop) (F H:Hp) (x:V) (vs:List V) (d:D) (ds:List D) (Q:VK),Same F H->Den X.K F d x->DenL X.K F ds vs->WP X.K Xw F H (g d ds) Q->r x vs H Q)
 (ho:PD X Xw o δo)(ha:kr X Xw (e::es) δs)
 (jx:Vp o name X.env (eval o X.env)=eval o X.env:=by rfl)
 (pM:((UH bP (To (e::es) X.env)).all (fun x=>!x.1)&&(WK bP (VF [] X.env)).all (fun x=>x.1.isSome)
  &&decide ((e::es).length+([]:List VO).length+(if ([]:List VO).isEmpty then 0 else 1)<30))=true:=by rfl)
 (jy:(apos.endLine==bP.line)=true:=by rfl) (hs:To (e::es) X.env=(false,eval e X.env)::To es X.env:=by rfl) (yW:(UH bP (To es X.env)).any (·.1)=false:=by rfl):
 PD X Xw (.Call (.Attribute o name apos) (e::es) [] bP) (dM kd g δo δs):=PE.weak (HU pa slot Ou hm ho ha jx pM jy hs yW) fun σ H Q ⟨F,ρ,s,w⟩=>by
 refine⟨F,ρ,s,WP.mono (WP.bind w) fun v H1 ⟨F1,d,e1,q1,w1⟩=>?_⟩
 split at w1
 ·rename_i RB
  refine⟨hk F1 H1 v d RB e1.fh q1,F1,ρ,s.ext e1,WPL.mono (WP.bindL w1) fun vs H2 ⟨F2,ds,e2,q2,w2⟩=>?_⟩
  exact hd Xw F2 H2 v vs d ds Q e2.fh (Den.mono e2.ff q1) q2 w2
 ·exact w1.elim
def L5:D->Bool
 | .str _=>true
 |_=>false
def nL:D->Bool
 | .lst _=>true
 |_=>false
def Jf{K:Tc}(F H:Hp)(x:V)(d:D)(h:L5 d=true)(s:Same F H)(q:Den K F d x):MT K "str" x H:=by
 cases d with
 |str z=>cases (show _=_ from q.1);exact rfl
 |_=>cases h
def wY{K:Tc}(F H:Hp)(x:V)(d:D)(h:nL d=true)(s:Same F H)(q:Den K F d x):MT K "list" x H:=by
 cases d with
 |lst z=>obtain⟨a,vs,rfl,h2,_⟩:=q;exact .inl ⟨rfl,vs,SqL.of (s _ _ h2)⟩
 |_=>cases h
def vL:List D->Option (List Str)
 |[]=>some []
 | .str x::r=>(vL r).map (x:: ·)
 |_=>none
def qP{K:Tc}{F:Hp}:∀{ds:List D}{vs:List V}{xs:List Str},vL ds=some xs->DenL K F ds vs->vs=xs.map V.str
 |[],_,_,e,h=>by cases e;exact h
 | .str b::r,_,_,e,⟨v,r',h1,h2,h3⟩=>by
   unfold vL at e
   cases q:vL r with
   |none=>rw[q] at e;cases e
   |some bs=>rw[q] at e;cases e;subst h1;rw[qP q h3,show v= .str b from h2.1];rfl
 | .non::_,_,_,e,_=>by cases e
 | .int _::_,_,_,e,_=>by cases e
 | .bl _::_,_,_,e,_=>by cases e
 | .raw _::_,_,_,e,_=>by cases e
 | .exc _::_,_,_,e,_=>by cases e
 | .scr _::_,_,_,e,_=>by cases e
 | .tup _::_,_,_,e,_=>by cases e
 | .lst _::_,_,_,e,_=>by cases e
def qR:∀{xs:List Str}{aR:List Value},Vals (xs.map V.str) aR->StrsAre aR xs
 |[],_,r=>by cases r;exact .nil
 |b::bs,_,r=>by
  cases r with
  |cons r1 r2=>obtain⟨t,rfl⟩:=r1;exact .cons b t (qR r2)
def fV:List Str->Str
 |[]=>⟨#[]⟩
 |x::r=>x++fV r
def joinM:D->List D->M D
 | .str sep,[.lst ds]=>match vL ds with
   |some xs=>if sep.length=0/\(xs.map (·.length)).sum<=lim then ae (.str (fV xs)) else ah
   |none=>ah
 | .str sep,[.tup ds]=>match vL ds with
   |some xs=>if sep.length=0/\(xs.map (·.length)).sum<=lim then ae (.str (fV xs)) else ah
   |none=>ah
 |_,_=>ah
def pk:∀xs:List Str,(fV xs).length=(xs.map (·.length)).sum
 |[]=>rfl
 |x::r=>by
  show (x++fV r).length=_
  rw[j5,pk r,Tf,Vi]
def Hb{x:Str}(h:x.length=0):x=⟨#[]⟩:=by
 obtain⟨⟨l⟩⟩:=x
 have:l.length=0:=h
 cases l with
 |nil=>rfl
 |cons _ _=>simp at this
def oo(x:Str):x++(⟨#[]⟩:Str)=x:=by
 obtain⟨c⟩:=x
 show (⟨c++ #[]⟩:Str)=⟨c⟩
 simp
def nM(sep:Str)(h:sep.length=0):∀xs:List Str,Txt.join sep xs=fV xs:=by
 have e:=Hb h
 subst e
 intro xs
 show Builtin.Str.glued _ xs=_
 rw[StrLaws.glued_eq_join]
 induction xs with
 |nil=>rfl
 |cons x r ih=>
  cases r with
  |nil=>show x=x++(⟨#[]⟩:Str);rw[oo]
  |cons y r=>show x++(⟨#[]⟩:Str)++Str.join _ (y::r)=x++fV (y::r);rw[oo,ih]
def rJoin(K:Tc):V->List V->Hp->VK->Prop:=fun x vs H Q=>∃(sep:Str) (a:Addr) (xs:List Str),x= .str sep/\vs=[.ref a]/\(H a=some (.lst (xs.map V.str))\/H a=some (.tup (xs.map V.str)))/\sep.length=0/\(xs.map (·.length)).sum<=lim/\Q (.str (fV xs)) H
def Gd:K4 X "str.join" (rJoin X.K):=by
 intro pins s σ H x vs v us Q I rx rv h
 obtain⟨sep,a,xs,rfl,rfl,hH,hs,hl,q⟩:=h
 obtain⟨t,rfl⟩:=rx
 obtain⟨u,rfl,r1⟩:=rv.one
 cases (show u=_ from r1)
 have hok:(xs.map (·.length)).sum+xs.length*sep.length<=16777216:=by
  rw[hs,Nat.mul_zero]
  unfold lim at hl
  omega
 rcases hH with hH | hH
 ·obtain⟨aR,r2,pl,hz⟩:=I.list (SqL.of (K:=X.K) hH)
  refine join_list pl.isList (by simpa using qR r2) hok fun t' k=>⟨.str (fV xs),H,I.tok k,⟨t',by rw[nM sep hs]⟩,q⟩
 ·obtain⟨aR,r2,pl,hz⟩:=I.tuple (SqT.of (K:=X.K) hH)
  refine join_tuple pl (by simpa using qR r2) hok fun t' k=>⟨.str (fV xs),H,I.tok k,⟨t',by rw[nM sep hs]⟩,q⟩
def Gw(ho:PD X Xw o δo)(ha:kr X Xw [e] δs)(jx:Vp o "join" X.env (eval o X.env)=eval o X.env:=by rfl)
 (pM:((UH bP (To [e] X.env)).all (fun x=>!x.1)&&(WK bP (VF [] X.env)).all (fun x=>x.1.isSome)&&decide ([e].length+([]:List VO).length+(if ([]:List VO).isEmpty then 0 else 1)<30))=true:=by rfl)
 (jy:(apos.endLine==bP.line)=true:=by rfl)(Aj:To [e] X.env=[(false,eval e X.env)]:=by rfl):PD X Xw (.Call (.Attribute o "join" apos) [e] [] bP) (dM L5 joinM δo δs):=
 D0 PySem.F.plainAttrs_str PySem.F.slot_str_join PySem.F.type_str_join Gd Jf (fun Xw F H x vs d ds Q s hx hv w=>by
  unfold joinM at w
  split at w
  ·rename_i sep ds
   obtain⟨v,rfl,h1⟩:=hv.one
   obtain⟨a,ws,rfl,h2,h3,_⟩:=h1
   split at w
   ·rename_i xs OB
    split at w
    ·rename_i hc
     exact⟨sep,a,xs,hx.1,rfl, .inl (by rw[<-qP OB h3];exact s _ _ h2),hc.1,hc.2,WP.now w s ⟨rfl,by rw[pk];exact hc.2⟩⟩
    ·exact w.elim
   ·exact w.elim
  ·rename_i sep ds
   obtain⟨v,rfl,h1⟩:=hv.one
   obtain⟨a,ws,rfl,h2,h3,_⟩:=h1
   split at w
   ·rename_i xs OB
    split at w
    ·rename_i hc
     exact⟨sep,a,xs,hx.1,rfl, .inr (by rw[<-qP OB h3];exact s _ _ h2),hc.1,hc.2,WP.now w s ⟨rfl,by rw[pk];exact hc.2⟩⟩
    ·exact w.elim
   ·exact w.elim
  ·exact w.elim) ho ha jx pM jy Aj rfl
def ES:List D->M D
 |[.lst ds]=>ae (.tup ds)
 |[.tup ds]=>ae (.tup ds)
 |_=>ah
def Ar:List D->M D
 |[.lst ds]=>ae (.lst ds)
 |[.tup ds]=>ae (.lst ds)
 |_=>ah
def D5(hg:Gl X "tuple")(hm:X.mg "tuple"=none)(hb:Ub "tuple"=some (.type "tuple"))(ha:kr X Xw [e] δs)(he:To [e] X.env=[(false,eval e X.env)]:=by rfl):PD X Xw (.Call (.Name "tuple" p) [e] [] pos) (dA ES δs):=
 s9 qW (fun Xw F H vs ds Q s h w=>by
  unfold ES at w
  split at w
  ·rename_i ds
   obtain⟨v,rfl,h1⟩:=h.one
   obtain⟨a,ws,rfl,h2,h3,h4⟩:=h1
   exact⟨a,ws,rfl, .inl ⟨SqL.of (s _ _ h2),fun l hl=>WP.fin w (Ext.lay s hl) ⟨l,ws,rfl,aO,DenL.mono (Ext.lay s hl).ff h3,h4⟩⟩⟩
  ·rename_i ds
   obtain⟨v,rfl,h1⟩:=h.one
   obtain⟨a,ws,rfl,h2,h3,h4⟩:=h1
   exact⟨a,ws,rfl, .inr ⟨SqT.of (s _ _ h2),WP.now w s ⟨a,ws,rfl,h2,h3,h4⟩⟩⟩
  ·exact w.elim) hg hm hb ha (by decide) (by decide) he rfl
def AD(hg:Gl X "list")(hm:X.mg "list"=none)(hb:Ub "list"=some (.type "list"))(ha:kr X Xw [e] δs)(he:To [e] X.env=[(false,eval e X.env)]:=by rfl):PD X Xw (.Call (.Name "list" p) [e] [] pos) (dA Ar δs):=
 s9 ud (fun Xw F H vs ds Q s h w=>by
  unfold Ar at w
  split at w
  ·rename_i ds
   obtain⟨v,rfl,h1⟩:=h.one
   obtain⟨a,ws,rfl,h2,h3,h4⟩:=h1
   exact⟨a,ws,rfl, .inl (SqL.of (s _ _ h2)),fun l hl=>WP.fin w (Ext.lay s hl) ⟨l,ws,rfl,aO,DenL.mono (Ext.lay s hl).ff h3,h4⟩⟩
  ·rename_i ds
   obtain⟨v,rfl,h1⟩:=h.one
   obtain⟨a,ws,rfl,h2,h3,h4⟩:=h1
   exact⟨a,ws,rfl, .inr (SqT.of (s _ _ h2)),fun l hl=>WP.fin w (Ext.lay s hl) ⟨l,ws,rfl,aO,DenL.mono (Ext.lay s hl).ff h3,h4⟩⟩
  ·exact w.elim) hg hm hb ha (by decide) (by decide) he rfl
def zt(hc:X.calm=true)(hg:Gl X "max")(hm:X.mg "max"=none)(hb:Ub "max"=some (.builtin "max"))(ha:kr X Xw [e,e2] δs)(he:To [e,e2] X.env=(false,eval e X.env)::To [e2] X.env:=by rfl)
 (kf:(UH pos (To [e2] X.env)).any (·.1)=false:=by rfl):PD X Xw (.Call (.Name "max" p) [e,e2] [] pos) (dA zc δs):=
 eR (A2 hc) (fun Xw F H vs ds Q s h w=>by
  unfold zc at w
  split at w
  ·obtain⟨v,v',rfl,h1,h2⟩:=h.two
   cases (show _=_ from h1)
   cases (show _=_ from h2)
   exact⟨_,_,rfl,WP.now w s rfl⟩
  ·exact w.elim) hg hm hb ha (by decide) (by decide) he kf
def D4(hc:X.calm=true)(hg:Gl X "min")(hm:X.mg "min"=none)(hb:Ub "min"=some (.builtin "min"))(ha:kr X Xw [e,e2] δs)(he:To [e,e2] X.env=(false,eval e X.env)::To [e2] X.env:=by rfl)
 (kf:(UH pos (To [e2] X.env)).any (·.1)=false:=by rfl):PD X Xw (.Call (.Name "min" p) [e,e2] [] pos) (dA BC δs):=
 eR (A3 hc) (fun Xw F H vs ds Q s h w=>by
  unfold BC at w
  split at w
  ·obtain⟨v,v',rfl,h1,h2⟩:=h.two
   cases (show _=_ from h1)
   cases (show _=_ from h2)
   exact⟨_,_,rfl,WP.now w s rfl⟩
  ·exact w.elim) hg hm hb ha (by decide) (by decide) he kf
def nums:List D->Option (List Int)
 |[]=>some []
 | .int x::r=>(nums r).map (x:: ·)
 |_=>none
def lN{K:Tc}{F:Hp}:∀{ds:List D}{vs:List V}{xs:List Int},nums ds=some xs->DenL K F ds vs->vs=xs.map V.int
 |[],_,_,e,h=>by cases e;exact h
 | .int b::r,_,_,e,⟨v,r',h1,h2,h3⟩=>by
   unfold nums at e
   cases q:nums r with
   |none=>rw[q] at e;cases e
   |some bs=>rw[q] at e;cases e;subst h1;rw[lN q h3,show v= .int b from h2];rfl
 | .non::_,_,_,e,_=>by cases e
 | .str _::_,_,_,e,_=>by cases e
 | .bl _::_,_,_,e,_=>by cases e
 | .raw _::_,_,_,e,_=>by cases e
 | .exc _::_,_,_,e,_=>by cases e
 | .scr _::_,_,_,e,_=>by cases e
 | .tup _::_,_,_,e,_=>by cases e
 | .lst _::_,_,_,e,_=>by cases e
def FA(neg:Bool):D->D->M D
 | .int i, .tup ds=>match nums ds with | some ns=>ae (.bl (if neg then !ns.contains i else ns.contains i)) | none=>ah
 |_,_=>ah
def Dl(i:Int)(ns:List Int):Nt (.int i) (ns.map V.int)=ns.contains i:=by
 unfold Nt
 rw[List.any_map]
 induction ns with
 |nil=>rfl
 |cons n ns ih=>
  rw[U0,List.contains_cons,ih]
  congr 1
  show E2 (.int n) (.int i)=(i==n)
  unfold E2
  exact Bool.beq_comm
def Jb{neg:Bool}{K:Tc}:tR K (Qs K neg) (FA neg):=fun Xw F H x y dx dy Q s hx hy w=>by
 unfold FA at w
 split at w
 ·rename_i i ds
  obtain⟨a,vs,h1,h2,h3,h4⟩:=hy
  split at w
  ·rename_i ns hn
   have hv:=lN hn h3
   subst hv
   cases (show _=_ from hx)
   refine⟨a,ns.map V.int,h1, .inr (SqT.of (s _ _ h2)),rfl,?_,?_⟩
   ·rw[Vu]
    exact T2.mpr fun _ _=>rfl
   ·rw[Dl]
    exact WP.now w s rfl
  ·exact w.elim
 ·exact w.elim
def BX(ha:PD X Xw a δa)(hb:PD X Xw b δb)(hm:Ug .NotIn b=false:=by rfl):mH X Xw (.Compare a [.NotIn] [b] pos) (bH (d2 (FA true) δa δb)):=eU uX Jb ha hb hm
def CW(neg:Bool):D->D->M D
 | .str x, .str y=>ae (.bl (if neg then !(!(Vn y x 0 y.length 1).isEmpty) else !(Vn y x 0 y.length 1).isEmpty))
 |_,_=>ah
def JK(ha:PD X Xw a δa)(hb:PD X Xw b δb)(hm:Ug .In b=false:=by rfl):PD X Xw (.Compare a [.In] [b] pos) (d2 (CW false) δa δb):=qt BL (fun Xw F H x y dx dy Q s hx hy w=>by
 unfold CW at w
 split at w
 ·exact⟨_,_,hx.1,hy.1,WP.now w s rfl⟩
 ·exact w.elim) ha hb hm
end
end L3
namespace L3
open PySem PySem.Spec L2 SeqAt HT
open PyProof.Rows hiding St
section
variable{prog:TM}{w:World}{A:TY}{E:Value->S7->Prop}{s:S7}
def ku{t sl:Addr}{items:Array Value}{vl vu:Value}{lo hi:Option Int}{Q:Value->S7->Prop}(ht:IsTup s.heap t items)(hs:s.heap.IsSliceOf sl vl vu .none)(pl:Yc vl lo)(pu:Yc vu hi)
 (hw:sIx items.size 0 lo=0/\sIx items.size items.size hi=items.size)(h:Q (.ref t) s):wpAny (model prog w) A (WJ (.ref t) (.ref sl)) Q E s:=by
 obtain⟨os,Bh,II,Hz⟩:=id hs
 have NZ:s.TypeIs (.ref sl) "slice":=⟨os,Bh,II⟩
 unfold WJ
 try with_reducible refine U5 ?_
 first | refine S5 (Te ?_) | skip
 refine S5 (wpAny_sequenceKey ht.typeIs (by decide) ?_)
 refine S5 (VM (name:=T3 "__getitem__") ht.typeIs UK
  (Vz UK ht.typeIs entry_tuple_getitem ?_ (args_tuple_getitem _ _)))
 show wpAny _ _ (WY (.ref t)>>=_) _ _ s
 refine S5 (tupleItemsOf_ ht ?_)
 refine S5 (W0 NZ ?_)
 rw[if_pos (by decide)]
 refine S5 (sliceApplied_gen hs pl pu ?_)
 have IM:((((sIx items.size 0 lo:Nat):Int)==0&&(1:Int)==1&&(sIx items.size items.size hi - sIx items.size 0 lo)==items.size)=true):=by
  rw[hw.1,hw.2]
  simp
 show wpAny _ _ (if (((sIx items.size 0 lo:Nat):Int)==0&&(1:Int)==1&&(sIx items.size items.size hi - sIx items.size 0 lo)==items.size)=true then _ else _) _ _ s
 rw[if_pos IM]
 refine S5 ?_
 unfold Builtin.Tuple.tupleIsExact
 refine S5 (W0 ht.typeIs (Te ?_))
 rw[if_pos (by decide)]
 exact S5 (wpAny_rule (Te ⟨_,rfl,Te h⟩))
end
section
variable{X:Cx}{Xw:Nat->Hp->Prop}{a b e:Expr}{lo hi:Option Expr}{δ:DE}{pos p p2:Pos}
def Ha:SlR X (fun x lo hi H Q=>∃a xs,x= .ref a/\SqT X.K H a xs/\(sIx xs.length 0 lo=0/\sIx xs.length xs.length hi=xs.length)/\Q (.ref a) H):=by
 intro pins s σ H x v vl vu lo hi sl Q I rx hs pl pu h
 obtain⟨a,xs,rfl,hx,hw,q⟩:=h
 cases rx
 obtain⟨aR,r,ht,hz⟩:=I.tuple hx
 have hlen:aR.toArray.size=xs.length:=by rw[Td];exact r.length.symm
 exact⟨"tuple",_,PyProof.Rows.slot_tuple_getitem.lookup,ht.typeIs,ku ht hs pl pu (by rw[hlen];exact hw) ⟨.ref a,H,I,rfl,q⟩⟩
def Kl:SlR X (fun x lo hi H Q=>∃z:Str,x= .str z/\z.length<=lim/\Q (.str (Txt.slice z lo hi)) H):=by
 intro pins s σ H x v vl vu lo hi sl Q I rx hs pl pu h
 obtain⟨z,rfl,hl,q⟩:=h
 obtain⟨t,rfl⟩:=rx
 have hz:z.length<=Tz:=by have:=eO;omega
 cases pl with
 |none=>
  cases pu with
  |none=>exact⟨"str",_,PySem.F.slot_str_getitem.lookup,W_ _ _ _,VL (l:=none) (u:=none) (st:=none) hs rfl (W3 ⟨Tw (WL z _ _) hz,fun t' k=>⟨.str _,H,I.tok k,⟨t',rfl⟩,q⟩⟩)⟩
  |int j uj=>exact⟨"str",_,PySem.F.slot_str_getitem.lookup,W_ _ _ _,VL (l:=none) (u:=some (j,uj)) (st:=none) hs rfl (W3 ⟨Tw (WL z _ _) hz,fun t' k=>⟨.str _,H,I.tok k,⟨t',rfl⟩,q⟩⟩)⟩
 |int i ui=>
  cases pu with
  |none=>exact⟨"str",_,PySem.F.slot_str_getitem.lookup,W_ _ _ _,VL (l:=some (i,ui)) (u:=none) (st:=none) hs rfl (W3 ⟨Tw (WL z _ _) hz,fun t' k=>⟨.str _,H,I.tok k,⟨t',rfl⟩,q⟩⟩)⟩
  |int j uj=>exact⟨"str",_,PySem.F.slot_str_getitem.lookup,W_ _ _ _,VL (l:=some (i,ui)) (u:=some (j,uj)) (st:=none) hs rfl (W3 ⟨Tw (WL z _ _) hz,fun t' k=>⟨.str _,H,I.tok k,⟨t',rfl⟩,q⟩⟩)⟩
abbrev DO:=bf->M (Option Int)
def WPO(Xw:Nat->Hp->Prop)(F H:Hp)(m:M (Option Int))(Q:Option Int->Hp->Prop):Prop:=
 match m with
 |none=>False
 |some (.ok b)=>∀H' F',Ext F H F' H'->Q b H'
 |some (.ex n)=>∀F' H',Ext F H F' H'->Xw n H'
def Sn(K:Tc)(Xw:Nat->Hp->Prop)(δ:DO):TO:=fun σ H Q=>∃F ρ,StE K F H σ ρ/\WPO Xw F H (δ ρ) Q
def M3(X:Cx)(Xw:Nat->Hp->Prop)(e:Option Expr)(δ:DO):Prop:=PO X e (Sn X.K Xw δ)
def oN:DO:=fun _=>ae none
def oS(δ:DE):DO:=fun ρ=>δ ρ>>=fun d=>match d with | .int i=>ae (some i) | _=>ah
def gM:M3 X Xw none oN:=fun pins s σ H Q I ⟨F,ρ,S,w⟩=>GL pins s σ H Q I (w H F (Ext.refl S.fh))
def gN(h:PD X Xw e δ):M3 X Xw (some e) (oS δ):=fun pins s σ H Q I ⟨F,ρ,S,w⟩=>GN h pins s σ H Q I ⟨F,ρ,S,by
 have w:WPO Xw F H (δ ρ>>=fun d=>match d with | .int i=>ae (some i) | _=>ah) Q:=w
 rcases(δ ρ).cs with q | ⟨n,q⟩ | ⟨d,q⟩
 ·rw[q] at w;exact w.elim
 ·rw[q] at w⊢;exact w
 ·rw[q] at w⊢
  intro v H' F' e' hd
  cases d with
  |int i=>exact⟨i,hd,w H' F' e'⟩
  |_=>exact w.elim⟩
def WP.bindO{K:Tc}{Xw:Nat->Hp->Prop}{F H:Hp}{Q:VK}{m:M (Option Int)}{k:Option Int->M D}(h:WP K Xw F H (m>>=k) Q):WPO Xw F H m fun b H1=>∃F1,Ext F H F1 H1/\WP K Xw F1 H1 (k b) Q:=by
 match m,h with
 |none,h=>exact h
 |some (.ok d),h=>exact fun H2 F2 e2=>⟨F2,e2,WP.ext e2 (show WP K Xw F H (k d) Q from h)⟩
 |some (.ex n),h=>exact h
def WPO.mono{Xw:Nat->Hp->Prop}{F H:Hp}{m:M (Option Int)}{Q Q':Option Int->Hp->Prop}(h:WPO Xw F H m Q)(k:∀v H',Q v H'->Q' v H'):WPO Xw F H m Q':=by
 match m,h with
 |none,h=>exact h
 |some (.ok d),h=>exact fun H2 F2 e2=>k _ _ (h H2 F2 e2)
 |some (.ex n),h=>exact h
def cutD(ds:List D)(lo hi:Option Int):List D:=(ds.drop (sIx ds.length 0 lo)).take (sIx ds.length ds.length hi - sIx ds.length 0 lo)
def O3:D->Option Int->Option Int->M D
 | .tup ds,lo,hi=>ae (.tup (cutD ds lo hi))
 | .lst ds,lo,hi=>ae (.lst (cutD ds lo hi))
 | .str x,lo,hi=>ae (.str (Txt.slice x lo hi))
 |_,_,_=>ah
def Fp(a:DE)(lo hi:DO):DE:=fun ρ=>a ρ>>=fun d=>lo ρ>>=fun l=>hi ρ>>=fun h=>O3 d l h
def wz(ds:List D)(lo hi:Option Int):(cutD ds lo hi).length<=ds.length:=by
 unfold cutD
 rw[Vq,Ww]
 omega
def DenL.cut{K:Tc}{F:Hp}{ds:List D}{vs:List V}(h:DenL K F ds vs)(lo hi:Option Int):DenL K F (cutD ds lo hi) (wA vs lo hi):=by
 unfold cutD wA
 rw[h.len]
 exact(h.drop _).take _
def qy{δo:DE}{κl κh:DO}(he:PD X Xw e δo)(hl:M3 X Xw lo κl)(hh:M3 X Xw hi κh):PD X Xw (.Subscript e (.Slice lo hi none p2) pos) (Fp δo κl κh):=
 PE.weak (Ee (Ha.or (Km.or (G_.or Kl))) he hl hh) fun σ H Q ⟨F,ρ,s,w⟩=>by
  refine⟨F,ρ,s,WP.mono (WP.bind w) fun v H1 ⟨F1,d,e1,q1,w1⟩=>?_⟩
  refine⟨F1,ρ,s.ext e1,WPO.mono (WP.bindO w1) fun l H2 ⟨F2,e2,w2⟩=>?_⟩
  refine⟨F2,ρ,(s.ext e1).ext e2,WPO.mono (WP.bindO w2) fun h H3 ⟨F3,e3,w3⟩=>?_⟩
  have q3:=Den.mono (e2.ff.trans e3.ff) q1
  have fh:=e3.fh
  cases d with
  |tup ds=>
   obtain⟨a,vs,rfl,h2,h3,h4⟩:=q3
   by_cases hw:sIx vs.length 0 l=0/\sIx vs.length vs.length h=vs.length
   ·refine .inl ⟨a,vs,rfl,SqT.of (fh _ _ h2),hw,?_⟩
    have hc:cutD ds l h=ds:=by
     unfold cutD
     rw[h3.len,hw.1,hw.2,Nat.sub_zero,List.drop_zero,<-h3.len,Xr]
    have w3:WP X.K Xw F3 H3 (ae (.tup (cutD ds l h))) Q:=w3
    rw[hc] at w3
    exact WP.now w3 fh ⟨a,vs,rfl,h2,h3,h4⟩
   ·exact .inr (.inl ⟨a,vs,rfl,SqT.of (fh _ _ h2),hw,fun p hp=>WP.fin w3 (Ext.lay fh hp) ⟨p,_,rfl,aO,DenL.mono (Ext.lay fh hp).ff (h3.cut l h),Tw (wz _ _ _) h4⟩⟩)
  |lst ds=>
   obtain⟨a,vs,rfl,h2,h3,h4⟩:=q3
   exact .inr (.inr (.inl ⟨a,vs,rfl,SqL.of (fh _ _ h2),fun p hp=>WP.fin w3 (Ext.lay fh hp) ⟨p,_,rfl,aO,DenL.mono (Ext.lay fh hp).ff (h3.cut l h),Tw (wz _ _ _) h4⟩⟩))
  |str x=>exact .inr (.inr (.inr ⟨x,q3.1,q3.2,WP.now w3 fh ⟨rfl,Tw (WL x _ _) q3.2⟩⟩))
  |_=>exact w3.elim
end
def MY(x:Str):It:=⟨fun i _=>i<x.cps.size,fun i H v H'=>H'=H/\∃c,x.cps[i]? =some c/\v= .str ⟨#[c]⟩,fun i _=>x.cps.size<=i⟩
def B8{P:TM}{w:World}{K:Tc}{tg:Expr}(it:Addr)(x:Str)(t:Tok):Turn P w K tg (MY x) [it] it (fun i h=>i<=x.cps.size/\h.IsStrIter it "str_ascii_iterator" x t i) where
 mem:=by simp
 obj:=fun i h st b hb=>by
  have e:b=it:=by simpa using hb
  subst e
  obtain⟨_,o,e,c,d⟩:=st
  exact⟨o,e,fun v z=>by rw[d] at z;cases z⟩
 keep:=fun i h h' st k=>⟨st.1,let ⟨o,e,r⟩:=st.2;⟨o,k it (by simp) o e,r⟩⟩
 item:=by
  intro X hP hw hK hc i pins s σ H E I hf st hg
  subst hP hw hK
  obtain⟨f0,f1,f2,f3,f4,f5⟩:=hf it (by simp)
  have hi:i<x.cps.size:=hg
  refine(Walks.strAscii (prog:=X.prog) (w:=X.w) (I.ok.hd hc) it x t).item i s _ _ hi st.2 fun v h' tk hv qL kk=>?_
  obtain⟨c,u,N3,rfl⟩:=hv
  have I1:Inv X pins σ H {s with heap:=h',toks:=tk}:=I.turned (fun b o hb e=>kk b o (by simpa using hb) e) f0 f1 f3 f4 f5
  obtain⟨o,e,cc,dd⟩:=id qL
  exact⟨_,rfl,sm (s:={s with heap:=h',toks:=tk}) e cc dd (by decide) ⟨.str ⟨#[c]⟩,H,I1,⟨u,rfl⟩,⟨rfl,c,N3,rfl⟩,⟨hi,qL⟩,fun b hb=>(hf b hb).1⟩⟩
 done:=by
  intro X hP hw hK hc i pins s σ H E I hf st hg
  subst hP hw hK
  obtain⟨f0,f1,f2,f3,f4,f5⟩:=hf it (by simp)
  have hi:i=x.cps.size:=X2 st.1 hg
  subst hi
  exact(Walks.strAscii (prog:=X.prog) (w:=X.w) (I.ok.hd hc) it x t).done s _ _ st.2 fun h' tk kk=>⟨rfl,I.turned (fun b o hb e=>kk b o (by simpa using hb) e) f0 f1 f3 f4 f5⟩
 self:=fun _ _ _ _ _ st h=>wpAny_pyIter_striter_ascii st.2 h
def B9{P:TM}{w:World}{K:Tc}{tg:Expr}(it:Addr)(x:Str)(t:Tok):Turn P w K tg (MY x) [it] it (fun i h=>i<=x.cps.size/\h.IsStrIter it "str_iterator" x t i) where
 mem:=by simp
 obj:=fun i h st b hb=>by
  have e:b=it:=by simpa using hb
  subst e
  obtain⟨_,o,e,c,d⟩:=st
  exact⟨o,e,fun v z=>by rw[d] at z;cases z⟩
 keep:=fun i h h' st k=>⟨st.1,let ⟨o,e,r⟩:=st.2;⟨o,k it (by simp) o e,r⟩⟩
 item:=by
  intro X hP hw hK hc i pins s σ H E I hf st hg
  subst hP hw hK
  obtain⟨f0,f1,f2,f3,f4,f5⟩:=hf it (by simp)
  have hi:i<x.cps.size:=hg
  refine(Walks.strWide (prog:=X.prog) (w:=X.w) (I.ok.hd hc) it x t).item i s _ _ hi st.2 fun v h' tk hv qL kk=>?_
  obtain⟨c,u,N3,rfl⟩:=hv
  have I1:Inv X pins σ H {s with heap:=h',toks:=tk}:=I.turned (fun b o hb e=>kk b o (by simpa using hb) e) f0 f1 f3 f4 f5
  obtain⟨o,e,cc,dd⟩:=id qL
  exact⟨_,rfl,sm (s:={s with heap:=h',toks:=tk}) e cc dd (by decide) ⟨.str ⟨#[c]⟩,H,I1,⟨u,rfl⟩,⟨rfl,c,N3,rfl⟩,⟨hi,qL⟩,fun b hb=>(hf b hb).1⟩⟩
 done:=by
  intro X hP hw hK hc i pins s σ H E I hf st hg
  subst hP hw hK
  obtain⟨f0,f1,f2,f3,f4,f5⟩:=hf it (by simp)
  have hi:i=x.cps.size:=X2 st.1 hg
  subst hi
  exact(Walks.strWide (prog:=X.prog) (w:=X.w) (I.ok.hd hc) it x t).done s _ _ st.2 fun h' tk kk=>⟨rfl,I.turned (fun b o hb e=>kk b o (by simpa using hb) e) f0 f1 f3 f4 f5⟩
 self:=fun _ _ _ _ _ st h=>wpAny_pyIter_striter_wide st.2 h
section
variable{X:Cx}{Xw:Nat->Hp->Prop}{tg a b e l o:Expr}{δ δo:DE}{δs:DA}{p apos bP:Pos}
def OE(tl:TE):TI:=fun σ H R=>tl σ H fun x H1=>∃z,x= .str z/\R (MY z) H1
def JY{tl:TE}(hl:PE X l tl):PI X tg l (OE tl):=by
 intro pins s σ H R I h
 refine cJ (hl pins s σ H _ I h) fun v s1 ⟨x,H1,I1,r1,q1⟩=>?_
 obtain⟨z,e,q⟩:=q1
 subst e
 obtain⟨t,rfl⟩:=r1
 have fp:∀b∈[s1.heap.objs.size],qU X pins H1 b:=fun b hb=>by
  have e:b=s1.heap.objs.size:=by simpa using hb
  subst e
  exact I1.fpOk (Tg _) (I1.hok.fresh (Tg _))
 cases ha:z.cps.all (· <128)
 ·exact wpAny_pyIter_wide ha ⟨s1.heap.objs.size,[s1.heap.objs.size],_,_,H1,rfl,I1.kept (t':=s1.toks) fun b o e=>S_ _ e,B9 _ z t,⟨Ue _,_,Tt _ rfl,rfl,rfl⟩,fp,q⟩
 ·exact wpAny_pyIter_ascii ha ⟨s1.heap.objs.size,[s1.heap.objs.size],_,_,H1,rfl,I1.kept (t':=s1.toks) fun b o e=>S_ _ e,B8 _ z t,⟨Ue _,_,Tt _ rfl,rfl,rfl⟩,fp,q⟩
def signs(x:Str):List D:=x.cps.toList.map fun c=>D.str ⟨#[c]⟩
def Kk:D->M (List D)
 | .str x=>ae (signs x)
 |_=>ah
def FP{K:Tc}{F:Hp}(x:Str):ItD K F (MY x) (signs x):=fun F' H' i s1 s2=>by
 refine⟨fun d e=>?_,fun hl=>show x.cps.size<=i by simpa[signs] using hl⟩
 unfold signs at e
 rw[Tu] at e
 cases q:x.cps.toList[i]? with
 |none=>rw[q] at e;cases e
 |some c=>
  rw[q] at e
  cases e
  have hi:i<x.cps.size:=by
   have:=(Tn.mp q).1
   simpa using this
  refine⟨hi,fun v H'' y=>?_⟩
  obtain⟨e2,c',Hv,rfl⟩:=y
  subst e2
  have:c'=c:=by
   have q':x.cps[i]? =some c:=by simpa using q
   rw[q'] at Hv
   exact(TF Hv).symm
  subst this
  exact⟨F',Ext.refl s2,rfl,by show 1<=lim;decide⟩
def GD(h:PD X Xw l δ):zT X Xw tg l (fun ρ=>δ ρ>>=Kk):=PI.weak (JY h) fun σ H R ⟨F,ρ,s,w⟩=>by
 refine⟨F,ρ,s,WP.mono (WPI.bind w) fun v H1 ⟨F1,d,e1,q1,w1⟩=>?_⟩
 cases d with
 |str z=>exact⟨z,q1.1,w1 _ _ _ (Ext.refl e1.fh) (FP z)⟩
 |_=>exact w1.elim
def Jg:Value->Bool
 | .bool b=>b
 |_=>false
def CQ{A:TY}{s:S7}{bs:List Bool}:∀y,y∈(bs.map U3).toArray->EqAt A s y (.bool true) (Jg y):=fun y hy=>by
 have hy:y∈bs.map U3:=by simpa using hy
 obtain⟨b,_,rfl⟩:=TJ.mp hy
 have:=EqAt.bool_bool (A:=A) (s:=s) b true
 cases b<;>exact this
def A6:D->List D->M D
 | .lst ds,[.bl true]=>match bools ds with | some bs=>ae (.int (bs.count true)) | none=>ah
 |_,_=>ah
def I_:D->List D->M D
 | .lst ds,[.bl true]=>match bools ds with
   |some bs=>if bs.contains true then ae (.int (bs.idxOf true)) else ah
   |none=>ah
 |_,_=>ah
def wy:∀bs:List Bool,(bs.map U3).countP Jg=bs.count true
 |[]=>rfl
 |b::bs=>by
  rw[Tf,List.countP_cons,wy bs,List.count_cons]
  cases b<;>rfl
def OW:V->List V->Hp->VK->Prop:=fun x vs H Q=>∃(a:Addr) (bs:List Bool),x= .ref a/\vs=[.bl true]/\H a=some (.lst (bs.map V.bl))/\Q (.int (bs.count true)) H
def OX:V->List V->Hp->VK->Prop:=fun x vs H Q=>∃(a:Addr) (bs:List Bool),x= .ref a/\vs=[.bl true]/\H a=some (.lst (bs.map V.bl))/\bs.contains true=true/\Q (.int (bs.idxOf true)) H
def Jt:K4 X "list.count" OW:=by
 intro pins s σ H x vs v us Q I rx rv h
 obtain⟨a,bs,rfl,rfl,hH,q⟩:=h
 cases rx
 obtain⟨u,rfl,r1⟩:=rv.one
 cases (show u=_ from r1)
 obtain⟨z,aR,n,r,hl,e⟩:=I.lstM hH
 obtain rfl:=o_ r
 refine XW F.slot_list_count ⟨_,e,rfl⟩ F.entry_list_count (F.args_list_count_2 _ _) (list_countAt a _ n none #[] (.bool true) Jg) ⟨e,CQ,?_⟩
 have ec:((bs.map U3).toArray.toList.countP Jg)=bs.count true:=wy bs
 rw[ec]
 exact⟨.int (bs.count true),H,I.tok _,⟨_,rfl⟩,q⟩
def Ju:K4 X "list.index" OX:=by
 intro pins s σ H x vs v us Q I rx rv h
 obtain⟨a,bs,rfl,rfl,hH,hc,q⟩:=h
 cases rx
 obtain⟨u,rfl,r1⟩:=rv.one
 cases (show u=_ from r1)
 obtain⟨z,aR,n,r,hl,e⟩:=I.lstM hH
 obtain rfl:=o_ r
 have hm:true∈bs:=by simpa using hc
 have lD:bs.idxOf true<bs.length:=List.idxOf_lt_length_iff.mpr hm
 have hz:bs.length<=Tz:=by simpa using z
 have hs:Tz=16777216:=VE
 refine XW F.slot_list_index ⟨_,e,rfl⟩ F.entry_list_index (F.args_list_index_2 _ _) (list_indexAt a _ n none #[] (.bool true) Jg (bs.idxOf true) (by simpa using lD) (by omega) ?_ ?_) ⟨e,CQ,?_⟩
 ·have:bs[bs.idxOf true]=true:=List.getElem_idxOf lD
  simp[Jg,this]
 ·intro m RG FG
  have KJ:m<bs.length:=by simpa using RG
  have:bs[m]≠true:=fun z=>by
   have:=List.not_of_lt_findIdx (p:=(· ==true)) (xs:=bs) (i:=m) FG
   rw[z] at this
   simp at this
  simp[Jg]
  simpa using this
 ·exact⟨.int (bs.idxOf true),H,I.tok _,⟨_,rfl⟩,q⟩
def JI(ho:PD X Xw o δo)(ha:kr X Xw [e] δs)(jx:Vp o "count" X.env (eval o X.env)=eval o X.env:=by rfl)
 (pM:((UH bP (To [e] X.env)).all (fun x=>!x.1)&&(WK bP (VF [] X.env)).all (fun x=>x.1.isSome)&&decide ([e].length+([]:List VO).length+(if ([]:List VO).isEmpty then 0 else 1)<30))=true:=by rfl)
 (jy:(apos.endLine==bP.line)=true:=by rfl)(Aj:To [e] X.env=[(false,eval e X.env)]:=by rfl):PD X Xw (.Call (.Attribute o "count" apos) [e] [] bP) (dM nL A6 δo δs):=
 D0 We PySem.F.slot_list_count PySem.F.type_list_count Jt wY (fun Xw F H x vs d ds Q s hx hv w=>by
  unfold A6 at w
  split at w
  ·rename_i ds
   obtain⟨v,rfl,h1⟩:=hv.one
   cases (show _=_ from h1)
   obtain⟨a,ws,rfl,h2,h3,_⟩:=hx
   split at w
   ·rename_i bs hb
    exact⟨a,bs,rfl,rfl,by rw[<-j9 hb h3];exact s _ _ h2,WP.now w s rfl⟩
   ·exact w.elim
  ·exact w.elim) ho ha jx pM jy Aj rfl
def JJ(ho:PD X Xw o δo)(ha:kr X Xw [e] δs)(jx:Vp o "index" X.env (eval o X.env)=eval o X.env:=by rfl)
 (pM:((UH bP (To [e] X.env)).all (fun x=>!x.1)&&(WK bP (VF [] X.env)).all (fun x=>x.1.isSome)&&decide ([e].length+([]:List VO).length+(if ([]:List VO).isEmpty then 0 else 1)<30))=true:=by rfl)
 (jy:(apos.endLine==bP.line)=true:=by rfl)(Aj:To [e] X.env=[(false,eval e X.env)]:=by rfl):PD X Xw (.Call (.Attribute o "index" apos) [e] [] bP) (dM nL I_ δo δs):=
 D0 We PySem.F.slot_list_index PySem.F.type_list_index Ju wY (fun Xw F H x vs d ds Q s hx hv w=>by
  unfold I_ at w
  split at w
  ·rename_i ds
   obtain⟨v,rfl,h1⟩:=hv.one
   cases (show _=_ from h1)
   obtain⟨a,ws,rfl,h2,h3,_⟩:=hx
   split at w
   ·rename_i bs hb
    split at w
    ·rename_i hc
     exact⟨a,bs,rfl,rfl,by rw[<-j9 hb h3];exact s _ _ h2,hc,WP.now w s rfl⟩
    ·exact w.elim
   ·exact w.elim
  ·exact w.elim) ho ha jx pM jy Aj rfl
end
end L3
namespace L3
open PySem PySem.Spec L2 SeqAt HT
open PyProof.Rows hiding St
open PySem.W (Frag Looks InstAt findIn mroIn)
open PySem.Builtin PySem.Builtin.ObjectAttr PySem.Builtin.Getset_descriptor
section
variable{prog:TM}{w:World}{A:TY}{E:Value->S7->Prop}{h:Heap}{g:Array GenState}{d:Drawn}{t:Nat}{os:OsState}{x D:Addr}{ox:Obj}{K:Frag}
def yL{tp:Value}{R:Result->S7->Prop}(X:K.In h)(hx:h.get? x=some ox)(hc:ox.cls= .ref D)(hm:mroIn K D (.type "object")=some true)
 (hq:R (.ok (.ret (.ref D))) ⟨h,g,d,t,os⟩):Wc (model prog w) A (.call (.builtin "getset_descriptor.__get__") ⟨[.builtin "object.__class__", .ref x,tp],[]⟩) R ⟨h,g,d,t,os⟩:=by
 have L0:Looks (model prog w) h (typeOf (.ref x)) (.ref D):=hc▸(Looks.ld hx).andThen .now
 have L1:=Yw (M:=model prog w) X hm
 refine codeAny_call_builtin PySem.W.KF.slot_gs.plain PySem.W.KF.entry_gs (PySem.W.KF.slot_gs.check _ _ _ _ _ _ _ _ PySem.W.KF.type_class (PySem.W.KF.args_gs _ _ _) ?_)
 unfold Xq.«getset_descriptor.__get__» descrGet
 rw[PySem.W.dga_obj]
 refine S5 (Te ?_)
 unfold descrGetter descrCheckInstance descrNameAndClass isInstance
 simp only[PySem.W.KF.owner_class]
 repeat lk
 refine⟨Code.quiet_builtin _ (by decide+kernel),VN PySem.W.KF.entry_class ?_⟩
 unfold Xq.«object.__class__» shownTypeOf
 repeat lk
 exact hq
def oJ{tk:Tok}{Q:PySem.Fin->S7->Prop}(X:K.In h)(hx:h.get? x=some ox)(hc:ox.cls= .ref D)(ha:findIn K (.ref D) "__class__"=some (some (.builtin "object.__class__")))(hm:mroIn K D (.type "object")=some true)
 (hq:Q (.done (.ret (.ref D))) ⟨h,g,d,t,os⟩):wpAny (model prog w) A (Xq.«object.__getattribute__» ⟨[.ref x, .str "__class__" tk],[]⟩) Q E ⟨h,g,d,t,os⟩:=by
 have SJ:(⟨h,g,d,t,os⟩:S7).TypeIs (.builtin "object.__class__") "getset_descriptor":=Zd
 have f5:=Zd
 have f6:=F.slot_gs_get.lookup
 have f7:=F.slot_gs_set.lookup
 have LC:Looks (model prog w) h (WA (.ref D) "__class__") (some (.builtin "object.__class__")):=WC X ha
 repeat (any_goals (first | assumption | (with_reducible refine XR hx ?_;rw[hc]) | with_reducible refine LC.at ?_ | wp_step))
 exact yL X hx hc hm (Te hq)
def ue{M:Model}{HK:Value}{Q:Unit->S7->Prop}(X:K.In h)(hx:h.get? x=some ox)(hc:ox.cls= .ref D)(hb:mroIn K D (.type "BaseException")=some true)(hq:Q () ⟨h,g,d,t,os⟩):
 wpAny M A (checkBuiltinCall "BaseException.__getattribute__" ⟨[.ref x,HK],[]⟩) Q E ⟨h,g,d,t,os⟩:=by
 have hk:builtinKind "BaseException.__getattribute__"=some .slot:=by decide+kernel
 have IW:splitId "BaseException.__getattribute__"=some ("BaseException","__getattribute__"):=by decide+kernel
 have LB:Looks M h (isSubtype (.ref D) (.type "BaseException")) true:=Yw X hb
 have ha:=F.args_bexc_ga (.ref x) HK
 simp only[checkBuiltinCall,hk,IW]
 refine S5 ?_
 ·unfold isInstance
  repeat (first | (with_reducible refine XR hx ?_;rw[hc]) | with_reducible refine LB.at ?_ | wp_step)
  exact hq
def pz{tk:Tok}{R:Result->S7->Prop}(X:K.In h)(hx:h.get? x=some ox)(hc:ox.cls= .ref D)(ha:findIn K (.ref D) "__class__"=some (some (.builtin "object.__class__")))(hm:mroIn K D (.type "object")=some true)(hb:mroIn K D (.type "BaseException")=some true)
 (hq:R (.ok (.ret (.ref D))) ⟨h,g,d,t,os⟩):Wc (model prog w) A (.call (.builtin "BaseException.__getattribute__") ⟨[.ref x, .str "__class__" tk],[]⟩) R ⟨h,g,d,t,os⟩:=
 codeAny_call_builtin (by decide+kernel) F.entry_bexc_ga (ue X hx hc hb (oJ X hx hc ha hm hq))
def pq{Q:Option Value->S7->Prop}(X:K.In h)(hx:h.get? x=some ox)(hc:ox.cls= .ref D)(Rp:findIn K (.ref D) "__getattribute__"=some (some (.builtin "BaseException.__getattribute__")))(Ru:findIn K (.ref D) "__getattr__"=some none)
 (ha:findIn K (.ref D) "__class__"=some (some (.builtin "object.__class__")))(hm:mroIn K D (.type "object")=some true)(hb:mroIn K D (.type "BaseException")=some true)
 (hq:Q (some (.ref D)) ⟨h,g,d,t+1,os⟩):wpAny (model prog w) A (getAttr? (.ref x) "__class__") Q E ⟨h,g,d,t,os⟩:=by
 have LG:Looks (model prog w) h (WA (.ref D) "__getattribute__") (some (.builtin "BaseException.__getattribute__")):=WC X Rp
 have LH:Looks (model prog w) h (WA (.ref D) "__getattr__") none:=WC X Ru
 have RZ:(Wi "BaseException.__getattribute__"==Wi "object.__getattribute__")=false:=by decide+kernel
 have SV:(onTheHeap (TV D)&&Wi "BaseException.__getattribute__"==Wi "object.__getattribute__")=false:=by rw[RZ];rfl
 have f3:=PySem.F.excAttr_ValueError.ga.bind (.ref x)
 unfold getAttr? getAttrBy?
 repeat (any_goals (first | assumption | (with_reducible refine XR hx ?_;rw[hc]) | with_reducible refine LG.at ?_ | with_reducible refine LH.at ?_ | wp_step))
 refine pz X hx hc ha hm hb ?_
 repeat (any_goals (first | assumption | wp_step))
structure ExcC (K:Frag) (D:Addr):Prop where
 ga:findIn K (.ref D) "__getattribute__"=some (some (.builtin "BaseException.__getattribute__"))
 gt:findIn K (.ref D) "__getattr__"=some none
 ca:findIn K (.ref D) "__class__"=some (some (.builtin "object.__class__"))
 mo:mroIn K D (.type "object")=some true
 mb:mroIn K D (.type "BaseException")=some true
 cl:(VR K D).isSome=true
def w6(c:ExcC K D):PySem.W.KitX K (.ref x) (.ref D) (fun h=>∃ox,h.get? x=some ox/\ox.cls= .ref D) where
 ty:=fun _ _ _ ⟨_,hx,hc⟩=>hc▸(Looks.ld hx).andThen .now
 it:=fun _ _ X _=>by
  obtain⟨QE,IG⟩:=Uc.mp c.cl
  unfold VR at IG
  split at IG
  ·rename_i c' d' QD G9 ho
   intro A' Q' E' s' k q
   unfold isType loadHead
   exact S5 (wpAny_loadPart (k _ _ (X _ _ ho)) (Te q))
  ·cases IG
 ne:=fun h tp dd aR n sl X RU=>by
  obtain⟨QE,IG⟩:=Uc.mp c.cl
  refine UY.mpr fun q=>?_
  have e:D=tp:=Y7 (beq_iff_eq.mp q)
  subst e
  unfold VR at IG
  split at IG
  ·rename_i c' d' QD G9 ho
   have z:=(X _ _ ho).symm.trans RU
   cases z
  ·cases IG
 ca:=fun {_ _ _ _ _ s} X ⟨_,hx,hc⟩ k=>by
  obtain⟨hh,g,d,t,os⟩:=s
  exact pq X hx hc c.ga c.gt c.ca c.mo c.mb k
end
section
variable{X:Cx}{Xw:Nat->Hp->Prop}{e e2:Expr}{δs:DA}{pos p:Pos}
def OY(K:Frag):List V->Hp->VK->Prop:=fun xs H Q=>∃ea C D b,xs=[.ref ea, .ref D]/\H ea=some (Ie ea C)/\ExcC K C/\Tp K (.ref C) (.ref D)=some b/\Q (.bl b) H
def MB(K:Frag):List V->Hp->VK->Prop:=fun xs H Q=>∃ea C T b,xs=[.ref ea, .ty T]/\H ea=some (Ie ea C)/\ExcC K C/\Tp K (.ref C) (.type T)=some b/\Q (.bl b) H
def CA:CallR X (.builtin "isinstance") (OY X.K):=by
 intro pins s σ H xs us Q I r h
 obtain⟨ea,C,D,b,rfl,hH,hc,e,q⟩:=h
 obtain⟨u,w',rfl,r1,r2⟩:=vals2 r
 cases (show u=_ from r1)
 cases (show w'=_ from r2)
 obtain⟨hx,_,_⟩:=I.hok ea _ hH
 exact Ul (w6 hc) I.kIn hx e (fun z=>nomatch z) fun tk=>⟨.bl b,H,I.tok tk,rfl,q⟩
def A1:CallR X (.builtin "isinstance") (MB X.K):=by
 intro pins s σ H xs us Q I r h
 obtain⟨ea,C,D,b,rfl,hH,hc,e,q⟩:=h
 obtain⟨u,w',rfl,r1,r2⟩:=vals2 r
 cases (show u=_ from r1)
 cases (show w'=_ from r2)
 obtain⟨hx,_,_⟩:=I.hok ea _ hH
 exact Ul (w6 hc) I.kIn hx e (fun z=>nomatch z) fun tk=>⟨.bl b,H,I.tok tk,rfl,q⟩
def mQ(K:Frag)(cs:List Addr):List D->M D
 |[.exc C, .raw (.ref D)]=>if C∈cs then(match Tp K (.ref C) (.ref D) with | some b=>ae (.bl b) | none=>ah) else ah
 |[.exc C, .raw (.ty T)]=>if C∈cs then(match Tp K (.ref C) (.type T) with | some b=>ae (.bl b) | none=>ah) else ah
 |_=>ah
def jJ{cs:List Addr}(II:∀C∈cs,ExcC X.K C)(hg:Gl X "isinstance")(hm:X.mg "isinstance"=none)(hb:Ub "isinstance"=some (.builtin "isinstance"))(ha:kr X Xw [e,e2] δs)(he:To [e,e2] X.env=(false,eval e X.env)::To [e2] X.env:=by rfl)
 (kf:(UH pos (To [e2] X.env)).any (·.1)=false:=by rfl):PD X Xw (.Call (.Name "isinstance" p) [e,e2] [] pos) (dA (mQ X.K cs) δs):=
 eR (CA.or A1) (fun Xw F H vs ds Q s h w=>by
  unfold mQ at w
  split at w
  ·rename_i C D
   obtain⟨v,v',rfl,h1,h2⟩:=h.two
   cases (show _=_ from h2)
   obtain⟨ea,rfl,h3⟩:=h1
   split at w
   ·rename_i hC
    split at w
    ·rename_i b hb
     exact .inl ⟨ea,C,D,b,rfl,s _ _ h3,II C hC,hb,WP.now w s rfl⟩
    ·exact w.elim
   ·exact w.elim
  ·rename_i C T
   obtain⟨v,v',rfl,h1,h2⟩:=h.two
   cases (show _=_ from h2)
   obtain⟨ea,rfl,h3⟩:=h1
   split at w
   ·rename_i hC
    split at w
    ·rename_i b hb
     exact .inr ⟨ea,C,T,b,rfl,s _ _ h3,II C hC,hb,WP.now w s rfl⟩
    ·exact w.elim
   ·exact w.elim
  ·exact w.elim) hg hm hb ha (by decide) (by decide) he kf
end
end L3
namespace L3
open PySem PySem.Spec L2 SeqAt HT
open PyProof.Rows hiding St
open PySem.W (Frag Looks findIn mroIn)
def uy{ea C:Addr}{h1 h2:Heap}(x:zS h1 ea C)(k:∀o,h1.get? ea=some o->h2.get? ea=some o):zS h2 ea C:=
 let ⟨ox,a,b⟩:=x
 ⟨ox,k ox a,b⟩
def EA(τ:DS)(hd:Nat->M D):DS:=fun ρ=>match τ ρ with
 |some (.ex n)=>hd n>>=fun d=>ae (.rt d)
 |r=>r
abbrev pO(X:Cx)(pn:List (Addr×Obj))(E:Value->S7->Prop):Cx:={X with pn:=pn,xe:=E}
abbrev kh(X:Cx)(ea:Addr)(E:Value->S7->Prop):Cx:={X with A:=X.A.mark (some (.ref ea)),calm:=false,xe:=E}
section
variable{X:Cx}{pins pn:List (Addr×Obj)}{σ:St}{H:Hp}{s:S7}{E:Value->S7->Prop}{ea:Addr}
def DP(ok:X.Ok):(pO X pn E).Ok:=⟨ok.mod,ok.kind,ok.glob,ok.blt,ok.above,ok.inj,ok.has,ok.cab,ok.hd,ok.frames,ok.stk,ok.exf,ok.bs,ok.bsz,ok.noex,ok.exfs,ok.funs,ok.frf⟩
def Bj(I:Inv X pins σ H s)(hp:X.pn=[]):Inv (pO X pins E) [] σ H s:=
 ⟨DP I.ok,I.os,I.bare,I.base,I.loc,I.cell,I.free,I.freeC,fun p q=>I.pin p (by rw[hp];rw[T9] at q;exact q),I.hok,I.len⟩
def BK(ok:(pO X pn E).Ok):X.Ok:=⟨ok.mod,ok.kind,ok.glob,ok.blt,ok.above,ok.inj,ok.has,ok.cab,ok.hd,ok.frames,ok.stk,ok.exf,ok.bs,ok.bsz,ok.noex,ok.exfs,ok.funs,ok.frf⟩
def gH{xM:List (Addr×Obj)}(I:Inv (pO X pins E) xM σ H s)(hp:X.pn=[]):Inv X pins σ H s:=
 ⟨BK I.ok,I.os,I.bare,I.base,I.loc,I.cell,I.free,I.freeC,fun p q=>I.pin p (by rw[hp] at q;exact UW _ q),I.hok,I.len⟩
def jz(I:Inv X pins σ H s):Inv (kh X ea E) pins σ H s:=
 ⟨⟨I.ok.mod,I.ok.kind,I.ok.glob,I.ok.blt,I.ok.above,I.ok.inj,I.ok.has,I.ok.cab,fun z=>(by cases z),I.ok.frames,I.ok.stk,I.ok.exf,I.ok.bs,I.ok.bsz,I.ok.noex,I.ok.exfs,I.ok.funs,I.ok.frf⟩,I.os,I.bare,I.base,I.loc,I.cell,I.free,I.freeC,I.pin,I.hok,I.len⟩
def ux(I:Inv (kh X ea E) pins σ H s)(hd:X.calm=true->X.A.handled=none)(Cf:X.A.frames=some X.stack):Inv X pins σ H s:=
 ⟨⟨I.ok.mod,I.ok.kind,I.ok.glob,I.ok.blt,I.ok.above,I.ok.inj,I.ok.has,I.ok.cab,hd,Cf,I.ok.stk,I.ok.exf,I.ok.bs,I.ok.bsz,I.ok.noex,I.ok.exfs,I.ok.funs,I.ok.frf⟩,I.os,I.bare,I.base,I.loc,I.cell,I.free,I.freeC,I.pin,I.hok,I.len⟩
def yX{h':Heap}{m':Str->Option Value}{tk:Nat}(I:Inv X pins σ H s)(Ai:Vv X.env.locals s.heap h')(hn:h'.Ns X.env.locals m'):Inv X pins (σ.map fun _=>none) H {s with heap:=h',toks:=tk}:=by
 have KQ:∀b o,X.s₀.heap.get? b=some o->b≠X.env.locals:=fun b o e=>TR (TQ (Tq e) I.ok.above)
 refine⟨I.ok,I.os,I.bare,⟨fun b o e n hb hx=>?_,fun b o e n hb hx=>?_,I.base.free,fun b o e hx=>?_,I.base.tups,I.base.frzs,I.base.tbls⟩,⟨m',hn,fun i x v h1 h2 h3=>?_⟩,fun x c e=>?_,I.free,I.freeC,fun p hp=>?_,ya I.hok Ai I.free,by rw[S6];exact I.len⟩
 ·exact(Ai.2 b (KQ b o e)).trans (I.base.keep b o e n hb hx)
 ·obtain⟨sl,q⟩:=I.base.slot b o e n hb hx
  exact⟨sl,(Ai.2 b (KQ b o e)).trans q⟩
 ·obtain⟨o',q⟩:=I.base.there b o e hx
  exact⟨o',(Ai.2 b (KQ b o e)).trans q⟩
 ·rw[Tu] at h2
  cases q:σ[i]? with
  |none=>rw[q] at h2;cases h2
  |some z=>rw[q] at h2;cases h2
 ·obtain⟨v,q⟩:=I.cell x c e
  exact⟨v,q.sameBut Ai (I.cne x c e)⟩
 ·obtain⟨e,n,ne,nf,d⟩:=I.pin p hp
  exact⟨(Ai.2 p.1 ne).trans e,n,ne,nf,d⟩
def Bm{a:Addr}{o:HO}(I:Inv X pins σ H s)(hn:H a=none)(h0:X.s₀.heap.get? a=none)(hl:a≠X.env.locals)(hc:∀x c,X.env.cells.lookup x=some c->c≠a)(hp:∀p∈X.pn++pins,p.1≠a)(ho:ObjOk X.prog X.w (upd H a o) s.heap a o):
 Inv X pins σ (upd H a o) s:=by
 have ne:∀b u,H b=some u->b≠a:=fun b u e=>bG e hn
 have Sa:∀b u,X.s₀.heap.get? b=some u->b≠a:=fun b u e z=>by rw[z,h0] at e;cases e
 refine⟨I.ok,I.os,I.bare,⟨I.base.keep,I.base.slot,fun b u e n hx=>?_,I.base.there,fun b xs e=>?_,fun b u xs e=>?_,fun b ps e=>?_⟩,I.loc,I.cell,?_,fun x c e=>?_,fun p q=>?_,fun b u e=>?_,I.len⟩
 ·rw[aB (Sa b u e)];exact I.base.free b u e n hx
 ·have q:=I.base.tups b xs e
  rw[aB (ne b _ q)];exact q
 ·have q:=I.base.frzs b u xs e
  rw[aB (ne b _ q)];exact q
 ·obtain⟨more,q⟩:=I.base.tbls b ps e
  exact⟨more,by rw[aB (ne b _ q)];exact q⟩
 ·rw[aB (Uq hl)];exact I.free
 ·rw[aB (hc x c e)];exact I.freeC x c e
 ·obtain⟨e,n,r1,r2,d⟩:=I.pin p q
  exact⟨e,by rw[aB (hp p q)];exact n,r1,r2,d⟩
 ·by_cases hb:b=a
  ·subst hb;rw[aO] at e;cases e;exact ho
  ·rw[aB hb] at e
   exact(I.hok b u e).stay (fun _ _ _ q=>q) (fun c q=>by rw[aB (ne c _ q)];exact q) fun c xs q=>by rw[aB (ne c _ q)];exact q
end
section
variable{P:TM}{w:World}{K:Tc}{mg:Str->Option Value}{base:Heap}{N:List Str}{qual:Str}{scope:Scope}{f:Addr}{cd:Value}{A:TY}{outer:List Env}{s₀:S7}{H₀:Hp}{E:XK}{cv:Nat->Value}
def GS{Xw:Nat->Hp->Prop}{body EI:List Stmt}{b₀:Stmt}{x n:Str}{np LR pos:Pos}{i:Nat}{Cp:Addr}{τb τh:DS}{hd:Nat->M D}{cA:Nat->Addr}
 (Lv:∀k,cv k= .ref (cA k))(hN:(a_ (cT P w cv) P w K mg base N qual scope f cd A outer s₀ H₀ E).N.Nodup)(hi:(a_ (cT P w cv) P w K mg base N qual scope f cd A outer s₀ H₀ E).N[i]? =some n)(yU:(a_ (cT P w cv) P w K mg base N qual scope f cd A outer s₀ H₀ E).env.scope.names.lookup n=some .local)(hg:Gl (a_ (cT P w cv) P w K mg base N qual scope f cd A outer s₀ H₀ E) x)(hm:mg x=some (.ref Cp))(hex:∀k,V3 K (cv k) (.ref Cp)=some true)
 (hb:∀(pn:List (Addr×Obj)) (Ec:Value->S7->Prop) (Xw':Nat->Hp->Prop),Passes (cT P w cv) (pO (a_ (cT P w cv) P w K mg base N qual scope f cd A outer s₀ H₀ E) pn Ec) (EX cv Xw')->PSDs (pO (a_ (cT P w cv) P w K mg base N qual scope f cd A outer s₀ H₀ E) pn Ec) Xw' body τb)
 (hs:∀ea,PSDs (kh (a_ (cT P w cv) P w K mg base N qual scope f cd A outer s₀ H₀ E) ea fun _ _=>False) (fun _ _=>False) (b₀::EI) τh)(hh:∀(k:Nat) (ρ:bf),ρ.length=N.length->ρ[i]? =some (some (.fz (.exc (cA k))))->τh ρ=(hd k>>=fun d=>ae (.rt d)))
 (kX:(x==("__debug__":Str))=false:=by decide):
 iq (a_ (cT P w cv) P w K mg base N qual scope f cd A outer s₀ H₀ E) Xw (.Try body [.ExceptHandler (some (.Name x np)) (some n) (b₀::EI) LR] [] [] pos) (EA τb fun k=>noex (hd k)):=fun G₀ J₀ pins s σ H D I ⟨F,ρ,S,wq⟩=>by
 have uv:hZ (a_ (cT P w cv) P w K mg base N qual scope f cd A outer s₀ H₀ E).stack=s₀.heap.objs.size::hZ outer:=rfl
 have pass:Passes (cT P w cv) (pO (a_ (cT P w cv) P w K mg base N qual scope f cd A outer s₀ H₀ E) pins fun e s₁=>wpAny (model P w) (a_ (cT P w cv) P w K mg base N qual scope f cd A outer s₀ H₀ E).A (noteFrame e (a_ (cT P w cv) P w K mg base N qual scope f cd A outer s₀ H₀ E).env) (fun _ s₂=>wpAny (model P w) (a_ (cT P w cv) P w K mg base N qual scope f cd A outer s₀ H₀ E).A (setFlight e none) (fun _ s₃=>wpAny (model P w) (a_ (cT P w cv) P w K mg base N qual scope f cd A outer s₀ H₀ E).A (handleBy e (a_ (cT P w cv) P w K mg base N qual scope f cd A outer s₀ H₀ E).env [.ExceptHandler (some (.Name x np)) (some n) (b₀::EI) LR]) (SP (a_ (cT P w cv) P w K mg base N qual scope f cd A outer s₀ H₀ E) pins D) (a_ (cT P w cv) P w K mg base N qual scope f cd A outer s₀ H₀ E).xe s₃) (a_ (cT P w cv) P w K mg base N qual scope f cd A outer s₀ H₀ E).xe s₂) (a_ (cT P w cv) P w K mg base N qual scope f cd A outer s₀ H₀ E).xe s₁)
  (EX cv fun k H'=>∃F',Ext G₀ J₀ F' H'/\WPS K Xw G₀ J₀ (noex (hd k)>>=fun d=>ae (.rt d)) D):=by
  intro xM σ' H1 s1 e s' I1 ⟨ea,nn,a0,B,H',he,Bh,Rr,hok,un,Bc,hB,m,Oe,F',ext',w'⟩
  subst he
  have Cf:∀b∈hZ (a_ (cT P w cv) P w K mg base N qual scope f cd A outer s₀ H₀ E).stack,H' b=none:=fun b hb=>by
   obtain⟨_,o,ho,_⟩:=I1.stack.mem hb
   exact un.free b o ho (I1.stkFree b hb) (by simp)
  have NQ:ea∉hZ (a_ (cT P w cv) P w K mg base N qual scope f cd A outer s₀ H₀ E).stack:=fun hb=>by
   obtain⟨_,o,ho,so⟩:=Bc.2.2.1.mem hb
   obtain⟨oe,vs,q1,_,q2,_⟩:=Bc.first
   rw[q1] at ho
   cases ho
   exact so vs q2
  have PJ:B.get? ea=none:=Bc.2.1
  have yV:s1.heap.get? ea=none:=by
   cases q:s1.heap.get? ea with
   |none=>rfl
   |some o=>
    obtain⟨ob,h1,_⟩:=Bc.there
    have:=hB ea ob h1 (.inr (by rw[q];rfl)) NQ
    rw[PJ] at this
    cases this
  have PM:H' ea=none:=by
   cases q:H' ea with
   |none=>rfl
   |some u=>
    obtain⟨ob,h1,_⟩:=Bc.there
    have:=hB ea ob h1 (.inl (by rw[q];exact fun z=>nomatch z)) NQ
    rw[PJ] at this
    cases this
  have HG:∀h₅,B.StaysIn h₅->s'.heap.UpToSlots h₅->Inv (a_ (cT P w cv) P w K mg base N qual scope f cd A outer s₀ H₀ E) pins σ' H' {s' with heap:=h₅}:=fun h₅ st ups=>by
   have lQ:∀b o,s'.heap.get? b=some o->b∉hZ (a_ (cT P w cv) P w K mg base N qual scope f cd A outer s₀ H₀ E).stack->(H' b≠none\/(s1.heap.get? b).isSome=true)->h₅.get? b=some o:=fun b o e hb hc=>st b o (hB b o e hc hb)
   have Sy:Un (hZ (a_ (cT P w cv) P w K mg base N qual scope f cd A outer s₀ H₀ E).stack) [] H1 H' s1.heap h₅:=vM un (fun b o e hb hc=>lQ b o e hb hc) (fun b o e hb=>by
    obtain⟨_,o',lM,so⟩:=Bc.2.2.1.mem hb
    rw[e] at lM
    cases lM
    exact ups b o e so)
   have Ol:HOk P w H' h₅:=pN hok Cf fun b o e hb hc=>lQ b o e hb (.inl hc)
   exact gH (I1.call' (s':={s' with heap:=h₅}) (ch:=[]) Bh Sy Ol Rr (fun b hb=>absurd hb (by simp))) rfl
  show wpAny (model P w) (a_ (cT P w cv) P w K mg base N qual scope f cd A outer s₀ H₀ E).A (noteFrame (.ref ea) (a_ (cT P w cv) P w K mg base N qual scope f cd A outer s₀ H₀ E).env) _ _ s'
  refine wpAny_looks_onW (base:=B) (outer:=outer) (L:=s₀.heap.objs.size) I1.ok.frames rfl Bc fun h₄ Ly MU=>?_
  refine wpAny_landsW Ly fun h₅ IA MV=>?_
  have J5:=HG h₅ IA.1 (MU.trans MV)
  have M5:Inv (kh (a_ (cT P w cv) P w K mg base N qual scope f cd A outer s₀ H₀ E) ea fun _ _=>False) pins σ' H' {s' with heap:=h₅}:=jz J5
  refine wpAny_handleBy_cons (codeAny_handlers_test (lT M5 hg hm ?_ kX)) (by intro q;cases q)
  have LT:Looks (model P w) h₅ (typeOf (.ref ea)) (cv nn):=by
   obtain⟨ob,h1,h2⟩:=IA.there
   exact h2▸(Looks.ld h1).andThen .now
  refine(PySem.W.exm_one M5.kIn LT (hex nn)).here ?_
  refine codeAny_handlers_suite_as ?_
  refine lands_againW IA fun h₆ Lm Pk=>?_
  have J6:=HG h₆ Lm.1 ((MU.trans MV).trans Pk)
  have M6:Inv (kh (a_ (cT P w cv) P w K mg base N qual scope f cd A outer s₀ H₀ E) ea fun _ _=>False) pins σ' H' {s' with heap:=h₆}:=jz J6
  have BE:ea≠(a_ (cT P w cv) P w K mg base N qual scope f cd A outer s₀ H₀ E).env.locals:=fun z=>NQ (by rw[uv,z];exact Ta)
  have HM:∀y c,(a_ (cT P w cv) P w K mg base N qual scope f cd A outer s₀ H₀ E).env.cells.lookup y=some c->c≠ea:=fun y c q z=>by
   obtain⟨v,o,ho,_⟩:=I1.cell y c q
   rw[z,yV] at ho
   cases ho
  refine nu J6 hN hi (.inl yU) (v:= .ref ea) rfl (fun s7 I7 ⟨a,sb,ha⟩=>?_) (.inr yU)
  have Lx:zS s7.heap ea (cA nn):=by
   obtain⟨ob,h1,h2⟩:=Lm.there
   refine⟨ob,(sb.2 ea ?_).trans h1,by rw[h2,Lv]⟩
   rcases ha with z | z
   ·rw[z];exact BE
   ·exact Uq (HM n a z)
  have h0:s₀.heap.get? ea=none:=by
   cases q:s₀.heap.get? ea with
   |none=>rfl
   |some o=>
    obtain⟨o',q'⟩:=I1.base.there ea o q (fun z=>absurd (show ea∈([]:List Addr) from z) (by simp))
    rw[yV] at q'
    cases q'
  have I8:Inv (kh (a_ (cT P w cv) P w K mg base N qual scope f cd A outer s₀ H₀ E) ea fun _ _=>False) pins (σ'.set i (some (.ref ea))) (upd H' ea (Ie ea (cA nn))) s7:=
   Bm (jz I7) PM h0 BE HM (fun p q z=>by
    have hp:=I1.pin p (UW _ (show p∈pins from q))
    rw[z,yV] at hp
    cases hp.1) ⟨Lx,(by obtain⟨ox,h1,_⟩:=Lx;exact⟨ox,h1⟩),fun h1 h2 hx k=>uy hx k⟩
  have hlen:σ'.length=N.length:=I1.len
  have KG:i<σ'.length:=by rw[hlen];exact(Tn.mp hi).1
  have eL:=Ext.lay (o:=Ie ea (cA nn)) ext'.fh PM
  have hρ:((TB σ'.length none).set i (some (Sl.fz (.exc (cA nn)))))[i]? =some (some (.fz (.exc (cA nn)))):=Tv (by simpa using KG)
  have only:∀(j:Nat) (sl:Sl),((TB σ'.length (none:Option Sl)).set i (some (Sl.fz (.exc (cA nn)))))[j]? =some (some sl)->j=i/\sl= .fz (.exc (cA nn)):=fun j sl e=>by
   by_cases hj:j=i
   ·subst hj
    rw[hρ] at e
    cases e
    exact⟨rfl,rfl⟩
   ·rw[Tr (Uq hj),Uw] at e
    split at e<;>cases e
  have S8:StOk K G₀ J₀ (upd F' ea (Ie ea (cA nn))) (upd H' ea (Ie ea (cA nn))) (σ'.set i (some (.ref ea))) ((TB σ'.length none).set i (some (.fz (.exc (cA nn))))):=by
   refine⟨ext'.trans eL,⟨eL.fh,fun j sl e=>?_⟩,by simp,fun j c a e=>?_,fun j k c c' a e=>?_⟩
   ·obtain⟨rfl,rfl⟩:=only j sl e
    exact⟨.ref ea,Tv KG,ea,rfl,aO⟩
   ·obtain⟨_,z⟩:=only j _ e
    cases z
   ·obtain⟨_,z⟩:=only j _ e
    cases z
  have Q9:cA m=cA nn:=by
   have:=Oe
   rw[Lv,Lv] at this
   exact(Y7 this).symm
  have w8:WPS K (fun _ _=>False) G₀ J₀ (τh ((TB σ'.length none).set i (some (.fz (.exc (cA nn)))))) {nx:=fun _ _=>False,rt:=D.rt}:=by
   rw[hh m _ (by simpa using hlen) (by rw[Q9];exact hρ)]
   rcases(hd m).cs with q | ⟨k,q⟩ | ⟨d,q⟩
   ·rw[q] at w';exact w'.elim
   ·rw[q] at w';exact w'.elim
   ·rw[q] at w'⊢;exact w'
  refine Up (hs ea G₀ J₀ pins s7 _ _ {nx:=fun _ _=>False,rt:=D.rt} I8 ⟨_,_,S8,w8⟩) (fun fl s8 q8=>?_) fun _ _ z=>z.elim
  cases fl with
  |next=>obtain⟨_,_,_,z⟩:=q8;exact z.elim
  |brk=>obtain⟨_,_,_,z⟩:=q8;exact z.elim
  |cont=>obtain⟨_,_,_,z⟩:=q8;exact z.elim
  |ret u=>
   obtain⟨v,σ9,H9,I9,rv,q9⟩:=q8
   have I10:Inv (a_ (cT P w cv) P w K mg base N qual scope f cd A outer s₀ H₀ E) pins σ9 H9 s8:=ux I9 J5.ok.hd J5.ok.frames
   obtain⟨mm,Nj,_⟩:=I10.loc
   exact wpAny_nameGoes yU Nj (by rw[show (a_ (cT P w cv) P w K mg base N qual scope f cd A outer s₀ H₀ E).env.scope.kind= .function from I10.ok.kind];rfl) fun h' m' Of Ai=>⟨v,_,H9,yX I10 Ai Of,rv,q9⟩
 have wb:WPS K (fun k H'=>∃F',Ext G₀ J₀ F' H'/\WPS K Xw G₀ J₀ (noex (hd k)>>=fun d=>ae (.rt d)) D) G₀ J₀ (τb ρ) D:=by
  unfold EA at wq
  match τb ρ,wq with
  |none,wq=>exact wq
  |some (.ok (.nx ρ')),wq=>exact wq
  |some (.ok (.rt d)),wq=>exact wq
  |some (.ex k),wq=>exact fun F' H' e=>⟨F',e,wq⟩
 refine wpAny_Try_except (Up (hb pins _ _ pass G₀ J₀ [] s σ H D (Bj I rfl) ⟨F,ρ,S,wb⟩) (fun fl s1 q1=>?_) fun _ _ z=>z)
 cases fl with
 |next=>obtain⟨σ1,H1,I1,q⟩:=q1;exact Wa ⟨σ1,H1,gH I1 rfl,q⟩
 |brk=>obtain⟨σ1,H1,I1,q⟩:=q1;exact⟨σ1,H1,gH I1 rfl,q⟩
 |cont=>obtain⟨σ1,H1,I1,q⟩:=q1;exact⟨σ1,H1,gH I1 rfl,q⟩
 |ret u=>obtain⟨v,σ1,H1,I1,r,q⟩:=q1;exact⟨v,σ1,H1,gH I1 rfl,r,q⟩
end
end L3
namespace L3
open PySem PySem.Spec L2 SeqAt HT
open PyProof.Rows hiding St
structure RoomH (k:Nat) (A:TY):Prop where
 dp:A.depth+3*k+5<Xh
 un:A.units+16*k+200<cLine
def RoomH.deeper{k:Nat}{A:TY}(r:RoomH (k+1) A)(env:Env):RoomH k (A.deeper env):=
 ⟨by have:=r.dp;show A.depth+1+3*k+5<_;omega,by have:=r.un;show A.units+3+16*k+200<_;omega⟩
def RoomH.of{k:Nat}{A:TY}(r:Room k A)(v:Option Value):RoomH k (A.mark v):=⟨r.dp,r.un⟩
def RoomH.units{k:Nat}{A:TY}(r:RoomH k A):A.units+64<cLine:=by have:=r.un;omega
structure FnOkH (P:TM) (w:World) (K:Tc) (mg:Str->Option Value) (base:Heap) (k:Nat) (f:Addr) (fd:U1) (ps:List Str) (sp:Sp):Prop where
 len:∀vs H Q E,sp vs H Q E->vs.length=ps.length
 run:∀(A:TY) (outer:List Env) (s:S7) (H:Hp) (args:Args) (us:List Value) (vs:List V) (Q:VK) (E:XK),RoomH k A->Env0 P w K mg base A outer s H->YD s fd args (ps.zip us)->Vals vs us->sp vs H Q E->
  Wc (model P w) A (.call (.ref f) args) (CR K0 outer P w H s Q E) s
abbrev r_(P:TM)(w:World)(K:Tc)(mg:Str->Option Value)(base:Heap)(N:List Str)(qual:Str)(scope:Scope)(f:Addr)(cd:Value)(A:TY)(outer:List Env)(s:S7)(H:Hp):Cx:=
 {a_ K0 P w K mg base N qual scope f cd A outer s H E0 with calm:=false,xe:=fun _ _=>False}
def yY{P:TM}{w:World}{K:Tc}{mg:Str->Option Value}{base:Heap}{N ps:List Str}{qual:Str}{scope:Scope}{f:Addr}{cd:Value}{A:TY}{outer:List Env}{s s1:S7}{H:Hp}{us:List Value}{vs:List V}
 (S:FnScope N ps scope)(e0:Env0 P w K mg base A outer s H)(hl:vs.length=ps.length)(r:Vals vs us)
 (x:InCallC s s.heap.objs.size (bindL (UA qual scope s.heap.objs.size f cd).kindOf (ps.zip us) fun _=>none) (Yt (s.heap.objs.size+1) scope.names []) (bindC (UA qual scope s.heap.objs.size f cd).kindOf (ps.zip us) fun _=>none) s1):
 Inv (r_ P w K mg base N qual scope f cd A outer s H) [] (L2.start N vs) H s1:=by
 have e1:Env0 P w K mg base {A with handled:=none} outer s H:=⟨e0.frames,e0.mod,e0.bs,e0.bsz,e0.funs,e0.frf,e0.hok,e0.bare⟩
 have J:=sx (CX:=K0) (E:=E0) (A:={A with handled:=none}) S rfl e1 hl r x
 exact⟨⟨J.ok.mod,J.ok.kind,J.ok.glob,J.ok.blt,J.ok.above,J.ok.inj,J.ok.has,J.ok.cab,fun z=>(by cases z),YE e0.frames,J.ok.stk,J.ok.exf,J.ok.bs,J.ok.bsz,J.ok.noex,J.ok.exfs,J.ok.funs,J.ok.frf⟩,J.os,J.bare,J.base,J.loc,J.cell,J.free,J.freeC,J.pin,J.hok,J.len⟩
def IB{P:TM}{w:World}{K:Tc}{mg:Str->Option Value}{base:Heap}{k:Nat}{f:Addr}{name qual:Str}{params:Arguments}{body:List Stmt}{scope:Scope}{dV kV doc pm bo ct oc:Value}{an od:Option Addr}
 {Cg:Array (Option Value)}{N ps:List Str}{sp:Sp}(lk:K.lookup f=some ⟨oc,od, .func (Uu name qual params body scope dV kV doc pm an bo ct),Cg⟩)(vW:Vl K bo qual=true)(S:FnScope N ps scope)
 (len:∀vs H Q E,sp vs H Q E->vs.length=ps.length)
 (ix:∀(A:TY) (outer:List Env) (s:S7) (H:Hp) (vs:List V) (Q:VK) (E:XK),RoomH k (A.deeper (UA qual scope s.heap.objs.size f bo))->sp vs H Q E->
  ∃t,PSs (r_ P w K mg base N qual scope f bo A outer s H) body t/\t {nx:=fun _ H'=>Q .non H',rt:=Q} (L2.start N vs) H):
 FnOkH P w K mg base (k+1) f (Uu name qual params body scope dV kV doc pm an bo ct) ps sp:=by
 refine⟨len,fun A outer s H args us vs Q E hr e0 hb r vY=>?_⟩
 have hl:=len _ _ _ _ vY
 have KX:K.In s.heap:=e0.mod.kin.keeps fun b o e=>(e0.bs b o e).1
 have lim:s.heap.NoLimit:=e0.mod.nolimit.keeps fun b o e=>(e0.bs b o e).1
 have Dg:∀y∈ps.zip us,scope.names.lookup y.1=some .local\/(scope.names.lookup y.1=some .cell/\((Yt (s.heap.objs.size+1) scope.names []).lookup y.1).isSome=true):=fun⟨n,v⟩ hy=>by
  rcases S.par n (VB hy).1 with q | q
  ·exact .inl q
  ·exact .inr ⟨q,Wj _ _ _ (.inl q)⟩
 have N4:A.depth<Xh:=by have:=hr.dp;omega
 refine codeAny_call_function N4 (KX _ _ lk) rfl S.co S.gen rfl (YH KX vW) (hb _ _ _ _ ?_)
 refine YF S.kind Dg fun env he s1 x=>?_
 subst he
 refine⟨lim.keeps x.toInCall.keep,codeAny_func ?_⟩
 obtain⟨t,ht,hq⟩:=ix A outer s H vs Q E (hr.deeper _) vY
 have I:Inv (r_ P w K mg base N qual scope f bo A outer s H) [] (L2.start N vs) H s1:=yY S e0 hl r x
 refine Up (ht [] s1 (L2.start N vs) H _ I hq) (fun fl s' hs=>?_) fun e s' hs=>hs.elim
 have fin:∀{σ':St}{H':Hp}{v:V}{u:Value},Inv (r_ P w K mg base N qual scope f bo A outer s H) [] σ' H' s'->RelV v u->Q v H'->CE outer P w H s Q u s':=
  fun {σ' H' v u} J rv q=>⟨v,H',J.os,J.bare,J.base,J.hok,rv,q⟩
 cases fl with
 |ret u=>
  obtain⟨v,σ',H',J,rv,q⟩:=hs
  exact fin J rv q
 |next=>
  obtain⟨σ',H',J,q⟩:=hs
  exact fin (v:=V.non) (u:=Us) J rfl q
 |brk=>
  obtain⟨_,_,_,q⟩:=hs
  exact Uz q
 |cont=>
  obtain⟨_,_,_,q⟩:=hs
  exact Uz q
def EH{K:Tc}{F H:Hp}{N:List Str}{ds:List D}{vs:List V}(fh:Same F H)(hd:DenL K F ds vs):StOk K F H F H (L2.start N vs) (ds.map (fun d=>some (Sl.fz d))++TB (N.length - ds.length) none):=by
 have hlen:=hd.len
 have get:∀(i:Nat) (sl:Sl),(ds.map (fun d=>some (Sl.fz d))++TB (N.length - ds.length) none)[i]? =some (some sl)->∃d,ds[i]? =some d/\sl= .fz d:=fun i sl e=>by
  by_cases hi:i<ds.length
  ·rw[T6 (by simpa using hi),Tu] at e
   cases q:ds[i]? with
   |none=>rw[q] at e;cases e
   |some d=>rw[q] at e;cases e;exact⟨d,rfl,rfl⟩
  ·rw[T7 (by simpa using hi),Uw] at e
   split at e<;>cases e
 refine⟨Ext.refl fh,⟨fh,fun i sl e=>?_⟩,?_,fun i c a e=>?_,fun i j c c' a e=>?_⟩
 ·obtain⟨d,q,rfl⟩:=get i sl e
  obtain⟨v,e1,e2⟩:=hd.get q
  have hi:=(Tn.mp q).1
  refine⟨v,?_,e2⟩
  unfold L2.start
  rw[T6 (by simp;omega),Tu,e1]
  rfl
 ·unfold L2.start
  simp[hlen]
 ·obtain⟨d,_,z⟩:=get i _ e
  cases z
 ·obtain⟨d,_,z⟩:=get i _ e
  cases z
section
variable{P:TM}{w:World}{K:Tc}{mg:Str->Option Value}{base:Heap}{cv:Nat->Value}
def Lo{x qual:Str}{st:Stmt}{f:Addr}{fd:U1}{N ps:List Str}{k:Nat}{τ:DS}(Fn:Fun K x qual st f fd)(S:FnScope N ps (ai st))
 (ix:∀(bo:Value) (A:TY) (outer:List Env) (s:S7) (H:Hp),RoomH k (A.deeper (UA qual (ai st) s.heap.objs.size f bo))->
  PSDs (r_ P w K mg base N qual (ai st) f bo A outer s H) (fun _ _=>False) (aV st) τ):FnOkH P w K mg base (k+1) f fd ps (Ci K cv ps.length fun ds=>noex (cj N.length τ ds)):=by
 obtain⟨oc,od,kV,doc,pm,an,bo,ct,Cg,rfl,lk,vW⟩:=Fn.ex
 refine IB lk vW S (fun vs H Q E ⟨_,_,_,_,hl,_⟩=>hl) fun A outer s H vs Q E hr vY=>?_
 obtain⟨F,ds,fh,hd,hl,hw⟩:=vY
 refine⟨_,ix bo A outer s H hr F H,F,_,EH fh hd,?_⟩
 have hw:WP K (fun n H'=>E (cv n) none H') F H (noex (τ (ds.map (fun d=>some (Sl.fz d))++TB (N.length - ds.length) none)>>=fun o=>match o with | .nx _=>ae .non | .rt d=>ae d)) Q:=hw
 rcases(τ (ds.map (fun d=>some (Sl.fz d))++TB (N.length - ds.length) none)).cs with e | ⟨n,e⟩ | ⟨o,e⟩
 ·rw[e] at hw;exact hw.elim
 ·rw[e] at hw;exact hw.elim
 ·rw[e] at hw⊢
  cases o with
  |nx ρ'=>exact fun σ' F' H' s'=>hw .non H' F' s'.ext rfl
  |rt d=>exact fun v F' H' e' q=>hw v H' F' e' q
end
section
variable{X:Cx}{Xw:Nat->Hp->Prop}{cv:Nat->Value}{k m:Nat}{f:Addr}{fd:U1}{ps:List Str}{g:List D->M D}{x:Str}{p pos:Pos}{e:Expr}{es:List Expr}{δs:DA}
def D1(F:FnOkH X.prog X.w X.K X.mg X.base k f fd ps (Ci X.K cv m g))(hr:RoomH k X.A)(hg:Gl X x)(hm:X.mg x=some (.ref f))(hk:Ux X.K (.ref f)=true)(hb:Binds X.K fd ps [])
 (ha:kr X Xw (e::es) δs)(kX:(x==("__debug__":Str))=false:=by decide)(he:To (e::es) X.env=(false,eval e X.env)::To es X.env:=by rfl)(kf:(UH pos (To es X.env)).any (·.1)=false:=by rfl):
 PD X Xw (.Call (.Name x p) (e::es) [] pos) (fun ρ=>δs ρ>>=fun ds=>if ds.length=m then noex (g ds) else ah):=by
 intro pins s σ H Q I ⟨Fz,ρ,S,wq⟩
 refine Wm (lT I hg hm ?_ kX)
 refine WQ (h₀:=X.base) I.ok.mod.kin hk (cJ (ha pos pins s σ H _ I ⟨Fz,ρ,S,WP.bindL wq⟩) fun us s1 ⟨vs,H1,I1,r,q⟩=>⟨I1.kIn,?_⟩) he kf
 obtain⟨F1,ds,e1,q1,w1⟩:=q
 split at w1
 ·rename_i Dh
  have vY:Ci X.K cv m g vs H1 Q E0:=⟨F1,ds,e1.fh,q1,by rw[<-q1.len];exact Dh,by
   rcases(g ds).cs with q | ⟨n,q⟩ | ⟨d,q⟩
   ·rw[q] at w1;exact w1.elim
   ·rw[q] at w1;exact w1.elim
   ·rw[q] at w1⊢;exact w1⟩
  have RF:us.length=ps.length:=by rw[<-r.length];exact F.len _ _ _ _ vY
  refine wpAny_call (X7 (F.run X.A X.stack s1 H1 ⟨us,[]⟩ us vs Q E0 hr I1.env0 (by have:=hb s1 us I1.kIn (by rw[T9];exact RF);rwa [T9] at this) r vY) fun res s' hq=>?_)
  cases res with
  |error e=>exact hq.elim
  |ok fl=>
   cases fl with
   |ret u=>exact I1.after hq
   |next=>exact Uz hq
   |brk=>exact Uz hq
   |cont=>exact Uz hq
 ·exact w1.elim
end
def z4(N:List Str)(osc scope:Scope)(tn:List Str):Bool:=
 decide (scope.kind= .function)&&scope.names.all (fun y=>decide (y.2≠ .cell))&&scope.names.all (fun y=>decide (y.2= .local->scope.names.lookup y.1=some .local))&&
 scope.names.all (fun y=>decide (y.2= .free->(osc.names.lookup y.1=some .cell\/osc.names.lookup y.1=some .free)))&&
 ((dr tn N).zip N).all (fun p=>decide (scope.names.lookup p.1=none\/(p.1=p.2/\scope.names.lookup p.1=some .free)))
def bT{X:Cx}{N:List Str}{osc scope:Scope}{tn:List Str}(hN:X.N=N)(ho:X.env.scope=osc)(h:z4 N osc scope tn=true):CompSc X scope tn:=by
 unfold z4 at h
 simp only[Ts,T2,decide_eq_true_eq] at h
 obtain⟨⟨⟨⟨h1,h2⟩,h3⟩,h4⟩,h5⟩:=h
 refine⟨h1,h2,h3,fun y hy hf=>?_,?_⟩
 ·have:=h4 y hy hf
  rw[<-ho] at this
  exact this
 ·rw[hN]
  exact h5
def dq{X:Cx}{x:Str}{px:Pos}{σ:St}(hN:X.N.Nodup)(h0:X.N[0]? =some x)(yU:X.env.scope.names.lookup x=some .local):AR X (.Name x px) 0 σ:=fun pins s σ' F H d ts v u I fh hd rv q e=>by
 have e:ae [d]=ae ts:=e
 have e:=gj e
 subst e
 refine XT (yg I hN h0 (.inl yU) rv (fun s' I'=>⟨[v],?_, .cons q .nil⟩) (.inr yU))
 have hl:0<σ'.length:=by rw[I.len];exact(Tn.mp h0).1
 have:σ'.set 0 (some v)=[v].map some++σ:=by
  cases σ' with
  |nil=>simp at hl
  |cons a r=>
   have hd:r=σ:=by simpa using hd
   subst hd
   rfl
 rw[<-this]
 exact I'
def cM{P:TM}{w:World}{cv:Nat->Value}{X:Cx}:Passes (cT P w cv) X (EX cv fun _ _=>False):=fun _ _ _ _ _ _ _ ⟨_,_,_,_,_,_,_,_,_,_,_,_,_,_,z⟩=>z.elim
def bU(K:Tc)(mg:Str->Option Value)(x:Str)(st:Stmt)(f:Addr):Prop:=mg x=some (.ref f)/\∃fd,Fun K x x st f fd
def av(P:TM)(w:World)(K:Tc)(mg:Str->Option Value)(base:Heap)(cv:Nat->Value)(k:Nat)(x:Str)(m:Nat)(g:List D->M D):Prop:=
 ∃f fd ps,mg x=some (.ref f)/\Ux K (.ref f)=true/\Binds K fd ps []/\FnOk P w K mg base (cT P w cv) k f fd ps (Ci K cv m g)
section
variable{X:Cx}{Xw:Nat->Hp->Prop}{cv:Nat->Value}{k m:Nat}{g:List D->M D}{x:Str}{p pos:Pos}{e:Expr}{es:List Expr}{δs:DA}
def aw(m:Nat)(g:List D->M D)(δs:DA):DE:=fun ρ=>δs ρ>>=fun ds=>if ds.length=m then g ds else ah
def bq(F:av X.prog X.w X.K X.mg X.base cv k x m g)(hr:Room k X.A)(hg:Gl X x)(hx:Passes (cT X.prog X.w cv) X (EX cv Xw))
 (ha:kr X Xw (e::es) δs)(hl:(e::es).length=m)(kX:(x==("__debug__":Str))=false:=by decide)(he:To (e::es) X.env=(false,eval e X.env)::To es X.env:=by rfl)(kf:(UH pos (To es X.env)).any (·.1)=false:=by rfl):
 PD X Xw (.Call (.Name x p) (e::es) [] pos) (aw m g δs):=by
 obtain⟨f,fd,ps,h1,h2,h3,h4⟩:=F
 exact Gs h4 hr hg h1 h2 h3 hx ha hl kX he kf
end
def aH{P:TM}{w:World}{K:Tc}{mg:Str->Option Value}{base:Heap}{cv:Nat->Value}{k:Nat}{x:Str}{st:Stmt}{f:Addr}{N ps:List Str}{τ:DS}(T:bU K mg x st f)(S:FnScope N ps (ai st))
 (N1:∀(kV doc pm:Value) (an:Option Addr) (bo ct:Value) (us:List Value),us.length=ps.length->bindArgs (Uu x x (eJ st) (aV st) (ai st) .none kV doc pm an bo ct) ⟨us,[]⟩=pure (ps.zip us))
 (ix:∀(bo:Value) (A:TY) (outer:List Env) (s:S7) (H:Hp) (E:XK),Room k (A.deeper (UA x (ai st) s.heap.objs.size f bo))->
  PSDs (a_ (cT P w cv) P w K mg base N x (ai st) f bo A outer s H E) (fun n H'=>E (cv n) none H') (aV st) τ):av P w K mg base cv (k+1) x ps.length (cj N.length τ):=by
 obtain⟨h1,fd,Fn⟩:=T
 exact⟨f,fd,ps,h1,Fn.kp,Fn.binds N1,Ln Fn S ix⟩
section
variable{X:Cx}{Xw:Nat->Hp->Prop}{a:Expr}{δ:DE}{pos:Pos}
def d_:D->M D
 | .int i=>ae (.int (-i))
 |_=>ah
def fq(ha:PD X Xw a δ):PD X Xw (.UnaryOp .USub a pos) (d1 d_ δ):=PE.weak (Mr Kv ha) fun σ H Q ⟨F,ρ,s,w⟩=>by
 refine⟨F,ρ,s,WP.mono (WP.bind w) fun v H1 ⟨F1,d,e1,q,w1⟩=>?_⟩
 cases d with
 |int i=>
  have q:v= .int i:=q
  subst q
  exact⟨i,rfl,WP.now w1 e1.fh rfl⟩
 |_=>exact w1.elim
end
section
variable{X:Cx}{Xw:Nat->Hp->Prop}{pos:Pos}
def GA{x z:Str}(hg:Gl X x)(h:∃t,X.mg x=some (.str z t))(hz:z.length<=lim)(kX:(x==("__debug__":Str))=false:=by decide):PD X Xw (.Name x pos) (dC (.str z)):=by
 obtain⟨t,h⟩:=h
 exact vb (v:= .str z) hg h ⟨t,rfl⟩ (fun _=>⟨rfl,hz⟩) kX
def AA{x:Str}{i:Int}(hg:Gl X x)(h:∃t,X.mg x=some (.int i t))(kX:(x==("__debug__":Str))=false:=by decide):PD X Xw (.Name x pos) (dC (.int i)):=by
 obtain⟨t,h⟩:=h
 exact vb (v:= .int i) hg h ⟨t,rfl⟩ (fun _=>rfl) kX
def i6{x:Str}{a:Addr}(hg:Gl X x)(h:X.mg x=some (.ref a))(kX:(x==("__debug__":Str))=false:=by decide):PD X Xw (.Name x pos) (dC (.raw (.ref a))):=
 vb (v:= .ref a) hg h rfl (fun _=>rfl) kX
end
def oR(P:TM)(w:World)(K:Tc)(mg:Str->Option Value)(base:Heap)(cv:Nat->Value)(k:Nat)(x:Str)(m:Nat)(g:List D->M D):Prop:=
 ∃f fd ps,mg x=some (.ref f)/\Ux K (.ref f)=true/\Binds K fd ps []/\FnOkH P w K mg base k f fd ps (Ci K cv m fun ds=>noex (g ds))
def Cw(m:Nat)(g:List D->M D)(δs:DA):DE:=fun ρ=>δs ρ>>=fun ds=>if ds.length=m then noex (noex (g ds)) else ah
def Fi{X:Cx}{Xw:Nat->Hp->Prop}{cv:Nat->Value}{k m:Nat}{g:List D->M D}{x:Str}{p pos:Pos}{e:Expr}{es:List Expr}{δs:DA}(F:oR X.prog X.w X.K X.mg X.base cv k x m g)(hr:RoomH k X.A)(hg:Gl X x)
 (ha:kr X Xw (e::es) δs)(kX:(x==("__debug__":Str))=false:=by decide)(he:To (e::es) X.env=(false,eval e X.env)::To es X.env:=by rfl)(kf:(UH pos (To es X.env)).any (·.1)=false:=by rfl):
 PD X Xw (.Call (.Name x p) (e::es) [] pos) (Cw m g δs):=by
 obtain⟨f,fd,ps,h1,h2,h3,h4⟩:=F
 exact D1 h4 hr hg h1 h2 h3 ha kX he kf
def yJ{P:TM}{w:World}{K:Tc}{mg:Str->Option Value}{base:Heap}{cv:Nat->Value}{k:Nat}{x:Str}{st:Stmt}{f:Addr}{N ps:List Str}{τ:DS}(T:bU K mg x st f)(S:FnScope N ps (ai st))
 (N1:∀(kV doc pm:Value) (an:Option Addr) (bo ct:Value) (us:List Value),us.length=ps.length->bindArgs (Uu x x (eJ st) (aV st) (ai st) .none kV doc pm an bo ct) ⟨us,[]⟩=pure (ps.zip us))
 (ix:∀(bo:Value) (A:TY) (outer:List Env) (s:S7) (H:Hp),RoomH k (A.deeper (UA x (ai st) s.heap.objs.size f bo))->
  PSDs (r_ P w K mg base N x (ai st) f bo A outer s H) (fun _ _=>False) (aV st) τ):oR P w K mg base cv (k+1) x ps.length (cj N.length τ):=by
 obtain⟨h1,fd,Fn⟩:=T
 exact⟨f,fd,ps,h1,Fn.kp,Fn.binds N1,Lo Fn S ix⟩
structure Box (p:Prop):Prop where
 out:p
section
variable{X:Cx}{Xw:Nat->Hp->Prop}
def c8{st:Stmt}{rest:List Stmt}{τ τ':DS}(h1:Box (iq X Xw st τ))(h2:Box (PSDs X Xw rest τ')):Box (PSDs X Xw (st::rest) (aA τ τ')):=⟨ao h1.out h2.out⟩
def Io{st:Stmt}{τ:DS}(h1:Box (iq X Xw st τ)):Box (PSDs X Xw [st] τ):=⟨au h1.out⟩
end
def MW{l:Y_}{n k:Nat}{q:TM}{loose:List Str}{XP:(Str->Option Value)->Heap->Prop}{YP:World->Heap->Prop}{d:DefRec}{K:Params->Tc}{x:Str}{g:List D->M D}
 (hn:l.most=some n)(Ni:n<=lim)(Lw:d.params.defaults=[])(hr:Room k XU)
 (hY:∀(w:World) (h:Heap),YP w h->(K w.params).In h)(hg:∀ns:List Int,ns.length<=n->g [.scr ns]=ae (.bl true))
 (F:∀(w:World) (mg:Str->Option Value) (fa:Addr) (h:Heap),(K w.params).In h->h.Ns Tx mg->mg d.name=some (.ref fa)->
  ∃(cv:Nat->Value) (fd:U1),(∀(s:S7) (u:Value),YD s fd ⟨[u],[]⟩ [(x,u)])/\
   ∀base:Heap,(K w.params).In base->base.Ns Tx mg->FnOk l.prog w (K w.params) mg base (cT l.prog w cv) k fa fd [x] (Ci (K w.params) cv 1 g)):
 PySem.W.WalkO q loose XP YP l.row.toRowW d [] (fun f vs=>Y9 f vs):=by
 refine Att.attach_call hn Lw fun w s₀ s₁ mg mb fa o pm cd doc a vs ns G Y ho hd vW IK Dj hints hlen Rt=>?_
 have KX:=hY w _ Y
 obtain⟨cv,fd,hb,hF⟩:=F w mg fa _ KX G.T.g IK
 refine w9 KX G.T.g G.T.b G.T.builtins G.T.nolimit Rt Dj hints (Tw hlen (Tw Ni (UT eO))) hr hF hb (fun H hO hS=>?_) fun H e s' z=>?_
 ·refine⟨H,[.scr ns],fun _ _ e=>e,⟨_,_,rfl,⟨a,rfl,hS,Tw hlen Ni⟩,rfl⟩,rfl,?_⟩
  rw[hg ns hlen]
  exact fun v H' F' e q=>q
 ·obtain⟨_,_,_,_,_,_,_,_,_,_,_,_,_,_,y⟩:=z
def zr{K:Tc}{h:Heap}{mg:Str->Option Value}{x:Str}{C:Addr}{ms:List Value}{id:String}(hK:K.In h)(hG:h.Ns Tx mg)(at':TL K Tx x=some (some (.ref C)))
 (qq:Wd K C ms id=true):OwnCls x C ms id mg h:=OwnCls.mk (Ur hK hG at')<|by
 revert qq
 unfold Wd
 split<;>intro qq
 rotate_left
 ·exact Bool.noConfusion qq
 rename_i Lh Ke Qt IC
 split at qq
 rotate_left
 ·exact Bool.noConfusion qq
 rename_i C₁ OL v0 v1 v2 v3 R6 v5 em es
 rw[Ts,Ts,Ts,Ts,Ts] at qq
 rcases qq with⟨⟨⟨⟨⟨q1,q2⟩,q3⟩,q4⟩,q5⟩,q6⟩
 have q1:=Ys q1
 have q2:=Ys q2
 have q6:=Ys q6
 have q3:Ke.hasDel=false:=by
  cases z:Ke.hasDel
  ·rfl
  ·rw[z] at q3;cases q3
 subst q1 q2
 rcases Ke with⟨r1,r2,r3,r4,r5,r6,r7,r8,r9,Sg,Sh⟩
 have em:r3=_:=em
 have q3:Sh=false:=q3
 subst em q3
 have Sj:Qt= #[v0,v1,v2,v3,some (.builtin R6),v5]:=by
  rcases Qt with⟨y⟩
  exact congrArg Array.mk es
 subst Sj
 have n5:=Heap.Ns.of_isNs (PySem.W.isNs_of_in hK q5)
 have n6:=PySem.W.nsMap_none_of_in hK q5 q6
 exact⟨OL,r4,r1,r5,r2,r6,r7,r8,r9,Sg,Lh,v0,v1,v2,v3,v5,_,hK _ _ IC,n5,n6,PySem.W.tail_of_in hK q4⟩
def yQ{K:Tc}{t c:Value}(h1:PySem.W.subIn K c (.type "BaseException")=some true)(h2:Tp K t c=some true)(nK:(t==c)=false):V3 K t c=some true:=by
 unfold V3
 unfold Tp at h2
 rw[nK] at h2
 rw[h1]
 exact h2
section
variable{X:Cx}{e KA:Expr}{te ts:TE}{pos p2:Pos}
def Pp(X:Cx)(r:V->Hp->VK->Prop):Prop:=
 ∀(pins:List (Addr×Obj)) (s:S7) (σ:St) (H:Hp) (x:V) (v:Value) (u:Tok) (sl:Addr) (Q:VK),Inv X pins σ H s->RelV x v->s.heap.IsSliceOf sl .none .none (.int (-1) u)->r x H Q->
  ∃T id,WA (.type T) "__getitem__"=pure (some (.builtin id))/\s.TypeIs v T/\wpAny (model X.prog X.w) X.A (WJ v (.ref sl)) (EP X pins σ Q) X.xe s
def JU{r:V->Hp->VK->Prop}(hr:Pp X r)(he:PE X e te)(hs:PE X KA ts):PE X (.Subscript e (.Slice none none (some KA) p2) pos) (fun σ H Q=>te σ H fun x H1=>ts σ H1 fun y H2=>y= .int (-1)/\r x H2 Q):=by
 intro pins s σ H Q I h
 refine YW (cJ (he pins s σ H _ I h) fun v s1 ⟨x,H1,I1,r1,q1⟩=>?_)
 refine wpAny_Slice ?_
 rw[Y6]
 refine Te (Te ?_)
 rw[evalPart_some]
 refine cJ (hs pins s1 σ H1 _ I1 q1) fun vs s3 ⟨y,H3,I3,ry,q3⟩=>?_
 obtain⟨rfl,q3⟩:=q3
 obtain⟨u,rfl⟩:=ry
 have I4:Inv X pins σ H3 {s3 with heap:=s3.heap.push {cls:= .type "slice",data:= .fields #[.none, .none, .int (-1) u]} }:=I3.kept (t':=s3.toks) fun b ob q=>S_ _ q
 obtain⟨T,id,hT,ht,hg⟩:=hr pins {s3 with heap:=s3.heap.push {cls:= .type "slice",data:= .fields #[.none, .none, .int (-1) u]} } σ H3 x v u s3.heap.objs.size Q I4 r1 (XD ..) q3
 show wpAny (model X.prog X.w) X.A (Xy e (.Slice none none (some KA) p2) v (.ref s3.heap.objs.size)) (EP X pins σ Q) X.xe {s3 with heap:=s3.heap.push {cls:= .type "slice",data:= .fields #[.none, .none, .int (-1) u]} }
 exact tail_any (ops:=[v, .ref s3.heap.objs.size]) ht hT hg (by with_unfolding_all rfl)
end
def IsTupRev(h:Heap)(it t:Addr)(i:Int):Prop:=∃o,h.get? it=some o/\o.cls= .type "reversed"/\o.data= .fields #[.ref t,Xi i]
section
variable{s:S7}
def IsTupRev.typeIs{it t:Addr}{i:Int}(x:IsTupRev s.heap it t i):s.TypeIs (.ref it) "reversed":=let ⟨o,ho,hc,_⟩:=x;⟨o,ho,hc⟩
end
section
variable{e:Expr}{δi:DE}{δs:DA}
def Ms(gs:List (List D->M D))(m:Nat)(i:D)(ds:List D):M D:=match i with
 | .int k=>match L2.atI gs k with
   |some g=>if ds.length=m then g ds else ah
   |none=>ah
 |_=>ah
def DN(gs:List (List D->M D)):D->Bool
 | .int k=>(L2.atI gs k).isSome
 |_=>false
def CH(gs:List (List D->M D))(m:Nat)(δi:DE)(δs:DA):DE:=fun ρ=>δi ρ>>=fun i=>if DN gs i then δs ρ>>=fun ds=>Ms gs m i ds else ah
end
def y8:D->Option Key
 | .int i=>some (.inl i)
 | .str x=>some (.inr x)
 |_=>none
def uD:List D->Option (List Key)
 |[]=>some []
 |d::ds=>match y8 d,uD ds with
  |some k,some ks=>some (k::ks)
  |_,_=>none
def eB:D->Option (List Key)
 | .tup ds=>uD ds
 |_=>none
def pV{K:Tc}{F:Hp}{d:D}{v:V}{k:Key}(e:y8 d=some k)(h:Den K F d v):v=kV k:=by
 cases d<;>first | cases e | skip
 ·exact h
 ·exact h.1
def iy{K:Tc}{F:Hp}:∀{ds:List D}{vs:List V}{ks:List Key},uD ds=some ks->DenL K F ds vs->vs=ks.map kV
 |[],_,_,e,h=>by cases e;exact h
 |d::ds,_,_,e,⟨v,r,h1,h2,h3⟩=>by
  unfold uD at e
  split at e
  ·rename_i k ks e1 e2
   cases e
   subst h1
   rw[Tf,pV e1 h2,iy e2 h3]
  ·cases e
section
variable{κ:Type}[DecidableEq κ]
def e_:List κ->List D->κ->Option D
 |k'::ks,d::ds,k=>if k'=k then some d else e_ ks ds k
 |_,_,_=>none
def ni:List κ->List D->κ->D->List D
 |k'::ks,d'::ds,k,d=>(if k'=k then d else d')::ni ks ds k d
 |_,_,_,_=>[]
def mC{K:Tc}{F:Hp}:∀{ks:List κ}{ds:List D}{vs:List V}(k:κ),DenL K F ds vs->ks.length=ds.length->
 (match e_ ks ds k with | some d=>∃v,mD (ks.zip vs) k=some v/\Den K F d v | none=>mD (ks.zip vs) k=none)
 |[],[],_,_,_,_=>rfl
 |k'::ks,d::ds,_,k,⟨v,r,h1,h2,h3⟩,hl=>by
  subst h1
  unfold e_
  rw[UN]
  by_cases e:k'=k
  ·rw[if_pos e,mF (p:=(k',v)) e]
   exact⟨v,rfl,h2⟩
  ·rw[if_neg e,mE (p:=(k',v)) e]
   exact mC k h3 (by simpa using hl)
 |[],_::_,_,_,_,hl=>by simp at hl
 |_::_,[],_,_,_,hl=>by simp at hl
def j7{K:Tc}{F:Hp}{ks:List κ}{ds:List D}{vs:List V}(k:κ)(h:DenL K F ds vs)(hl:ks.length=ds.length):(mD (ks.zip vs) k).isSome=(e_ ks ds k).isSome:=by
 have:=mC k h hl
 split at this
 ·rename_i d e
  obtain⟨v,e1,_⟩:=this
  rw[e1,e];rfl
 ·rename_i e
  rw[this,e]
  rfl
def xY{K:Tc}{F:Hp}{d:D}{v:V}(hd:Den K F d v):∀{ks:List κ}{ds:List D}{vs:List V}(k:κ),DenL K F ds vs->ks.length=ds.length->
 ∃ws,(ks.zip vs).map (fun kv=>if kv.1=k then(kv.1,v) else kv)=ks.zip ws/\DenL K F (ni ks ds k d) ws
 |[],[],_,_,h,_=>⟨[],rfl,rfl⟩
 |k'::ks,d'::ds,_,k,⟨v',r,h1,h2,h3⟩,hl=>by
  subst h1
  obtain⟨ws,e1,e2⟩:=xY hd k h3 (by simpa using hl)
  by_cases e:k'=k
  ·refine⟨v::ws,?_,?_⟩
   ·rw[UN,Tf,e1,if_pos e];rfl
   ·unfold ni;rw[if_pos e];exact .cons hd e2
  ·refine⟨v'::ws,?_,?_⟩
   ·rw[UN,Tf,e1,if_neg e];rfl
   ·unfold ni;rw[if_neg e];exact .cons h2 e2
 |[],_::_,_,_,_,hl=>by simp at hl
 |_::_,[],_,_,_,hl=>by simp at hl
def qF:∀(ks:List κ) (ds:List D) (k:κ) (d:D),ks.length=ds.length->(ni ks ds k d).length=ds.length
 |[],[],_,_,_=>rfl
 |_::ks,_::ds,k,d,h=>by unfold ni;rw[Tj,Tj,qF ks ds k d (by simpa using h)]
 |[],_::_,_,_,h=>by simp at h
 |_::_,[],_,_,h=>by simp at h
def gZ(ks:List κ)(ds:List D)(k:κ):List κ:=if (e_ ks ds k).isSome then ks else ks++[k]
def f9(ks:List κ)(ds:List D)(k:κ)(d:D):List D:=if (e_ ks ds k).isSome then ni ks ds k d else ds++[d]
def AH{K:Tc}{F:Hp}{d:D}{v:V}(hd:Den K F d v){ks:List κ}{ds:List D}{vs:List V}(k:κ)(h:DenL K F ds vs)(hl:ks.length=ds.length):
 ∃ws,putK (ks.zip vs) k v=(gZ ks ds k).zip ws/\DenL K F (f9 ks ds k d) ws/\(gZ ks ds k).length=(f9 ks ds k d).length:=by
 have hs:=j7 (K:=K) (F:=F) k h hl
 unfold putK gZ f9
 have ha:((ks.zip vs).any fun kv=>decide (kv.1=k))=(mD (ks.zip vs) k).isSome:=qQ ..
 rw[ha,hs]
 cases e:(e_ ks ds k).isSome with
 |true=>
  rw[if_pos rfl,if_pos rfl,if_pos rfl]
  obtain⟨ws,e1,e2⟩:=xY hd k h hl
  exact⟨ws,e1,e2,by rw[qF ks ds k d hl];exact hl⟩
 |false=>
  rw[if_neg TN,if_neg TN,if_neg TN]
  refine⟨vs++[v],?_,h.append (.cons hd .nil),by simp[hl]⟩
  rw[List.zip_append (by rw[hl];exact h.len)]
  rfl
end
def AQ{κ:Type}{K:Tc}{F:Hp}{ks:List κ}{ds:List D}{vs:List V}(h:DenL K F ds vs)(hl:ks.length=ds.length):(ks.zip vs).length=ds.length:=by
 rw[XG,hl,<-h.len];omega
def qJ(ρ:bf)(i:Nat):Option D:=match ρ[i]? with
 |some (some (.fz d))=>some d
 |some (some (.ow c))=>some c.d
 |_=>none
def ED{K:Tc}{F H:Hp}{σ:St}{ρ:bf}{i:Nat}{ks:List (List Key)}{ds:List D}(s:StE K F H σ ρ)(e:qJ ρ i=some (.dct ks ds)):
 ∃a vs,σ[i]? =some (some (.ref a))/\Rd H a (.dT (ks.zip vs))/\DenL K F ds vs/\ks.length=ds.length/\ds.length<=lim:=by
 unfold qJ at e
 split at e
 ·rename_i d e1
  cases e
  obtain⟨v,h1,a,ob,vs,rfl,h2,h3,h4,h5⟩:=s.den i _ e1
  exact⟨a,vs,h1, .inr ⟨ob,s.fh _ _ h2⟩,h3,h4,h5⟩
 ·rename_i c e1
  cases c<;>cases e
  obtain⟨v,h1,a,o,rfl,h2,_,vs,rfl,h3,h4,h5⟩:=s.den i _ e1
  exact⟨a,vs,h1, .inl h2,h3,h4,h5⟩
 ·cases e
def EC{K:Tc}{F H:Hp}{σ:St}{ρ:bf}{i:Nat}{ks:List Key}{ds:List D}(s:StE K F H σ ρ)(e:qJ ρ i=some (.dci ks ds)):
 ∃a vs,σ[i]? =some (some (.ref a))/\Rd H a (.dK (ks.zip vs))/\DenL K F ds vs/\ks.length=ds.length/\ds.length<=lim:=by
 unfold qJ at e
 split at e
 ·rename_i d e1
  cases e
  obtain⟨v,h1,a,ob,vs,rfl,h2,h3,h4,h5⟩:=s.den i _ e1
  exact⟨a,vs,h1, .inr ⟨ob,s.fh _ _ h2⟩,h3,h4,h5⟩
 ·rename_i c e1
  cases c<;>cases e
  obtain⟨v,h1,a,o,rfl,h2,_,vs,rfl,h3,h4,h5⟩:=s.den i _ e1
  exact⟨a,vs,h1, .inl h2,h3,h4,h5⟩
 ·cases e
def Cb:D->D->Option (Option D)
 | .dct ks ds,k=>(eB k).map (e_ ks ds)
 | .dci ks ds,k=>(y8 k).map (e_ ks ds)
 |_,_=>none
def zY{K:Tc}{F H:Hp}{σ:St}{ρ:bf}{i:Nat}{d k:D}{y:V}{o:Option D}(s:StE K F H σ ρ)(hi:qJ ρ i=some d)(hk:Den K F k y)(e:Cb d k=some o):
 ∃a ov,σ[i]? =some (some (.ref a))/\kK H a y ov/\ov.isSome=o.isSome/\∀d',o=some d'->∃v,ov=some v/\Den K F d' v:=by
 unfold Cb at e
 split at e
 ·rename_i ks ds
  cases q:eB k with
  |none=>rw[q] at e;cases e
  |some kk=>
   rw[q] at e
   cases e
   obtain⟨a,vs,h1,h2,h3,h4,h5⟩:=ED s hi
   unfold eB at q
   split at q
   ·rename_i es
    obtain⟨b,ws,rfl,k2,k3,_⟩:=hk
    have e1:=iy q k3
    subst e1
    refine⟨a,_,h1, .inr ⟨_,kk,b,h2,rfl,s.fh _ _ k2,rfl⟩,j7 kk h3 h4,fun d' so=>?_⟩
    have:=mC (K:=K) (F:=F) kk h3 h4
    rw[so] at this
    exact this
   ·cases q
 ·rename_i ks ds
  cases q:y8 k with
  |none=>rw[q] at e;cases e
  |some kk=>
   rw[q] at e
   cases e
   obtain⟨a,vs,h1,h2,h3,h4,h5⟩:=EC s hi
   have e1:=pV q hk
   subst e1
   refine⟨a,_,h1, .inl ⟨_,kk,h2,rfl,rfl⟩,j7 kk h3 h4,fun d' so=>?_⟩
   have:=mC (K:=K) (F:=F) kk h3 h4
   rw[so] at this
   exact this
 ·cases e
section
variable{X:Cx}{Xw:Nat->Hp->Prop}{a e:Expr}{δ δk δv:DE}{pos p pos' J0:Pos}{x:Str}{i:Nat}
def Le(neg:Bool)(i:Nat)(δ:DE):DE:=fun ρ=>δ ρ>>=fun k=>match qJ ρ i with
 |some d=>match Cb d k with
  |some o=>ae (.bl (if neg then !o.isSome else o.isSome))
  |none=>ah
 |none=>ah
def Jd{neg:Bool}{σ:St}{H:Hp}{Q:VK}(h:tD X.K Xw (Le neg i δ) σ H Q):(fun σ H Q=>tD X.K Xw δ σ H fun y H1=>vK i σ H1 fun x H2=>∃a o,x= .ref a/\kK H2 a y o/\Q (.bl (if neg then !o.isSome else o.isSome)) H2) σ H Q:=by
 obtain⟨F,ρ,s,w⟩:=h
 refine⟨F,ρ,s,WP.mono (WP.bind w) fun y H1 ⟨F1,k,e1,q1,w1⟩=>?_⟩
 have s1:=s.ext e1
 cases hi:qJ ρ i with
 |none=>rw[hi] at w1;exact w1.elim
 |some d=>
  rw[hi] at w1
  have w1:WP X.K Xw F1 H1 (match Cb d k with | some o=>ae (.bl (if neg then !o.isSome else o.isSome)) | none=>ah) Q:=w1
  cases he:Cb d k with
  |none=>rw[he] at w1;exact w1.elim
  |some o=>
   rw[he] at w1
   obtain⟨a,ov,h1,h2,h3,_⟩:=zY s1 hi q1 he
   refine⟨.ref a,h1,a,ov,rfl,h2,?_⟩
   rw[h3]
   exact WP.now w1 e1.fh rfl
def OS(hu:X.A.units+64<cLine)(ha:PD X Xw a δ)(hv:PE X (.Name x p) (vK i))(hm:Ug .In (.Name x p)=false:=by rfl):PD X Xw (.Compare a [.In] [.Name x p] pos) (Le false i δ):=
 PE.weak (JP (JH (by omega) ha hv) hm) fun σ H Q h=>Jd (neg:=false) h
def Ez(i:Nat):DS:=fun ρ=>ae (.nx (ρ.set i (some (.ow (.dct [] [])))))
def xO(hN:X.N.Nodup)(hi:X.N[i]? =some x)(hx:Loc X.env.scope x)(hf:X.fn x=true\/X.env.scope.names.lookup x=some .local:=by first | exact .inl rfl | exact .inr rfl):
 iq X Xw (.Assign [.Name x pos'] (.Dict [] [] J0) pos) (Ez i):=fun F₀ H₀=>PS.weak (vf Ea (bu hN hi hx hf) rfl) fun D σ H ⟨F,ρ,s,w⟩=>fun q hq=>
 w _ F _ (s.setNew (c₀:= .dct [] []) hq ⟨[],rfl,rfl,rfl,Ue _⟩)
def m_:C->D->D->Option C
 | .dct ks ds,k,d=>match eB k with
   |some kk=>if ds.length<lim then some (.dct (gZ ks ds kk) (f9 ks ds kk d)) else none
   |none=>none
 | .dci ks ds,k,d=>match y8 k with
   |some kk=>if ds.length<lim then some (.dci (gZ ks ds kk) (f9 ks ds kk d)) else none
   |none=>none
 |_,_,_=>none
def DX(ρ:bf)(i:Nat):Option C:=match ρ[i]? with
 |some (some (.ow c))=>some c
 |_=>none
def BP{ρ:bf}{i:Nat}{c:C}(h:DX ρ i=some c):ρ[i]? =some (some (.ow c)):=by
 unfold DX at h
 split at h
 ·rename_i c' e
  cases h
  exact e
 ·cases h
def g7(i:Nat)(δk δv:DE):DS:=fun ρ=>match DX ρ i with
 |some c=>δv ρ>>=fun v=>δk ρ>>=fun k=>match m_ c k v with
  |some c'=>ae (.nx (ρ.set i (some (.ow c'))))
  |none=>ah
 |none=>ah
def tm{κ:Type}[DecidableEq κ]{ks:List κ}{ds:List D}{k:κ}{d:D}(hl:ks.length=ds.length)(h:ds.length<lim):(f9 ks ds k d).length<=lim:=by
 unfold f9
 split
 ·rw[qF ks ds k d hl];omega
 ·rw[Ti];exact h
def En{K:Tc}{F H:Hp}{c c':C}{k d:D}{y v:V}{o:HO}{b:Addr}(hs:Same F H)(hb:H b=some o)(hc:DenC K F c o)(hk:Den K F k y)(hd:Den K F d v)(e:m_ c k d=some c'):∃o',DPut H b y v (upd H b o')/\DenC K F c' o':=by
 have LL:=eO
 unfold m_ at e
 split at e
 ·rename_i ks ds k d
  obtain⟨vs,rfl,h3,h4,h5⟩:=hc
  split at e
  ·rename_i kk q
   split at e
   ·rename_i lD
    cases e
    unfold eB at q
    split at q
    ·rename_i es
     obtain⟨b2,ws,rfl,k2,k3,_⟩:=hk
     have e1:=iy q k3
     subst e1
     obtain⟨us,e2,e3,e4⟩:=AH hd kk h3 h4
     refine⟨_,DPut.t hb (hs _ _ k2) (by rw[AQ h3 h4];omega),us,?_,e3,e4,tm h4 lD⟩
     rw[e2]
    ·cases q
   ·cases e
  ·cases e
 ·rename_i ks ds k d
  obtain⟨vs,rfl,h3,h4,h5⟩:=hc
  split at e
  ·rename_i kk q
   split at e
   ·rename_i lD
    cases e
    have e1:=pV q hk
    subst e1
    obtain⟨us,e2,e3,e4⟩:=AH hd kk h3 h4
    refine⟨_,DPut.k hb (by rw[AQ h3 h4];omega),us,?_,e3,e4,tm h4 lD⟩
    rw[e2]
   ·cases e
  ·cases e
 ·cases e
def jN(hu:X.A.units+64<cLine)(hv:PE X (.Name x p) (vK i))(hk:PD X Xw a δk)(he:PD X Xw e δv)(hs:Xx e (some (.Subscript (.Name x p) a pos')) pos.line X.env=pure false:=by rfl):
 iq X Xw (.Assign [.Subscript (.Name x p) a pos'] e pos) (g7 i δk δv):=fun F₀ H₀=>PS.weak (GR (by omega) hv hk he hs) fun D σ H ⟨F,ρ,s,w⟩=>by
 unfold g7 at w
 cases ho:DX ρ i with
 |none=>rw[ho] at w;exact w.elim
 |some c=>
  rw[ho] at w
  have hi:=BP ho
  have w:WPS X.K Xw F₀ H₀ (δv ρ>>=fun v=>δk ρ>>=fun k=>match m_ c k v with | some c'=>ae (.nx (ρ.set i (some (.ow c')))) | none=>ah) D:=w
  refine⟨F,ρ,s.st,?_⟩
  rcases(δv ρ).cs with q | ⟨n,q⟩ | ⟨dv,q⟩
  ·rw[q] at w;exact w.elim
  ·rw[q] at w⊢;exact fun F' H' e'=>w F' H' (s.ext.trans e')
  ·rw[q] at w⊢
   intro v H1 F1 e1 hq
   have s1:=s.ext' e1
   obtain⟨u,h1,b,o,rfl,h2,h3,h4⟩:=s1.st.den i _ hi
   have w:WPS X.K Xw F₀ H₀ (δk ρ>>=fun k=>match m_ c k dv with | some c'=>ae (.nx (ρ.set i (some (.ow c')))) | none=>ah) D:=w
   refine⟨.ref b,h1,F1,ρ,s1.st,?_⟩
   rcases(δk ρ).cs with q2 | ⟨n,q2⟩ | ⟨dk,q2⟩
   ·rw[q2] at w;exact w.elim
   ·rw[q2] at w⊢;exact fun F' H' e'=>w F' H' (s1.ext.trans e')
   ·rw[q2] at w⊢
    intro y H2 F2 e2 hy
    have w:WPS X.K Xw F₀ H₀ (match m_ c dk dv with | some c'=>ae (.nx (ρ.set i (some (.ow c')))) | none=>ah) D:=w
    cases hp:m_ c dk dv with
    |none=>rw[hp] at w;exact w.elim
    |some c'=>
     rw[hp] at w
     have s2:=s1.ext' e2
     obtain⟨u2,k1,b2,o2,Q6,k2,k3,k4⟩:=s2.st.den i _ hi
     rw[h1] at k1
     cases k1
     cases Q6
     obtain⟨o',g,hc⟩:=En s2.st.fh k2 k4 hy (Den.mono e2.ff hq) hp
     exact⟨b,_,rfl,g,w σ F2 _ (s2.chg hi h1 hc)⟩
end
def dO(c:DT)(body:DS):Nat->DS
 |0,_=>ah
 |n+1,ρ=>c ρ>>=fun b=>if b then body ρ>>=fun o=>match o with | .nx ρ'=>dO c body n ρ' | .rt d=>ae (.rt d) else ae (.nx ρ)
def lr(c:DT)(body:DS):DS:=fun ρ=>dO c body lim ρ
section
variable{X:Cx}{Xw:Nat->Hp->Prop}{τ:DS}{tc:DT}{pos:Pos}
def kj{c:Expr}{body:List Stmt}(hp:PassesOwn (model X.prog X.w) X.A X.env X.xe)(hc:mH X Xw c tc)(hb:PSDs X Xw body τ):iq X Xw (.While c body [] pos) (lr tc τ):=fun F₀ H₀=>PS.weak (Ei hp hc hb.ex) fun D σ H ⟨F,ρ,s,w⟩=>by
 refine⟨fun m σ H=>∃F ρ,StOk X.K F₀ H₀ F H σ ρ/\WPS X.K Xw F₀ H₀ (dO tc τ m ρ) D,⟨lim,F,ρ,s,w⟩,?_⟩
 rintro m σ H ⟨F,ρ,s,w⟩
 cases m with
 |zero=>exact w.elim
 |succ m=>
  refine⟨F,ρ,s.st,?_⟩
  unfold dO at w
  match tc ρ,w with
  |none,w=>exact w
  |some (.ex n),w=>exact fun F' H' e'=>w F' H' (s.ext.trans e')
  |some (.ok false),w=>exact fun H' F' e'=>w σ F' H' (s.ext' e')
  |some (.ok true),w=>
   intro H' F' e'
   have w:WPS X.K Xw F₀ H₀ (τ ρ>>=fun o=>match o with | .nx ρ'=>dO tc τ m ρ' | .rt d=>ae (.rt d)) D:=w
   refine⟨fun σ' H'=>∃F' ρ',StOk X.K F₀ H₀ F' H' σ' ρ'/\WPS X.K Xw F₀ H₀ (dO tc τ m ρ') D,fun σ' H' h=>⟨m,VX m,h⟩,F₀,H₀,F',ρ,s.ext' e',?_⟩
   match τ ρ,w with
   |none,w=>exact w
   |some (.ok (.nx ρ')),w=>exact fun σ' F' H' s'=>⟨F',ρ',s',w⟩
   |some (.ok (.rt d)),w=>exact w
   |some (.ex n),w=>exact w
end
def lR:List D->Option (List (List Key))
 |[]=>some []
 |d::ds=>match eB d,lR ds with
  |some k,some ks=>some (k::ks)
  |_,_=>none
def Iv:∀{x y:D}{k k':Key}{n:Nat},y8 x=some k->y8 y=some k'->ju n x y=some (decide (k=k'))
 | .int i, .int j,_,_,n,e1,e2=>by
   cases e1;cases e2
   have:ju n (.int i) (.int j)=some (i==j):=by cases n<;>rfl
   rw[this]
   congr 1
   by_cases h:i=j
   ·subst h;simp
   ·simp[h]
 | .str x, .str y,_,_,n,e1,e2=>by
   cases e1;cases e2
   have:ju n (.str x) (.str y)=some (x==y):=by cases n<;>rfl
   rw[this]
   congr 1
   by_cases h:x=y
   ·subst h;simp
   ·simp[h]
 | .int i, .str y,_,_,n,e1,e2=>by
   cases e1;cases e2
   have:ju n (.int i) (.str y)=some false:=by cases n<;>rfl
   rw[this]
   simp
 | .str x, .int j,_,_,n,e1,e2=>by
   cases e1;cases e2
   have:ju n (.str x) (.int j)=some false:=by cases n<;>rfl
   rw[this]
   simp
 | .non,_,_,_,_,e1,_=>by cases e1
 | .bl _,_,_,_,_,e1,_=>by cases e1
 | .raw _,_,_,_,_,e1,_=>by cases e1
 | .exc _,_,_,_,_,e1,_=>by cases e1
 | .scr _,_,_,_,_,e1,_=>by cases e1
 | .tup _,_,_,_,_,e1,_=>by cases e1
 | .lst _,_,_,_,_,e1,_=>by cases e1
 | .dct _ _,_,_,_,_,e1,_=>by cases e1
 | .dci _ _,_,_,_,_,e1,_=>by cases e1
 |_, .non,_,_,_,_,e2=>by cases e2
 |_, .bl _,_,_,_,_,e2=>by cases e2
 |_, .raw _,_,_,_,_,e2=>by cases e2
 |_, .exc _,_,_,_,_,e2=>by cases e2
 |_, .scr _,_,_,_,_,e2=>by cases e2
 |_, .tup _,_,_,_,_,e2=>by cases e2
 |_, .lst _,_,_,_,_,e2=>by cases e2
 |_, .dct _ _,_,_,_,_,e2=>by cases e2
 |_, .dci _ _,_,_,_,_,e2=>by cases e2
def Aa{n:Nat}:∀{xs ys:List D}{k k':List Key},uD xs=some k->uD ys=some k'->nH (ju n) xs ys=some (decide (k=k'))
 |[],[],_,_,e1,e2=>by cases e1;cases e2;rfl
 |x::xs,[],_,_,e1,e2=>by
  cases e2
  unfold uD at e1
  split at e1
  ·cases e1;simp[nH]
  ·cases e1
 |[],y::ys,_,_,e1,e2=>by
  cases e1
  unfold uD at e2
  split at e2
  ·cases e2;simp[nH]
  ·cases e2
 |x::xs,y::ys,_,_,e1,e2=>by
  unfold uD at e1 e2
  split at e1
  ·rename_i k ks q1 q2
   cases e1
   split at e2
   ·rename_i k' KL q3 q4
    cases e2
    unfold nH
    rw[Iv q1 q3,Aa q2 q4]
    simp
   ·cases e2
  ·cases e1
def Fw{x y:D}{k k':List Key}{n:Nat}(e1:eB x=some k)(e2:eB y=some k'):ju (n+1) x y=some (decide (k=k')):=by
 cases x with
 |tup xs=>
  cases y with
  |tup ys=>exact Aa (n:=n) e1 e2
  |_=>cases e2
 |_=>cases e1
def Dv{K:Tc}{F:Hp}{d:D}{v:V}{k:List Key}(e:eB d=some k)(h:Den K F d v):∃a,v= .ref a/\F a=some (.tup (k.map kV)):=by
 cases d with
 |tup ds=>
  obtain⟨a,vs,rfl,h2,h3,_⟩:=h
  have:=iy e h3
  subst this
  exact⟨a,rfl,h2⟩
 |_=>cases e
def mU(k:List Key)(ks:List (List Key)):Bool:=ks.any fun k'=>decide (k'=k)
open Classical in
noncomputable def isKey(H:Hp)(k:List Key)(u:Value):Bool:=decide (∃a,u= .ref a/\H a=some (.tup (k.map kV)))
def Bn{K:Tc}{F H:Hp}{d:D}{v:V}{u:Value}{k k':List Key}(hs:Same F H)(e:eB d=some k')(h:Den K F d v)(r:RelV v u):isKey H k u=decide (k'=k):=by
 obtain⟨a,rfl,h2⟩:=Dv e h
 cases (show u=_ from r)
 unfold isKey
 by_cases hk:k'=k
 ·subst hk
  rw[decide_eq_true rfl]
  exact @decide_eq_true _ (XE _) ⟨a,rfl,hs _ _ h2⟩
 ·rw[decide_eq_false hk]
  refine @decide_eq_false _ (XE _) fun⟨b,e1,e2⟩=>hk ?_
  cases e1
  rw[hs _ _ h2] at e2
  injection e2 with e2
  injection e2 with e2
  exact Ao e2
def iz{X:Cx}{pins:List (Addr×Obj)}{σ:St}{F H:Hp}{s:S7}{A:TY}{x:D}{v:V}{u:Value}{k:List Key}(I:Inv X pins σ H s)(hs:Same F H)(hu:A.units+6<cLine)(ex:eB x=some k)(hx:Den X.K F x v)(rx:RelV v u):
 ∀{ys:List D}{vs:List V}{aR:List Value}{ks:List (List Key)},lR ys=some ks->DenL X.K F ys vs->Vals vs aR->aR.any (isKey H k)=mU k ks/\∀t∈aR,EqAt A s t u (isKey H k t)
 |[],_,_,_,e,h,r=>by
  cases e
  cases (show _=_ from h)
  cases r
  exact⟨rfl,fun t ht=>by cases ht⟩
 |y::ys,_,_,_,e,⟨w,ws,h1,h2,h3⟩,r=>by
  subst h1
  unfold lR at e
  split at e
  ·rename_i k' ks e1 e2
   cases e
   cases r with
   |cons r1 r2=>
    obtain⟨R7,R8⟩:=iz I hs hu ex hx rx e2 h3 r2
    have hk:=Bn (k:=k) hs e1 h2 r1
    refine⟨?_,fun t ht=>?_⟩
    ·rw[U0,R7,hk]
     rfl
    ·rcases Th.mp ht with rfl | ht
     ·rw[hk]
      exact(pH I hs 6 A y x w v t u _ hu h2 hx r1 rx (Fw e1 ex)).eq
     ·exact R8 t ht
  ·cases e
def gF(neg:Bool):D->D->M D
 |x, .lst ys=>match eB x,lR ys with
  |some k,some ks=>ae (.bl (if neg then !mU k ks else mU k ks))
  |_,_=>ah
 |x, .tup ys=>match eB x,lR ys with
  |some k,some ks=>ae (.bl (if neg then !mU k ks else mU k ks))
  |_,_=>ah
 |_,_=>ah
def Kc(K:Tc)(neg:Bool):R2:=fun x y H Q=>∃F dx ys vs p k ks,Same F H/\Den K F dx x/\eB dx=some k/\lR ys=some ks/\DenL K F ys vs/\y= .ref p/\(SqL K H p vs\/SqT K H p vs)/\Q (.bl (if neg then !mU k ks else mU k ks)) H
section
variable{X:Cx}{Xw:Nat->Hp->Prop}{a b:Expr}{δa δb:DE}{pos:Pos}
def Jz(hu:X.A.units+64<cLine):OpR X (Ua .In) (Kc X.K false):=by
 intro pins s σ H x y v u Q I rx ry h
 obtain⟨F,dx,ys,vs,p,k,ks,hs,hx,ex,ek,hd,rfl,hq,q⟩:=h
 cases (show u=_ from ry)
 have IX:X.A.in1.units+6<cLine:=by show X.A.units+1+6<cLine;omega
 rcases hq with hq | hq
 ·obtain⟨aR,r,pl,hz⟩:=I.list hq
  obtain⟨e1,e2⟩:=iz (A:=X.A.in1) I hs IX ex hx rx ek hd r
  refine SeqAt.in_listAt (isKey H k) pl.isList (fun w hw=>e2 w (by simpa using hw)) ⟨.bl _,H,I,rfl,?_⟩
  rw[show aR.toArray.any (isKey H k)=aR.any (isKey H k) by simp,e1]
  exact q
 ·obtain⟨aR,r,pl,hz⟩:=I.tuple hq
  obtain⟨e1,e2⟩:=iz (A:=X.A.in1) I hs IX ex hx rx ek hd r
  refine SeqAt.in_tupleAt (isKey H k) pl (fun w hw=>e2 w (by simpa using hw)) ⟨.bl _,H,I,rfl,?_⟩
  rw[show aR.toArray.any (isKey H k)=aR.any (isKey H k) by simp,e1]
  exact q
def BO(hu:X.A.units+64<cLine):OpR X (Ua .NotIn) (Kc X.K true):=by
 intro pins s σ H x y v u Q I rx ry h
 obtain⟨F,dx,ys,vs,p,k,ks,hs,hx,ex,ek,hd,rfl,hq,q⟩:=h
 cases (show u=_ from ry)
 have IX:X.A.in1.units+6<cLine:=by show X.A.units+1+6<cLine;omega
 rcases hq with hq | hq
 ·obtain⟨aR,r,pl,hz⟩:=I.list hq
  obtain⟨e1,e2⟩:=iz (A:=X.A.in1) I hs IX ex hx rx ek hd r
  refine W5 (isKey H k) pl.isList (fun w hw=>e2 w (by simpa using hw)) ⟨.bl _,H,I,rfl,?_⟩
  rw[show aR.toArray.any (isKey H k)=aR.any (isKey H k) by simp,e1]
  exact q
 ·obtain⟨aR,r,pl,hz⟩:=I.tuple hq
  obtain⟨e1,e2⟩:=iz (A:=X.A.in1) I hs IX ex hx rx ek hd r
  refine YK (isKey H k) pl (fun w hw=>e2 w (by simpa using hw)) ⟨.bl _,H,I,rfl,?_⟩
  rw[show aR.toArray.any (isKey H k)=aR.any (isKey H k) by simp,e1]
  exact q
def Dk{neg:Bool}{K:Tc}:tR K (Kc K neg) (gF neg):=fun Xw F H x y dx dy Q s hx hy w=>by
 unfold gF at w
 split at w
 ·rename_i ys
  split at w
  ·rename_i k ks e1 e2
   obtain⟨p,vs,h1,h2,h3,_⟩:=hy
   exact⟨F,dx,ys,vs,p,k,ks,s,hx,e1,e2,h3,h1, .inl (SqL.of (s _ _ h2)),WP.now w s rfl⟩
  ·exact w.elim
 ·rename_i ys
  split at w
  ·rename_i k ks e1 e2
   obtain⟨p,vs,h1,h2,h3,_⟩:=hy
   exact⟨F,dx,ys,vs,p,k,ks,s,hx,e1,e2,h3,h1, .inr (SqT.of (s _ _ h2)),WP.now w s rfl⟩
  ·exact w.elim
 ·exact w.elim
def zv(hu:X.A.units+64<cLine)(ha:PD X Xw a δa)(hb:PD X Xw b δb)(hm:Ug .In b=false:=by rfl):mH X Xw (.Compare a [.In] [b] pos) (bH (d2 (gF false) δa δb)):=eU (Jz hu) Dk ha hb hm
def kl(hu:X.A.units+64<cLine)(ha:PD X Xw a δa)(hb:PD X Xw b δb)(hm:Ug .NotIn b=false:=by rfl):mH X Xw (.Compare a [.NotIn] [b] pos) (bH (d2 (gF true) δa δb)):=eU (BO hu) Dk ha hb hm
end
end L3
namespace L3
open PySem PySem.W PyProof.Rows
def ej{α:Type}(b:Nat->Nat->Bool):KasT α->α
 | .ret a=>a
 | .ask i j k=>ej b (k (b i j))
def gy{α β:Type}(b:Nat->Nat->Bool)(f:α->KasT β):∀t:KasT α,ej b (t.bind f)=ej b (f (ej b t))
 | .ret _=>rfl
 | .ask i j k=>gy b f (k (b i j))
structure Lt (n:Nat) (b:Nat->Nat->Bool):Prop where
 tr:∀i j k,b i j=true->b j k=true->b i k=true
 SH:∀i j,b i j=true->b j i=false
 tot:∀i j,i<n->j<n->i≠j->b i j=true\/b j i=true
abbrev at'(p:Array Nat)(i:Nat):Nat:=p.getD i 0
def Ri(b:Nat->Nat->Bool)(p:Array Nat)(k:Nat):Prop:=∀i j,i<j->j<k->b (at' p i) (at' p j)=true
def Fa(b:Nat->Nat->Bool)(p:Array Nat)(k:Nat):Prop:=∀i j,i<j->j<k->b (at' p j) (at' p i)=true
structure PN (n:Nat) (p:Array Nat):Prop where
 sz:p.size=n
 lt:∀i,i<n->at' p i<n
 inj:∀i j,i<n->j<n->at' p i=at' p j->i=j
section
variable{n:Nat}{b:Nat->Nat->Bool}(L:Lt n b)
include L
theorem Ri.more{p:Array Nat}{k:Nat}(h:Ri b p k)(h1:1<=k)(e:b (at' p (k - 1)) (at' p k)=true):Ri b p (k+1):=fun i j Ah hj=>by
 by_cases hk:j<k
 ·exact h i j Ah hk
 ·have:j=k:=by omega
  subst this
  by_cases hi:i=j - 1
  ·subst hi;exact e
  ·exact L.tr _ _ _ (h i (j - 1) (by omega) (by omega)) e
theorem Fa.more{p:Array Nat}{k:Nat}(h:Fa b p k)(h1:1<=k)(e:b (at' p k) (at' p (k - 1))=true):Fa b p (k+1):=fun i j Ah hj=>by
 by_cases hk:j<k
 ·exact h i j Ah hk
 ·have:j=k:=by omega
  subst this
  by_cases hi:i=j - 1
  ·subst hi;exact e
  ·exact L.tr _ _ _ e (h i (j - 1) (by omega) (by omega))
theorem tW{p:Array Nat}(P:PN n p):∀(f k:Nat),1<=k->k+f<=n->Ri b p k->k<=ej b (kas_asc p f k)/\ej b (kas_asc p f k)<=k+f/\Ri b p (ej b (kas_asc p f k))/\(ej b (kas_asc p f k)<k+f->b (at' p (ej b (kas_asc p f k))) (at' p (ej b (kas_asc p f k) - 1))=true)
 |0,k,h1,hn,h=>⟨Tg _,Tg _,h,fun z=>absurd z (Uk _)⟩
 |f+1,k,h1,hn,h=>by
  have e:ej b (kas_asc p (f+1) k)=ej b (if b (at' p k) (at' p (k - 1))=true then KasT.ret k else kas_asc p f (k+1)):=rfl
  rw[e]
  by_cases hb:b (at' p k) (at' p (k - 1))=true
  ·rw[if_pos hb]
   exact⟨Tg _,by show k<=_;omega,h,fun _=>hb⟩
  ·rw[if_neg hb]
   have hr:b (at' p (k - 1)) (at' p k)=true:=by
    rcases L.tot (at' p (k - 1)) (at' p k) (P.lt _ (by omega)) (P.lt _ (by omega)) (fun z=>by have:=P.inj _ _ (by omega) (by omega) z;omega) with q | q
    ·exact q
    ·exact absurd q hb
   obtain⟨a1,a2,a3,a4⟩:=tW P f (k+1) (by omega) (by omega) (Ri.more L h h1 hr)
   exact⟨by omega,by omega,a3,fun z=>a4 (by omega)⟩
theorem wC{p:Array Nat}(P:PN n p):∀(f k:Nat),1<=k->k+f<=n->Fa b p k->∃m,ej b (kas_desc f p k 0)=(p,m,0)/\k<=m/\m<=k+f/\Fa b p m
 |0,k,h1,hn,h=>⟨k,rfl,Tg _,Tg _,h⟩
 |f+1,k,h1,hn,h=>by
  have e:ej b (kas_desc (f+1) p k 0)=ej b (if b (at' p k) (at' p (k - 1))=true then(if 0>0 then kas_desc f (kas_rev p (k - (0+1)) k) (k+1) 0 else kas_desc f p (k+1) 0)
   else .ask (p.getD (k - 1) 0) (p.getD k 0) fun d=>if d=true then .ret (p,k,0) else kas_desc f p (k+1) (0+1)):=rfl
  rw[e]
  by_cases hb:b (at' p k) (at' p (k - 1))=true
  ·rw[if_pos hb,if_neg (by omega)]
   obtain⟨m,e1,e2,e3,e4⟩:=wC P f (k+1) (by omega) (by omega) (Fa.more L h h1 hb)
   exact⟨m,e1,by omega,by omega,e4⟩
  ·rw[if_neg hb]
   have hr:b (at' p (k - 1)) (at' p k)=true:=by
    rcases L.tot (at' p (k - 1)) (at' p k) (P.lt _ (by omega)) (P.lt _ (by omega)) (fun z=>by have:=P.inj _ _ (by omega) (by omega) z;omega) with q | q
    ·exact q
    ·exact absurd q hb
   refine⟨k,?_,Tg _,by omega,h⟩
   show ej b (if b (at' p (k - 1)) (at' p k)=true then KasT.ret (p,k,0) else kas_desc f p (k+1) (0+1))=_
   rw[if_pos hr]
   rfl
end
def fW(p:Array Nat)(k:Nat):at' p k=(p[k]?).getD 0:=by
 unfold at'
 rw[Array.getD_eq_getD_getElem?]
def Eu{p:Array Nat}{m:Nat}(hm:m<=p.size)(k:Nat):at' (kas_rev p 0 m) k=if k<m then at' p (m - 1 - k) else at' p k:=by
 have e:=getElem?_mirror_all (xs:=p) (i:=0) hm k
 rw[fW]
 show (((mirror p 0 m ((m - 0) / 2))[k]?).getD 0)=_
 rw[e]
 by_cases h:k<m
 ·rw[if_pos ⟨Ue _,h⟩,if_pos h,fW,YN]
 ·rw[if_neg (fun z=>h z.2),if_neg h,fW]
def Ct{p:Array Nat}{k l:Nat}(hk:k<p.size)(hl:l<=k)(j:Nat):at' (bubble p k (k - l)) j=if j=l then at' p k else if l<j/\j<=k then at' p (j - 1) else at' p j:=by
 have e:=getElem?_bubble hk (k - l) (by omega) j
 have e2:k - (k - l)=l:=by omega
 rw[e2] at e
 rw[fW (bubble p k (k - l)),e,fW p k,fW p (j - 1),fW p j]
 by_cases c1:j=l
 ·rw[if_pos c1,if_pos c1]
 ·rw[if_neg c1,if_neg c1]
  by_cases c2:l<j/\j<=k
  ·rw[if_pos c2,if_pos c2]
  ·rw[if_neg c2,if_neg c2]
section
variable{n:Nat}{b:Nat->Nat->Bool}
def PN.rev{p:Array Nat}(P:PN n p){m:Nat}(hm:m<=n):PN n (kas_rev p 0 m):=by
 have ha:=Eu (p:=p) (m:=m) (by rw[P.sz];exact hm)
 refine⟨(mirror_size ..).trans P.sz,fun i hi=>?_,fun i j hi hj e=>?_⟩
 ·rw[ha]
  split
  ·exact P.lt _ (by omega)
  ·exact P.lt _ hi
 ·rw[ha,ha] at e
  split at e<;>split at e
  ·have:=P.inj _ _ (by omega) (by omega) e;omega
  ·have:=P.inj _ _ (by omega) hj e;omega
  ·have:=P.inj _ _ hi (by omega) e;omega
  ·exact P.inj _ _ hi hj e
def PN.bub{p:Array Nat}(P:PN n p){k l:Nat}(hk:k<n)(hl:l<=k):PN n (bubble p k (k - l)):=by
 have ha:=Ct (p:=p) (k:=k) (l:=l) (by rw[P.sz];exact hk) hl
 refine⟨(bubble_size ..).trans P.sz,fun i hi=>?_,fun i j hi hj e=>?_⟩
 ·rw[ha]
  split
  ·exact P.lt _ hk
  ·split
   ·exact P.lt _ (by omega)
   ·exact P.lt _ hi
 ·rw[ha,ha] at e
  split at e
  ·split at e
   ·omega
   ·split at e
    ·have:=P.inj _ _ hk (by omega) e;omega
    ·have:=P.inj _ _ hk hj e;omega
  ·split at e
   ·split at e
    ·have:=P.inj _ _ (by omega) hk e;omega
    ·split at e
     ·have:=P.inj _ _ (by omega) (by omega) e;omega
     ·have:=P.inj _ _ (by omega) hj e;omega
   ·split at e
    ·have:=P.inj _ _ hi hk e;omega
    ·split at e
     ·have:=P.inj _ _ hi (by omega) e;omega
     ·exact P.inj _ _ hi hj e
def Fa.rev{p:Array Nat}(P:PN n p){m:Nat}(hm:m<=n)(h:Fa b p m):Ri b (kas_rev p 0 m) m:=fun i j Ah hj=>by
 have ha:=Eu (p:=p) (m:=m) (by rw[P.sz];exact hm)
 rw[ha,ha,if_pos (by omega),if_pos hj]
 exact h _ _ (by omega) (by omega)
variable(L:Lt n b)
include L
theorem EM{p:Array Nat}(P:PN n p){m:Nat}(h1:1<=m)(hm:m<=n)(h:Fa b p m):∃k q,ej b (kas_tail3 m n p)=(k,q)/\PN n q/\1<=k/\k<=n/\Ri b q k:=by
 unfold kas_tail3
 rw[gy]
 obtain⟨a1,a2,a3,_⟩:=tW L (P.rev hm) (n - m) m h1 (by omega) (Fa.rev P hm h)
 exact⟨_,_,rfl,P.rev hm,by omega,by omega,a3⟩
theorem A8{p:Array Nat}(P:PN n p)(h2:2<=n):∃k q,ej b (kas_count n p)=(k,q)/\PN n q/\1<=k/\k<=n/\Ri b q k:=by
 unfold kas_count
 rw[gy]
 obtain⟨a1,a2,a3,a4⟩:=tW L P (n - 1) 1 (Tg _) (by omega) (fun i j Ah hj=>by omega)
 generalize ej b (kas_asc p (n - 1) 1)=m at a1 a2 a3 a4
 by_cases he:m=n
 ·subst he
  rw[if_pos (by simp)]
  exact⟨m,p,rfl,P,by omega,Tg _,a3⟩
 ·rw[if_neg (by simpa using he)]
  by_cases hg:m>1
  ·rw[if_pos hg]
   have hb:b (p.getD 0 0) (p.getD (m - 1) 0)=true:=a3 0 (m - 1) (by omega) (by omega)
   show∃k q,ej b (if b (p.getD 0 0) (p.getD (m - 1) 0)=true then KasT.ret (m,p) else kas_descPart m n (kas_rev p 0 m))=(k,q)/\_
   rw[if_pos hb]
   exact⟨m,p,rfl,P,by omega,by omega,a3⟩
  ·rw[if_neg hg]
   have hm:m=1:=by omega
   subst hm
   have hb:=a4 (by omega)
   unfold kas_descPart
   rw[gy]
   obtain⟨m,e1,e2,e3,e4⟩:=wC L P (n - (1+1)) (1+1) (by omega) (by omega) (fun i j Ah hj=>by
    have hi:i=0:=by omega
    have hj:j=1:=by omega
    subst hi hj
    exact hb)
   rw[e1]
   dsimp only
   rw[if_neg (by omega)]
   exact EM L P (by omega) (by omega) e4
theorem m7{p:Array Nat}(P:PN n p){k:Nat}(hk:k<n)(h:Ri b p k):∀(f l r:Nat),l<=r->r<=k->r - l<=f->(∀i,i<l->b (at' p i) (at' p k)=true)->(∀i,r<=i->i<k->b (at' p k) (at' p i)=true)->
 ej b (kas_place p k f l r)<=k/\(∀i,i<ej b (kas_place p k f l r)->b (at' p i) (at' p k)=true)/\∀i,ej b (kas_place p k f l r)<=i->i<k->b (at' p k) (at' p i)=true
 |0,l,r,h1,h2,h3,h4,h5=>by
  have:r=l:=by omega
  subst this
  exact⟨h2,h4,h5⟩
 |f+1,l,r,h1,h2,h3,h4,h5=>by
  unfold kas_place
  by_cases P1:l>=r
  ·rw[if_pos P1]
   have:r=l:=by omega
   subst this
   exact⟨h2,h4,h5⟩
  ·rw[if_neg P1]
   have hm:(l+r) / 2<r:=by omega
   have KJ:l<=(l+r) / 2:=by omega
   show ej b (if b (at' p k) (at' p ((l+r) / 2))=true then kas_place p k f l ((l+r) / 2) else kas_place p k f ((l+r) / 2+1) r)<=k/\(∀i,i<ej b (if b (at' p k) (at' p ((l+r) / 2))=true then kas_place p k f l ((l+r) / 2) else kas_place p k f ((l+r) / 2+1) r)->_)/\∀i,ej b (if b (at' p k) (at' p ((l+r) / 2))=true then kas_place p k f l ((l+r) / 2) else kas_place p k f ((l+r) / 2+1) r)<=i->_
   by_cases hb:b (at' p k) (at' p ((l+r) / 2))=true
   ·rw[if_pos hb]
    refine m7 P hk h f l ((l+r) / 2) KJ (by omega) (by omega) h4 fun i hi Rw=>?_
    by_cases e:i=(l+r) / 2
    ·rw[e];exact hb
    ·exact L.tr _ _ _ hb (h _ _ (by omega) Rw)
   ·rw[if_neg hb]
    have hr:b (at' p ((l+r) / 2)) (at' p k)=true:=by
     rcases L.tot (at' p ((l+r) / 2)) (at' p k) (P.lt _ (by omega)) (P.lt _ hk) (fun z=>by have:=P.inj _ _ (by omega) hk z;omega) with q | q
     ·exact q
     ·exact absurd q hb
    refine m7 P hk h f ((l+r) / 2+1) r (by omega) h2 (by omega) (fun i hi=>?_) h5
    by_cases e:i=(l+r) / 2
    ·rw[e];exact hr
    ·exact L.tr _ _ _ (h i ((l+r) / 2) (by omega) (by omega)) hr
theorem z0:∀(f:Nat) {p:Array Nat}{k:Nat},PN n p->k+f<=n->Ri b p k->PN n (ej b (kas_bin f p k))/\Ri b (ej b (kas_bin f p k)) (k+f)
 |0,p,k,P,_,h=>⟨P,h⟩
 |f+1,p,k,P,hn,h=>by
  have hk:k<n:=by omega
  unfold kas_bin
  rw[gy]
  obtain⟨a1,a2,a3⟩:=m7 L P hk h k 0 k (Ue _) (Tg _) (by omega) (fun i hi=>by omega) (fun i h1 h2=>by omega)
  generalize ej b (kas_place p k k 0 k)=l at a1 a2 a3
  have ha:=Ct (p:=p) (k:=k) (l:=l) (by rw[P.sz];exact hk) a1
  have hR:Ri b (bubble p k (k - l)) (k+1):=fun i j Ah hj=>by
   rw[ha,ha]
   by_cases c1:i=l
   ·rw[if_pos c1,if_neg (by omega),if_pos ⟨by omega,by omega⟩]
    exact a3 _ (by omega) (by omega)
   ·rw[if_neg c1]
    by_cases c2:j=l
    ·rw[if_pos c2,if_neg (by omega)]
     exact a2 _ (by omega)
    ·rw[if_neg c2]
     by_cases c3:l<i/\i<=k
     ·rw[if_pos c3,if_pos ⟨by omega,by omega⟩]
      exact h _ _ (by omega) (by omega)
     ·rw[if_neg c3]
      by_cases c4:l<j/\j<=k
      ·rw[if_pos c4]
       exact h _ _ (by omega) (by omega)
      ·rw[if_neg c4]
       exact h _ _ Ah (by omega)
  have:=z0 f (P.bub hk a1) (by omega) hR
  rw[show k+(f+1)=k+1+f by omega]
  exact this
theorem EE(h2:2<=n):PN n (ej b (kas_sort n))/\Ri b (ej b (kas_sort n)) n:=by
 have P0:PN n (UE (Um n)):=by
  have e:∀i,i<n->at' (UE (Um n)) i=i:=fun i hi=>by rw[fW];simp[hi]
  exact⟨by simp,fun i hi=>by rw[e i hi];exact hi,fun i j hi hj z=>by rw[e i hi,e j hj] at z;exact z⟩
 unfold kas_sort
 rw[gy]
 obtain⟨k,q,e,P,k1,kn,hR⟩:=A8 L P0 h2
 rw[e]
 dsimp only
 by_cases lD:k<n
 ·rw[if_pos lD]
  have:=z0 L (n - max k 1) (k:=max k 1) P (by omega) (by rw[show max k 1=k by omega];exact hR)
  rw[show max k 1+(n - max k 1)=n by omega] at this
  exact this
 ·rw[if_neg lD]
  have:k=n:=by omega
  subst this
  exact⟨P,hR⟩
end
def Asks{α:Type}(n:Nat)(P:α->Prop):KasT α->Prop
 | .ret a=>P a
 | .ask i j k=>i<n/\j<n/\∀c,Asks n P (k c)
def Asks.bind{α β:Type}{n:Nat}{P:α->Prop}{Q:β->Prop}{f:α->KasT β}:∀{t:KasT α},Asks n P t->(∀a,P a->Asks n Q (f a))->Asks n Q (t.bind f)
 | .ret a,h,hf=>hf a h
 | .ask i j k,h,hf=>⟨h.1,h.2.1,fun c=>Asks.bind (h.2.2 c) hf⟩
def wp_run{α:Type}{n:Nat}{P:α->Prop}{b:Nat->Nat->Bool}{cmp:Nat->Nat->(Bool->S7->Prop)->S7->Prop}{Q:α->S7->Prop}{s:S7}(hc:∀i j C,i<n->j<n->C (b i j) s->cmp i j C s):∀{t:KasT α},Asks n P t->Q (ej b t) s->t.kasWp cmp Q s
 | .ret a,_,h=>h
 | .ask i j k,ha,h=>hc i j _ ha.1 ha.2.1 (wp_run hc (ha.2.2 _) h)
def Below(n:Nat)(p:Array Nat):Prop:=∀x∈p,x<n
section
variable{n:Nat}(hn:0<n)
include hn
theorem Below.at{p:Array Nat}(h:Below n p)(i:Nat):at' p i<n:=by
 rw[fW]
 cases e:p[i]? with
 |none=>exact hn
 |some x=>exact h x (Array.mem_of_getElem? e)
theorem Below.rev{p:Array Nat}(h:Below n p)(i j:Nat):Below n (kas_rev p i j):=fun x hx=>h x ((mirror_perm p i j ((j - i) / 2)).mem_iff.mp hx)
theorem Below.bub{p:Array Nat}(h:Below n p)(k d:Nat):Below n (bubble p k d):=fun x hx=>h x ((bubble_perm p k d).mem_iff.mp hx)
theorem pf{p:Array Nat}(h:Below n p):∀f k,Asks n (fun _=>True) (kas_asc p f k)
 |0,k=>trivial
 |f+1,k=>⟨Below.at hn h _,Below.at hn h _,fun c=>by
  show Asks n _ (if c=true then KasT.ret k else kas_asc p f (k+1))
  cases c
  ·exact pf h f (k+1)
  ·exact trivial⟩
theorem j8:∀f {p:Array Nat} k q,Below n p->Asks n (fun r=>Below n r.1) (kas_desc f p k q)
 |0,p,k,q,h=>h
 |f+1,p,k,q,h=>⟨Below.at hn h _,Below.at hn h _,fun c=>by
  cases c
  ·refine⟨Below.at hn h _,Below.at hn h _,fun d=>?_⟩
   cases d
   ·exact j8 f _ _ h
   ·exact h
  ·show Asks n _ (if q>0 then kas_desc f (kas_rev p (k - (q+1)) k) (k+1) 0 else kas_desc f p (k+1) 0)
   split
   ·exact j8 f _ _ (Below.rev hn h _ _)
   ·exact j8 f _ _ h⟩
theorem rR{p:Array Nat}(h:Below n p)(m r:Nat):Asks n (fun x=>Below n x.2) (kas_tail3 m r p):=Asks.bind (pf hn (Below.rev hn h 0 m) _ _) fun _ _=>Below.rev hn h 0 m
theorem ph{p:Array Nat}(h:Below n p)(m r:Nat):Asks n (fun x=>Below n x.2) (kas_descPart m r p):=Asks.bind (j8 hn _ _ _ h) fun x hx=>by
 split
 ·exact rR hn (Below.rev hn hx _ _) _ _
 ·exact rR hn hx _ _
theorem yC{p:Array Nat}(h:Below n p)(r:Nat):Asks n (fun x=>Below n x.2) (kas_count r p):=Asks.bind (pf hn h _ _) fun m _=>by
 split
 ·exact h
 ·split
  ·refine⟨Below.at hn h _,Below.at hn h _,fun c=>?_⟩
   cases c
   ·exact ph hn (Below.rev hn h _ _) _ _
   ·exact h
  ·exact ph hn h _ _
theorem kL{p:Array Nat}(h:Below n p)(k:Nat):∀f l r,Asks n (fun _=>True) (kas_place p k f l r)
 |0,l,r=>trivial
 |f+1,l,r=>by
  unfold kas_place
  split
  ·exact trivial
  ·refine⟨Below.at hn h _,Below.at hn h _,fun c=>?_⟩
   cases c
   ·exact kL h k f _ _
   ·exact kL h k f _ _
theorem wd:∀f {p:Array Nat} k,Below n p->Asks n (fun _=>True) (kas_bin f p k)
 |0,p,k,h=>trivial
 |f+1,p,k,h=>Asks.bind (kL hn h k _ _ _) fun l _=>wd f _ (Below.bub hn h _ _)
theorem AS:Asks n (fun _=>True) (kas_sort n):=by
 have h0:Below n (UE (Um n)):=fun x hx=>by simpa using hx
 refine Asks.bind (yC hn h0 n) fun x hx=>?_
 split
 ·exact wd hn _ _ hx
 ·exact trivial
end
def fj:List Int->List Int->Bool
 |[],[]=>false
 |[],_::_=>true
 |_::_,[]=>false
 |x::xs,y::ys=>if x=y then fj xs ys else decide (x<y)
def uH:∀a b c:List Int,fj a b=true->fj b c=true->fj a c=true
 |[],[],_,h,_=>by cases h
 |[],_::_,[],_,h=>by cases h
 |[],_::_,_::_,_,_=>rfl
 |_::_,[],_,h,_=>by cases h
 |_::_,_::_,[],_,h=>by cases h
 |x::a,y::b,z::c,h1,h2=>by
  unfold fj at h1 h2⊢
  by_cases e1:x=y
  ·subst e1
   rw[if_pos rfl] at h1
   by_cases e2:x=z
   ·subst e2
    rw[if_pos rfl] at h2⊢
    exact uH a b c h1 h2
   ·rw[if_neg e2] at h2⊢
    exact h2
  ·rw[if_neg e1] at h1
   have h1:=of_decide_eq_true h1
   by_cases e2:y=z
   ·subst e2
    rw[if_neg e1]
    exact decide_eq_true h1
   ·rw[if_neg e2] at h2
    have h2:=of_decide_eq_true h2
    rw[if_neg (by omega)]
    exact decide_eq_true (by omega)
def lU:∀a b:List Int,fj a b=true->fj b a=false
 |[],[],h=>by cases h
 |[],_::_,_=>rfl
 |_::_,[],h=>by cases h
 |x::a,y::b,h=>by
  unfold fj at h⊢
  by_cases e:x=y
  ·subst e
   rw[if_pos rfl] at h⊢
   exact lU a b h
  ·rw[if_neg e] at h
   have h:=of_decide_eq_true h
   rw[if_neg (fun z=>e z.symm)]
   exact decide_eq_false (by omega)
def pY:∀a b:List Int,a≠b->fj a b=true\/fj b a=true
 |[],[],h=>absurd rfl h
 |[],_::_,_=> .inl rfl
 |_::_,[],_=> .inr rfl
 |x::a,y::b,h=>by
  unfold fj
  by_cases e:x=y
  ·subst e
   rw[if_pos rfl,if_pos rfl]
   exact pY a b fun z=>h (by rw[z])
  ·rw[if_neg e,if_neg (fun z=>e z.symm)]
   by_cases q:x<y
   ·exact .inl (decide_eq_true q)
   ·exact .inr (decide_eq_true (by omega))
section
variable{prog:TM}{w:World}{A:TY}{E:Value->S7->Prop}{s:S7}
def xb{Q:Bool->S7->Prop}:∀{us vs:List Value}{xs ys:List Int}(i:Nat) {fin:Bool},U2 us xs->U2 vs ys->fin=decide (xs.length<ys.length)->Q (fj xs ys) s->KatLex prog w A true fin Q (us.zip vs) i s
 |_,_,_,_,i,_, .nil, .nil,e,h=>by subst e;exact kat_nil h
 |_,_,_,_,i,_, .nil, .cons y t r,e,h=>by subst e;exact kat_nil h
 |_,_,_,_,i,_, .cons x t r, .nil,e,h=>by subst e;exact kat_nil h
 |_,_,_,_,i,_, .cons (vs:=us) (ns:=xs) x t r, .cons (vs:=vs) (ns:=ys) y u r',e,h=>by
  refine kat_cons (wpAny_eqBool_int ?_)
  by_cases q:x=y
  ·subst q
   rw[show (x==x)=true by simp]
   refine kat_yes (xb (i+1) r r' (by rw[e];simp) ?_)
   unfold fj at h
   rw[if_pos rfl] at h
   exact h
  ·rw[show (x==y)=false by simpa using q]
   unfold fj at h
   rw[if_neg q] at h
   refine kat_no ?_
   by_cases hi:(i==0)=true
   ·rw[hi]
    exact oneLt_int h
   ·rw[show (i==0)=false by simpa using hi]
    exact kat_one _ _ (XF h)
def TupsAt(h:Heap):List Value->List (List Int)->Prop
 |[],[]=>True
 |v::vs,k::ks=>(∃a o us m,v= .ref a/\h.get? a=some o/\o.cls= .type "tuple"/\o.data= .seq (UE us) m/\U2 us k/\k≠[])/\TupsAt h vs ks
 |_,_=>False
def TupsAt.len{h:Heap}:∀{vs:List Value}{ks:List (List Int)},TupsAt h vs ks->vs.length=ks.length
 |[],[],_=>rfl
 |v::vs,k::ks,t=>by rw[Tj,Tj,TupsAt.len t.2]
 |[],_::_,t=>t.elim
 |_::_,[],t=>t.elim
def TupsAt.get{h:Heap}:∀{vs:List Value}{ks:List (List Int)}{i:Nat},TupsAt h vs ks->i<vs.length->∃a o us m,vs.getD i Us= .ref a/\h.get? a=some o/\o.cls= .type "tuple"/\o.data= .seq (UE us) m/\U2 us (ks.getD i [])/\ks.getD i []≠[]
 |v::vs,k::ks,0,t,_=>t.1
 |v::vs,k::ks,i+1,t,hi=>TupsAt.get (i:=i) t.2 (by simpa using hi)
 |[],_,_,_,hi=>by simp at hi
 |_::_,[],_,t,_=>t.elim
def TupsAt.keep{h h':Heap}{a:Addr}(k:∀b o,b≠a->h.get? b=some o->h'.get? b=some o)(ha:∀o,h.get? a=some o->o.cls≠ .type "tuple"):∀{vs:List Value}{ks:List (List Int)},TupsAt h vs ks->TupsAt h' vs ks
 |[],[],_=>trivial
 |v::vs,x::ks,⟨⟨b,o,us,m,e1,e2,e3,e4⟩,t⟩=>⟨⟨b,o,us,m,e1,k b o (fun z=>ha o (by rw[<-z];exact e2) e3) e2,e3,e4⟩,TupsAt.keep k ha t⟩
 |[],_::_,t=>t.elim
 |_::_,[],t=>t.elim
def pQ:∀{us:List Value}{xs:List Int},U2 us xs->us.length=xs.length
 |_,_, .nil=>rfl
 |_,_, .cons x t r=>by rw[Tj,Tj,pQ r]
def TupsAt.firsts{M:Model}{h:Heap}:∀{vs:List Value}{ks:List (List Int)},TupsAt h vs ks->∃fs,KatTups h vs fs/\fs.length=vs.length/\∀v∈fs,Looks M h (typeOf v) (.type "int")
 |[],[],_=>⟨[],KatTups.nil,rfl,fun _ z=>by cases z⟩
 |v::vs,k::ks,⟨⟨a,o,us,m,e1,e2,e3,e4,e5,e6⟩,t⟩=>by
  obtain⟨fs,q1,q2,q3⟩:=TupsAt.firsts (M:=M) t
  subst e1
  cases e5 with
  |nil=>exact absurd rfl e6
  |cons x t r=>
   refine⟨.int x t::fs,KatTups.cons e2 e3 e4 (by simp) q1,by simp[q2],fun v hv=>?_⟩
   rcases Th.mp hv with rfl | hv
   ·exact show Looks M h (pure (Xd "int")) (Xd "int") from .now
   ·exact q3 v hv
 |[],_::_,t=>t.elim
 |_::_,[],t=>t.elim
def asked{vs:List Value}{ks:List (List Int)}(t:TupsAt s.heap vs ks)(i j:Nat)(C:Bool->S7->Prop)(hi:i<vs.length)(hj:j<vs.length)(h:C (fj (ks.getD i []) (ks.getD j [])) s):kas_ask prog w A (tuples' true) vs i j C s:=by
 obtain⟨a,o,us,m,e1,e2,_,e4,e5,_⟩:=t.get hi
 obtain⟨a',o',SX,m',Cd,Ky,_,QI,Pu,_⟩:=t.get hj
 unfold kas_ask
 rw[e1,Cd]
 refine kat_lt e2 e4 Ky QI (xb 0 e5 Pu ?_ h)
 rw[Td,Td,pQ e5,pQ Pu]
def DD{α:Type}{l:List α}(h:l.Nodup){i j:Nat}(hi:i<l.length)(hj:j<l.length)(e:l[i]=l[j]):i=j:=by
 rcases Nat.lt_trichotomy i j with q | q | q
 ·exact absurd e (Vo.mp h i j hi hj q)
 ·exact q
 ·exact absurd e.symm (Vo.mp h j i hj hi q)
def B2{a:Addr}{c:Nat}{vs:List Value}{ks:List (List Int)}{P:PySem.Fin->S7->Prop}(ho:s.heap.get? a=some (VH "list" vs.toArray c))(ht:TupsAt s.heap vs ks)(hd:ks.Nodup)(NU:vs.length<64)
 (h:∀(p:Array Nat) (h':Heap) (c':Nat),PN vs.length p->Ri (fun i j=>fj (ks.getD i []) (ks.getD j [])) p vs.length->h'.get? a=some (VH "list" (UE (p.toList.map fun i=>vs.getD i Us)) c')->
  (∀b o,b≠a->s.heap.get? b=some o->h'.get? b=some o)->P (.done (.ret .none)) {s with heap:=h'}):wpAny (model prog w) A (Xq.«list.sort» ⟨[.ref a],[]⟩) P E s:=by
 have IV:Tz=16777216:=VE
 have s1:=VJ s.heap a (U4 fun _=>(#[]:Array Value))
 obtain⟨e1,P4⟩:∃e1,(s.heap.update a (U4 fun _=>(#[]:Array Value))).get? a=some (VH "list" #[] e1):=⟨_,get?_update_seq ho fun _=> #[]⟩
 have k1:∀b o,b≠a->s.heap.get? b=some o->(((s.heap.update a (U4 fun _=>(#[]:Array Value))).push (VH "tuple" vs.toArray 0)).push (VH "list" #[] 0)).get? b=some o:=fun b o hb e=>
  S_ _ (S_ _ ((s1.2 b hb).trans e))
 have Oh:=S_ (VH "list" #[] 0) (S_ (VH "tuple" vs.toArray 0) P4)
 have t3:=ht.keep k1 (fun o e z=>by rw[ho] at e;cases e;exact absurd (Value.type.inj z) (by decide))
 have fin:∀(st:SortSt) (p:Array Nat),PN vs.length p->Ri (fun i j=>fj (ks.getD i []) (ks.getD j [])) p vs.length->(arrOf st).map (·.2)=UE (p.toList.map fun i=>vs.getD i Us)->failedOf st=none->
  wpAny (model prog w) A (do
   let touched:=(<-seqEpoch a) !=e1
   Builtin.List.listUpdate (.ref a) fun _=>(arrOf st).map (·.2)
   if let some e:=failedOf st then rule "list.sort.comparison-raised";throw e
   if touched then rule "list.sort.modified";raiseError "ValueError" "list modified during sort"
   ret .none) P E {s with heap:=((s.heap.update a (U4 fun _=>(#[]:Array Value))).push (VH "tuple" vs.toArray 0)).push (VH "list" #[] 0)}:=fun st p hp hr he hf=>by
  have hz:(UE (p.toList.map fun i=>vs.getD i Us)).size=vs.length:=by rw[Td,S6,TZ,hp.sz]
  rw[he,hf]
  refine S5 (seqEpoch_at Oh rfl (S5 (listUpdate_at Oh rfl ?_ (Ue _) (by rw[hz,IV];omega))))
  simp only[bne_self_eq_false,Uj,if_false]
  have s2:=VJ (((s.heap.update a (U4 fun _=>(#[]:Array Value))).push (VH "tuple" vs.toArray 0)).push (VH "list" #[] 0)) a (U4 fun _=>UE (p.toList.map fun i=>vs.getD i Us))
  exact Te (h p _ _ hp hr (get?_update_seq Oh fun _=>UE (p.toList.map fun i=>vs.getD i Us)) fun b o hb e=>(s2.2 b hb).trans (k1 b o hb e))
 rw[list_sort_plain]
 refine S5 (listItems_at ho rfl (S5 (listUpdate_at ho rfl (S5 (seqEpoch_at P4 rfl ?_)) (by rw[Td,IV];omega) (Ue _))))
 refine S5 (wpAny_newTuple (S5 (wpAny_newList (U5 ?_) (Ue _))) (by show vs.length<=_;rw[IV];omega))
 show wpAny (model prog w) A _ P E {s with heap:=((s.heap.update a (U4 fun _=>(#[]:Array Value))).push (VH "tuple" vs.toArray 0)).push (VH "list" #[] 0)}
 dsimp only
 by_cases hs:vs.toArray.size<2
 ·rw[if_pos hs,if_pos hs]
  have HD:vs.length<2:=by simpa using hs
  refine S5 (Te (S5 (Te ?_)))
  refine fin (SortSt.mk' general' (vs.toArray.zip vs.toArray) #[] 7 none) (UE (Um vs.length)) ⟨by simp,fun i hi=>?_,fun i j hi hj _=>by omega⟩ (fun i j Ah hj=>by omega) ?_ rfl
  ·rw[fW];simp[hi]
  ·show (vs.toArray.zip vs.toArray).map (·.2)=_
   apply Array.toList_inj.mp
   refine List.ext_getElem (by simp) fun i a1 a2=>?_
   simp at a1
   simp[a1]
 ·rw[if_neg hs,if_neg hs]
  have HD:2<=vs.length:=by
   have:¬vs.length<2:=by simpa using hs
   omega
  obtain⟨fs,q1,q2,q3⟩:=t3.firsts (M:=model prog w)
  refine S5 (kat_kind q1 (by omega) q3 rfl ?_)
  have hb:Lt vs.length (fun i j=>fj (ks.getD i []) (ks.getD j [])):=⟨fun i j k=>uH _ _ _,fun i j=>lU _ _,fun i j hi hj Ah=>pY _ _ fun z=>Ah (by
   rw[ht.len] at hi hj
   rw[TU,TU,Tb hi,Tb hj] at z
   exact DD hd hi hj (by simpa using z))⟩
  obtain⟨r1,r2⟩:=EE hb HD
  have run:=kat_run (prog:=prog) (w:=w) (A:=A) (E:=E) (ks:=vs) (vs:=vs) (κ:=tuples' true) (Q:=fun st s'=>s'={s with heap:=((s.heap.update a (U4 fun _=>(#[]:Array Value))).push (VH "tuple" vs.toArray 0)).push (VH "list" #[] 0)}/\∃p,PN vs.length p/\Ri (fun i j=>fj (ks.getD i []) (ks.getD j [])) p vs.length/\(arrOf st).map (·.2)=UE (p.toList.map fun i=>vs.getD i Us)/\failedOf st=none)
   (G:=fun p s'=>s'={s with heap:=((s.heap.update a (U4 fun _=>(#[]:Array Value))).push (VH "tuple" vs.toArray 0)).push (VH "list" #[] 0)}/\PN vs.length p/\Ri (fun i j=>fj (ks.getD i []) (ks.getD j [])) p vs.length) rfl HD NU
   (fun p qL s' a1 a2 a3 a4=>⟨a4.1,p,a4.2.1,a4.2.2,kat_snds rfl a2,a3⟩)
   (wp_run (s:={s with heap:=((s.heap.update a (U4 fun _=>(#[]:Array Value))).push (VH "tuple" vs.toArray 0)).push (VH "list" #[] 0)}) (fun i j C hi hj hC=>asked t3 i j C hi hj hC) (AS (by omega)) ⟨rfl,r1,r2⟩)
  refine S5 (Up run ?_ fun _ _ e=>e)
  rintro⟨⟨⟩,qL⟩ s' ⟨rfl,p,a1,a2,a3,a4⟩
  exact fin qL p a1 a2 a3 a4
end
section
variable{prog:TM}{w:World}{A:TY}{E:Value->S7->Prop}{s:S7}
def sC{d:Addr}{od:Obj}{es:Array Vy}{ep:Nat}{Q:Value->S7->Prop}(lo:(d==UI)=false)(ho:s.heap.get? d=some od)(hx:od.ExactDict)(hd:od.data= .dict es ep)
 (hQ:Q (.ref s.heap.objs.size) {s with heap:=s.heap.push {cls:= .type "dict_keyiterator",data:= .fields #[.ref d, .int 0 0, .int es.size 0, .int ep 0]} }):wpAny (model prog w) A (pyIter (.ref d)) Q E s:=by
 have hT:s.TypeIs (.ref d) "dict":=⟨od,ho,hx.1⟩
 refine wpAny_pyIter_slot hT F.slot_dict_iter (Vz F.slot_dict_iter hT F.entry_dict_iter ?_ (F.args_dict_iter_1 _))
 unfold Xq.«dict.__iter__» Builtin.Dict.dictSlotNone
 refine S5 (S5 (wpAny_notOrdered_dict hT ?_))
 show wpAny _ _ (pure (TV d)) _ _ s
 refine Te ?_
 show wpAny _ _ (Xu d>>=_) _ _ s
 unfold Xu
 rw[if_neg (by rw[lo];exact TN)]
 refine S5 (Te (S5 (XS ho hd (S5 (Yp ho hd ?_)))))
 refine S5 (Ut (Te ⟨_,rfl,"dict_keyiterator",_,⟨_,Tt _ rfl,rfl⟩,F.slot_dict_keyiterator_next.lookup,?_⟩))
 simpa[Xi] using hQ
def xk{it d:Addr}{od:Obj}{es:Array Vy}{i ep:Nat}{e:Vy}{Q:Option Value->S7->Prop}(hit:s.heap.IsKeyIter it d i es.size ep)(IQ:s.heap.get? d=some od)(vX:od.data= .dict es ep)(hx:es[i]? =some e)
 (hQ:∀h',h'.IsKeyIter it d (i+1) es.size ep->Vv it s.heap h'->Q (some e.key) {s with heap:=h'}):wpAny (model prog w) A (W2 (.ref it)) Q E s:=by
 obtain⟨o,ho,hc,hd⟩:=id hit
 have lD:i<es.size:=(Array.getElem?_eq_some_iff.mp hx).1
 have IS:Wy "dict_keyiterator"=false:=by decide
 unfold W2
 refine S5 (wpAny_attempt (VM (name:=T3 "__next__") hit.typeIs Ve
  (Vz Ve hit.typeIs X6 ?_ (XJ _))))
 refine S5 (Te (S5 (S5 ?_)))
 first | refine S5 (Va hit.typeIs (Te ?_)) | refine S5 (VG hit.typeIs (Te ?_))
 refine S5 (wpAny_fieldsOf ho hd ?_)
 simp only[IS,Uj,if_false]
 show wpAny _ _ (if (TV d==Us)=true then _ else _) _ _ s
 rw[if_neg (show¬((TV d==Us)=true) from TN)]
 refine S5 (Te (S5 (XS IQ vX ?_)))
 rw[if_neg (by simp)]
 refine S5 (Te (S5 (Yp IQ vX ?_)))
 rw[if_neg (by simp)]
 refine Te ?_
 simp only[show¬((i:Int)<0) from by omega,if_false,Int.toNat_natCast,hx]
 refine S5 ?_
 first | refine S5 (Va hit.typeIs (Te ?_)) | refine S5 (VG hit.typeIs (Te ?_))
 refine S5 (wpAny_isOneOf_keyiter hit.typeIs ?_)
 show wpAny _ _ (setField (.ref it) 1 (Xi ((i:Int)+1))>>=_) _ _ s
 refine S5 (wpAny_setField ho hd (by simp) ?_)
 have FF:(s.heap.update it (Obj.mapFields (·.setIfInBounds 1 (Xi ((i:Int)+1))))).IsKeyIter it d (i+1) es.size ep:=
  ⟨_,VQ _ ho (Obj.isFreed_of_fields (Zf hd _)),(Obj.cls_mapFields ..).trans hc,by rw[Zf hd];simp[Xi]⟩
 refine S5 (U5 (S5 (wpAny_isOneOf_keyiter (s:={s with heap:=s.heap.update it (Obj.mapFields (·.setIfInBounds 1 (Xi ((i:Int)+1))))}) FF.typeIs ?_)))
 show wpAny _ _ (pure e.key) _ _ _
 exact Te (Te ⟨_,rfl,Te (hQ _ FF (VJ ..))⟩)
def si{it d:Addr}{od:Obj}{es:Array Vy}{ep i:Nat}{Q:Option Value->S7->Prop}(hh:A.handled=none)(hit:s.heap.IsKeyIter it d i es.size ep)(hi:es.size<=i)(IQ:s.heap.get? d=some od)(vX:od.data= .dict es ep)
 (hQ:∀h',Heap.ExtBut it s.heap h'->Q none {s with heap:=h'}):wpAny (model prog w) A (W2 (.ref it)) Q E s:=by
 obtain⟨o,ho,hc,hd⟩:=id hit
 have IS:Wy "dict_keyiterator"=false:=by decide
 unfold W2
 refine S5 (wpAny_attempt (VM (name:=T3 "__next__") hit.typeIs Ve
  (Vz Ve hit.typeIs X6 ?_ (XJ _))))
 refine S5 (Te (S5 (S5 ?_)))
 first | refine S5 (Va hit.typeIs (Te ?_)) | refine S5 (VG hit.typeIs (Te ?_))
 refine S5 (wpAny_fieldsOf ho hd ?_)
 simp only[IS,Uj,if_false]
 show wpAny _ _ (if (TV d==Us)=true then _ else _) _ _ s
 rw[if_neg (show¬((TV d==Us)=true) from TN)]
 refine S5 (Te (S5 (XS IQ vX ?_)))
 rw[if_neg (by simp)]
 refine S5 (Te (S5 (Yp IQ vX ?_)))
 rw[if_neg (by simp)]
 refine Te ?_
 simp only[show¬((i:Int)<0) from by omega,if_false,Int.toNat_natCast,Array.getElem?_eq_none hi]
 refine S5 ?_
 first | refine S5 (Va hit.typeIs (Te ?_)) | refine S5 (VG hit.typeIs (Te ?_))
 show wpAny _ _ (setField (.ref it) 0 .none>>=_) _ _ s
 refine S5 (wpAny_setField ho hd (by simp) ?_)
 show wpAny _ _ (newExc (.type "StopIteration") []>>=_) _ _ _
 refine S5 ?_
 simp only[newExc,newTuple]
 refine S5 (Ut ?_ (by size_fits))
 refine S5 (m:=firstArgMember _ _) (wpAny_of_eq (a:=Us) (by first | rfl | (simp only[firstArgMember];rfl)) ?_)
 refine Ut ?_ (by size_fits)
 simp only[raiseNew]
 refine S5 (wpAny_handled ?_)
 rw[show A.in1.handled=none from hh]
 refine S5 (Te (wpAny_throw ?_))
 refine S5 (wpAny_isInstance (T:="StopIteration") (b:=true) ⟨_,Tt _ rfl,rfl⟩ isSubtype_stop ?_)
 exact Te (hQ _ (((VJ ..).extBut.push _).push _))
def CO{it d:Addr}{od:Obj}{es:Array Vy}{ep:Nat}{Q:Option Value->S7->Prop}(hh:A.handled=none)(hit:s.heap.IsKeyIter it d es.size es.size ep)(IQ:s.heap.get? d=some od)(vX:od.data= .dict es ep)
 (hQ:∀h',Heap.ExtBut it s.heap h'->Q none {s with heap:=h'}):wpAny (model prog w) A (W2 (.ref it)) Q E s:=si hh hit (Tg _) IQ vX hQ
def Hj(es:Array Vy):Nat->Value->Prop:=fun i v=>∃e,es[i]? =some e/\v=e.key
def zL(hh:A.handled=none)(I d:Addr)(nK:d≠I){od:Obj}{es:Array Vy}{ep:Nat}(vX:od.data= .dict es ep):
 Walks prog w A I [I,d] [I] es.size (Hj es) (fun i h=>h.IsKeyIter I d i es.size ep/\h.get? d=some od) where
 sub:=fun b hb=>by simp at hb;simp[hb]
 frame:=fun _ _ _ st hk=>⟨st.1.at fun o e=>hk I (by simp) o e,hk d (by simp) _ st.2⟩
 item:=fun i s Q E hi st hQ=>by
  have hx:es[i]? =some es[i]:=V9 hi
  exact xk st.1 st.2 vX hx fun h' FF HE=>hQ _ h' s.toks ⟨_,hx,rfl⟩ ⟨FF,(HE.2 d nK).trans st.2⟩ fun b o hb e=>HE.extBut b o (fun h=>hb (by simp[h])) e
 done:=fun s Q E st hQ=>CO hh st.1 st.2 vX fun h' Rh=>hQ h' s.toks fun b o hb e=>Rh b o (fun h=>hb (by simp[h])) e
 self:=fun _ _ _ _ st hQ=>wpAny_pyIter_keyiter st.1 hQ
def EF{d:Addr}{od:Obj}{es:Array Vy}{ep:Nat}(lo:(d==UI)=false)(hx:od.ExactDict)(vX:od.data= .dict es ep):KdlSrc prog w "dict" d d es.size (Hj es) (fun h=>h.get? d=some od) where
 type:=fun _ hm=>⟨od,hm,hx.1⟩
 there:=fun _ hm=>⟨Tq hm,Tq hm⟩
 keep:=fun _ _ hm hk=>hk d (.inl rfl) od hm
 notList:=by decide
 notTuple:=by decide
 hint:=fun _ _ s _ hm hq=>kdl_hint_dict ⟨od,hm,hx.1⟩ hq
 iter:=fun _ _ hh hm=>⟨_,_,(fun _ _ hq=>sC lo hm hx vX hq),zL hh _ d (TR (Tq hm)) vX,⟨⟨_,Tt _ rfl,rfl,rfl⟩,S_ _ hm⟩⟩
end
end L3
namespace L3
open PySem
def insI(k:List Int):List (List Int)->List (List Int)
 |[]=>[k]
 |x::r=>if fj k x then k::x::r else x::insI k r
def sortI:List (List Int)->List (List Int)
 |[]=>[]
 |k::r=>insI k (sortI r)
def yB(l:List (List Int)):Prop:=l.Pairwise fun a b=>fj a b=true
def pP{k x:List Int}:∀{l:List (List Int)},x∈insI k l↔x=k\/x∈l
 |[]=>by simp[insI]
 |y::r=>by
  unfold insI
  split
  ·simp
  ·rw[Th,pP,Th]
   constructor
   ·rintro(h | h | h)<;>simp[h]
   ·rintro(h | h | h)<;>simp[h]
def sq{k:List Int}:∀{l:List (List Int)},yB l->k∉l->yB (insI k l)
 |[],_,_=>List.pairwise_singleton _ _
 |x::r,h,hk=>by
  have h:=UO.mp h
  unfold insI
  split
  ·rename_i q
   refine UO.mpr ⟨fun y hy=>?_,UO.mpr h⟩
   rcases Th.mp hy with rfl | hy
   ·exact q
   ·exact uH _ _ _ q (h.1 y hy)
  ·rename_i q
   have hx:fj x k=true:=by
    rcases pY k x (fun z=>hk (by rw[z];exact Ta ..)) with z | z
    ·exact absurd z q
    ·exact z
   refine UO.mpr ⟨fun y hy=>?_,sq h.2 fun z=>hk (S9 _ z)⟩
   rcases pP.mp hy with rfl | hy
   ·exact hx
   ·exact h.1 y hy
def iM{x:List Int}:∀{l:List (List Int)},x∈sortI l↔x∈l
 |[]=>Iff.rfl
 |k::r=>by unfold sortI;rw[pP,iM,Th]
def lB:∀{l:List (List Int)},l.Nodup->yB (sortI l)
 |[],_=>X3
 |k::r,h=>by
  have h:=Vc.mp h
  exact sq (lB h.2) fun z=>h.1 (iM.mp z)
def qG:∀{a b:List (List Int)},yB a->yB b->(∀x,x∈a↔x∈b)->a=b
 |[],[],_,_,_=>rfl
 |[],y::b,_,_,h=>by have:=(h y).mpr (Ta ..);cases this
 |x::a,[],_,_,h=>by have:=(h x).mp (Ta ..);cases this
 |x::a,y::b,ha,hb,h=>by
  have ha:=UO.mp ha
  have hb:=UO.mp hb
  have e:x=y:=by
   rcases Th.mp ((h x).mp (Ta ..)) with q | q
   ·exact q
   ·rcases Th.mp ((h y).mpr (Ta ..)) with p | p
    ·exact p.symm
    ·have z1:=hb.1 x q
     have z2:=ha.1 y p
     rw[lU _ _ z1] at z2
     cases z2
  subst e
  have Qe:∀k,fj k k≠true:=fun k z=>by have:=lU _ _ z;rw[z] at this;cases this
  rw[qG ha.2 hb.2 fun z=>?_]
  constructor
  ·intro hz
   rcases Th.mp ((h z).mp (S9 _ hz)) with q | q
   ·subst q;exact absurd (ha.1 z hz) (Qe z)
   ·exact q
  ·intro hz
   rcases Th.mp ((h z).mpr (S9 _ hz)) with q | q
   ·subst q;exact absurd (hb.1 z hz) (Qe z)
   ·exact q
def zu:∀(n:Nat) (l:List Nat),l.Nodup->(∀x∈l,x<n)->l.length=n->∀k,k<n->k∈l
 |0,_,_,_,_,k,hk=>by omega
 |n+1,l,hd,hl,hn,k,hk=>by
  by_cases h:n∈l
  ·by_cases e:k=n
   ·subst e;exact h
   ·refine List.mem_of_mem_erase (zu n (l.erase n) (hd.erase n) (fun x hx=>?_) (by rw[Ym h,hn];rfl) k (by omega))
    have hx:=hd.mem_erase_iff.mp hx
    have:=hl x hx.2
    have:=hx.1
    omega
  ·cases l with
   |nil=>simp at hn
   |cons x r=>
    have hd:=Vc.mp hd
    have lt:∀y∈x::r,y<n:=fun y hy=>by
     have:=hl y hy
     have:y≠n:=fun z=>h (by rw[<-z];exact hy)
     omega
    exact absurd (zu n r hd.2 (fun y hy=>lt y (S9 _ hy)) (by simpa using hn) x (lt x (Ta ..))) hd.1
def B3{ks:List (List Int)}{p:Array Nat}(hd:ks.Nodup)(P:PN ks.length p)(R:Ri (fun i j=>fj (ks.getD i []) (ks.getD j [])) p ks.length):(p.toList.map fun i=>ks.getD i [])=sortI ks:=by
 have hsz:p.toList.length=ks.length:=by rw[TZ];exact P.sz
 have E5:∀i (h:i<p.toList.length),p.toList[i]=at' p i:=fun i h=>by
  have h':i<p.size:=by rw[TZ] at h;exact h
  rw[fW,V9 h']
  simp
 refine qG ?_ (lB hd) fun x=>?_
 ·refine Vo.mpr fun i j hi hj Ah=>?_
  rw[S6] at hi hj
  rw[List.getElem_map,List.getElem_map,E5 i hi,E5 j hj]
  exact R i j Ah (by omega)
 ·rw[iM]
  constructor
  ·intro hx
   obtain⟨i,hi,rfl⟩:=TJ.mp hx
   obtain⟨j,hj,rfl⟩:=VY.mp hi
   have:=P.lt j (by omega)
   rw[E5 j hj,TU,Tb this]
   exact Vr this
  ·intro hx
   obtain⟨k,hk,rfl⟩:=VY.mp hx
   have LQ:k∈p.toList:=by
    have hn:p.toList.Nodup:=Vo.mpr fun i j hi hj Ah z=>by
     rw[E5 i hi,E5 j hj] at z
     have:=P.inj i j (by omega) (by omega) z
     omega
    exact zu ks.length p.toList hn (fun x hx=>by
     obtain⟨j,hj,rfl⟩:=VY.mp hx
     rw[E5 j hj]
     exact P.lt j (by omega)) hsz k hk
   refine TJ.mpr ⟨k,LQ,?_⟩
   rw[TU,Tb hk]
   rfl
end L3
namespace L3
open PySem PySem.Spec L2 SeqAt HT
open PyProof.Rows hiding St
def tupI(k:List Int):D:= .tup (k.map D.int)
def jI(ks:List (List Int)):Bool:=decide ks.Nodup&&decide (ks.length<64)&&ks.all fun k=>!k.isEmpty
def fT(H:Hp):List V->List (List Int)->Prop:=XB fun v k=>∃a,v= .ref a/\H a=some (.tup (k.map V.int))
def xT{K:Tc}{F:Hp}:∀{ws:List V}{ks:List (List Int)},fT F ws ks->(∀k∈ks,k.length<=lim)->DenL K F (ks.map tupI) ws
 |_,_, .nil,_=>rfl
 |_,_, .cons (b:=k) h t,hl=>by
  obtain⟨a,rfl,h⟩:=h
  exact .cons ⟨a,_,rfl,h,DenL.ints k,by rw[S6];exact hl k (Ta ..)⟩ (xT t fun k hk=>hl k (S9 _ hk))
def tE{X:Cx}{pins:List (Addr×Obj)}{σ:St}{H:Hp}{s:S7}(I:Inv X pins σ H s):∀{vs:List V}{aR:List Value}{ks:List (List Int)},fT H vs ks->Vals vs aR->(∀k∈ks,k≠[])->TupsAt s.heap aR ks
 |_,_,_, .nil,r,_=>by cases r;exact trivial
 |_,_,_, .cons (b:=k) h t,r,hn=>by
  obtain⟨a,rfl,h⟩:=h
  cases r with
  |cons r1 r2=>
   cases (show _=_ from r1)
   obtain⟨us,ru,pt,_⟩:=I.tuple (SqT.of (K:=X.K) h)
   obtain⟨o,q1,q2,m,q3⟩:=pt
   exact⟨⟨a,o,us,m,rfl,q1,q2,q3,intsAre_of ru,hn k (Ta ..)⟩,tE I t r2 fun k hk=>hn k (S9 _ hk)⟩
def xV{H:Hp}:∀{vs:List V}{ks:List (List Int)}{i:Nat},fT H vs ks->i<vs.length->∃a,vs.getD i .non= .ref a/\H a=some (.tup ((ks.getD i []).map V.int))
 |_,_,i, .nil,hi=>by simp at hi
 |_,_,0, .cons h t,_=>h
 |_,_,i+1, .cons h t,hi=>xV (i:=i) t (by simpa using hi)
def xW{H:Hp}:∀{vs:List V}{ks:List (List Int)},fT H vs ks->vs.length=ks.length
 |_,_, .nil=>rfl
 |_,_, .cons h t=>by rw[Tj,Tj,xW t]
def tB{H:Hp}{vs:List V}{ks:List (List Int)}(h:fT H vs ks):∀{is:List Nat},(∀i∈is,i<vs.length)->fT H (is.map fun i=>vs.getD i .non) (is.map fun i=>ks.getD i [])
 |[],_=> .nil
 |i::is,hi=> .cons (xV h (hi i (Ta ..))) (tB h fun j hj=>hi j (S9 _ hj))
def tL:∀{vs:List V}{us:List Value}(i:Nat),Vals vs us->i<vs.length->RelV (vs.getD i .non) (us.getD i Us)
 |_,_,i, .nil,hi=>by simp at hi
 |_,_,0, .cons h t,_=>h
 |_,_,i+1, .cons h t,hi=>tL i t (by simpa using hi)
def tN{vs:List V}{us:List Value}(h:Vals vs us):∀{is:List Nat},(∀i∈is,i<vs.length)->Vals (is.map fun i=>vs.getD i .non) (is.map fun i=>us.getD i Us)
 |[],_=> .nil
 |i::is,hi=> .cons (tL i h (hi i (Ta ..))) (tN h fun j hj=>hi j (S9 _ hj))
section
def tI:∀l:List (List Int),(sortI l).length=l.length
 |[]=>rfl
 |k::r=>by
  have ins:∀(k:List Int) (l:List (List Int)),(insI k l).length=l.length+1:=by
   intro k l
   induction l with
   |nil=>rfl
   |cons x l ih=>
    unfold insI
    split
    ·rfl
    ·rw[Tj,ih,Tj]
  unfold sortI
  rw[ins,tI r,Tj]
end
def Br(k:List Int):List Key:=k.map Xn
def MH:List V->Hp->VK->Prop:=fun xs H Q=>∃p aK ks,xs=[.ref p]/\Rd H p (.dT aK)/\aK.map (·.1)=ks.map Br/\jI ks=true/\∀(q:Addr) (ws:List V),H q=none->fT H ws (sortI ks)->Q (.ref q) (upd H q (.lst ws))
def sF{H:Hp}:∀{aK:List (List Key×V)}{xs:List (List Key×Addr×Value)}{ks:List (List Int)},XB (fun (p:List Key×V) (q:List Key×Addr×Value)=>p.1=q.1/\H q.2.1=some (.tup (p.1.map kV))/\RelV p.2 q.2.2) aK xs->
 aK.map (·.1)=ks.map Br->fT H (xs.map fun x=>V.ref x.2.1) ks
 |_,_,[], .nil,_=> .nil
 |_,_,_::_, .nil,e=>by simp at e
 |_,_,[], .cons h t,e=>by simp at e
 |_,_,k::ks, .cons h t,e=>by
  rw[Tf,Tf] at e
  injection e with e1 e2
  refine .cons ⟨_,rfl,?_⟩ (sF t e2)
  have hk:(Br k).map kV=k.map V.int:=by unfold Br;rw[UQ];rfl
  rw[h.2.1,e1,hk]
section
variable{X:Cx}{Xw:Nat->Hp->Prop}{e:Expr}{δs:DA}{pos p:Pos}
def A5(hc:X.calm=true):CallR X (.builtin "sorted") MH:=by
 intro pins s σ H xs us Q I r h
 obtain⟨a,aK,ks,rfl,hH,HC,hk,q⟩:=h
 obtain⟨u,rfl,r1⟩:=r.one
 cases (show u=_ from r1)
 obtain⟨z,lo,xs,rel,o,es,ep,g1,g2,g3,g4,g5⟩:=(show ObjOk X.prog X.w H s.heap a (.dT aK) from hH.ok I.hok)
 unfold jI at hk
 rw[Ts,Ts] at hk
 have hd:ks.Nodup:=of_decide_eq_true hk.1.1
 have NU:ks.length<64:=of_decide_eq_true hk.1.2
 have nK:∀k∈ks,k≠[]:=fun k Nh z=>by have:=T2.mp hk.2 k Nh;rw[z] at this;cases this
 have hr:=sF rel HC
 have Dh:=xW hr
 rw[S6] at Dh
 have PX:es.size=xs.length:=by rw[<-TZ,g4,S6]
 have IV:Tz=16777216:=VE
 refine Calls.call_function_entry kind_sorted plain_sorted entry_sorted (args_sorted1 _) ?_
 unfold Xq.«sorted»
 refine S5 (m:=checkCount "sorted" 1 1 _) (Te (S5 (PySem.W.kdu_collect (A:=X.A.in1) (EF lo g2 g3) (I.ok.hd hc) g1 (by rw[PX,IV];omega) fun h1 tk acc L8 C_=>?_)))
 have Ls:acc.toList.length=xs.length:=by rw[TZ,<-PX];exact C_.1
 have I1:Inv X pins σ H {s with heap:=h1,toks:=tk}:=I.kept (t':=tk) fun b ob e=>L8 b ob e
 have rv:Vals (xs.map fun x=>V.ref x.2.1) acc.toList:=by
  have ext:∀{vs:List V}{us:List Value},vs.length=us.length->(∀(i:Nat) (v:V) (u:Value),vs[i]? =some v->us[i]? =some u->RelV v u)->Vals vs us:=by
   intro vs
   induction vs with
   |nil=>intro us h _;cases us with | nil=>exact .nil | cons _ _=>simp at h
   |cons v vs ih=>
    intro us h hh
    cases us with
    |nil=>simp at h
    |cons u us=>exact .cons (hh 0 v u rfl rfl) (ih (by simpa using h) fun i v u h1 h2=>hh (i+1) v u h1 h2)
  refine ext (by rw[S6,Ls]) fun i v u e1 e2=>?_
  rw[VP] at e2
  obtain⟨en,q1,q2⟩:=C_.2 i u e2
  rw[<-VP,g4,Tu] at q1
  rw[Tu] at e1
  cases w:xs[i]? with
  |none=>rw[w] at e1;cases e1
  |some x=>
   rw[w] at e1 q1
   cases e1
   cases q1
   exact q2
 have ht:=tE I1 hr rv nK
 refine S5 (wpAny_newList ?_ (by rw[IV];omega))
 have Nk:(h1.push (VH "list" acc.toList.toArray 0)).get? h1.objs.size=some (VH "list" acc.toList.toArray 0):=Tt _ rfl
 refine S5 (U5 (Vz slot_list_sort ⟨_,Nk,rfl⟩ entry_list_sort (B2 (s:={s with heap:=h1.push (VH "list" acc.toList.toArray 0),toks:=tk}) Nk
  (ht.keep (a:=h1.objs.size) (fun b o _ e=>S_ _ e) (fun o e=>absurd (Tq e) (Uk _))) hd (by omega) fun P h' c' hP hR N7 LF=>?_) (args_list_sort _)))
 have PR:∀i∈P.toList,i<(xs.map fun x=>V.ref x.2.1).length:=fun i hi=>by
  obtain⟨j,hj,rfl⟩:=VY.mp hi
  have h':j<P.size:=by rw[TZ] at hj;exact hj
  have:=hP.lt j (by rw[hP.sz] at h';exact h')
  rw[fW,V9 h'] at this
  have e:P.toList[j]=P[j]:=by simp
  rw[e,S6]
  have:P[j]<acc.toList.length:=this
  omega
 have Q0:PN ks.length P:=by rw[<-Dh,<-Ls];exact hP
 have Q2:Ri (fun i j=>fj (ks.getD i []) (ks.getD j [])) P ks.length:=by rw[<-Dh,<-Ls];exact hR
 have RP:=B3 hd Q0 Q2
 have P_:=tB hr PR
 rw[RP] at P_
 refine⟨_,rfl,Te ⟨_,rfl,⟨.ref h1.objs.size,_,I1.laid (a:=h1.objs.size) (t':=tk) (o:= .lst (P.toList.map fun i=>(xs.map fun x=>V.ref x.2.1).getD i .non)) (fun b ob e=>LF b ob (TR (Tq e)) (S_ _ e)) (Tg _) ?_,rfl,q _ _ (I1.hok.fresh (Tg _)) P_⟩⟩⟩
 exact⟨by rw[S6,TZ,hP.sz,IV];omega,_,c',tN rv PR,N7⟩
def tw{F F':Hp}(e:Same F F'):∀{ws:List V}{ks:List (List Int)},fT F ws ks->fT F' ws ks
 |_,_, .nil=> .nil
 |_,_, .cons ⟨b,q1,q2⟩ t=> .cons ⟨b,q1,e _ _ q2⟩ (tw e t)
def xU{F H:Hp}(hs:Same F H):∀{ws:List V}{ks:List (List Int)},fT H ws ks->∃F',Ext F H F' H/\fT F' ws ks
 |_,_, .nil=>⟨F,Ext.refl hs, .nil⟩
 |_,_, .cons h t=>by
  obtain⟨a,rfl,h⟩:=h
  obtain⟨F1,e1,r1⟩:=xU hs t
  have e2:=Ext.tup (F:=F1) e1.fh h
  refine⟨_,e1.trans e2, .cons ⟨a,rfl,aO⟩ ?_⟩
  exact tw e2.ff r1
def sr:List Key->Option (List Int)
 |[]=>some []
 | .inl i::r=>(sr r).map (i:: ·)
 |_=>none
def kY:List (List Key)->Option (List (List Int))
 |[]=>some []
 |k::r=>match sr k,kY r with
  |some x,some xs=>some (x::xs)
  |_,_=>none
def wX:∀{k:List Key}{x:List Int},sr k=some x->k=Br x
 |[],_,e=>by cases e;rfl
 | .inl i::r,_,e=>by
   unfold sr at e
   cases q:sr r with
   |none=>rw[q] at e;cases e
   |some y=>rw[q] at e;cases e;rw[wX q];rfl
 | .inr _::r,_,e=>by cases e
def su:∀{kk:List (List Key)}{ks:List (List Int)},kY kk=some ks->kk=ks.map Br
 |[],_,e=>by cases e;rfl
 |k::r,_,e=>by
  unfold kY at e
  split at e
  ·rename_i x xs e1 e2
   cases e
   rw[Tf,<-wX e1,<-su e2]
  ·cases e
def AO:List D->M D
 |[.dct kk ds]=>match kY kk with
  |some ks=>if jI ks&&ks.all (fun k=>decide (k.length<=lim)) then ae (.lst ((sortI ks).map tupI)) else ah
  |none=>ah
 |_=>ah
def pb{α β:Type}:∀{a:List α}{b:List β},a.length=b.length->(a.zip b).map (·.1)=a
 |[],[],_=>rfl
 |x::a,y::b,h=>by rw[UN,Tf,pb (by simpa using h)]
 |[],_::_,h=>by simp at h
 |_::_,[],h=>by simp at h
def Gz(hc:X.calm=true)(hg:Gl X "sorted")(hm:X.mg "sorted"=none)(hb:Ub "sorted"=some (.builtin "sorted"))(ha:kr X Xw [e] δs)(he:To [e] X.env=[(false,eval e X.env)]:=by rfl):PD X Xw (.Call (.Name "sorted" p) [e] [] pos) (dA AO δs):=
 eR (A5 hc) (fun Xw F H vs ds Q s h w=>by
  unfold AO at w
  split at w
  ·rename_i kk ds
   obtain⟨v,rfl,h1⟩:=h.one
   obtain⟨a,ob,ws,rfl,h2,h3,h4,h5⟩:=h1
   split at w
   ·rename_i ks KH
    split at w
    ·rename_i hok
     rw[Ts] at hok
     have hl:∀k∈ks,k.length<=lim:=fun k hk=>of_decide_eq_true (T2.mp hok.2 k hk)
     have NU:ks.length<64:=by
      have:=hok.1
      unfold jI at this
      rw[Ts,Ts] at this
      exact of_decide_eq_true this.1.2
     refine⟨a,_,ks,rfl, .inr ⟨ob,s _ _ h2⟩,by rw[pb (by rw[h4];exact h3.len),su KH],hok.1,fun q us hq hr=>?_⟩
     obtain⟨F1,e1,r1⟩:=xU s hr
     have e2:=Ext.lay (o:= .lst us) e1.fh hq
     exact WP.fin w (e1.trans e2) ⟨q,_,rfl,aO,DenL.mono e2.ff (xT r1 fun k hk=>hl k (iM.mp hk)),by rw[S6,tI];unfold lim;omega⟩
    ·exact w.elim
   ·exact w.elim
  ·exact w.elim) hg hm hb ha (by decide) (by decide) he rfl
end
end L3
namespace L3
open PySem PySem.Spec L2
open PyProof.Rows hiding St
def orM{α:Type}(a b:M α):M α:=match a with
 |none=>b
 |some r=>some r
def IZ(a b:DA):DA:=fun ρ=>orM (a ρ) (b ρ)
section
variable{X:Cx}{Xw:Nat->Hp->Prop}{e tg:Expr}{δi δi':DA}
def GC(h:zT X Xw tg e δi)(h':zT X Xw tg e δi'):zT X Xw tg e (IZ δi δi'):=fun pins s σ H Q I ⟨F,ρ,S,w⟩=>by
 unfold IZ orM at w
 cases q:δi ρ with
 |none=>rw[q] at w;exact h' pins s σ H Q I ⟨F,ρ,S,w⟩
 |some r=>rw[q] at w;exact h pins s σ H Q I ⟨F,ρ,S,by rw[q];exact w⟩
end
def fgt:List Nat->bf->bf
 |[],ρ=>ρ
 |i::is,ρ=>fgt is (ρ.set i none)
def Ml(f:bf->bf):Out->M Out
 | .nx ρ=>ae (.nx (f ρ))
 | .rt d=>ae (.rt d)
def bW(is:List Nat)(τ:DS):DS:=fun ρ=>τ ρ>>=Ml (fgt is)
def StOk.fgt1{K:Tc}{F₀ H₀ F H:Hp}{σ:St}{ρ:bf}(s:StOk K F₀ H₀ F H σ ρ)(i:Nat):StOk K F₀ H₀ F H σ (ρ.set i none):=by
 have get:∀(j:Nat) (sl:Sl),(ρ.set i none)[j]? =some (some sl)->ρ[j]? =some (some sl):=fun j sl e=>by
  by_cases hj:j=i
  ·subst hj
   by_cases hl:j<ρ.length
   ·rw[Tv hl] at e;cases e
   ·rw[WG (by simpa using hl)] at e;cases e
  ·rw[Tr (Uq hj)] at e;exact e
 exact⟨s.ext,⟨s.st.fh,fun j sl e=>s.st.den j sl (get j sl e)⟩,by simp[s.len],fun j c a e e'=>s.own j c a (get j _ e) e',fun j k c c' a e1 e2 e3 e4=>s.sep j k c c' a (get j _ e1) (get k _ e2) e3 e4⟩
def StOk.fgt{K:Tc}{F₀ H₀ F H:Hp}{σ:St}:∀(is:List Nat) {ρ:bf},StOk K F₀ H₀ F H σ ρ->StOk K F₀ H₀ F H σ (L3.fgt is ρ)
 |[],_,s=>s
 |i::is,_,s=>StOk.fgt is (s.fgt1 i)
def WPS.fgt{K:Tc}{Xw:Nat->Hp->Prop}{F₀ H₀:Hp}{is:List Nat}{m:M Out}{Dn:Ends}(w:WPS K Xw F₀ H₀ (m>>=Ml (L3.fgt is)) Dn):WPS K Xw F₀ H₀ m Dn:=by
 match m,w with
 |none,w=>exact w
 |some (.ok (.nx ρ)),w=>exact fun σ F H s=>w σ F H (s.fgt is)
 |some (.ok (.rt d)),w=>exact w
 |some (.ex n),w=>exact w
section
variable{X:Cx}{Xw:Nat->Hp->Prop}{Qu:List Stmt}{τ:DS}{is:List Nat}
def br(h:PSDs X Xw Qu τ):PSDs X Xw Qu (bW is τ):=fun F₀ H₀=>PSs.weak (h F₀ H₀) fun D σ H ⟨F,ρ,s,w⟩=>⟨F,ρ,s,WPS.fgt w⟩
end
def QQ:Option Sl->Option Sl
 |some (.ow c)=>some (.fz c.d)
 |x=>x
def qY(ρ:bf):bf:=ρ.map QQ
def refA(h:Heap)(P:Addr->Prop)[DecidablePred P](H:Hp):Hp:=fun b=>if P b then(H b).map (oM ((h.get? b).getD {cls:= .none,data:= .fields #[]})) else H b
def yT(ob:Obj)(o:HO):oM ob o=o\/((∃k,o= .dT k)\/∃k,o= .dK k)/\oM ob o= .frz ob o:=by
 cases o<;>first | exact .inl rfl | exact .inr ⟨.inl ⟨_,rfl⟩,rfl⟩ | exact .inr ⟨.inr ⟨_,rfl⟩,rfl⟩
section
variable{X:Cx}{pins:List (Addr×Obj)}{σ:St}{H:Hp}{s:S7}{P:Addr->Prop}[DecidablePred P]
def iJ{h:Heap}{b:Addr}(e:H b=none):refA h P H b=none:=by
 unfold refA;split
 ·rw[e];rfl
 ·exact e
def tu{h:Heap}{b:Addr}{o:HO}(e:H b=some o):refA h P H b=some o\/((∃k,o= .dT k)\/∃k,o= .dK k)/\P b/\refA h P H b=some (.frz ((h.get? b).getD {cls:= .none,data:= .fields #[]}) o):=by
 unfold refA;split
 ·rename_i hp
  rw[e]
  rcases yT ((h.get? b).getD {cls:= .none,data:= .fields #[]}) o with q | ⟨q1,q2⟩
  ·exact .inl (by show some _=_;rw[q])
  ·exact .inr ⟨q1,hp,by show some _=_;rw[q2]⟩
 ·exact .inl e
def iI{h:Heap}{b:Addr}{o:HO}(e:H b=some o)(n1:∀k,o≠ .dT k)(n2:∀k,o≠ .dK k):refA h P H b=some o:=by
 rcases tu (P:=P) (h:=h) e with q | ⟨⟨k,q⟩ | ⟨k,q⟩,_⟩
 ·exact q
 ·exact absurd q (n1 k)
 ·exact absurd q (n2 k)
def Inv.refA(I:Inv X pins σ H s):Inv X pins σ (L3.refA s.heap P H) s:=by
 have obj:∀b o,H b=some o->((∃k,o=HO.dT k)\/∃k,o= .dK k)->∃ob,s.heap.get? b=some ob:=fun b o e hu=>by
  have hk:=I.hok b o e
  rcases hu with⟨k,h1⟩ | ⟨k,h1⟩
  ·subst h1;obtain⟨_,_,_,_,ob,_,_,q,_⟩:=hk;exact⟨ob,q⟩
  ·subst h1;obtain⟨_,_,_,_,ob,_,_,q,_⟩:=hk;exact⟨ob,q⟩
 refine⟨I.ok,I.os,I.bare,⟨I.base.keep,I.base.slot,fun b q h1 h2 h3=>iJ (I.base.free b q h1 h2 h3),I.base.there,fun b xs q=>iI (I.base.tups b xs q) (fun _ z=>nomatch z) (fun _ z=>nomatch z),
  fun b q1 v q=>iI (I.base.frzs b q1 v q) (fun _ z=>nomatch z) (fun _ z=>nomatch z),fun b ps q=>?_⟩,I.loc,I.cell,iJ I.free,fun x c q=>iJ (I.freeC x c q),fun p hp=>?_,fun b v q=>?_,I.len⟩
 ·obtain⟨m,this⟩:=I.base.tbls b ps q
  exact⟨m,iI this (fun _ z=>nomatch z) (fun _ z=>nomatch z)⟩
 ·obtain⟨h1,h2,h3⟩:=I.pin p hp
  exact⟨h1,iJ h2,h3⟩
 ·have st:∀{c:Addr}{v:HO},ObjOk X.prog X.w H s.heap c v->ObjOk X.prog X.w (L3.refA s.heap P H) s.heap c v:=fun {c v} k=>k.stay (fun _ _ _ q=>q)
   (fun c' q=>iI q (fun _ z=>nomatch z) (fun _ z=>nomatch z)) fun c' xs q=>iI q (fun _ z=>nomatch z) (fun _ z=>nomatch z)
  cases e:H b with
  |none=>rw[iJ e] at q;cases q
  |some o=>
   rcases tu (P:=P) (h:=s.heap) e with z | ⟨hu,hp,z⟩
   ·rw[z] at q;cases q;exact st (I.hok b _ e)
   ·rw[z] at q
    cases q
    obtain⟨ob,LO⟩:=obj b o e hu
    rw[LO]
    exact⟨LO,st (I.hok b o e)⟩
def unA(P:Addr->Prop)[DecidablePred P](H:Hp):Hp:=fun b=>if P b then(match H b with | some (.frz _ u)=>some u | x=>x) else H b
def Inv.unA(I:Inv X pins σ H s)(hP:∀b,P b->∀o u,X.H₀ b≠some (.frz o u))(hQ:∀b,P b->∀o u,H b=some (.frz o u)->(∃k,u= .dT k)\/∃k,u= .dK k):Inv X pins σ (L3.unA P H) s:=by
 have non:∀b,H b=none->L3.unA P H b=none:=fun b e=>by unfold L3.unA;rw[e];split<;>rfl
 have keep:∀b o,H b=some o->(∀q u,o≠ .frz q u)->L3.unA P H b=some o:=fun b o e n=>by
  unfold L3.unA;split
  ·rw[e];cases o<;>first | rfl | exact absurd rfl (n _ _)
  ·exact e
 refine⟨I.ok,I.os,I.bare,⟨I.base.keep,I.base.slot,fun b q h1 h2 h3=>non b (I.base.free b q h1 h2 h3),I.base.there,fun b xs q=>keep b _ (I.base.tups b xs q) (fun _ _ z=>nomatch z),
  fun b q1 v q=>?_,fun b ps q=>?_⟩,I.loc,I.cell,non _ I.free,fun x c q=>non _ (I.freeC x c q),fun p hp=>?_,fun b v q=>?_,I.len⟩
 ·have:=I.base.frzs b q1 v q
  unfold L3.unA
  rw[if_neg (fun hp=>hP b hp q1 v q)]
  exact this
 ·obtain⟨m,this⟩:=I.base.tbls b ps q
  exact⟨m,keep b _ this (fun _ _ z=>nomatch z)⟩
 ·obtain⟨h1,h2,h3⟩:=I.pin p hp
  exact⟨h1,non _ h2,h3⟩
 ·have st:∀{c:Addr}{v:HO},ObjOk X.prog X.w H s.heap c v->ObjOk X.prog X.w (L3.unA P H) s.heap c v:=fun {c v} k=>k.stay (fun _ _ _ q=>q)
   (fun c' q=>keep c' _ q (fun _ _ z=>nomatch z)) fun c' xs q=>keep c' _ q (fun _ _ z=>nomatch z)
  cases e:H b with
  |none=>rw[non b e] at q;cases q
  |some o=>
   have ko:=I.hok b o e
   by_cases hf:∃ob u,o= .frz ob u
   ·obtain⟨ob,u,rfl⟩:=hf
    unfold L3.unA at q
    split at q
    ·rw[e] at q
     cases q
     obtain⟨_,k2⟩:=ko
     exact st k2
    ·rw[e] at q;cases q;exact st ko
   ·rw[keep b o e (fun q u z=>hf ⟨q,u,z⟩)] at q
    cases q
    exact st ko
end
mutual
def wJ:D->Bool
 | .non=>true
 | .bl _=>true
 | .int _=>true
 | .str _=>true
 | .tup ds=>Ae ds
 | .raw _=>false
 | .exc _=>false
 | .scr _=>false
 | .lst _=>false
 | .dct _ _=>false
 | .dci _ _=>false
def Ae:List D->Bool
 |[]=>true
 |d::ds=>wJ d&&Ae ds
end
def pI(d:D):M D:=if wJ d then ae d else ah
def OwnAt(σ:St)(ρ:bf)(b:Addr):Prop:=∃(i:Nat) (c:C),ρ[i]? =some (some (Sl.ow c))/\σ[i]? =some (some (V.ref b))
section
variable{K:Tc}{F H F' H':Hp}{σ:St}{ρ:bf}{h:Heap}{b:Addr}
def OwnAt.obj(S:StE K F H σ ρ)(p:OwnAt σ ρ b):F b=none/\∃o,H b=some o/\((∃x,o= .lst x)\/(∃x,o= .dT x)\/∃x,o= .dK x):=by
 obtain⟨i,c,h1,h2⟩:=p
 obtain⟨v,h3,a,o,rfl,h4,h5,h6⟩:=S.den i _ h1
 rw[h3] at h2
 cases h2
 refine⟨h5,o,h4,?_⟩
 cases c with
 |lst ds=>obtain⟨vs,rfl,_⟩:=h6;exact .inl ⟨_,rfl⟩
 |dct ks ds=>obtain⟨vs,rfl,_⟩:=h6;exact .inr (.inl ⟨_,rfl⟩)
 |dci ks ds=>obtain⟨vs,rfl,_⟩:=h6;exact .inr (.inr ⟨_,rfl⟩)
open Classical in
noncomputable def fA(σ:St)(ρ:bf)(H1 F:Hp):Hp:=fun b=>if OwnAt σ ρ b then H1 b else F b
open Classical in
def Ab(S:StE K F H σ ρ){H1:Hp}:Same F (fA σ ρ H1 F):=fun b u e=>by
 unfold fA
 rw[if_neg (fun p=>by rw[(OwnAt.obj S p).1] at e;cases e)]
 exact e
open Classical in
def yS(S:StE K F H σ ρ):StE K (fA σ ρ (refA h (OwnAt σ ρ) H) F) (refA h (OwnAt σ ρ) H) σ (qY ρ):=by
 refine⟨fun b u e=>?_,fun j sl e=>?_⟩
 ·unfold fA at e
  split at e
  ·exact e
  ·rename_i hp
   unfold refA
   rw[if_neg hp]
   exact S.fh b u e
 ·unfold qY at e
  rw[Tu] at e
  cases q:ρ[j]? with
  |none=>rw[q] at e;cases e
  |some x=>
   rw[q] at e
   cases x with
   |none=>cases e
   |some y=>
    cases y with
    |fz d=>
     cases e
     obtain⟨v,h1,h2⟩:=S.den j _ q
     exact⟨v,h1,Den.mono (Ab S) h2⟩
    |ow c=>
     cases e
     obtain⟨v,h1,a,o,rfl,h4,h5,h6⟩:=S.den j _ q
     refine⟨_,h1,DenC.den (ob:=(h.get? a).getD {cls:= .none,data:= .fields #[]}) h6 (Ab S) ?_⟩
     have hp:OwnAt σ ρ a:=⟨j,c,q,h1⟩
     unfold fA refA
     rw[if_pos hp,if_pos hp,h4]
     rfl
open Classical in
def pJ(S:StE K F H σ ρ)(E:Ext (fA σ ρ (refA h (OwnAt σ ρ) H) F) (refA h (OwnAt σ ρ) H) F' H'):
 Ext F H (fun b=>if OwnAt σ ρ b then none else F' b) (unA (OwnAt σ ρ) H')/\∀b,OwnAt σ ρ b->∀o u,H' b=some (.frz o u)->(∃k,u= .dT k)\/∃k,u= .dK k:=by
 have Pt:∀b,OwnAt σ ρ b->∃o,H b=some o/\H' b=some (oM ((h.get? b).getD {cls:= .none,data:= .fields #[]}) o)/\((∃x,o= .lst x)\/(∃x,o= .dT x)\/∃x,o= .dK x):=fun b hp=>by
  obtain⟨_,o,h1,h2⟩:=OwnAt.obj S hp
  refine⟨o,h1,E.hh b _ ?_,h2⟩
  unfold refA
  rw[if_pos hp,h1]
  rfl
 refine⟨⟨fun b o e=>?_,fun b u e=>?_,fun b u e=>?_,fun b hb=>?_⟩,fun b hp o u e=>?_⟩
 ·unfold unA
  by_cases hp:OwnAt σ ρ b
  ·obtain⟨o',h1,h2,h3⟩:=Pt b hp
   rw[e] at h1
   cases h1
   rw[if_pos hp,h2]
   rcases h3 with⟨x,rfl⟩ | ⟨x,rfl⟩ | ⟨x,rfl⟩<;>rfl
  ·rw[if_neg hp]
   refine E.hh b o ?_
   unfold refA
   rw[if_neg hp]
   exact e
 ·have hp:¬OwnAt σ ρ b:=fun p=>by rw[(OwnAt.obj S p).1] at e;cases e
  show (if OwnAt σ ρ b then none else F' b)=_
  rw[if_neg hp]
  refine E.ff b u ?_
  unfold fA
  rw[if_neg hp]
  exact e
 ·have e:(if OwnAt σ ρ b then none else F' b)=some u:=e
  split at e
  ·cases e
  ·rename_i hp
   unfold unA
   rw[if_neg hp]
   exact E.fh b u e
 ·show (if OwnAt σ ρ b then none else F' b)=F b\/_
  by_cases hp:OwnAt σ ρ b
  ·rw[if_pos hp]
   exact .inl (OwnAt.obj S hp).1.symm
  ·rw[if_neg hp]
   have e1:refA h (OwnAt σ ρ) H b=H b:=by unfold refA;rw[if_neg hp]
   have e2:fA σ ρ (refA h (OwnAt σ ρ) H) F b=F b:=by unfold fA;rw[if_neg hp]
   rcases E.new b (by rw[e1];exact hb) with q | q
   ·exact .inl (q.trans e2)
   ·rw[e1] at q;exact .inr q
 ·obtain⟨o',h1,h2,h3⟩:=Pt b hp
  rw[e] at h2
  rcases h3 with⟨x,rfl⟩ | ⟨x,rfl⟩ | ⟨x,rfl⟩
  ·cases h2
  ·cases h2;exact .inl ⟨_,rfl⟩
  ·cases h2;exact .inr ⟨_,rfl⟩
open Classical in
mutual
def wL(S:StE K F H σ ρ)(E:Ext (fA σ ρ (refA h (OwnAt σ ρ) H) F) (refA h (OwnAt σ ρ) H) F' H'):∀{d:D}{v:V},wJ d=true->Den K F' d v->Den K (fun b=>if OwnAt σ ρ b then none else F' b) d v
 | .non,_,_,q=>q
 | .bl _,_,_,q=>q
 | .int _,_,_,q=>q
 | .str _,_,_,q=>q
 | .tup ds,_,f,⟨a,vs,h1,h2,h3,h4⟩=>by
   refine⟨a,vs,h1,?_,sj S E ?_ h3,h4⟩
   ·show (if OwnAt σ ρ a then none else F' a)=_
    rw[if_neg,h2]
    intro hp
    obtain⟨_,o,k1,k2⟩:=OwnAt.obj S hp
    have k3:fA σ ρ (refA h (OwnAt σ ρ) H) F a=some (oM ((h.get? a).getD {cls:= .none,data:= .fields #[]}) o):=by
     unfold fA refA
     rw[if_pos hp,if_pos hp,k1]
     rfl
    have k4:=E.ff a _ k3
    rw[h2] at k4
    rcases k2 with⟨x,rfl⟩ | ⟨x,rfl⟩ | ⟨x,rfl⟩<;>cases k4
   ·exact f
 | .raw _,_,f,_=>by cases f
 | .exc _,_,f,_=>by cases f
 | .scr _,_,f,_=>by cases f
 | .lst _,_,f,_=>by cases f
 | .dct _ _,_,f,_=>by cases f
 | .dci _ _,_,f,_=>by cases f
def sj(S:StE K F H σ ρ)(E:Ext (fA σ ρ (refA h (OwnAt σ ρ) H) F) (refA h (OwnAt σ ρ) H) F' H'):∀{ds:List D}{vs:List V},Ae ds=true->DenL K F' ds vs->DenL K (fun b=>if OwnAt σ ρ b then none else F' b) ds vs
 |[],_,_,q=>q
 |d::ds,_,f,⟨v,r,h1,h2,h3⟩=>by
  unfold Ae at f
  rw[Ts] at f
  exact⟨v,r,h1,wL S E f.1 h2,sj S E f.2 h3⟩
end
end
section
variable{X:Cx}{Xw:Nat->Hp->Prop}{e:Expr}{δ:DE}{τ:DT}
def mW{pins:List (Addr×Obj)}{s:S7}{F H:Hp}{σ:St}{ρ:bf}(I:Inv X pins σ H s)(S:StE X.K F H σ ρ)(b:Addr)(p:OwnAt σ ρ b)(o:Obj)(u:HO):X.H₀ b≠some (.frz o u):=fun z=>by
 obtain⟨_,o',k1,k2⟩:=OwnAt.obj S p
 have:=I.base.frzs b o u z
 rw[k1] at this
 rcases k2 with⟨x,rfl⟩ | ⟨x,rfl⟩ | ⟨x,rfl⟩<;>cases this
def k9{α:Type}(m:M α):noex m=ah\/∃a,m=ae a/\noex m=ae a:=by
 rcases m.cs with h | ⟨n,h⟩ | ⟨a,h⟩
 ·subst h;exact .inl rfl
 ·subst h;exact .inl rfl
 ·subst h;exact .inr ⟨a,rfl,rfl⟩
def lq(h:mH X Xw e τ):mH X Xw e (fun ρ=>noex (τ (qY ρ))):=fun pins s σ H Q I ⟨F,ρ,S,w⟩=>by
 classical
 rcases k9 (τ (qY ρ)) with q | ⟨b,q,q2⟩
 ·have w:WPB Xw F H (noex (τ (qY ρ))) Q:=w
  rw[q] at w
  exact w.elim
 ·have w:WPB Xw F H (noex (τ (qY ρ))) Q:=w
  rw[q2] at w
  refine cJ (h pins s σ _ (fun b' H'=>Q b' (unA (OwnAt σ ρ) H')/\∀c,OwnAt σ ρ c->∀o u,H' c=some (.frz o u)->(∃k,u= .dT k)\/∃k,u= .dK k) (Inv.refA (P:=OwnAt σ ρ) I) ⟨_,_,yS (h:=s.heap) S,?_⟩) fun b' s' ⟨H',I',q1,q3⟩=>⟨_,Inv.unA I' (mW I S) q3,q1⟩
  rw[q]
  intro H' F' E
  obtain⟨E1,q3⟩:=pJ S E
  exact⟨w _ _ E1,q3⟩
def HS(h:PD X Xw e δ):PD X Xw e (fun ρ=>noex (δ (qY ρ))>>=pI):=fun pins s σ H Q I ⟨F,ρ,S,w⟩=>by
 classical
 rcases k9 (δ (qY ρ)) with q | ⟨d,q,q2⟩
 ·have w:WP X.K Xw F H (noex (δ (qY ρ))>>=pI) Q:=w
  rw[q] at w
  exact w.elim
 ·have w:WP X.K Xw F H (noex (δ (qY ρ))>>=pI) Q:=w
  rw[q2,ay] at w
  unfold pI at w
  split at w
  ·rename_i hf
   refine cJ (h pins s σ _ (fun v H'=>Q v (unA (OwnAt σ ρ) H')/\∀c,OwnAt σ ρ c->∀o u,H' c=some (.frz o u)->(∃k,u= .dT k)\/∃k,u= .dK k) (Inv.refA (P:=OwnAt σ ρ) I) ⟨_,_,yS (h:=s.heap) S,?_⟩) fun b' s' ⟨v,H',I',rv,q1,q3⟩=>⟨v,_,Inv.unA I' (mW I S) q3,rv,q1⟩
   rw[q]
   intro v H' F' E dn
   obtain⟨E1,q3⟩:=pJ S E
   exact⟨w _ _ _ E1 (wL S E hf dn),q3⟩
  ·exact w.elim
end
abbrev DF:=bf->M C
def WPF(K:Tc)(Xw:Nat->Hp->Prop)(F H:Hp)(m:M C)(Q:VK):Prop:=
 match m with
 |none=>False
 |some (.ok c)=>∀a o H' F',Ext F H F' H'->H' a=some o->F' a=none->H a=none->DenC K F' c o->Q (.ref a) H'
 |some (.ex n)=>∀F' H',Ext F H F' H'->Xw n H'
def Sk(K:Tc)(Xw:Nat->Hp->Prop)(δ:DF):TE:=fun σ H Q=>∃F ρ,StE K F H σ ρ/\WPF K Xw F H (δ ρ) Q
def M0(X:Cx)(Xw:Nat->Hp->Prop)(e:Expr)(δ:DF):Prop:=PE X e (Sk X.K Xw δ)
def jP(i:Nat)(δ:DF):DS:=fun ρ=>δ ρ>>=fun c=>ae (.nx (ρ.set i (some (.ow c))))
def StOk.setFresh{K:Tc}{F₀ H₀ F H F' H':Hp}{σ:St}{ρ:bf}(s:StOk K F₀ H₀ F H σ ρ){i:Nat}{a:Addr}{o:HO}{c₀:C}(E:Ext F H F' H')(ho:H' a=some o)(nF:F' a=none)(n:H a=none)(h:DenC K F' c₀ o):
 StOk K F₀ H₀ F' H' (σ.set i (some (.ref a))) (ρ.set i (some (.ow c₀))):=by
 have hle:=s.len
 have get:∀(j:Nat) (sl:Sl),(ρ.set i (some (.ow c₀)))[j]? =some (some sl)->(j=i/\i<ρ.length/\sl= .ow c₀)\/(j≠i/\ρ[j]? =some (some sl)):=fun j sl e=>by
  by_cases hj:j=i
  ·subst hj
   have hi:j<ρ.length:=by
    have:=(Tn.mp e).1
    simpa using this
   rw[Tv hi] at e
   cases e
   exact .inl ⟨rfl,hi,rfl⟩
  ·rw[Tr (Uq hj)] at e
   exact .inr ⟨hj,e⟩
 have old:∀(j:Nat) (c:C) (b:Addr),ρ[j]? =some (some (.ow c))->σ[j]? =some (some (.ref b))->b≠a:=fun j c b e e' z=>by
  obtain⟨u,h1,b',o,h2,h3,_⟩:=s.st.den j _ e
  rw[h1] at e'
  cases e'
  cases h2
  rw[z,n] at h3
  cases h3
 refine⟨s.ext.trans E,⟨E.fh,fun j sl e=>?_⟩,by simp[hle],fun j c b e e'=>?_,fun j k c c' b e1 e2 e3 e4=>?_⟩
 ·rcases get j sl e with⟨rfl,hi,rfl⟩ | ⟨hj,e⟩
  ·exact⟨.ref a,by rw[Tv (by omega)],a,_,rfl,ho,nF,h⟩
  ·obtain⟨u,h1,h2⟩:=s.st.den j sl e
   exact⟨u,by rw[Tr (Uq hj)];exact h1,h2.ext E⟩
 ·rcases get j _ e with⟨rfl,hi,_⟩ | ⟨hj,e⟩
  ·rw[Tv (by omega)] at e'
   cases e'
   exact Same.free s.ext.hh n
  ·rw[Tr (Uq hj)] at e'
   exact s.own j c b e e'
 ·rcases get j _ e1 with⟨rfl,hi,_⟩ | ⟨hj,e1⟩
  ·rw[Tv (by omega)] at e3
   cases e3
   rcases get k _ e2 with⟨rfl,_,_⟩ | ⟨hk,e2⟩
   ·rfl
   ·rw[Tr (Uq hk)] at e4
    exact absurd rfl (old k c' a e2 e4)
  ·rcases get k _ e2 with⟨Od,hi,_⟩ | ⟨hk,e2⟩
   ·rw[Od,Tv (by omega)] at e4
    cases e4
    rw[Tr (Uq hj)] at e3
    exact absurd rfl (old j c a (by assumption) e3)
   ·rw[Tr (Uq hj)] at e3
    rw[Tr (Uq hk)] at e4
    exact s.sep j k c c' b e1 e2 e3 e4
def WPF.mono{K:Tc}{Xw:Nat->Hp->Prop}{F H:Hp}{m:M C}{Q Q':VK}(h:WPF K Xw F H m Q)(k:∀v H',Q v H'->Q' v H'):WPF K Xw F H m Q':=by
 match m,h with
 |none,h=>exact h
 |some (.ok d),h=>exact fun a o H' F' e h1 h2 h3 h4=>k _ _ (h a o H' F' e h1 h2 h3 h4)
 |some (.ex n),h=>exact h
def WPF.ext{K:Tc}{Xw:Nat->Hp->Prop}{F H F1 H1:Hp}{m:M C}{Q:VK}(e:Ext F H F1 H1)(h:WPF K Xw F H m Q):WPF K Xw F1 H1 m Q:=by
 match m,h with
 |none,h=>exact h
 |some (.ok d),h=>exact fun a o H' F' e' h1 h2 h3 h4=>h a o H' F' (e.trans e') h1 h2 (Same.free e.hh h3) h4
 |some (.ex n),h=>exact fun F2 H2 e2=>h F2 H2 (e.trans e2)
def WPF.bind{K:Tc}{Xw:Nat->Hp->Prop}{F H:Hp}{m:M D}{k:D->M C}{Q:VK}(h:WPF K Xw F H (m>>=k) Q):WP K Xw F H m fun v H1=>∃F1 d,Ext F H F1 H1/\Den K F1 d v/\WPF K Xw F1 H1 (k d) Q:=by
 match m,h with
 |none,h=>exact h
 |some (.ok d),h=>exact fun v H2 F2 e2 q=>⟨F2,d,e2,q,WPF.ext e2 (show WPF K Xw F H (k d) Q from h)⟩
 |some (.ex n),h=>exact h
def WPF.bindL{K:Tc}{Xw:Nat->Hp->Prop}{F H:Hp}{m:M (List D)}{k:List D->M C}{Q:VK}(h:WPF K Xw F H (m>>=k) Q):WPL K Xw F H m fun v H1=>∃F1 d,Ext F H F1 H1/\DenL K F1 d v/\WPF K Xw F1 H1 (k d) Q:=by
 match m,h with
 |none,h=>exact h
 |some (.ok d),h=>exact fun v H2 F2 e2 q=>⟨F2,d,e2,q,WPF.ext e2 (show WPF K Xw F H (k d) Q from h)⟩
 |some (.ex n),h=>exact h
def Js(ds:List D):M C:=if ds.length<=lim then ae (.lst ds) else ah
section
variable{X:Cx}{Xw:Nat->Hp->Prop}{e k v a b:Expr}{es:List Expr}{δ:DF}{δs:DA}{pos pos' p:Pos}{x:Str}{i:Nat}
def iH(hN:X.N.Nodup)(hi:X.N[i]? =some x)(hx:Loc X.env.scope x)(he:M0 X Xw e δ)(hf:X.fn x=true\/X.env.scope.names.lookup x=some .local:=by first | exact .inl rfl | exact .inr rfl)
 (hs:Y3 [.Name x pos'] e pos.line X.env=pure false:=by rfl):
 iq X Xw (.Assign [.Name x pos'] e pos) (jP i δ):=fun F₀ H₀=>PS.weak (vf he (bu hN hi hx hf) hs) fun D σ H ⟨F,ρ,s,w⟩=>by
 refine⟨F,ρ,s.st,?_⟩
 unfold jP at w
 match δ ρ,w with
 |none,w=>exact w
 |some (.ok c),w=>exact fun a o H' F' E h1 h2 h3 h4=>w _ F' H' (s.setFresh E h1 h2 h3 h4)
 |some (.ex n),w=>exact fun F' H' e'=>w F' H' (s.ext.trans e')
def Ext.fresh{F H:Hp}{p:Addr}{o:HO}(s:Same F H)(hp:H p=none):Ext F H F (upd H p o)/\F p=none:=⟨Ext.free s hp,Same.free s hp⟩
def o4(h:kr X Xw es δs):M0 X Xw (.List es pos) (fun ρ=>δs ρ>>=Js):=PE.weak (ve h) fun σ H Q ⟨F,ρ,s,w⟩=>by
 refine⟨F,ρ,s,WPL.mono (WPF.bindL w) fun vs H1 ⟨F1,ds,e1,q1,w1⟩=>?_⟩
 unfold Js at w1
 split at w1
 ·rename_i hl
  have hv:=q1.len
  refine⟨by have:=eO;omega,fun p hp=>?_⟩
  obtain⟨E,nF⟩:=Ext.fresh (o:= .lst vs) e1.fh hp
  exact w1 p _ _ F1 E aO nF hp ⟨vs,rfl,q1,hl⟩
 ·exact w1.elim
def Lg{pins:List (Addr×Obj)}{σ:St}{H H':Hp}{s:S7}{a:Addr}{y v:V}{u r:Value}{A:TY}{E:Value->S7->Prop}{Q:Unit->S7->Prop}(hu:A.units+1<cLine)(I:Inv X pins σ H s)(g:DPut H a y v H')(ry:RelV y u)(rv:RelV v r)(h:∀s',Inv X pins σ H' s'->Q () s'):
 wpAny (model X.prog X.w) A (dictSet a u r) Q E s:=by
 rcases g with⟨aK,k,e,ey,l,eH⟩ | ⟨aK,k,b,e,ey,eb,l,eH⟩
 ·subst ey eH
  obtain⟨z,hd,vs,rel,dd⟩:=Ho I.hok e
  have hz:vs.length<=Tz:=by rw[<-rel.length];exact z
  have hl:(putK aK k v).length<=Tz:=by have:=gU aK k v;omega
  refine wpAny_dictSet_pairs (hsz:=hz) (nN ry) dd fun h' CI hs=>h _ ?_
  have he:∃q,h'.get? a=some q:=let ⟨q,_,_,hq,_⟩:=CI;⟨q,hq⟩
  exact oT I (by rw[e];exact UB) hs he (CM hl hd (rel.put k rv) CI)
 ·subst ey eH
  cases (show u=TV b from ry)
  obtain⟨z,hd,xs,rel,dd⟩:=Hq I.hok e
  have hz:xs.length<=Tz:=by rw[<-Vw rel];exact z
  have hl:(putK aK k v).length<=Tz:=by have:=gU aK k v;omega
  refine wpAny_dictSet_heap (knd:=V1 (bK X.prog X.w)) (hsz:=hz) (by exact(show A.units<cLine by omega)) (iW I.hok eb) dd fun h' CI hs=>h _ ?_
  obtain⟨q,es,ep,hq,h2,h3,h4,_,h5⟩:=CI
  refine oT I (by rw[e];exact UB) hs ⟨q,hq⟩ ⟨hl,hd,_,(rel.put k eb rv).keeps fun c ys ec=>?_,q,es,ep,hq,h2,h3,h4,h5⟩
  rw[aB (HP ec e (fun z=>nomatch z))]
  exact ec
end
section
variable{X:Cx}{Xw:Nat->Hp->Prop}{e k v a b:Expr}{es:List Expr}{δk δv δa δb:DE}{pos p:Pos}{x:Str}{i:Nat}
def CL{o0:HO}{put:Hp->Addr->V->V->Hp->Prop}(hu:X.A.units+1<cLine)(h0:∀(H:Hp) (h:Heap),UI<h.objs.size->ObjOk X.prog X.w H (h.push {cls:= .type "dict",data:= .dict #[]}) h.objs.size o0){tk tv:TE}(hk:PE X k tk)(hv:PE X v tv):
 PE X (.Dict [some k] [v] pos) (fun σ H Q=>∀p,H p=none->tk σ (upd H p o0) fun y H1=>tv σ H1 fun z H2=>∃H3,DPut H2 p y z H3/\Q (.ref p) H3):=by
 intro pins s σ H Q I q
 have hn:=I.hok.fresh (Tg s.heap.objs.size)
 have I1:=I.laid (a:=s.heap.objs.size) (o:=o0) (h':=s.heap.push {cls:= .type "dict",data:= .dict #[]}) (t':=s.toks) (fun _ _ q=>S_ _ q) (Tg _) (h0 _ s.heap I.big)
 refine wpAny_Dict_any rfl rfl (by simp) (by simp) (cJ (Eh hk hv GO pins _ σ _ (fun ps H2=>∃y z H3,ps=[(y,z)]/\DPut H2 s.heap.objs.size y z H3/\Q (.ref s.heap.objs.size) H3) I1 ?_) fun ws s2 ⟨ps,H2,I2,rel,y,z,H3,ep,g,q2⟩=>?_)
 ·refine ?_
  have:=q _ hn
  show tk σ _ fun y H1=>tv σ H1 fun z H2=>∃y' z' H3,[(y,z)]=[(y',z')]/\DPut H2 s.heap.objs.size y' z' H3/\Q (.ref s.heap.objs.size) H3
  have e:(fun (y:V) (H1:Hp)=>tv σ H1 fun z H2=>∃y' z' H3,[(y,z)]=[(y',z')]/\DPut H2 s.heap.objs.size y' z' H3/\Q (.ref s.heap.objs.size) H3)=(fun y H1=>tv σ H1 fun z H2=>∃H3,DPut H2 s.heap.objs.size y z H3/\Q (.ref s.heap.objs.size) H3):=by
   funext y H1
   congr 1
   funext z H2
   refine propext ⟨fun ⟨y',z',H3,ee,r⟩=>?_,fun⟨H3,r⟩=>⟨y,z,H3,rfl,r⟩⟩
   cases ee
   exact⟨H3,r⟩
  rw[e]
  exact this
 ·subst ep
  cases rel with
  | @cons a b as bs h t=>
    cases t
    obtain⟨r1,r2⟩:=h
    unfold storeAll
    rw[XH]
    refine S5 (S5 (Lg hu I2 g r1 r2 fun s3 I3=>?_))
    refine Te ?_
    show wpAny _ _ (forIn ([]:List (Value×Value)) PUnit.unit _) _ _ _
    rw[List.forIn_nil]
    exact Te ⟨V.ref s.heap.objs.size,_,I3,rfl,q2⟩
def sf(k v:D):M C:=match eB k with
 |some kk=>ae (.dct [kk] [v])
 |none=>ah
def BS(hu:X.A.units+64<cLine)(hk:PD X Xw k δk)(hv:PD X Xw v δv):M0 X Xw (.Dict [some k] [v] pos) (fun ρ=>δk ρ>>=fun x=>δv ρ>>=fun y=>sf x y):=
 PE.weak (CL (o0:= .dT []) (put:=DPut) (by omega) (fun H h hb=>wG h hb) hk hv) fun σ H Q ⟨F,ρ,s,w⟩ q hq=>by
  have e0:=Ext.free (o:= .dT []) s.fh hq
  refine⟨F,ρ,s.ext e0,?_⟩
  have w:WPF X.K Xw F H (δk ρ>>=fun x=>δv ρ>>=fun y=>sf x y) Q:=w
  match Nh:δk ρ,w with
  |none,w=>exact w
  |some (.ex n),w=>exact fun F' H' e'=>w F' H' (e0.trans e')
  |some (.ok kd),w=>
   intro y H1 F1 e1 q1
   refine⟨F1,ρ,(s.ext e0).ext e1,?_⟩
   have w:WPF X.K Xw F H (δv ρ>>=fun y=>sf kd y) Q:=w
   match SU:δv ρ,w with
   |none,w=>exact w
   |some (.ex n),w=>exact fun F' H' e'=>w F' H' (e0.trans (e1.trans e'))
   |some (.ok vd),w=>
    intro z H2 F2 e2 q2
    have w3:WPF X.K Xw F H (sf kd vd) Q:=w
    clear w
    unfold sf at w3
    cases HC:eB kd with
    |none=>rw[HC] at w3;exact w3.elim
    |some kk=>
     rw[HC] at w3
     have E:=e1.trans e2
     have Oo:H2 q=some (.dT []):=E.hh _ _ aO
     have PL:F2 q=none:=by
      have:=E.old (a:=q) (o:= .dT []) aO (fun _ z=>nomatch z)
      rw[this]
      exact Same.free s.fh hq
     unfold eB at HC
     split at HC
     ·rename_i es
      obtain⟨b,ws,rfl,k2,k3,_⟩:=Den.mono e2.ff q1
      have e5:=iy HC k3
      subst e5
      refine⟨_,DPut.t (k:=kk) Oo (e2.fh _ _ k2) (by rw[VE];decide),?_⟩
      refine w3 q (.dT (putK [] kk z)) _ F2 ⟨fun c u hc=>?_,(e0.trans E).ff,fun c u hc=>?_,(e0.trans E).new⟩ aO PL hq ⟨[z],rfl, .cons q2 .nil,rfl,show 1<=lim by decide⟩
      ·rw[aB (fun zz=>by rw[zz,hq] at hc;cases hc)]
       exact(e0.trans E).hh c u hc
      ·rw[aB (fun zz=>by rw[zz,PL] at hc;cases hc)]
       exact e2.fh c u hc
     ·cases HC
def tX{K:Tc}{F H:Hp}{d k:D}{x y:V}{o:Option D}(s:Same F H)(hd:Den K F d x)(hk:Den K F k y)(e:Cb d k=some o):
 ∃a ov,x= .ref a/\kK H a y ov/\ov.isSome=o.isSome/\∀d',o=some d'->∃v,ov=some v/\Den K F d' v:=by
 obtain⟨a,ov,h1,h2,h3,h4⟩:=zY (σ:=[some x]) (ρ:=[some (.fz d)]) (i:=0) (H:=H) ⟨s,fun i sl q=>by
  match i,q with
  |0,q=>cases q;exact⟨x,rfl,hd⟩
  |i+1,q=>simp at q⟩ rfl hk e
 cases h1
 exact⟨a,ov,rfl,h2,h3,h4⟩
def h9(neg:Bool)(k d:D):M D:=match Cb d k with
 |some o=>ae (.bl (if neg then !o.isSome else o.isSome))
 |none=>ah
def Kb(neg:Bool):R2:=fun y x H Q=>∃a o,x= .ref a/\kK H a y o/\Q (.bl (if neg then !o.isSome else o.isSome)) H
def DV(hu:X.A.units+64<cLine):OpR X (Ua .In) (Kb false):=fun pins s σ H y x v u Q I ry rx ⟨a,o,ex,g,q⟩=>by
 subst ex
 obtain rfl:u=TV a:=rx
 exact Lf (by omega) I g ry fun s' I'=>⟨.bl o.isSome,_,I',rfl,q⟩
def BM(hu:X.A.units+64<cLine):OpR X (Ua .NotIn) (Kb true):=fun pins s σ H y x v u Q I ry rx ⟨a,o,ex,g,q⟩=>by
 subst ex
 obtain rfl:u=TV a:=rx
 exact Ft (by omega) I g ry fun s' I'=>⟨.bl (!o.isSome),_,I',rfl,q⟩
def uY{K:Tc}{neg:Bool}:tR K (Kb neg) (h9 neg):=fun Xw F H y x dk dd Q s hk hd w=>by
 unfold h9 at w
 cases he:Cb dd dk with
 |none=>rw[he] at w;exact w.elim
 |some o=>
  rw[he] at w
  obtain⟨a,ov,h1,h2,h3,_⟩:=tX s hd hk he
  refine⟨a,ov,h1,h2,?_⟩
  rw[h3]
  exact WP.now w s rfl
def J3(hu:X.A.units+64<cLine)(ha:PD X Xw a δa)(hb:PD X Xw b δb)(hm:Ug .In b=false:=by rfl):mH X Xw (.Compare a [.In] [b] pos) (bH (d2 (h9 false) δa δb)):=eU (DV hu) uY ha hb hm
def D2(hu:X.A.units+64<cLine)(ha:PD X Xw a δa)(hb:PD X Xw b δb)(hm:Ug .In b=false:=by rfl):PD X Xw (.Compare a [.In] [b] pos) (d2 (h9 false) δa δb):=qt (DV hu) uY ha hb hm
def m9(hu:X.A.units+64<cLine)(ha:PD X Xw a δa)(hb:PD X Xw b δb)(hm:Ug .NotIn b=false:=by rfl):mH X Xw (.Compare a [.NotIn] [b] pos) (bH (d2 (h9 true) δa δb)):=eU (BM hu) uY ha hb hm
def eA(d k:D):M D:=match Cb d k with
 |some (some v)=>ae v
 |_=>ah
def jK(hu:X.A.units+64<cLine)(ha:PD X Xw a δa)(hb:PD X Xw b δb)(hs:Ig b:=by intro _ _;rfl):PD X Xw (.Subscript a b pos) (d2 eA δa δb):=
 PE.weak (GJ (by omega) ha hb hs) fun σ H Q ⟨F,ρ,s,w⟩=>by
  refine⟨F,ρ,s,WP.mono (WP.bind w) fun x H1 ⟨F1,d,e1,q1,w1⟩=>?_⟩
  refine⟨F1,ρ,s.ext e1,WP.mono (WP.bind w1) fun y H2 ⟨F2,k,e2,q2,w2⟩=>?_⟩
  unfold eA at w2
  cases he:Cb d k with
  |none=>rw[he] at w2;exact w2.elim
  |some o=>
   cases o with
   |none=>rw[he] at w2;exact w2.elim
   |some d'=>
    rw[he] at w2
    obtain⟨a,ov,h1,h2,h3,h4⟩:=tX e2.fh (Den.mono e2.ff q1) q2 he
    obtain⟨v,rfl,hd⟩:=h4 d' rfl
    exact⟨a,v,h1,h2,WP.now w2 e2.fh hd⟩
end
section
variable{X:Cx}{pins:List (Addr×Obj)}{σ:St}{H:Hp}{s:S7}{h':Heap}
def Inv.turnedLaid{t':Nat}{ch:List Addr}{a:Addr}{o:HO}(I:Inv X pins σ H s)(k:∀b q,b∉ch->s.heap.get? b=some q->h'.get? b=some q)(hf:∀b∈ch,qU X pins H b)(hp:s.heap.objs.size<=a)(new:ObjOk X.prog X.w (upd H a o) h' a o):
 Inv X pins σ (upd H a o) {s with heap:=h',toks:=t'}:=by
 have hn:=I.hok.fresh hp
 have HQ:∀b u,H b=some u->b∉ch:=fun b u e z=>by rw[(hf b z).1] at e;cases e
 refine I.step (g':=s.gens) (d':=s.drawn) (ch:=ch) (fun b hb=>?_) (fun b q _ _ hc e _=>k b q hc e) (fun b q _ _ hc e _=>⟨q.slots,k b q hc e⟩) (fun b q hc e n=>?_)
  (fun b q hc e=>⟨q,k b q hc e⟩) (fun b xs e=>?_) (fun b q u e=>?_) (fun b ps e=>⟨#[],?_⟩) (fun m hm=>?_) (fun b u e=>?_) I.bare
 ·obtain⟨f0,f1,f2,f3,f4,f5⟩:=hf b hb
  exact⟨f3,f1,f4,f5⟩
 ·rw[aB (fun z=>by rw[z] at e;exact absurd (Tq e) (Nat.not_lt.mpr hp))];exact n
 ·rw[aB (bG e hn)];exact e
 ·rw[aB (bG e hn)];exact e
 ·rw[aB (bG e hn),e];simp
 ·obtain⟨q,es,ep,ho,r⟩:=hm
  exact⟨q,es,ep,k _ q (fun z=>(hf _ z).2.1 rfl) ho,r⟩
 ·by_cases hb:b=a
  ·subst hb;rw[aO] at e;cases e;exact new
  ·rw[aB hb] at e
   refine(I.hok b u e).stay (fun c v hc q=>k c v ?_ q) (fun c q=>by rw[aB (bG q hn)];exact q) fun c xs q=>by rw[aB (bG q hn)];exact q
   rcases hc with z | z
   ·rw[z];exact HQ b u e
   ·exact HQ c _ z
def Inv.turnedL{t':Nat}{ch:List Addr}(I:Inv X pins σ H s)(k:∀b q,b∉ch->s.heap.get? b=some q->h'.get? b=some q)(hf:∀b∈ch,qU X pins H b):Inv X pins σ H {s with heap:=h',toks:=t'}:=by
 have HQ:∀b u,H b=some u->b∉ch:=fun b u e z=>by rw[(hf b z).1] at e;cases e
 refine I.step (g':=s.gens) (d':=s.drawn) (ch:=ch) (fun b hb=>?_) (fun b q _ _ hc e _=>k b q hc e) (fun b q _ _ hc e _=>⟨q.slots,k b q hc e⟩) (fun b q hc e n=>n)
  (fun b q hc e=>⟨q,k b q hc e⟩) (fun b xs e=>e) (fun b q u e=>e) (fun b ps e=>⟨#[],by rw[e];simp⟩) (fun m hm=>?_) (fun b u e=>?_) I.bare
 ·obtain⟨f0,f1,f2,f3,f4,f5⟩:=hf b hb
  exact⟨f3,f1,f4,f5⟩
 ·obtain⟨q,es,ep,ho,r⟩:=hm
  exact⟨q,es,ep,k _ q (fun z=>(hf _ z).2.1 rfl) ho,r⟩
 ·refine(I.hok b u e).stay (fun c v hc q=>k c v ?_ q) (fun c q=>q) fun c xs q=>q
  rcases hc with z | z
  ·rw[z];exact HQ b u e
  ·exact HQ c _ z
end
def FV:Key->D
 | .inl i=> .int i
 | .inr x=> .str x
def Hi(H:Hp)(d:Addr)(od:Obj)(i:Nat)(x:V):Prop:=
 (∃aK k b,H d=some (.frz od (.dT aK))/\(aK.map (·.1))[i]? =some k/\x= .ref b/\H b=some (.tup (k.map kV)))\/
 ∃aK k,H d=some (.frz od (.dK aK))/\(aK.map (·.1))[i]? =some k/\x=kV k
def Pl(d:Addr)(od:Obj):It:=
 ⟨fun i H=>(∃aK,H d=some (.frz od (.dT aK))/\i<aK.length)\/∃aK,H d=some (.frz od (.dK aK))/\i<aK.length,fun i H x H'=>H'=H/\Hi H d od i x,
  fun i H=>(∃aK,H d=some (.frz od (.dT aK))/\aK.length<=i)\/∃aK,H d=some (.frz od (.dK aK))/\aK.length<=i⟩
def lg{α β:Type}{R:α->β->Prop}:∀{l:List α}{m:List β}{i:Nat}{a:α},XB R l m->l[i]? =some a->∃b,m[i]? =some b/\R a b
 |_,_,i,_, .nil,e=>by simp at e
 |_,_,0,_, .cons r t,e=>by simp at e;subst e;exact⟨_,rfl,r⟩
 |_,_,i+1,_, .cons r t,e=>by
  obtain⟨b,e1,e2⟩:=lg (i:=i) t (by simpa using e)
  exact⟨b,by simpa using e1,e2⟩
def BR{prog:TM}{w:World}{κ:Type}[DecidableEq κ]{knd:KeyKind prog w κ}:∀{es:List Vy}{aK:List (κ×Value)}{i:Nat}{kv:κ×Value},Pairs knd es aK->aK[i]? =some kv->∃e,es[i]? =some e/\knd.is kv.1 e.key=true:=by
 intro es aK i kv h e
 induction h generalizing i with
 |nil=>simp at e
 | @cons en SW Kz R9 h1 h2 h3 ih=>
   cases i with
   |zero=>simp at e;subst e;exact⟨en,rfl,h1⟩
   |succ i=>
    obtain⟨q,e1,e2⟩:=ih (i:=i) (by simpa using e)
    exact⟨q,by simpa using e1,e2⟩
def Jl{k:Key}{u:Value}(h:pU k u=true):RelV (kV k) u:=by
 rcases cF h with⟨i,t,rfl,rfl⟩ | ⟨x,t,rfl,rfl⟩
 ·exact⟨t,rfl⟩
 ·exact⟨t,rfl⟩
def pG{X:Cx}{pins:List (Addr×Obj)}{σ:St}{H:Hp}{s:S7}{d:Addr}{od:Obj}{n:Nat}(I:Inv X pins σ H s)
 (h:(∃aK,H d=some (.frz od (.dT aK))/\n=aK.length)\/∃aK,H d=some (.frz od (.dK aK))/\n=aK.length):
 ∃es ep,(d==UI)=false/\s.heap.get? d=some od/\od.ExactDict/\od.data= .dict es ep/\es.size=n/\∀i,i<n->∃e x,es[i]? =some e/\RelV x e.key/\Hi H d od i x:=by
 rcases h with⟨aK,e,rfl⟩ | ⟨aK,e,rfl⟩
 ·obtain⟨ho,z,lo,xs,rel,o,es,ep,h1,h2,h3,h4,h5⟩:=(show ObjOk X.prog X.w H s.heap d (.frz od (.dT aK)) from I.hok d _ e)
  rw[ho] at h1
  cases h1
  have hl:es.size=aK.length:=by
   rw[<-TZ,h4,S6]
   exact(Vw rel).symm
  refine⟨es,ep,lo,ho,h2,h3,hl,fun i hi=>?_⟩
  obtain⟨q,e1,e2,e3,e4⟩:=lg rel (Tb hi)
  refine⟨entryOfKey (V1 (bK X.prog X.w)) q, .ref q.2.1,?_,rfl, .inl ⟨aK,aK[i].1,q.2.1,e,?_,rfl,e3⟩⟩
  ·rw[<-VP,h4,Tu,e1]
   rfl
  ·rw[Tu,Tb hi]
   rfl
 ·obtain⟨ho,z,lo,vs,rel,o,es,ep,h1,h2,h3,h4,h5,h6⟩:=(show ObjOk X.prog X.w H s.heap d (.frz od (.dK aK)) from I.hok d _ e)
  rw[ho] at h1
  cases h1
  have hl:es.size=aK.length:=by
   rw[<-TZ,h5.length]
   exact(Vw rel).symm
  refine⟨es,ep,lo,ho,h2,h3,hl,fun i hi=>?_⟩
  obtain⟨q,e1,e2,e3⟩:=lg rel (Tb hi)
  obtain⟨en,e4,e5⟩:=BR h5 e1
  refine⟨en,kV aK[i].1,by rw[<-VP];exact e4,?_, .inr ⟨aK,aK[i].1,e,by rw[Tu,Tb hi];rfl,rfl⟩⟩
  rw[e2]
  exact Jl e5
def B6{P:TM}{w:World}{K:Tc}{tg:Expr}(d it:Addr)(od:Obj)(es:Array Vy)(ep:Nat)(vX:od.data= .dict es ep):
 Turn P w K tg (Pl d od) [it] it (fun i h=>h.IsKeyIter it d i es.size ep) where
 mem:=by simp
 obj:=fun i h st b hb=>by
  have e:b=it:=by simpa using hb
  subst e
  obtain⟨o,e,c,dd⟩:=st
  exact⟨o,e,fun v z=>by rw[dd] at z;cases z⟩
 keep:=fun i h h' st k=>st.at fun o e=>k it (by simp) o e
 item:=by
  intro X hP hw hK hc i pins s σ H E I hf st hg
  subst hP hw hK
  obtain⟨n,hn,hi⟩:∃n,((∃aK,H d=some (.frz od (.dT aK))/\n=aK.length)\/∃aK,H d=some (.frz od (.dK aK))/\n=aK.length)/\i<n:=by
   rcases hg with⟨aK,e,hi⟩ | ⟨aK,e,hi⟩
   ·exact⟨_, .inl ⟨aK,e,rfl⟩,hi⟩
   ·exact⟨_, .inr ⟨aK,e,rfl⟩,hi⟩
  obtain⟨Kz,Li,lo,ho,hx,so,hsz,hk⟩:=pG I hn
  rw[vX] at so
  cases so
  obtain⟨en,x,e1,rx,ka⟩:=hk i hi
  obtain⟨f0,f1,f2,f3,f4,f5⟩:=hf it (by simp)
  refine xk st ho vX e1 fun h' qL sb=>?_
  have I1:Inv X pins σ H {s with heap:=h'}:=I.turned (t':=s.toks) (fun b o hb e=>(sb.2 b hb).trans e) f0 f1 f3 f4 f5
  obtain⟨o,e2,c,dd⟩:=id qL
  exact⟨_,rfl,sm (s:={s with heap:=h'}) e2 c dd (by decide) ⟨x,H,I1,rx,⟨rfl,ka⟩,qL,fun b hb=>(hf b hb).1⟩⟩
 done:=by
  intro X hP hw hK hc i pins s σ H E I hf st hg
  subst hP hw hK
  obtain⟨n,hn,hi⟩:∃n,((∃aK,H d=some (.frz od (.dT aK))/\n=aK.length)\/∃aK,H d=some (.frz od (.dK aK))/\n=aK.length)/\n<=i:=by
   rcases hg with⟨aK,e,hi⟩ | ⟨aK,e,hi⟩
   ·exact⟨_, .inl ⟨aK,e,rfl⟩,hi⟩
   ·exact⟨_, .inr ⟨aK,e,rfl⟩,hi⟩
  obtain⟨Kz,Li,lo,ho,hx,so,hsz,hk⟩:=pG I hn
  rw[vX] at so
  cases so
  obtain⟨f0,f1,f2,f3,f4,f5⟩:=hf it (by simp)
  exact si (I.ok.hd hc) st (by omega) ho vX fun h' eb=>⟨rfl,I.turned (t':=s.toks) (fun b o hb e=>eb b o hb e) f0 f1 f3 f4 f5⟩
 self:=fun _ _ _ _ _ st h=>wpAny_pyIter_keyiter st h
def tupK(k:List Key):D:= .tup (k.map FV)
def sT:Key->Bool
 | .inl _=>true
 | .inr x=>decide (x.length<=lim)
def jB:D->M (List D)
 | .dct ks _=>if ks.all (fun k=>decide (k.length<=lim)&&k.all sT) then ae (ks.map tupK) else ah
 | .dci ks _=>if ks.all sT then ae (ks.map FV) else ah
 |_=>ah
def w4{K:Tc}{F:Hp}{k:Key}(h:sT k=true):Den K F (FV k) (kV k):=by
 cases k with
 |inl i=>exact rfl
 |inr x=>exact⟨rfl,of_decide_eq_true h⟩
def sD{K:Tc}{F:Hp}:∀{k:List Key},k.all sT=true->DenL K F (k.map FV) (k.map kV)
 |[],_=>rfl
 |x::k,h=>by
  rw[UR,Ts] at h
  exact .cons (w4 h.1) (sD h.2)
def Ds{K:Tc}{F:Hp}{a:Addr}{ob:Obj}{d:D}{ds:List D}(hd:Den K F d (.ref a))(hF:∃u,F a=some (.frz ob u))(e:jB d=ae ds):ItD K F (Pl a ob) ds:=fun F' H' i s1 s2=>by
 unfold jB at e
 split at e
 ·rename_i ks es
  split at e
  ·rename_i hok
   obtain rfl:=gj e
   obtain⟨a',Sb,vs,z,h2,h3,h4,h5⟩:=hd
   cases z
   obtain⟨u,hu⟩:=hF
   rw[h2] at hu
   cases hu
   have hh:=s2 _ _ (s1 _ _ h2)
   have hz:=pb (a:=ks) (b:=vs) (by rw[h4];exact h3.len)
   have hl:(ks.zip vs).length=ks.length:=by rw[<-S6 (f:=(·.1)),hz]
   refine⟨fun d e=>?_,fun hle=> .inl ⟨_,hh,by rw[hl];simpa using hle⟩⟩
   rw[Tu] at e
   cases q:ks[i]? with
   |none=>rw[q] at e;cases e
   |some k=>
    rw[q] at e
    cases e
    have hi:=(Tn.mp q).1
    refine⟨.inl ⟨_,hh,by rw[hl];exact hi⟩,fun x H'' ⟨y1,y2⟩=>?_⟩
    subst y1
    have hk:=T2.mp hok k (UU q)
    rw[Ts] at hk
    rcases y2 with⟨aK,k',b,q1,q2,rfl,q3⟩ | ⟨aK,k',q1,q2,rfl⟩
    ·rw[hh] at q1
     cases q1
     rw[hz,q] at q2
     cases q2
     have E:=Ext.tup (F:=F') s2 q3
     exact⟨_,E,b,_,rfl,aO,sD hk.2,by rw[S6];exact of_decide_eq_true hk.1⟩
    ·rw[hh] at q1;cases q1
  ·exact(gP e).elim
 ·rename_i ks es
  split at e
  ·rename_i hok
   obtain rfl:=gj e
   obtain⟨a',Sb,vs,z,h2,h3,h4,h5⟩:=hd
   cases z
   obtain⟨u,hu⟩:=hF
   rw[h2] at hu
   cases hu
   have hh:=s2 _ _ (s1 _ _ h2)
   have hz:=pb (a:=ks) (b:=vs) (by rw[h4];exact h3.len)
   have hl:(ks.zip vs).length=ks.length:=by rw[<-S6 (f:=(·.1)),hz]
   refine⟨fun d e=>?_,fun hle=> .inr ⟨_,hh,by rw[hl];simpa using hle⟩⟩
   rw[Tu] at e
   cases q:ks[i]? with
   |none=>rw[q] at e;cases e
   |some k=>
    rw[q] at e
    cases e
    have hi:=(Tn.mp q).1
    refine⟨.inr ⟨_,hh,by rw[hl];exact hi⟩,fun x H'' ⟨y1,y2⟩=>?_⟩
    subst y1
    have hk:=T2.mp hok k (UU q)
    rcases y2 with⟨aK,k',b,q1,q2,rfl,q3⟩ | ⟨aK,k',q1,q2,rfl⟩
    ·rw[hh] at q1;cases q1
    ·rw[hh] at q1
     cases q1
     rw[hz,q] at q2
     cases q2
     exact⟨F',Ext.refl s2,w4 hk⟩
  ·exact(gP e).elim
 ·exact(gP e).elim
section
variable{X:Cx}{Xw:Nat->Hp->Prop}{tg l:Expr}{δ:DE}
def xK(h:PD X Xw l δ):zT X Xw tg l (fun ρ=>δ ρ>>=jB):=by
 intro pins s σ H R I ⟨F,ρ,S,w⟩
 refine cJ (h pins s σ H (fun v H1=>∃F1 d,Ext F H F1 H1/\Den X.K F1 d v/\WPI X.K Xw F1 H1 (jB d) R) I ⟨F,ρ,S,WPI.bind w⟩) fun u s1 ⟨v,H1,I1,r1,F1,d,e1,q1,w1⟩=>?_
 rcases(jB d).cs with z | ⟨n,z⟩ | ⟨ds,z⟩
 ·rw[z] at w1;exact w1.elim
 ·exfalso
  unfold jB at z
  split at z
  ·split at z<;>cases z
  ·split at z<;>cases z
  ·cases z
 ·rw[z] at w1
  obtain⟨a,ob,u',rfl,hF,hn⟩:∃a ob u',v= .ref a/\F1 a=some (.frz ob u')/\∃n,((∃aK,H1 a=some (.frz ob (.dT aK))/\n=aK.length)\/∃aK,H1 a=some (.frz ob (.dK aK))/\n=aK.length):=by
   unfold jB at z
   split at z
   ·obtain⟨a,ob,vs,e,h2,_⟩:=q1;exact⟨a,ob,_,e,h2,_, .inl ⟨_,e1.fh _ _ h2,rfl⟩⟩
   ·obtain⟨a,ob,vs,e,h2,_⟩:=q1;exact⟨a,ob,_,e,h2,_, .inr ⟨_,e1.fh _ _ h2,rfl⟩⟩
   ·exact(gP z).elim
  obtain⟨n,hn⟩:=hn
  cases (show u=_ from r1)
  obtain⟨es,ep,lo,ho,hx,hd,hsz,hk⟩:=pG I1 hn
  refine sC lo ho hx hd ?_
  refine⟨s1.heap.objs.size,[s1.heap.objs.size],_,_,H1,rfl,I1.kept (t':=s1.toks) fun b o e=>S_ _ e,B6 a _ ob es ep hd,⟨_,Tt _ rfl,rfl,rfl⟩,fun b hb=>?_,w1 _ _ _ (Ext.refl e1.fh) (Ds q1 ⟨_,hF⟩ z)⟩
  have e:b=s1.heap.objs.size:=by simpa using hb
  subst e
  exact I1.fpOk (Tg _) (I1.hok.fresh (Tg _))
end
end L3
namespace L3
open PySem
section
variable{K:Type}[DecidableEq K]
def cU(xs ys:List (K×Addr×Value)):List (K×Addr×Value):=ys.foldl (fun acc y=>Wt acc y.1 y.2.1 y.2.2) xs
def yh(xs:List (K×Addr×Value))(k:K)(a:Addr)(v:Value):(Wt xs k a v).length<=xs.length+1:=by
 unfold Wt;split<;>simp
def nP:∀(ys xs:List (K×Addr×Value)),(cU xs ys).length<=xs.length+ys.length
 |[],xs=>Tg _
 |y::ys,xs=>by
  have h1:=nP ys (Wt xs y.1 y.2.1 y.2.2)
  have h2:=yh xs y.1 y.2.1 y.2.2
  show (cU (Wt xs y.1 y.2.1 y.2.2) ys).length<=_
  rw[Tj];omega
def uJ{xs ys:List (K×Addr×Value)}{i:Nat}{y:K×Addr×Value}(h:ys[i]? =some y):cU xs (ys.take (i+1))=Wt (cU xs (ys.take i)) y.1 y.2.1 y.2.2:=by
 rw[List.take_add_one,h]
 unfold cU
 rw[Zj]
 rfl
def nQ:∀(ys acc:List (K×Addr×Value)),((acc++ys).map (·.1)).Nodup->cU acc ys=acc++ys
 |[],acc,_=>by simp[cU]
 |y::ys,acc,hn=>by
  show cU (Wt acc y.1 y.2.1 y.2.2) ys=_
  have Og:y.1∉acc.map (·.1):=fun h=>by
   rw[Vd] at hn
   exact(VI.mp hn).2.2 _ h _ (by simp) rfl
  have e0:atKey acc y.1=none:=atKey_none_of_get fun j p hj=>Og (TJ.mpr ⟨_,UU hj,rfl⟩)
  rw[storedH_new e0,nQ ys (acc++[(y.1,y.2.1,y.2.2)]) (by simpa using hn)]
  simp
end
end L3
namespace L3
open PySem PySem.Spec L2
open PyProof.Rows hiding St
section
variable{X:Cx}{Xw:Nat->Hp->Prop}{o e f:Expr}{δo δe δf:DE}{apos bP:Pos}{x:Str}
def Dq:D->Bool
 | .dct _ _=>true
 | .dci _ _=>true
 |_=>false
def Am{K:Tc}{F H:Hp}{d:D}{x:V}(s:Same F H)(hd:Den K F d x)(e:Dq d=true):∃a,x= .ref a/\MX H a:=by
 cases d with
 |dct ks ds=>obtain⟨a,ob,vs,rfl,h2,_⟩:=hd;exact⟨a,rfl, .inr ⟨_, .inr ⟨ob,s _ _ h2⟩⟩⟩
 |dci ks ds=>obtain⟨a,ob,vs,rfl,h2,_⟩:=hd;exact⟨a,rfl, .inl ⟨_, .inr ⟨ob,s _ _ h2⟩⟩⟩
 |_=>cases e
def getM(d k v:D):M D:=match Cb d k with
 |some (some x)=>ae x
 |some none=>ae v
 |none=>ah
def Lc(δo δe:DE):DE:=fun ρ=>δo ρ>>=fun d=>if Dq d then δe ρ>>=fun k=>getM d k .non else ah
def pC(δo δe δf:DE):DE:=fun ρ=>δo ρ>>=fun d=>if Dq d then δe ρ>>=fun k=>δf ρ>>=fun v=>getM d k v else ah
def wR{F H:Hp}{d k v:D}{a:Addr}{y z:V}{Q:VK}(s:Same F H)(q1:Den X.K F d (.ref a))(q2:Den X.K F k y)(q3:Den X.K F v z)(w:WP X.K Xw F H (getM d k v) Q):∃ov,kK H a y ov/\Q (ov.getD z) H:=by
 unfold getM at w
 cases E5:Cb d k with
 |none=>rw[E5] at w;exact w.elim
 |some o'=>
  rw[E5] at w
  obtain⟨a',ov,zz,h2,h3,h4⟩:=tX s q1 q2 E5
  cases zz
  refine⟨ov,h2,?_⟩
  cases o' with
  |none=>
   cases ov with
   |none=>exact WP.now w s q3
   |some _=>cases h3
  |some d'=>
   obtain⟨v,rfl,hv⟩:=h4 d' rfl
   exact WP.now w s hv
def Nx(hu:X.A.units+64<cLine)(ho:PD X Xw o δo)(he:PD X Xw e δe)(m:M1 X o "get" apos e bP):PD X Xw (.Call (.Attribute o "get" apos) [e] [] bP) (Lc δo δe):=
 PE.weak (D9 (by omega) ho he m) fun σ H Q ⟨F,ρ,s,w⟩=>by
  refine⟨F,ρ,s,WP.mono (WP.bind w) fun x H1 ⟨F1,d,e1,q1,w1⟩=>?_⟩
  split at w1
  ·rename_i hd
   obtain⟨a,rfl,OG⟩:=Am e1.fh q1 hd
   refine⟨a,rfl,OG,F1,ρ,s.ext e1,WP.mono (WP.bind w1) fun y H2 ⟨F2,k,e2,q2,w2⟩=>?_⟩
   exact wR (v:= .non) (z:= .non) e2.fh (Den.mono e2.ff q1) q2 (show V.non=V.non from rfl) w2
  ·exact w1.elim
def Gv(hu:X.A.units+64<cLine)(ho:PD X Xw o δo)(he:PD X Xw e δe)(hf:PD X Xw f δf)(m:M2 X o "get" apos e f bP):PD X Xw (.Call (.Attribute o "get" apos) [e,f] [] bP) (pC δo δe δf):=
 PE.weak (D_ (by omega) ho he hf m) fun σ H Q ⟨F,ρ,s,w⟩=>by
  refine⟨F,ρ,s,WP.mono (WP.bind w) fun x H1 ⟨F1,d,e1,q1,w1⟩=>?_⟩
  split at w1
  ·rename_i hd
   obtain⟨a,rfl,OG⟩:=Am e1.fh q1 hd
   refine⟨a,rfl,OG,F1,ρ,s.ext e1,WP.mono (WP.bind w1) fun y H2 ⟨F2,k,e2,q2,w2⟩=>?_⟩
   refine⟨F2,ρ,(s.ext e1).ext e2,WP.mono (WP.bind w2) fun z H3 ⟨F3,v,e3,q3,w3⟩=>?_⟩
   exact wR e3.fh (Den.mono e3.ff (Den.mono e2.ff q1)) (Den.mono e3.ff q2) q3 w3
  ·exact w1.elim
end
section
variable{X:Cx}{Xw:Nat->Hp->Prop}{a b e KA:Expr}{δ δa δb δs:DE}{pos p2:Pos}
def mP(neg:Bool):D->D->M D
 | .raw _,_=>ah
 | .non, .non=>ae (.bl (!neg))
 |_, .non=>ae (.bl neg)
 |_,_=>ah
def uA{K:Tc}{neg:Bool}{g:V->Bool}(hg:∀v,g v=if neg then !decide (v= .non) else decide (v= .non)):tR K (fun x y H Q=>y= .non/\Q (.bl (g x)) H) (mP neg):=fun Xw F H x y dx dy Q s hx hy w=>by
 unfold mP at w
 split at w
 ·exact w.elim
 ·refine⟨hy,?_⟩
  cases (show x=_ from hx)
  rw[hg]
  cases neg<;>exact WP.now w s rfl
 ·rename_i h1 h2
  refine⟨hy,?_⟩
  have Bi:x≠ .non:=by
   rintro rfl
   cases dx with
   |raw v=>exact h1 v rfl
   |non=>exact h2 rfl
   |bl _=>cases (show _=_ from hx)
   |int _=>cases (show _=_ from hx)
   |str _=>cases (show _=_ from hx.1)
   |exc _=>obtain⟨_,z,_⟩:=hx;cases z
   |scr _=>obtain⟨_,z,_⟩:=hx;cases z
   |tup _=>obtain⟨_,_,z,_⟩:=hx;cases z
   |lst _=>obtain⟨_,_,z,_⟩:=hx;cases z
   |dct _ _=>obtain⟨_,_,_,z,_⟩:=hx;cases z
   |dci _ _=>obtain⟨_,_,_,z,_⟩:=hx;cases z
  rw[hg,decide_eq_false Bi]
  cases neg<;>exact WP.now w s rfl
 ·exact w.elim
def D3(ha:PD X Xw a δa)(hb:PD X Xw b δb):PD X Xw (.Compare a [.Is] [b] pos) (d2 (mP false) δa δb):=qt JA (uA fun _=>rfl) ha hb
def vg(ha:PD X Xw a δa)(hb:PD X Xw b δb):mH X Xw (.Compare a [.IsNot] [b] pos) (bH (d2 (mP true) δa δb)):=eU Ax (uA fun _=>rfl) ha hb
def Gy(ha:PD X Xw a δa)(hb:PD X Xw b δb):PD X Xw (.Compare a [.IsNot] [b] pos) (d2 (mP true) δa δb):=qt Ax (uA fun _=>rfl) ha hb
def G5:Pp X (fun x H Q=>∃a xs,x= .ref a/\SqL X.K H a xs/\∀p,H p=none->Q (.ref p) (upd H p (.lst xs.reverse))):=by
 intro pins s σ H x v u sl Q I rx hs ⟨a,xs,ex,hx,q⟩
 subst ex
 cases rx
 obtain⟨aR,r,ht,hz⟩:=I.list hx
 have hlen:=r.length
 refine⟨"list",_,slot_list_getitem.lookup,ht.isList.typeIs,?_⟩
 refine YU (st:=some (-1)) ht.isList hs .none .none (.int _ _) (by decide) ?_ (by rw[Td]<;>omega)
 rw[PySem.W.krv_pick]
 refine⟨.ref s.heap.objs.size,_,I.laid (t':=s.toks) (o:= .lst xs.reverse) (fun b ob q=>S_ _ q) (Tg _) ?_,rfl,q _ (I.hok.fresh (Tg _))⟩
 exact⟨by rw[WU];exact hz,_,0,r.reverse,Tt _ rfl⟩
def HW:D->M D
 | .lst ds=>ae (.lst ds.reverse)
 |_=>ah
def sd(a st:DE):DE:=fun ρ=>a ρ>>=fun d=>st ρ>>=fun k=>match k with
 | .int i=>if i= -1 then HW d else ah
 |_=>ah
def AE(he:PD X Xw e δ)(hs:PD X Xw KA δs):PD X Xw (.Subscript e (.Slice none none (some KA) p2) pos) (sd δ δs):=
 PE.weak (JU G5 he hs) fun σ H Q ⟨F,ρ,s,w⟩=>by
  refine⟨F,ρ,s,WP.mono (WP.bind w) fun v H1 ⟨F1,d,e1,q1,w1⟩=>?_⟩
  refine⟨F1,ρ,s.ext e1,WP.mono (WP.bind w1) fun y H2 ⟨F2,k,e2,q2,w2⟩=>?_⟩
  have q3:=Den.mono e2.ff q1
  cases k with
  |int i=>
   have w2:WP X.K Xw F2 H2 (if i= -1 then HW d else ah) Q:=w2
   split at w2
   ·rename_i hi
    subst hi
    refine⟨q2,?_⟩
    cases d with
    |lst ds=>
     obtain⟨a,vs,rfl,h2,h3,h4⟩:=q3
     exact⟨a,vs,rfl,SqL.of (e2.fh _ _ h2),fun p hp=>WP.fin w2 (Ext.lay e2.fh hp) ⟨p,_,rfl,aO,DenL.mono (Ext.lay e2.fh hp).ff h3.reverse,by rw[WU];exact h4⟩⟩
    |_=>exact w2.elim
   ·exact w2.elim
  |_=>exact w2.elim
end
def um:List Nat->Hk
 |[]=>Lq
 |i::is=>Hu (C7 i) (um is)
def zB:List Nat->List D->bf->bf
 |i::is,d::ds,ρ=>zB is ds (ρ.set i (some (.fz d)))
 |_,_,ρ=>ρ
def xR(is:List Nat):D->bf->Option bf
 | .tup ds,ρ=>if ds.length=is.length then some (zB is ds ρ) else none
 |_,_=>none
def tH{K:Tc}{F₀ H₀ F H:Hp}{Q:St->Hp->Prop}:∀(is:List Nat) (ds:List D) (vs:List V) (σ:St) (ρ:bf),ds.length=is.length->StOk K F₀ H₀ F H σ ρ->DenL K F ds vs->(∀σ',StOk K F₀ H₀ F H σ' (zB is ds ρ)->Q σ' H)->um is vs σ H Q
 |[],[],vs,σ,ρ,_,s,h,k=>⟨h,k σ s⟩
 |i::is,d::ds,vs,σ,ρ,hl,s,⟨v,r,e,h1,h2⟩,k=>by
  subst e
  exact⟨v,r,rfl,tH is ds r _ _ (by simpa using hl) (s.set h1) h2 k⟩
 |[],_::_,_,_,_,hl,_,_,_=>by simp at hl
 |_::_,[],_,_,_,hl,_,_,_=>by simp at hl
def GY{K:Tc}{is:List Nat}:Ck K (IE K is.length (um is)) (xR is):=fun F₀ H₀ F H σ ρ ρ' d v Q s q e k=>by
 unfold xR at e
 split at e
 ·rename_i ds
  split at e
  ·rename_i hl
   cases e
   obtain⟨a,vs,rfl,hs,hd,_⟩:=q
   exact⟨a,vs,rfl,SqT.of (s.st.fh _ _ hs),by rw[<-hd.len];exact hl,tH is ds vs σ ρ hl s hd k⟩
  ·cases e
 ·cases e
def G8:∀{σ' σ:St},1<σ'.length->σ'.drop 2=σ->∀v1 v2:V,(σ'.set 0 (some v1)).set 1 (some v2)=[v1,v2].map some++σ
 |x1::x2::r,_,_,hd,v1,v2=>by subst hd;rfl
 |[],_,h,_,_,_=>by simp at h
 |[_],_,h,_,_,_=>by simp at h
def F8:∀{ds:List D},ds.length=2->∃a b,ds=[a,b]
 |[a,b],_=>⟨a,b,rfl⟩
 |[],h=>by simp at h
 |[_],h=>by simp at h
 |_::_::_::_,h=>by simp at h
def Ks{X:Cx}{x y:Str}{px py pt:Pos}{x1:Nat}{σ:St}(hN:X.N.Nodup)(h0:X.N[0]? =some x)(h1:X.N[1]? =some y)(hx:X.env.scope.names.lookup x=some .local)(hy:X.env.scope.names.lookup y=some .local)(hc:X.calm=true)
 (hn:(Vb [XM x px, .Name y py] X.env).length=2:=by rfl)(Aj:(Vb [XM x px, .Name y py] X.env).findIdx? (·.1)=none:=by rfl)
 (hs:(Vb [XM x px, .Name y py] X.env).map (·.2)=assign (.Name x px) X.env::(Vb [XM y py] X.env).map (·.2):=by rfl)(FI:(Vb [XM y py] X.env).map (·.2)=assign (.Name y py) X.env::(Vb [] X.env).map (·.2):=by rfl):AR X (.Tuple [.Name x px, .Name y py] x1 pt) 2 σ:=fun pins s σ' F H d ts v u I fh hd rv q e=>by
 cases d with
 |tup ds=>
  have e:(if ds.length=2 then ae ds else ah)=ae ts:=e
  split at e
  ·rename_i hl
   obtain rfl:=gj e
   obtain⟨d1,d2,rfl⟩:=F8 hl
   ·obtain⟨a,vs,rfl,HE,so,_⟩:=q
    obtain⟨v1,v2,rfl,q1,q2⟩:=so.two
    have G:PG X (.Tuple [.Name x px, .Name y py] x1 pt) (IE X.K 2 (um [0,1])):=Ef hc (mr (bu hN h0 (.inl hx) (.inr hx)) (mr (bu hN h1 (.inl hy) (.inr hy)) AF FI) hs) hn Aj
    refine cJ (G pins s σ' H (.ref a) u (fun σ2 H2=>H2=H/\σ2=(σ'.set 0 (some v1)).set 1 (some v2)) I rv ⟨a,[v1,v2],rfl,SqT.of (fh _ _ HE),rfl,v1,[v2],rfl,v2,[],rfl,rfl,rfl,rfl⟩) fun _ s2 ⟨σ2,H2,I2,e1,e2⟩=>?_
    subst e1 e2
    refine⟨[v1,v2],?_, .cons q1 (.cons q2 .nil)⟩
    have hl:1<σ'.length:=by rw[I.len];exact(Tn.mp h1).1
    have:=G8 hl (show σ'.drop 2=σ from hd) v1 v2
    rw[<-this]
    exact I2
  ·exact(gP e).elim
 |_=>exact(gP e).elim
section
variable{prog:TM}{w:World}{A:TY}{E:Value->S7->Prop}{s:S7}
def BD{a b:Value}{r:Bool}{I T S:Addr}{good:Heap->Prop}{R:Result->S7->Prop}(hh:A.handled=none)(nK:T≠I)(Nb:S≠I)(Q5:S≠T)
 (hg:∀h h',(∀c o,c≠I->c≠S->h.get? c=some o->h'.get? c=some o)->good h->good h')
 (IH:∀(h':Heap) (tk:Nat) (Q':Value->S7->Prop) (E':Value->S7->Prop),good h'->Q' (.bool r) {s with heap:=h',toks:=tk}->wpAny (model prog w) A.in1 (Yr .Lt b a) Q' E' {s with heap:=h',toks:=tk})
 (hR:∀h' tk,good h'->R (.ok (.ret (if r then b else a))) {s with heap:=h',toks:=tk}){h0:Heap}{t0 c:Nat}(g0:good h0)(Aj:h0.IsTupleIter I T 0/\h0.IsTuple T #[a,b])
 (hS:h0.get? S=some {cls:= .type "list",dict:=none,data:= .seq #[] c,slots:= #[]}):
 Wc (model prog w) A (.builtin "min.loop" ⟨[.ref I, .none, .ref S],[]⟩) R {s with heap:=h0,toks:=t0}:=by
 have wW:(toString "min"++toString ".loop":String)="min.loop":=by decide
 have W:=Walks.tuple (prog:=prog) (w:=w) (A:=A.in1) hh I T nK #[a,b]
 have nI:∀{c:Addr},c≠I->c∉[I]:=fun q z=>q (U8.mp z)
 have fr:∀{i:Nat}{h:Heap}{f:Obj->Obj},(h.IsTupleIter I T i/\h.IsTuple T #[a,b])->((h.update S f).IsTupleIter I T i/\(h.update S f).IsTuple T #[a,b]):=fun {i h f} q=>W.frame _ _ _ q fun c hc o e=>(Wz _ _ (fun z:S=c=>by
  subst z
  rcases Th.mp hc with z | z
  ·exact Nb z
  ·exact Q5 (U8.mp z))).trans e
 have up:∀{h:Heap}{f:Obj->Obj},good h->good (h.update S f):=fun q=>hg _ _ (fun c o _ hc e=>(Wz _ _ (Uq hc)).trans e) q
 refine VN X5 ?_
 rw[Vk U9 _]
 show wpAny _ A.in1 (seqItems? (.ref S)>>=_) _ _ _
 refine S5 (Xg hS rfl ?_)
 show wpAny _ A.in1 (Y2 (W2 (.ref I)) _>>=_) _ _ _
 refine S5 (Ws (W.item 0 _ _ _ (by simp) Aj fun v h1 t1 hP O4 k1=>?_))
 have hv:v=a:=(TF hP).symm
 subst hv
 have S1:=k1 S _ (nI Nb) hS
 have g1:good h1:=hg _ _ (fun c o hc _ e=>k1 c o (nI hc) e) g0
 show wpAny _ A.in1 (updateSeq S (fun _=> #[v,v])>>=_) _ _ _
 refine S5 ?_
 refine Yn S1 rfl ?_
 rw[wW]
 refine Te ⟨V5 U9 _,?_⟩
 refine VN X5 ?_
 rw[Vk U9 _]
 show wpAny _ A.in1 (seqItems? (.ref S)>>=_) _ _ _
 refine S5 (Xg (VQ _ S1 rfl) rfl ?_)
 show wpAny _ A.in1 (Y2 (W2 (.ref I)) _>>=_) _ _ _
 refine S5 (Ws (W.item 1 _ _ _ (by simp) (fr O4) fun u h2 t2 Q1 HY k2=>?_))
 have hu:u=b:=(TF Q1).symm
 subst hu
 have S2:=k2 S _ (nI Nb) (VQ _ S1 rfl)
 have g2:good h2:=hg _ _ (fun c o hc _ e=>k2 c o (nI hc) e) (up g1)
 show wpAny _ A.in1 (Y2 (holding [u,u] (Yr .Lt u v>>=_)) _>>=_) _ _ _
 refine S5 (Ws (U5 (S5 (IH _ _ _ _ g2 ?_))))
 refine S5 (U5 (UD ?_))
 refine S5 (Yo (Te ?_))
 have last:∀{h3:Heap}{t3 c3:Nat}{x y:Value},x=(if r then u else v)->good h3->(h3.IsTupleIter I T 2/\h3.IsTuple T #[v,u])->h3.get? S=some {cls:= .type "list",dict:=none,data:= .seq #[x,y] c3,slots:= #[]}->
  Wc (model prog w) A (.builtin "min.loop" ⟨[.ref I, .none, .ref S],[]⟩) R {s with heap:=h3,toks:=t3}:=fun {h3 t3 c3 x y} ex g3 HZ S3=>by
  refine VN X5 ?_
  rw[Vk U9 _]
  show wpAny _ A.in1 (seqItems? (.ref S)>>=_) _ _ _
  refine S5 (Xg S3 rfl ?_)
  show wpAny _ A.in1 (Y2 (W2 (.ref I)) _>>=_) _ _ _
  refine S5 (Ws (W.done _ _ _ HZ fun h4 t4 k4=>?_))
  have S4:=k4 S _ (nI Nb) S3
  show wpAny _ A.in1 (updateSeq S (fun _=> #[])>>=_) _ _ _
  refine S5 ?_
  refine Yn S4 rfl (S5 (Yo (Te ?_)))
  rw[ex]
  exact hR _ _ (up (hg _ _ (fun c o hc _ e=>k4 c o (nI hc) e) g3))
 cases hr:r with
 |true=>
  simp only[if_true]
  refine S5 ?_
  refine Yn S2 rfl (S5 (Yo ?_))
  rw[wW]
  exact Te ⟨V5 U9 _,last (by rw[hr];rfl) (up g2) (fr HY) (VQ _ S2 rfl)⟩
 |false=>
  simp only[Uj,if_false]
  refine S5 (Yo ?_)
  rw[wW]
  exact Te ⟨V5 U9 _,last (by rw[hr];rfl) g2 HY S2⟩
def xg{a b:Value}{r:Bool}{Q:Value->S7->Prop}(hh:A.handled=none)
 (IH:∀(h':Heap) (tk:Nat) (Q':Value->S7->Prop) (E':Value->S7->Prop),(∀c o,s.heap.get? c=some o->h'.get? c=some o)->Q' (.bool r) {s with heap:=h',toks:=tk}->wpAny (model prog w) A.in1 (Yr .Lt b a) Q' E' {s with heap:=h',toks:=tk})
 (h:∀h' tk,(∀c o,s.heap.get? c=some o->h'.get? c=some o)->Q (if r then b else a) {s with heap:=h',toks:=tk}):
 wpAny (model prog w) A (call (.builtin "min") [a,b]) Q E s:=by
 have wW:(toString "min"++toString ".loop":String)="min.loop":=by decide
 have hT:(s.heap.push {cls:= .type "tuple",data:= .seq #[a,b]}).IsTuple s.heap.objs.size #[a,b]:=⟨_,Tt _ rfl,rfl,0,rfl⟩
 have hsz:(s.heap.push {cls:= .type "tuple",data:= .seq #[a,b]}).objs.size=s.heap.objs.size+1:=V_ ..
 refine call_function_tree F.kind_min F.plain_min F.entry_min (F.args_min2 _ _) ?_
 show wpAny _ A.in1 (WI "min" ["key","default"] 0 ⟨[],[]⟩>>=_) _ _ s
 refine S5 (wpAny_of_eq (show WI "min" ["key","default"] 0 ⟨[],[]⟩=pure [none,none] from rfl) ?_)
 show wpAny _ A.in1 (newTuple [a,b]>>=_) _ _ s
 refine S5 (Ut ?_)
 refine S5 (wpAny_pyIter_tuple hT ?_)
 refine S5 (Ut ?_)
 rw[wW]
 refine Te ⟨V5 U9 _,?_⟩
 have Qm:∀{c:Addr}{o:Obj},s.heap.get? c=some o->c<s.heap.objs.size:=fun e=>Tq e
 refine BD (s:=s) (r:=r) (good:=fun h'=>∀c o,s.heap.get? c=some o->h'.get? c=some o) hh (T:=s.heap.objs.size) ?_ ?_ ?_ (fun h1 h2 k g c o e=>k c o ?_ ?_ (g c o e)) IH (fun h' tk g=>h h' tk g) (fun c o e=>S_ _ (S_ _ (S_ _ e))) ⟨?_,?_⟩ (Tt _ rfl)
 ·rw[hsz];exact TR (VX _)
 ·rw[V_];exact VS (VX _)
 ·rw[V_,hsz];exact VS (Wl (VX _))
 ·have:=Qm e;rw[hsz];exact TR (Wl this)
 ·have:=Qm e;rw[V_,hsz];exact TR (Wl (Wl this))
 ·exact⟨_,S_ _ (Tt _ rfl),rfl,rfl⟩
 ·exact(hT.push _).push _
end
def uI:WA (.type "list") "keys"=pure none:=by rw[typeLookup_type,builtinLookup_eq_fast];kernel_rfl
def eK:entryFor table "dict.update.loop"=some Xq.«dict.update.loop» :=entryFor_of_tree (by kernel_rfl)
def cy:plainId "dict.update.loop"=true:=by decide+kernel
def rf:(Xd "list" !=Xd "dict")=true:=by decide
section
variable{prog:TM}{w:World}{A:TY}{E:Value->S7->Prop}{s:S7}
def uE{a:Addr}{o:Obj}{xs:Array Value}{k:Nat}{Q:Option Value->S7->Prop}(hx:s.heap.get? a=some o)(hc:o.cls= .type "list")(Bf:o.data= .seq xs k)(hd:o.dict=none)(hA:A.handled=none)
 (h:∀h' tk,(∀b ob,s.heap.get? b=some ob->h'.get? b=some ob)->Q none {s with heap:=h',toks:=tk}):wpAny (model prog w) A (getAttr? (.ref a) "keys") Q E s:=by
 obtain⟨c,dct,dat,sl⟩:=o
 simp only at hc Bf hd
 subst hc Bf hd
 obtain⟨hp,g,d,tk,os⟩:=s
 have hT:∀Qz,(⟨hp,g,d,Qz,os⟩:S7).TypeIs (.ref a) "list":=fun _=>⟨_,hx,rfl⟩
 have f1:=sub_AttributeError
 have f3:=F.slot_list_getattribute.lookup
 have f4:=F.slot_list_getattribute.bind (.ref a)
 have f5:=am_list_getattr_none
 unfold getAttr? getAttrBy? getAttrBy
 repeat (any_goals (first | assumption | exact hT _ | ((with_reducible show wpAny _ _ (call (Wi "list.__getattribute__") _ _) _ _ _);refine XW F.slot_list_getattribute (hT _) am_entry_list_getattribute (F.args_list_getattribute_2 _ _) (meets_getattribute_miss_list a xs k sl "keys" _ uI (by decide) (by size_fits)) ⟨hx,hA,fun h' Qz e Bi=>?_⟩) | wp_step))
 obtain⟨t',u',he⟩:=Bi.there
 show wpAny _ _ (getattributeRaised _ _ _ _ _ _ _) _ _ _
 unfold getattributeRaised
 repeat (any_goals (first | assumption | wp_step))
 exact h _ _ fun b ob e=>Bi.keeps b ob e
abbrev FW(prog:TM)(w:World):HeapKind prog w (List Key):=V1 (bK prog w)
def DictOfH.at'{h h':Heap}{d:Addr}{xs:List (List Key×Addr×Value)}(x:h.DictOfH (FW prog w) d xs)(k:∀c o,h.get? c=some o->(c=d\/∃y∈xs,y.2.1=c)->h'.get? c=some o):h'.DictOfH (FW prog w) d xs:=by
 obtain⟨o,es,ep,h1,h2,h3,h4,h5,h6⟩:=x
 refine⟨o,es,ep,k _ _ h1 (.inl rfl),h2,h3,h4,fun y hy=>?_,h6⟩
 obtain⟨oa,items,n,a1,a2⟩:=h5 y hy
 exact⟨oa,items,n,k _ _ a1 (.inr ⟨y,hy,rfl⟩),a2⟩
def vI{xs:List (List Key×Addr×Value)}{k:List Key}{a:Addr}{v:Value}{x:List Key×Addr×Value}(h:x∈Wt xs k a v):(∃z∈xs,z.2.1=x.2.1)\/x.2.1=a:=by
 unfold Wt at h
 split at h
 ·obtain⟨z,hz,rfl⟩:=TJ.mp h
  refine .inl ⟨z,hz,?_⟩
  unfold putAt
  split<;>rfl
 ·rcases Ui.mp h with h | h
  ·exact .inl ⟨x,h,rfl⟩
  ·rw[U8.mp h];exact .inr rfl
def lV:∀(ys acc:List (List Key×Addr×Value)) {x:List Key×Addr×Value},x∈cU acc ys->(∃z∈acc,z.2.1=x.2.1)\/∃z∈ys,z.2.1=x.2.1
 |[],acc,x,h=> .inl ⟨x,h,rfl⟩
 |y::ys,acc,x,h=>by
  rcases lV ys (Wt acc y.1 y.2.1 y.2.2) h with⟨z,hz,e⟩ | ⟨z,hz,e⟩
  ·rcases vI hz with⟨q,hq,e2⟩ | e2
   ·exact .inl ⟨q,hq,e2.trans e⟩
   ·exact .inr ⟨y,Ta ..,e2.symm.trans e⟩
  ·exact .inr ⟨z,S9 _ hz,e⟩
def xH{D I L:Addr}{vs:List Value}{ys:List (List Key×Addr×Value)}{old:Heap}{R:Result->S7->Prop}(hh:A.handled=none)(hu:A.units+1<cLine)(QZ:L≠I)(NX:D≠I)(QX:old.get? I=none)(QU:old.get? D=none)(hL:old.IsList L vs.toArray)
 (pairs:∀i,i<vs.length->∃p y,vs[i]? =some (.ref p)/\ys[i]? =some y/\old.IsTuple p #[.ref y.2.1,y.2.2]/\Y1 (bK prog w) old y.1 y.2.1)(hsz:ys.length<=Tz)(hl:ys.length=vs.length)
 (hR:∀h' tk,(∀c o,old.get? c=some o->h'.get? c=some o)->h'.DictOfH (FW prog w) D (cU [] ys)->R (.ok (.ret .none)) {s with heap:=h',toks:=tk}):
 ∀(r i:Nat) (h:Heap) (tk:Nat) (j:Int) (tj:Tok),vs.length - i=r->i<=vs.length->(∀c o,old.get? c=some o->h.get? c=some o)->h.IsListIter I L i->h.DictOfH (FW prog w) D (cU [] (ys.take i))->
  Wc (model prog w) A (.builtin "dict.update.loop" ⟨[.ref D, .ref I, .int j tj, .none],[]⟩) R {s with heap:=h,toks:=tk}:=by
 have W:=Walks.list (prog:=prog) (w:=w) (A:=A.in1) hh I L QZ vs.toArray
 have LU:vs.toArray.size=vs.length:=Td ..
 have nI:∀{c:Addr},c≠I->c∉[I]:=fun q z=>q (U8.mp z)
 have Gh:∀{c:Addr}{o:Obj},old.get? c=some o->c≠I:=fun e z=>by rw[z,QX] at e;cases e
 have OO:∀{c:Addr}{o:Obj},old.get? c=some o->c≠D:=fun e z=>by rw[z,QU] at e;cases e
 have listAt:∀{h:Heap},(∀c o,old.get? c=some o->h.get? c=some o)->h.IsList L vs.toArray:=fun {h} k=>by
  obtain⟨o,e,q⟩:=hL
  exact⟨o,k _ _ e,q⟩
 have OP:∀y∈ys,∃o,old.get? y.2.1=some o:=fun y hy=>by
  obtain⟨i,hi,rfl⟩:=WW hy
  obtain⟨p,y,_,ey,_,⟨o,_,_,e,_⟩⟩:=pairs i (by omega)
  rw[Tb hi] at ey
  cases ey
  exact⟨o,e⟩
 have Mi:∀{i:Nat}(x:List Key×Addr×Value),x∈cU [] (ys.take i)->∃o,old.get? x.2.1=some o:=fun {i} x hx=>by
  rcases lV _ _ hx with⟨z,hz,_⟩ | ⟨z,hz,e⟩
  ·cases hz
  ·rw[<-e];exact OP z (YR hz)
 intro r
 induction r with
 |zero=>
  intro i h tk j tj hr hi k it dd
  have yy:i=vs.length:=by omega
  refine VN eK ?_
  rw[Vk cy _]
  show wpAny _ A.in1 (W2 (.ref I)>>=_) _ _ _
  refine S5 (W.done _ _ _ ⟨by rw[LU,<-yy];exact it,listAt k⟩ fun h1 t1 k1=>?_)
  show wpAny _ A.in1 (Builtin.Dict.addKeywords D []>>=_) _ _ _
  refine S5 (Te (Te ?_))
  have CI:h.DictOfH (FW prog w) D (cU [] ys):=by
   rw[yy,<-hl,Xr] at dd
   exact dd
  refine hR _ _ (fun c o e=>k1 c o (nI (Gh e)) (k c o e)) (DictOfH.at' CI fun c o e hc=>k1 c o (nI ?_) e)
  rcases hc with rfl | ⟨x,hx,rfl⟩
  ·exact NX
  ·exact Mi (i:=ys.length) x (by rw[Xr];exact hx) |>.elim fun o e=>Gh e
 |succ r ih=>
  intro i h tk j tj hr hi k it dd
  have lD:i<vs.length:=by omega
  obtain⟨p,y,ep,ey,tp,ky⟩:=pairs i lD
  refine VN eK ?_
  rw[Vk cy _]
  show wpAny _ A.in1 (W2 (.ref I)>>=_) _ _ _
  refine S5 (W.item i _ _ _ (by rw[LU];exact lD) ⟨it,listAt k⟩ fun v h1 t1 hP O4 k1=>?_)
  have hv:v= .ref p:=by
   have:vs[i]? =some v:=by simpa using hP
   rw[ep] at this
   exact(TF this).symm
  subst hv
  have L9:∀c o,old.get? c=some o->h1.get? c=some o:=fun c o e=>k1 c o (nI (Gh e)) (k c o e)
  show wpAny _ A.in1 (holding [TV p] (Y2 (Xp (.ref p)) _>>=_)>>=_) _ _ _
  have QH:h1.DictOfH (FW prog w) D (cU [] (ys.take i)):=DictOfH.at' dd fun c o e hc=>k1 c o (nI (by
   rcases hc with rfl | ⟨x,hx,rfl⟩
   ·exact NX
   ·obtain⟨o',e'⟩:=Mi x hx
    exact Gh e')) e
  obtain⟨op,eo,Q_,np,Rg⟩:=tp
  have Qq:=L9 _ _ eo
  refine S5 (U5 (S5 (Ws ?_)))
  unfold Xp
  refine S5 (W0 ⟨op,Qq,Q_⟩ ?_)
  rw[if_pos (by decide)]
  refine S5 (Xg Qq Rg (Te ?_))
  show wpAny _ A.in1 (holding [TV y.2.1,y.2.2] (dictSet D (.ref y.2.1) y.2.2)) _ _ _
  have R_:Y1 (bK prog w) h1 y.1 y.2.1:=by
   obtain⟨oa,items,n,a1,a2⟩:=ky
   exact⟨oa,items,n,L9 _ _ a1,a2⟩
  have hz:(cU [] (ys.take i)).length<=Tz:=by
   have:=nP (ys.take i) ([]:List (List Key×Addr×Value))
   rw[Vq] at this
   have h3:min i ys.length<=ys.length:=Nat.min_le_right ..
   simp only[Ud] at this
   omega
  refine U5 (wpAny_dictSet_heap (knd:=FW prog w) (hsz:=hz) (show A.in1.units<cLine from hu) R_ QH fun h2 CJ FI=>?_)
  show wpAny _ A.in1 (pure (Fin.again (.builtin "dict.update.loop" ⟨[.ref D, .ref I,Xi (j+1), .none],[]⟩))) _ _ _
  refine Te ⟨V5 cy _,?_⟩
  rw[<-uJ ey] at CJ
  refine ih (i+1) h2 _ _ _ (by omega) (by omega) (fun c o e=>?_) ?_ CJ
  ·rw[FI.2 c (OO e)];exact L9 c o e
  ·obtain⟨oI,eI,q⟩:=O4.1
   exact⟨oI,by rw[FI.2 I (Uq NX)];exact eI,q⟩
def oH{L:Addr}{o:Obj}{n:Nat}{vs:List Value}{ys:List (List Key×Addr×Value)}{Q:Value->S7->Prop}(hA:A.handled=none)(hu:A.units+8<cLine)(hx:s.heap.get? L=some o)(hc:o.cls= .type "list")(Bf:o.data= .seq vs.toArray n)(hd:o.dict=none)
 (pairs:∀i,i<vs.length->∃p y,vs[i]? =some (.ref p)/\ys[i]? =some y/\s.heap.IsTuple p #[.ref y.2.1,y.2.2]/\Y1 (bK prog w) s.heap y.1 y.2.1)(hsz:ys.length<=Tz)(hl:ys.length=vs.length)
 (h:∀h' tk,(∀c o,s.heap.get? c=some o->h'.get? c=some o)->h'.DictOfH (FW prog w) s.heap.objs.size (cU [] ys)->Q (.ref s.heap.objs.size) {s with heap:=h',toks:=tk}):
 wpAny (model prog w) A (call (.type "dict") [.ref L]) Q E s:=by
 refine callType_codes (Q₁:=fun obj s₁=>obj= .ref s.heap.objs.size/\s₁={s with heap:=s.heap.push {cls:= .type "dict",data:= .dict #[]} }) F.kt_called_dict (F.kt_typeCall_dict_1 _) F.entry_dict_init (kt_code_dict_new _ ⟨rfl,rfl⟩) ?_
 rintro obj s₁ ⟨rfl,rfl⟩
 have yV:(s.heap.push {cls:= .type "dict",data:= .dict #[]}).DictOfH (FW prog w) s.heap.objs.size []:=⟨_,#[],0,Tt _ rfl,⟨rfl,rfl,rfl⟩,rfl,rfl,fun x hx=>(by cases hx),X9⟩
 have hT:({s with heap:=s.heap.push {cls:= .type "dict",data:= .dict #[]} }:S7).TypeIs (.ref s.heap.objs.size) "dict":=⟨_,Tt _ rfl,rfl⟩
 refine⟨hT,F.args_dict_init_2 _ _,?_⟩
 have Bi:(s.heap.push {cls:= .type "dict",data:= .dict #[]}).get? L=some o:=S_ _ hx
 unfold Xq.«dict.__init__»
 refine S5 ?_
 unfold Builtin.Dict.selfAndRest
 refine S5 (wpAny_notOrdered_dict hT ?_)
 show wpAny _ _ (pure (s.heap.objs.size,[TV L])) _ _ _
 refine Te ?_
 show wpAny _ _ (Xm "dict.__init__" s.heap.objs.size (.ref L) [] .none) _ _ _
 unfold Xm
 refine S5 (W0 ⟨o,Bi,hc⟩ ?_)
 rw[if_pos rf]
 refine S5 (uE Bi hc Bf hd (by exact hA) fun h1 t1 k1=>?_)
 show wpAny _ _ (rule _>>=_) _ _ _
 refine S5 (wpAny_rule ?_)
 have QY:h1.IsList L vs.toArray:=⟨o,k1 _ _ Bi,hc,n,Bf⟩
 refine S5 (XQ QY ?_)
 refine Te ⟨V5 cy _,?_⟩
 have L9:∀c ob,s.heap.get? c=some ob->h1.get? c=some ob:=fun c ob e=>k1 c ob (S_ _ e)
 have Av:∀{c:Addr},s.heap.objs.size<=c->s.heap.get? c=none:=fun {c} hc=>by
  cases e:s.heap.get? c with
  |none=>rfl
  |some ob=>exact absurd (Tq e) (Nat.not_lt.mpr hc)
 have nD:s.heap.get? s.heap.objs.size=none:=Av (Tg _)
 have Dh:L<h1.objs.size:=Tq (k1 _ _ Bi)
 have Qn:s.heap.objs.size<h1.objs.size:=Tq (k1 _ _ (Tt _ rfl))
 refine xH (A:=A.in1) (s:=s) (old:=s.heap) (vs:=vs) (ys:=ys) (R:=wants (fun r s₂=>r=Us/\Q (TV s.heap.objs.size) s₂) E) (by exact hA) (by show A.units+1+1<cLine;omega) (TR Dh) (TR Qn) (Av (UT Qn)) nD ⟨o,hx,hc,n,Bf⟩ pairs hsz hl (fun h' tk k dd=>⟨rfl,h h' tk k dd⟩) vs.length 0 _ _ _ _ rfl (Ue _) (fun c ob e=>S_ _ (L9 c ob e)) ⟨_,Tt _ rfl,rfl,rfl⟩ ?_
 refine DictOfH.at' yV fun c ob e hc=>S_ _ (k1 c ob e)
end
def KN:D->D->Option Bool
 | .tup xs, .tup ys=>match nums xs,nums ys with
   |some a,some b=>some (HT.lexLt a b)
   |_,_=>none
 |_,_=>none
def wQ(x y:D):M D:=match KN x y with | some b=>ae (.bl b) | none=>ah
def sN:List D->M D
 |[x,y]=>match KN y x with | some b=>ae (if b then y else x) | none=>ah
 |_=>ah
section
variable{X:Cx}{Xw:Nat->Hp->Prop}{a b e e2:Expr}{δa δb:DE}{δs:DA}{p pos:Pos}
def As{K:Tc}{F:Hp}{x y:D}{v u:V}{r:Bool}(e:KN x y=some r)(hx:Den K F x v)(hy:Den K F y u):∃a b ns ms,v= .ref a/\u= .ref b/\F a=some (.tup (ns.map V.int))/\F b=some (.tup (ms.map V.int))/\r=HT.lexLt ns ms:=by
 unfold KN at e
 split at e
 ·rename_i xs ys
  obtain⟨a,vs,rfl,h2,h3,h4⟩:=hx
  obtain⟨b,us,rfl,k2,k3,k4⟩:=hy
  split at e
  ·rename_i ns ms e1 e2
   cases lN e1 h3
   cases lN e2 k3
   cases e
   exact⟨a,b,ns,ms,rfl,rfl,h2,k2,rfl⟩
  ·cases e
 ·cases e
def Gq{K:Tc}:tR K (ME K) wQ:=fun Xw F H x y dx dy Q s hx hy w=>by
 unfold wQ at w
 split at w
 ·rename_i r e
  obtain⟨a,b,ns,ms,rfl,rfl,h1,h2,rfl⟩:=As e hx hy
  exact⟨a,b,ns,ms,rfl,rfl,SqT.of (s _ _ h1),SqT.of (s _ _ h2),WP.now w s rfl⟩
 ·exact w.elim
def J4(hu:X.A.units+64<cLine)(ha:PD X Xw a δa)(hb:PD X Xw b δb):mH X Xw (.Compare a [.Lt] [b] pos) (bH (d2 wQ δa δb)):=eU (JB (by omega)) Gq ha hb
def MF(K:Tc):List V->Hp->VK->Prop:=fun xs H Q=>∃a b ns ms,xs=[.ref a, .ref b]/\SqT K H a (ns.map V.int)/\SqT K H b (ms.map V.int)/\Q (if HT.lexLt ms ns then .ref b else .ref a) H
def A4(hc:X.calm=true)(hu:X.A.units+64<cLine):CallR X (.builtin "min") (MF X.K):=by
 intro pins s σ H xs us Q I r h
 obtain⟨a,b,ns,ms,rfl,ha,hb,q⟩:=h
 obtain⟨u,w',rfl,rx,ry⟩:=vals2 r
 cases rx
 cases ry
 obtain⟨aR,r1,p1,_⟩:=I.tuple ha
 obtain⟨eF,r2,p2,_⟩:=I.tuple hb
 have i1:U2 aR.toArray.toList ns:=intsAre_of r1
 have i2:U2 eF.toArray.toList ms:=intsAre_of r2
 refine xg (r:=HT.lexLt ms ns) (I.ok.hd hc) (fun h' tk Q' E' k hq=>?_) fun h' tk k=>⟨_,H,I.kept k,?_,q⟩
 ·obtain⟨o1,e1,q1⟩:=p1
  obtain⟨o2,e2,q2⟩:=p2
  exact HT.lt_tupInts (s:={s with heap:=h',toks:=tk}) ⟨o2,k _ _ e2,q2⟩ ⟨o1,k _ _ e1,q1⟩ i2 i1 (by show X.A.units+1<cLine;omega) hq
 ·cases HT.lexLt ms ns<;>rfl
def Gx(hu:X.A.units+64<cLine)(hc:X.calm=true)(hg:Gl X "min")(hm:X.mg "min"=none)(hb:Ub "min"=some (.builtin "min"))(ha:kr X Xw [e,e2] δs)(he:To [e,e2] X.env=(false,eval e X.env)::To [e2] X.env:=by rfl)
 (kf:(UH pos (To [e2] X.env)).any (·.1)=false:=by rfl):PD X Xw (.Call (.Name "min" p) [e,e2] [] pos) (dA sN δs):=
 eR (A4 hc hu) (fun Xw F H vs ds Q s h w=>by
  unfold sN at w
  split at w
  ·rename_i x y
   obtain⟨v,v',rfl,h1,h2⟩:=h.two
   split at w
   ·rename_i r e
    obtain⟨b,a,ms,ns,rfl,rfl,k1,k2,rfl⟩:=As e h2 h1
    refine⟨a,b,ns,ms,rfl,SqT.of (s _ _ k2),SqT.of (s _ _ k1),?_⟩
    cases hl:HT.lexLt ms ns with
    |true=>rw[hl] at w;exact WP.now w s h2
    |false=>rw[hl] at w;exact WP.now w s h1
   ·exact w.elim
  ·exact w.elim) hg hm hb ha (by decide) (by decide) he kf
def lh:List D->Option (List (List Key)×List D)
 |[]=>some ([],[])
 | .tup [k,v]::r=>match eB k,lh r with
   |some kk,some q=>some (kk::q.1,v::q.2)
   |_,_=>none
 |_=>none
def z8:List D->M C
 |[.lst ds]=>match lh ds with
  |some q=>if q.1.Nodup/\q.2.length<=lim then ae (.dct q.1 q.2) else ah
  |none=>ah
 |_=>ah
def Ka:List V->Hp->VK->Prop:=fun xs H Q=>∃(a:Addr) (ps:List (Addr×List Key×Addr×V)),xs=[.ref a]/\H a=some (.lst (ps.map fun p=>V.ref p.1))/\(∀p∈ps,H p.1=some (.tup [.ref p.2.2.1,p.2.2.2])/\H p.2.2.1=some (.tup (p.2.1.map kV)))/\
 (ps.map (·.2.1)).Nodup/\ps.length<=Tz/\∀q,H q=none->Q (.ref q) (upd H q (.dT (ps.map fun p=>(p.2.1,p.2.2.2))))
def pairs_at{P:TM}{w:World}{H:Hp}{h:Heap}(ok:HOk P w H h):∀(ps:List (Addr×List Key×Addr×V)) (us:List Value),Vals (ps.map fun p=>V.ref p.1) us->(∀p∈ps,H p.1=some (.tup [.ref p.2.2.1,p.2.2.2])/\H p.2.2.1=some (.tup (p.2.1.map kV)))->
 ∃ys:List (List Key×Addr×Value),ys.length=us.length/\ys.map (·.1)=ps.map (·.2.1)/\(∀i,i<us.length->∃p y,us[i]? =some (.ref p)/\ys[i]? =some y/\h.IsTuple p #[.ref y.2.1,y.2.2]/\Y1 (bK P w) h y.1 y.2.1)/\
  XB (fun (p:List Key×V) (q:List Key×Addr×Value)=>p.1=q.1/\H q.2.1=some (.tup (p.1.map kV))/\RelV p.2 q.2.2) (ps.map fun p=>(p.2.1,p.2.2.2)) ys
 |[],_, .nil,_=>⟨[],rfl,rfl,fun i hi=>absurd hi (Nat.not_lt_zero _), .nil⟩
 |p::ps,u::us, .cons r rs,hp=>by
  obtain⟨ys,l1,l2,l3,l4⟩:=pairs_at ok ps us rs fun q hq=>hp q (S9 _ hq)
  obtain⟨e1,e2⟩:=hp p (Ta ..)
  have hr:u= .ref p.1:=r
  obtain⟨_,aR,rv,o,h1,h2,n,h3⟩:=(show ObjOk P w H h p.1 (.tup [.ref p.2.2.1,p.2.2.2]) from ok _ _ e1)
  obtain⟨x,y,rfl,rx,ry⟩:=vals2 rv
  have hx:x= .ref p.2.2.1:=rx
  subst hx
  refine⟨(p.2.1,p.2.2.1,y)::ys,by simp[l1],by simp[l2],fun i hi=>?_, .cons ⟨rfl,e2,ry⟩ l4⟩
  cases i with
  |zero=>exact⟨p.1,_,by rw[hr];rfl,rfl,⟨o,h1,h2,n,h3⟩,iW ok e2⟩
  |succ i=>
   obtain⟨q,y',a1,a2,a3⟩:=l3 i (by simpa using hi)
   exact⟨q,y',by simpa using a1,by simpa using a2,a3⟩
def yK(hc:X.calm=true)(hu:X.A.units+64<cLine):CallR X (.type "dict") Ka:=by
 intro pins s σ H xs us Q I r h
 obtain⟨a,ps,rfl,ha,hp,hn,hz,q⟩:=h
 obtain⟨u,rfl,rx⟩:=vals1 r
 cases rx
 obtain⟨_,aR,n,rv,e⟩:=(show ObjOk X.prog X.w H s.heap a (.lst _) from I.hok _ _ ha)
 obtain⟨ys,l1,l2,l3,l4⟩:=pairs_at I.hok ps aR rv hp
 have SQ:ys.length=ps.length:=by
  have:=congrArg YZ l2
  simpa using this
 have IL:(ys.map (·.1)).Nodup:=by rw[l2];exact hn
 refine oH (vs:=aR) (ys:=ys) (I.ok.hd hc) (by omega) e rfl rfl rfl l3 (by omega) l1 fun h' tk k dd=>?_
 rw[nQ ys [] (by simpa using IL),T4] at dd
 obtain⟨o,es,ep,d1,d2,d3,d4,_,d5⟩:=dd
 refine⟨.ref s.heap.objs.size,_,I.laid (t':=tk) k (Tg _) (o:= .dT (ps.map fun p=>(p.2.1,p.2.2.2))) ⟨by rw[S6];exact hz,?_,ys,?_,o,es,ep,d1,d2,d3,d4,d5⟩,rfl,q _ (I.hok.fresh (Tg _))⟩
 ·have:=I.big
  exact beq_false_of_ne (VS this)
 ·refine Paired.mapP l4 fun x y z=>⟨z.1,?_,z.2.2⟩
  rw[aB (fun zz=>?_)]
  ·exact z.2.1
  ·have:=I.hok.fresh (a:=s.heap.objs.size) (Tg _)
   rw[<-zz,z.2.1] at this
   cases this
def sY{K:Tc}{F:Hp}:∀{ds:List D}{vs:List V}{q:List (List Key)×List D},lh ds=some q->DenL K F ds vs->∃ps:List (Addr×List Key×Addr×V),vs=ps.map (fun p=>V.ref p.1)/\(∀p∈ps,F p.1=some (.tup [.ref p.2.2.1,p.2.2.2])/\F p.2.2.1=some (.tup (p.2.1.map kV)))/\
 ps.map (·.2.1)=q.1/\DenL K F q.2 (ps.map (·.2.2.2))/\q.1.length=q.2.length
 |[],_,_,e,h=>by
  cases e
  cases (show _=_ from h)
  exact⟨[],rfl,(fun p hp=>(by cases hp)),rfl,rfl,rfl⟩
 |d::ds,_,q,e,⟨v,r,h1,h2,h3⟩=>by
  unfold lh at e
  split at e
  ·cases ‹_::_=[]›
  ·rename_i k x r' heq
   cases heq
   split at e
   ·rename_i kk q' e1 e2
    cases e
    obtain⟨ps,i1,i2,i3,i4,i5⟩:=sY e2 h3
    obtain⟨b,ws,rfl,b2,b3,b4⟩:=h2
    obtain⟨kv,r1,rfl,k1,r2⟩:=b3
    obtain⟨xv,r3,rfl,x1,r4⟩:=r2
    cases (show _=_ from r4)
    unfold eB at e1
    split at e1
    ·obtain⟨c,ws,rfl,c2,c3,c4⟩:=k1
     have e5:=iy e1 c3
     subst e5
     refine⟨(b,kk,c,xv)::ps,by rw[h1,i1];rfl,fun p hp=>?_,by simp[i3],⟨xv,_,rfl,x1,i4⟩,by simp[i5]⟩
     rcases Th.mp hp with rfl | hp
     ·exact⟨b2,c2⟩
     ·exact i2 p hp
    ·cases e1
   ·cases e
  ·cases e
def ym{α β γ:Type}(f:α->β)(g:α->γ):∀l:List α,(l.map f).zip (l.map g)=l.map fun x=>(f x,g x)
 |[]=>rfl
 |a::l=>by rw[Tf,Tf,UN,ym f g l];rfl
def D6(hu:X.A.units+64<cLine)(hc:X.calm=true)(hg:Gl X "dict")(hm:X.mg "dict"=none)(hb:Ub "dict"=some (.type "dict"))(ha:kr X Xw [e] δs)(he:To [e] X.env=[(false,eval e X.env)]:=by rfl):
 M0 X Xw (.Call (.Name "dict" p) [e] [] pos) (fun ρ=>δs ρ>>=z8):=
 PE.weak (tf (yK hc hu) hg hm hb ha (by decide) (by decide) he rfl) fun σ H Q ⟨F,ρ,s,w⟩=>by
  refine⟨F,ρ,s,WPL.mono (WPF.bindL w) fun vs H1 ⟨F1,ds,e1,q1,w1⟩=>?_⟩
  unfold z8 at w1
  split at w1
  ·rename_i ds
   obtain⟨v,rfl,h1⟩:=q1.one
   obtain⟨a,ws,rfl,h2,h3,h4⟩:=h1
   split at w1
   ·rename_i q eq
    split at w1
    ·rename_i hq
     obtain⟨ps,rfl,i2,i3,i4,i5⟩:=sY eq h3
     have hlen:ps.length=q.2.length:=by rw[<-i5,<-i3,S6]
     refine⟨a,ps,rfl,e1.fh _ _ h2,fun p hp=>⟨e1.fh _ _ (i2 p hp).1,e1.fh _ _ (i2 p hp).2⟩,by rw[i3];exact hq.1,?_,fun r hr=>?_⟩
     ·have:=eO;have:=hq.2;omega
     obtain⟨E,nF⟩:=Ext.fresh (o:= .dT (ps.map fun p=>(p.2.1,p.2.2.2))) e1.fh hr
     refine w1 r _ _ F1 E aO nF hr ⟨ps.map (·.2.2.2),?_,i4,i5,hq.2⟩
     rw[<-i3,ym]
    ·exact w1.elim
   ·exact w1.elim
  ·exact w1.elim
end
mutual
def se:D->Bool
 | .non=>true
 | .bl _=>true
 | .int _=>true
 | .str _=>true
 | .tup ds=>pF ds
 | .lst ds=>pF ds
 | .raw _=>false
 | .exc _=>false
 | .scr _=>false
 | .dct _ _=>false
 | .dci _ _=>false
def pF:List D->Bool
 |[]=>true
 |d::ds=>se d&&pF ds
end
def CK(d:D):M D:=if se d then ae d else ah
def md(ρ:bf):Bool:=ρ.all fun x=>match x with
 |some (.ow (.lst _))=>false
 |_=>true
def DY{ρ:bf}{i:Nat}{ds:List D}(h:md ρ=true)(e:ρ[i]? =some (some (.ow (.lst ds)))):False:=by
 have:=T2.mp h _ (UU e)
 cases this
def Kx(δ:DE):DE:=fun ρ=>if md ρ then noex (δ (qY ρ))>>=CK else ah
section
variable{K:Tc}{F H F' H':Hp}{σ:St}{ρ:bf}{h:Heap}{b:Addr}
def OwnAt.dict(S:StE K F H σ ρ)(hd:md ρ=true)(p:OwnAt σ ρ b):∃o,H b=some o/\((∃x,o= .dT x)\/∃x,o= .dK x):=by
 obtain⟨i,c,h1,h2⟩:=p
 obtain⟨v,h3,a,o,rfl,h4,h5,h6⟩:=S.den i _ h1
 rw[h3] at h2
 cases h2
 refine⟨o,h4,?_⟩
 cases c with
 |lst ds=>exact(DY hd h1).elim
 |dct ks ds=>obtain⟨vs,rfl,_⟩:=h6;exact .inl ⟨_,rfl⟩
 |dci ks ds=>obtain⟨vs,rfl,_⟩:=h6;exact .inr ⟨_,rfl⟩
open Classical in
def Aw(S:StE K F H σ ρ)(hd:md ρ=true)(E:Ext (fA σ ρ (refA h (OwnAt σ ρ) H) F) (refA h (OwnAt σ ρ) H) F' H'){a:Addr}{o:HO}(e:F' a=some o)(nK:∀q u,o≠ .frz q u):(if OwnAt σ ρ a then none else F' a)=some o:=by
 rw[if_neg,e]
 intro hp
 obtain⟨o',k1,k2⟩:=OwnAt.dict S hd hp
 have k3:fA σ ρ (refA h (OwnAt σ ρ) H) F a=some (oM ((h.get? a).getD {cls:= .none,data:= .fields #[]}) o'):=by
  unfold fA refA
  rw[if_pos hp,if_pos hp,k1]
  rfl
 have k4:=E.ff a _ k3
 rw[e] at k4
 rcases k2 with⟨x,rfl⟩ | ⟨x,rfl⟩<;>cases k4<;>exact nK _ _ rfl
open Classical in
mutual
def wB(S:StE K F H σ ρ)(hd:md ρ=true)(E:Ext (fA σ ρ (refA h (OwnAt σ ρ) H) F) (refA h (OwnAt σ ρ) H) F' H'):∀{d:D}{v:V},se d=true->Den K F' d v->Den K (fun b=>if OwnAt σ ρ b then none else F' b) d v
 | .non,_,_,q=>q
 | .bl _,_,_,q=>q
 | .int _,_,_,q=>q
 | .str _,_,_,q=>q
 | .tup ds,_,f,⟨a,vs,h1,h2,h3,h4⟩=>⟨a,vs,h1,Aw S hd E h2 (fun _ _ z=>nomatch z),mM S hd E f h3,h4⟩
 | .lst ds,_,f,⟨a,vs,h1,h2,h3,h4⟩=>⟨a,vs,h1,Aw S hd E h2 (fun _ _ z=>nomatch z),mM S hd E f h3,h4⟩
 | .raw _,_,f,_=>by cases f
 | .exc _,_,f,_=>by cases f
 | .scr _,_,f,_=>by cases f
 | .dct _ _,_,f,_=>by cases f
 | .dci _ _,_,f,_=>by cases f
def mM(S:StE K F H σ ρ)(hd:md ρ=true)(E:Ext (fA σ ρ (refA h (OwnAt σ ρ) H) F) (refA h (OwnAt σ ρ) H) F' H'):∀{ds:List D}{vs:List V},pF ds=true->DenL K F' ds vs->DenL K (fun b=>if OwnAt σ ρ b then none else F' b) ds vs
 |[],_,_,q=>q
 |d::ds,_,f,⟨v,r,h1,h2,h3⟩=>by
  unfold pF at f
  rw[Ts] at f
  exact⟨v,r,h1,wB S hd E f.1 h2,mM S hd E f.2 h3⟩
end
end
section
variable{X:Cx}{Xw:Nat->Hp->Prop}{e:Expr}{δ:DE}
def Mo(h:PD X Xw e δ):PD X Xw e (Kx δ):=fun pins s σ H Q I ⟨F,ρ,S,w⟩=>by
 classical
 have w:WP X.K Xw F H (if md ρ then noex (δ (qY ρ))>>=CK else ah) Q:=w
 by_cases hd:md ρ=true
 ·rw[if_pos hd] at w
  rcases k9 (δ (qY ρ)) with q | ⟨d,q,q2⟩
  ·rw[q] at w
   exact w.elim
  ·rw[q2,ay] at w
   unfold CK at w
   split at w
   ·rename_i hf
    refine cJ (h pins s σ _ (fun v H'=>Q v (unA (OwnAt σ ρ) H')/\∀c,OwnAt σ ρ c->∀o u,H' c=some (.frz o u)->(∃k,u= .dT k)\/∃k,u= .dK k) (Inv.refA (P:=OwnAt σ ρ) I) ⟨_,_,yS (h:=s.heap) S,?_⟩) fun u s' ⟨v,H',I',r,q1,q3⟩=>⟨v,_,Inv.unA I' (mW I S) q3,r,q1⟩
    rw[q]
    intro v H' F' E k
    obtain⟨E1,q3⟩:=pJ S E
    exact⟨w _ _ _ E1 (wB S hd E hf k),q3⟩
   ·exact w.elim
 ·rw[if_neg hd] at w
  exact w.elim
end
def EZ(δ:DE):DE:=fun ρ=>noex (δ (qY ρ))>>=pI
def qN(τ:DT):DT:=fun ρ=>noex (τ (qY ρ))
section
end
section
variable{a:Expr}
end
section
end
end L3
namespace L3
open PySem PySem.SetTable
def iK(m b:Nat):Nat->Nat×Nat
 |0=>(b % (m+1),b)
 |k+1=>leap m (iK m b k).1 (iK m b k).2
def KU(m i:Nat):Nat:=(i*5+1) % (m+1)
def it(m:Nat):Nat->Nat->Nat
 |0,x=>x
 |n+1,x=>KU m (it m n x)
def pS(m:Nat):∀a b x,it m (a+b) x=it m a (it m b x)
 |0,b,x=>by rw[YN];rfl
 |a+1,b,x=>by rw[Zh];show KU m _=KU m _;rw[pS m a b x]
def LX(m b:Nat):∀k,(iK m b k).2=b / 32 ^ k
 |0=>by simp[iK]
 |k+1=>by
  show (iK m b k).2 / 32=_
  rw[LX m b k,YI,Nat.pow_succ]
def Al{m b:Nat}(hb:b<2 ^ 64):∀k,(iK m b (k+13)).1=it m k (iK m b 13).1
 |0=>by rw[YN];rfl
 |k+1=>by
  rw[Zh]
  have hq:(iK m b (k+13)).2 / 32=0:=by
   rw[LX]
   refine Nat.div_eq_of_lt ?_
   refine Zg (m:=b / 32 ^ 13) ?_ ?_
   ·rw[Nat.pow_add,Nat.mul_comm,<-YI]
    exact Nat.div_le_self ..
   ·have:b / 32 ^ 13<1:=Nat.div_lt_of_lt_mul (by omega)
    omega
  show ((iK m b (k+13)).1*5+1+(iK m b (k+13)).2 / 32) % (m+1)=KU m _
  rw[hq,Al hb k]
  rfl
def NH(m:Nat):Prop:=m=7\/m=31\/m=127
def OR(m:Nat):Nat->Nat->List Nat
 |0,_=>[]
 |n+1,x=>x::OR m n (KU m x)
def zp(m:Nat):∀(n x j:Nat),j∈OR m n x->∃a,a<n/\it m a x=j
 |0,x,j,h=>by cases h
 |n+1,x,j,h=>by
  rcases Th.mp h with rfl | h
  ·exact⟨0,by omega,rfl⟩
  ·obtain⟨a,ha,e⟩:=zp m n (KU m x) j h
   exact⟨a+1,by omega,by rw[pS m a 1 x];exact e⟩
def Gr{m:Nat}(hm:NH m):(∀j,j<m+1->j∈OR m (m+1) 0)/\it m (m+1) 0=0:=by
 rcases hm with rfl | rfl | rfl
 ·exact⟨by decide+kernel,by decide+kernel⟩
 ·exact⟨by decide+kernel,by decide+kernel⟩
 ·exact⟨by decide+kernel,by decide+kernel⟩
def QF{m:Nat}(hm:NH m){i j:Nat}(hi:i<m+1)(hj:j<m+1):∃n,n<=m/\it m n i=j:=by
 obtain⟨h1,h2⟩:=Gr hm
 obtain⟨a,ha,rfl⟩:=zp m _ 0 i (h1 i hi)
 obtain⟨b,hb,rfl⟩:=zp m _ 0 j (h1 j hj)
 by_cases h:a<=b
 ·exact⟨b - a,by omega,by rw[<-pS,Nat.sub_add_cancel h]⟩
 ·refine⟨m+1 - a+b,by omega,?_⟩
  rw[<-pS,show m+1 - a+b+a=b+(m+1) by omega,pS,h2]
def LW(m b k:Nat):(iK m b k).1<m+1:=by
 cases k with
 |zero=>exact Nat.mod_lt _ (by omega)
 |succ k=>exact Nat.mod_lt _ (by omega)
def reach{m b:Nat}(hm:NH m)(hb:b<2 ^ 64){j:Nat}(hj:j<m+1):∃k,k<=m+13/\(iK m b k).1=j:=by
 obtain⟨n,hn,e⟩:=QF hm (LW m b 13) hj
 exact⟨n+13,by omega,by rw[Al hb,e]⟩
def vals(o:Array (Option Nat))(n:Nat):List Nat:=(Um n).filterMap fun j=>o.getD j none
end L3
namespace L3
open PySem PySem.Spec L2 HT
open PyProof.Rows hiding St
def items_int{P:TM}{w:World}:∀{us:List Value}{ns:List Int},U2 us ns->ItemsAre (intKind P w) ns us
 |_,_, .nil=> .nil
 |_,_, .cons n t h=> .cons (intKind_is _ _ _ _) (items_int h)
end L3
namespace L3
open PySem PySem.SetTable PySem.W PyProof.Rows
def IsSI(h:Heap)(it a:Addr)(sl k n ep:Nat):Prop:=∃o,h.get? it=some o/\o.cls= .type "set_iterator"/\o.data= .fields #[Xi sl,Xi k, .ref a,Xi n,Xi ep]
def IsSI.typeIs{s:S7}{it a:Addr}{sl k n ep:Nat}(x:IsSI s.heap it a sl k n ep):s.TypeIs (.ref it) "set_iterator":=let ⟨o,ho,hc,_⟩:=x;⟨o,ho,hc⟩
end L3
namespace L3
open PySem PySem.Spec L2 HT
open PyProof.Rows hiding St
end L3
namespace L3
open PySem PySem.Spec L2
open PyProof.Rows hiding St
section
end
end L3
namespace L3
open PySem PySem.Spec L2 SeqAt HT
open PyProof.Rows hiding St
section
def Qc:D->List D->M D
 | .lst ds,[.int n]=>match nums ds with
   |some ns=>if ns.contains n then ae (.int (ns.idxOf n)) else ah
   |none=>ah
 |_,_=>ah
end
section
variable{X:Cx}{Xw:Nat->Hp->Prop}{a b e:Expr}{δa δb:DE}{pos p:Pos}
def anyF(x:D):List D->Option Bool
 |[]=>some false
 |y::ys=>match ju 6 y x,anyF x ys with
  |some p,some q=>some (p||q)
  |_,_=>none
def Bd(neg:Bool):D->D->M D
 |x, .lst ys=>match anyF x ys with
  |some r=>ae (.bl (if neg then !r else r))
  |none=>ah
 |_,_=>ah
def zV{pins:List (Addr×Obj)}{σ:St}{F H:Hp}{s:S7}{A:TY}{x:D}{v:V}{u:Value}(I:Inv X pins σ H s)(hs:Same F H)(hu:A.units+6<cLine)(hx:Den X.K F x v)(rx:RelV v u):
 ∀{ys:List D}{vs:List V}{aR:List Value}{r:Bool},anyF x ys=some r->DenL X.K F ys vs->Vals vs aR->∃f:List Bool,f.length=aR.length/\f.any id=r/\∀i (h:i<aR.length),EqAt A s aR[i] u (f.getD i false)
 |[],_,_,_,e,h,r=>by
  cases e
  cases (show _=_ from h)
  cases r
  exact⟨[],rfl,rfl,fun i h=>absurd h (Nat.not_lt_zero _)⟩
 |y::ys,_,_,_,e,⟨w,ws,h1,h2,h3⟩,r=>by
  subst h1
  unfold anyF at e
  split at e
  ·rename_i p q e1 e2
   cases e
   cases r with
   | @cons _ t _ ts r1 r2=>
     obtain⟨f,l1,l2,l3⟩:=zV I hs hu hx rx e2 h3 r2
     refine⟨p::f,by simp[l1],by simp[<-l2],fun i hi=>?_⟩
     cases i with
     |zero=>exact(pH I hs 6 A y x w v t u _ hu h2 hx r1 rx e1).eq
     |succ i=>exact l3 i (by simpa using hi)
  ·cases e
open Classical in
def Fb{pins:List (Addr×Obj)}{σ:St}{F H:Hp}{s:S7}{A:TY}{x:D}{v:V}{u:Value}(I:Inv X pins σ H s)(hs:Same F H)(hu:A.units+6<cLine)(hx:Den X.K F x v)(rx:RelV v u){ys:List D}{vs:List V}{aR:List Value}{r:Bool}(e:anyF x ys=some r)(hd:DenL X.K F ys vs)(rv:Vals vs aR):
 ∃g:Value->Bool,aR.toArray.any g=r/\∀t∈aR.toArray,EqAt A s t u (g t):=by
 obtain⟨f,l1,l2,l3⟩:=zV I hs hu hx rx e hd rv
 have key:∀w,decide (∃i,aR[i]? =some w/\f.getD i false=true)=true↔∃i,aR[i]? =some w/\f.getD i false=true:=fun w=>decide_eq_true_iff
 refine⟨fun w=>decide (∃i,aR[i]? =some w/\f.getD i false=true),?_,fun t ht=>?_⟩
 ·rw[<-l2,Vg]
  simp only[List.any_toArray,List.any_eq_true,key]
  constructor
  ·rintro⟨w,_,i,e1,e2⟩
   have hi:i<f.length:=by rw[l1];exact(Tn.mp e1).1
   rw[TU,Tb hi] at e2
   exact⟨_,Vr hi,e2⟩
  ·rintro⟨b,hb,e1⟩
   obtain⟨i,hi,rfl⟩:=WW hb
   refine⟨aR[i]'(by omega),Vr _,i,Tb _,?_⟩
   rw[TU,Tb hi]
   exact e1
 ·have ht:t∈aR:=by simpa using ht
  by_cases h:∃i,aR[i]? =some t/\f.getD i false=true
  ·obtain⟨i,e1,e2⟩:=id h
   obtain⟨hi,e3⟩:=Tn.mp e1
   have:=l3 i hi
   rw[e2,e3] at this
   show EqAt A s t u (decide (∃i,aR[i]? =some t/\f.getD i false=true))
   rw[decide_eq_true h]
   exact this
  ·obtain⟨i,hi,rfl⟩:=WW ht
   have:=l3 i hi
   have e2:f.getD i false=false:=by
    cases q:f.getD i false with
    |false=>rfl
    |true=>exact absurd ⟨i,Tb hi,q⟩ h
   rw[e2] at this
   show EqAt A s aR[i] u (decide (∃j,aR[j]? =some aR[i]/\f.getD j false=true))
   rw[decide_eq_false h]
   exact this
def Mz(K:Tc)(neg:Bool):R2:=fun x y H Q=>∃F dx ys vs p r,Same F H/\Den K F dx x/\anyF dx ys=some r/\DenL K F ys vs/\y= .ref p/\SqL K H p vs/\Q (.bl (if neg then !r else r)) H
def BN(hu:X.A.units+64<cLine):OpR X (Ua .NotIn) (Mz X.K true):=by
 intro pins s σ H x y v u Q I rx ry h
 obtain⟨F,dx,ys,vs,p,r,hs,hx,ex,hd,rfl,hq,q⟩:=h
 cases (show u=_ from ry)
 have IX:X.A.in1.units+6<cLine:=by show X.A.units+1+6<cLine;omega
 obtain⟨aR,rv,pl,hz⟩:=I.list hq
 obtain⟨g,e1,e2⟩:=Fb (A:=X.A.in1) I hs IX hx rx ex hd rv
 refine W5 g pl.isList e2 ⟨.bl _,H,I,rfl,?_⟩
 rw[e1]
 exact q
def Ja{neg:Bool}{K:Tc}:tR K (Mz K neg) (Bd neg):=fun Xw F H x y dx dy Q s hx hy w=>by
 unfold Bd at w
 split at w
 ·rename_i ys
  split at w
  ·rename_i r e1
   obtain⟨p,vs,h1,h2,h3,_⟩:=hy
   exact⟨F,dx,ys,vs,p,r,s,hx,e1,h3,h1,SqL.of (s _ _ h2),WP.now w s rfl⟩
  ·exact w.elim
 ·exact w.elim
def BW(hu:X.A.units+64<cLine)(ha:PD X Xw a δa)(hb:PD X Xw b δb)(hm:Ug .NotIn b=false:=by rfl):mH X Xw (.Compare a [.NotIn] [b] pos) (bH (d2 (Bd true) δa δb)):=eU (BN hu) Ja ha hb hm
end
end L3
namespace L3
open PySem PySem.Spec L2
open PyProof.Rows hiding St
def zip_get{α β:Type}{a:List α}{b:List β}{i:Nat}{x:α}{y:β}(h:(a.zip b)[i]? =some (x,y)):a[i]? =some x/\b[i]? =some y:=X_.mp h
def Pm(K:Tc)(a b:Addr):It:=
 ⟨fun i H=>∃xs ys x y,SqL K H a xs/\SqL K H b ys/\xs[i]? =some x/\ys[i]? =some y,fun i H x H'=>∃p,x= .ref p/\H p=none/\∃v u,(∀xs,SqL K H a xs->xs[i]? =some v)/\(∀ys,SqL K H b ys->ys[i]? =some u)/\H'=upd H p (.tup [v,u]),
  fun i H=>∃xs ys,SqL K H a xs/\SqL K H b ys/\(xs.length<=i\/ys.length<=i)⟩
structure Zp (h:Heap) (z TI TO i1 i2 l1 l2:Addr) (i:Nat):Prop where
 z:IsZip h z TI TO .none
 ti:IsPair h TI (.ref i1) (.ref i2)
 to:∃a b,IsPair h TO a b
 a:h.IsListIter i1 l1 i
 b:h.IsListIter i2 l2 i
def ET{P:TM}{w:World}{K:Tc}{ts:List Expr}{x1}{tp:Pos}(l1 l2 z TI TO i1 i2:Addr)(D:ZipApart z TI TO i1 i2 l1 l2):
 Turn P w K (.Tuple ts x1 tp) (Pm K l1 l2) [z,TI,TO,i1,i2] z (fun i h=>Zp h z TI TO i1 i2 l1 l2 i) where
 mem:=by simp
 obj:=fun i h st c hc=>by
  simp only[Th,TK,or_false] at hc
  rcases hc with rfl | rfl | rfl | rfl | rfl
  ·exact⟨_,st.z,fun v q=>nomatch q⟩
  ·exact⟨_,st.ti,fun v q=>nomatch q⟩
  ·obtain⟨a,b,q⟩:=st.to;exact⟨_,q,fun v q=>nomatch q⟩
  ·obtain⟨o,e,c,d⟩:=st.a;exact⟨o,e,fun v q=>by rw[d] at q;cases q⟩
  ·obtain⟨o,e,c,d⟩:=st.b;exact⟨o,e,fun v q=>by rw[d] at q;cases q⟩
 keep:=fun i h h' st k=>⟨k z (by simp) _ st.z,k TI (by simp) _ st.ti,let ⟨a,b,q⟩:=st.to;⟨a,b,k TO (by simp) _ q⟩,st.a.at fun o q=>k i1 (by simp) o q,st.b.at fun o q=>k i2 (by simp) o q⟩
 item:=by
  intro X hP hw hK hc i pins s σ H E I hf st hg
  subst hP hw hK
  obtain⟨xs,ys,x,y,IT,Nl,hx,hy⟩:=hg
  obtain⟨aR,rv,p,hz⟩:=I.list IT
  obtain⟨eF,NA,p2,Qb⟩:=I.list Nl
  obtain⟨u,hu,ru⟩:=rv.get hx
  obtain⟨u2,RX,Si⟩:=NA.get hy
  obtain⟨a0,b0,Nc⟩:=st.to
  refine wpAny_pyNext_zip_item D st.z st.ti Nc st.a st.b p.isList p2.isList (x:=u) (y:=u2) (by simpa using hu) (by simpa using RX) fun h1 k1 k2 k3 k4 k5 k6 k7=>?_
  refine⟨_,rfl,wpAny_letOwnedTupleGo_zip k1 fun h2 m1 m2=>?_⟩
  replace m2:Vv z h1 h2:=m2
  have nK:s.heap.objs.size≠z:=VS (Tq st.z)
  have Ph:h2.get? s.heap.objs.size=some {cls:= .type "tuple",data:= .seq #[u,u2]}:=(m2.2 _ nK).trans k5
  have keep:∀b q,b∉[z,TI,TO,i1,i2]->s.heap.get? b=some q->h2.get? b=some q:=fun b q hb e1=>by
   simp only[Th,TK,or_false,not_or] at hb
   exact(m2.2 b hb.1).trans (k7 b q hb.1 hb.2.2.1 hb.2.2.2.1 hb.2.2.2.2 e1)
  have I2:Inv X pins σ (upd H s.heap.objs.size (.tup [x,y])) {s with heap:=h2,toks:=s.toks}:=by
   refine Inv.turnedLaid (s:=s) I keep hf (Tg _) ⟨?_,[u,u2], .cons ru (.cons Si .nil),_,Ph,rfl,_,rfl⟩
   rw[VE];show 2<=_;decide
  have up:∀c o,c≠z->h1.get? c=some o->h2.get? c=some o:=fun c o q e=>(m2.2 c q).trans e
  refine⟨.ref s.heap.objs.size,_,I2,rfl,⟨_,rfl,I.hok.fresh (Tg _),x,y,fun SY Bi=>by rw[I.list_inj Bi IT];exact hx,fun S0 R1=>by rw[I.list_inj R1 Nl];exact hy,rfl⟩,⟨m1,up _ _ D.TIz (k7 _ _ D.TIz D.TITO D.TIi1 D.TIi2 st.ti),⟨_,_,up _ _ D.TOz k2⟩,k3.at fun o q=>up _ o D.i1z q,k4.at fun o q=>up _ o D.i2z q⟩,fun b hb=>?_⟩
  rw[aB (fun q=>?_)]
  ·exact(hf b hb).1
  ·obtain⟨o,e1,_⟩:∃o,s.heap.get? b=some o/\True:=by
    simp only[Th,TK,or_false] at hb
    rcases hb with rfl | rfl | rfl | rfl | rfl
    ·exact⟨_,st.z,trivial⟩
    ·exact⟨_,st.ti,trivial⟩
    ·exact⟨_,Nc,trivial⟩
    ·obtain⟨o,e,_⟩:=st.a;exact⟨o,e,trivial⟩
    ·obtain⟨o,e,_⟩:=st.b;exact⟨o,e,trivial⟩
   exact absurd (Tq e1) (by rw[q];exact Uk _)
 done:=by
  intro X hP hw hK hc i pins s σ H E I hf st hg
  subst hP hw hK
  obtain⟨xs,ys,IT,Nl,hi⟩:=hg
  obtain⟨aR,rv,p,hz⟩:=I.list IT
  obtain⟨eF,NA,p2,Qb⟩:=I.list Nl
  obtain⟨a0,b0,Nc⟩:=st.to
  have hl:=rv.length
  have HD:=NA.length
  refine wpAny_pyNext_zip_end (I.ok.hd hc) D st.z st.ti Nc st.a st.b p.isList p2.isList ?_ fun h' eb=>⟨rfl,Inv.turnedL (t':=s.toks) (ch:=[z,TI,TO,i1,i2]) I (fun b q hb e1=>?_) hf⟩
  ·rcases hi with hi | hi
   ·exact .inl (by simp;omega)
   ·exact .inr (by simp;omega)
  ·simp only[Th,TK,or_false,not_or] at hb
   exact eb b q hb.1 hb.2.2.1 hb.2.2.2.1 hb.2.2.2.2 e1
 self:=fun A i s Q E st h=>wpAny_pyIter_zip st.z h
def B_:List D->M (List D)
 |[.lst xs, .lst ys]=>ae ((xs.zip ys).map fun q=> .tup [q.1,q.2])
 |_=>ah
def FR{K:Tc}{F:Hp}{a b:Addr}{vs us:List V}{ds es:List D}(h:SqL K F a vs)(hd:DenL K F ds vs)(h':SqL K F b us)(so:DenL K F es us):ItD K F (Pm K a b) ((ds.zip es).map fun q=> .tup [q.1,q.2]):=fun F' H' i s1 s2=>by
 have hs:=Same.seq s2 (Same.seq s1 h)
 have HE:=Same.seq s2 (Same.seq s1 h')
 refine⟨fun d e=>?_,fun hl=>⟨vs,us,hs,HE,?_⟩⟩
 ·rw[Tu] at e
  cases q:(ds.zip es)[i]? with
  |none=>rw[q] at e;cases e
  |some kd=>
   rw[q] at e
   cases e
   obtain⟨q1,q2⟩:=zip_get (x:=kd.1) (y:=kd.2) q
   obtain⟨v,e1,d1⟩:=hd.get q1
   obtain⟨u,e2,d2⟩:=so.get q2
   refine⟨⟨vs,us,v,u,hs,HE,e1,e2⟩,fun x H'' ⟨p,y1,y2,v',u',y3,y4,y5⟩=>?_⟩
   subst y1 y5
   have z1:=y3 vs hs
   have z2:=y4 us HE
   rw[e1] at z1
   rw[e2] at z2
   cases z1
   cases z2
   have E:=Ext.lay (o:= .tup [v,u]) s2 y2
   exact⟨_,E,p,_,rfl,aO, .cons (Den.mono E.ff (Den.mono s1 d1)) (.cons (Den.mono E.ff (Den.mono s1 d2)) .nil),by show 2<=lim;decide⟩
 ·rw[S6,XG] at hl
  have l1:=hd.len
  have l2:=so.len
  omega
section
variable{X:Cx}{Xw:Nat->Hp->Prop}{e e2:Expr}{es:List Expr}{δs:DA}{pos p tp:Pos}{x1:Nat}
def GF(hg:Gl X "zip")(hm:X.mg "zip"=none)(ha:kr X Xw [e,e2] δs)(hs:To [e,e2] X.env=(false,eval e X.env)::To [e2] X.env:=by rfl)(kf:(UH pos (To [e2] X.env)).any (·.1)=false:=by rfl):zT X Xw (.Tuple es x1 tp) (.Call (.Name "zip" p) [e,e2] [] pos) (fun ρ=>δs ρ>>=B_):=by
 intro pins s σ H R I ⟨F,ρ,S,w⟩
 refine Call_ (mS I hg hm (show Ub "zip"=some (.type "zip") from rfl) (UZ (cJ (ha pos pins s σ H (fun vs H1=>∃F1 ds,Ext F H F1 H1/\DenL X.K F1 ds vs/\WPI X.K Xw F1 H1 (B_ ds) R) I ⟨F,ρ,S,WPI.bindL w⟩) fun us s1 ⟨vs,H1,I1,r1,F1,ds,e1,q1,w1⟩=>?_) hs kf))
 unfold B_ at w1
 split at w1
 ·rename_i ds es
  obtain⟨v,v',rfl,q1,q2⟩:=q1.two
  obtain⟨a,xs,rfl,h2,h3,h4⟩:=q1
  obtain⟨b,ys,rfl,g2,g3,g4⟩:=q2
  obtain⟨u,u',rfl,rx,ry⟩:=vals2 r1
  cases (show u=_ from rx)
  cases (show u'=_ from ry)
  obtain⟨aR,rv,pl,hz⟩:=I1.list (SqL.of (K:=X.K) (e1.fh _ _ h2))
  obtain⟨eF,NA,Qr,Qb⟩:=I1.list (SqL.of (K:=X.K) (e1.fh _ _ g2))
  have la:a<s1.heap.objs.size:=by obtain⟨o,e,_⟩:=pl.isList;exact Tq e
  have lb:b<s1.heap.objs.size:=by obtain⟨o,e,_⟩:=Qr.isList;exact Tq e
  refine call_zip_2 pl.isList Qr.isList fun h' k1 k2 k3 k4 k5 k6 k7=>?_
  refine wpAny_pyIter_zip k1 ?_
  refine⟨s1.heap.objs.size+4,[s1.heap.objs.size+4,s1.heap.objs.size+2,s1.heap.objs.size+3,s1.heap.objs.size,s1.heap.objs.size+1],_,_,H1,rfl,I1.kept (t':=s1.toks) fun b o e=>k7 b o e,ET a b _ _ _ _ _ ?_,⟨k1,k2,⟨_,_,k3⟩,k4,k5⟩,fun c hc=>?_,w1 _ _ _ (Ext.refl e1.fh) (FR (SqL.of h2) h3 (SqL.of g2) g3)⟩
  ·constructor<;>(unfold Addr at*;omega)
  ·have e:s1.heap.objs.size<=c:=by
    simp only[Th,TK,or_false] at hc
    unfold Addr at*
    omega
   exact I1.fpOk e (I1.hok.fresh e)
 ·exact w1.elim
end
end L3
namespace L3
open PySem PySem.Spec L2 SeqAt HT
open PyProof.Rows hiding St
section
variable{X:Cx}{Xw:Nat->Hp->Prop}{e:Expr}{es:List Expr}{δ δi:DE}{δs:DA}{pos p:Pos}
def xJ{cv:Nat->Value}{k0 k1 m:Nat}{x0 x1:Str}{g0 g1:List D->M D}{ie:Expr}{p0 p1 pl ps:Pos}
 (F0:av X.prog X.w X.K X.mg X.base cv k0 x0 m g0)(F1:av X.prog X.w X.K X.mg X.base cv k1 x1 m g1)
 (r0:Room k0 X.A)(r1:Room k1 X.A)(Rm:Gl X x0)(Rn:Gl X x1)(hx:Passes (cT X.prog X.w cv) X (EX cv Xw))(hi:PD X Xw ie δi)
 (ha:kr X Xw (e::es) δs)(hl:(e::es).length=m)(Ra:(x0==("__debug__":Str))=false:=by decide)(Rc:(x1==("__debug__":Str))=false:=by decide)
 (he:To (e::es) X.env=(false,eval e X.env)::To es X.env:=by rfl)(kf:(UH pos (To es X.env)).any (·.1)=false:=by rfl)(hs:gQ ie:=by intro _ _;rfl)
 (RN:eval (.Call (.Subscript (.List [.Name x0 p0, .Name x1 p1] pl) ie ps) (e::es) [] pos) X.env=(do callWith pos (<-eval (.Subscript (.List [.Name x0 p0, .Name x1 p1] pl) ie ps) X.env) [] (UH pos (To (e::es) X.env)) (WK pos (VF [] X.env))):=by rfl):
 PD X Xw (.Call (.Subscript (.List [.Name x0 p0, .Name x1 p1] pl) ie ps) (e::es) [] pos) (CH [g0,g1] m δi δs):=by
 obtain⟨f0,QM,Se,a0,b0,c0,d0⟩:=F0
 obtain⟨f1,QN,Sf,a1,b1,c1,d1⟩:=F1
 have hf:=Ed (X:=X) (pos:=ps) oZ (ve (pos:=pl) (o3 (vc (pos:=p0) Rm a0 (v:= .ref f0) rfl Ra) (o3 (vc (pos:=p1) Rn a1 (v:= .ref f1) rfl Rc) uZ))) hi hs
 intro pins s σ H Q I ⟨F,ρ,S,w⟩
 refine Call_ (cJ (hf pins s σ H (fun v H1=>∃F1 kk gg f fd ps,Ext F H F1 H1/\v= .ref f/\Ux X.K (.ref f)=true/\Binds X.K fd ps []/\FnOk X.prog X.w X.K X.mg X.base (cT X.prog X.w cv) kk f fd ps (Ci X.K cv m gg)/\Room kk X.A/\
  WP X.K Xw F1 H1 (δs ρ>>=fun ds=>if ds.length=m then gg ds else ah) Q) I ?_) fun v s1 ⟨x,H1,I1,r,F1,kk,gg,f,fd,ps,e1,hv,hk,hb,hF,hr,w1⟩=>?_) RN
 ·refine⟨by show 2<=Tz;rw[VE];decide,fun q hq=>?_⟩
  have E0:Ext F H F (upd H q (.lst [.ref f0, .ref f1])):=Ext.free S.fh hq
  refine⟨F,ρ,S.ext E0,WP.mono (WP.bind (WP.ext E0 w)) fun v H1 ⟨F1,d,e1,q1,w1⟩=>?_⟩
  split at w1
  ·rename_i hok
   unfold DN at hok
   split at hok
   ·rename_i k
    cases (show v=_ from q1)
    have IT:H1 q=some (.lst [.ref f0, .ref f1]):=e1.hh _ _ aO
    have w1:WP X.K Xw F1 H1 (δs ρ>>=fun ds=>match L2.atI [g0,g1] k with | some g=>if ds.length=m then g ds else ah | none=>ah) Q:=w1
    obtain⟨g,hg⟩:=Uc.mp hok
    rw[hg] at w1
    unfold L2.atI at hg
    cases hj:An 2 k with
    |none=>
     have hg:(An 2 k).bind (fun j=>[g0,g1][j]?)=some g:=hg
     rw[hj] at hg
     cases hg
    |some j=>
     have hg:(An 2 k).bind (fun j=>[g0,g1][j]?)=some g:=hg
     rw[hj] at hg
     have Pq:∀v,[V.ref f0, .ref f1][j]? =some v->L2.atI [V.ref f0, .ref f1] k=some v:=fun v hv=>by
      show (An 2 k).bind (fun j=>[V.ref f0, .ref f1][j]?)=some v
      rw[hj]
      exact hv
     have hg:[g0,g1][j]? =some g:=hg
     match j,hg with
     |0,hg=>cases hg;exact⟨q,_,k, .ref f0,rfl,rfl,SqL.of IT,Pq _ rfl,F1,k0,g0,f0,QM,Se,E0.trans e1,rfl,b0,c0,d0,r0,w1⟩
     |1,hg=>cases hg;exact⟨q,_,k, .ref f1,rfl,rfl,SqL.of IT,Pq _ rfl,F1,k1,g1,f1,QN,Sf,E0.trans e1,rfl,b1,c1,d1,r1,w1⟩
     |n+2,hg=>cases hg
   ·cases hok
  ·exact w1.elim
 ·subst hv
  cases (show v=_ from r)
  refine WQ (h₀:=X.base) I1.ok.mod.kin hk (cJ (ha pos pins s1 σ H1 (fun vs H2=>Ci X.K cv m gg (vs++[]) H2 Q (EX cv Xw)) I1 ⟨F1,ρ,S.ext e1,WPL.mono (WP.bindL w1) fun vs H2 ⟨F2,ds,e2,q2,w2⟩=>?_⟩) fun us s2 ⟨vs,H2,I2,rr,q⟩=>⟨I2.kIn,?_⟩) he kf
  ·split at w2
   ·rename_i Dh
    exact⟨F2,ds,e2.fh,by simpa using q2,by rw[T9,<-q2.len];exact Dh,WP.xw w2 fun n H h=>⟨n,rfl,h⟩⟩
   ·exact w2.elim
  ·exact Ex hF hr hb .nil hx I2 rr q
def Fo(i:Nat)(δ:DE):DE:=fun ρ=>match zq ρ i with
 |some ds=>δ ρ>>=fun k=>bZ (.lst ds) k
 |none=>ah
def JL{x:Str}{i:Nat}{b:Expr}(hv:PE X (.Name x p) (vK i))(hb:PD X Xw b δ)(hs:gQ b:=by intro _ _;rfl):PD X Xw (.Subscript (.Name x p) b pos) (Fo i δ):=
 PE.weak (Ed oZ hv hb hs) fun σ H Q ⟨F,ρ,s,w⟩=>by
  unfold Fo at w
  cases hi:zq ρ i with
  |none=>rw[hi] at w;exact w.elim
  |some ds=>
   rw[hi] at w
   have ho:=sU hi
   obtain⟨u,hu,_⟩:=s.den i _ ho
   refine⟨u,hu,F,ρ,s,WP.mono (WP.bind w) fun y H1 ⟨F1,k,e1,q1,w1⟩=>?_⟩
   obtain⟨v,h3,a,o,rfl,h4,h5,vs,rfl,h6,h7⟩:=(s.ext e1).den i _ ho
   rw[h3] at hu
   cases hu
   unfold bZ at w1
   split at w1
   ·rename_i es j ee
    cases ee
    split at w1
    ·rename_i d e
     obtain⟨v,e2,q⟩:=h6.atI e
     exact⟨a,vs,j,v,rfl,q1,SqL.of h4,e2,WP.now w1 e1.fh q⟩
    ·exact w1.elim
   ·exact w1.elim
end
end L3
namespace L3
def O2(n:Nat)(δs:DA):DS:=fun ρ=>δs ρ>>=fun ds=>if ds.length<=lim then bz n else ah
end L3
namespace K1
open PySem PySem.Spec L2 L3
open PyProof.Rows hiding St
def KS:Nat->Nat
 |1=>1
 |2=>2
 |_=>0
def cB(cA:Nat->Addr)(n:Nat):Addr:=cA (KS n)
def tZ(cA:Nat->Addr):List Addr:=[cA 0,cA 1,cA 2]
def Hy(k:Nat):M D:=ae (.tup [.str "refused", .int ((KS k:Nat):Int)])
def zO:DS:=(a9 (dH (dA fX (aC (dV 0) (aC (dC (.raw (.ty "int"))) aN))) (Hm (dA fX (aC (dV 0) (aC (dC (.raw (.ty "bool"))) aN))))))
def bY:List D->M D:=cj 1 (zO)
def yn:DS:=(a9 (dH (dA fX (aC (dV 0) (aC (dC (.raw (.ty "str"))) aN))) (dH (d2 gE (dA bB (aC (dV 0) aN)) (dC (.int 1))) (d2 (CW false) (dV 0) (dC (.str "abcdef"))))))
def dI:List D->M D:=cj 1 (yn)
def yt:DS:=(a9 (d2 jw (d2 aZ (dV 0) (d2 aZ (dV 1) (dC (.int 0)))) (d2 aZ (dV 1) (dC (.int 1)))))
def cE:List D->M D:=cj 2 (yt)
def zM:DS:=(aA (bD 3 (dA Cm (aC (d2 q_ (d2 aZ (dV 0) (dC (.int 0))) (d2 aZ (dV 1) (dC (.int 0)))) aN))) (aA (bD 4 (dA Cm (aC (d2 q_ (d2 aZ (dV 0) (dC (.int 1))) (d2 aZ (dV 1) (dC (.int 1)))) aN))) (aA (el (bH (d2 gE (dV 2) (dC (.int 4)))) (a9 (d2 gE (d2 d8 (dV 3) (dV 4)) (dC (.int 1)))) bS) (a9 (d2 gE (dA zc (aC (dV 3) (aC (dV 4) aN))) (dC (.int 1)))))))
def c_:List D->M D:=cj 5 (zM)
def Hh:DS:=(aA (Ez 1) (aA (fun ρ=>noex ((dj (putN 2) (IZ (cQ (dV 0)) (fun ρ=>(dV 0) ρ>>=jB)) (bW [2] (g7 1 (dV 2) (dC (.bl true))))) ρ)) (vZ 1 (a9 (dV 1)))))
def oW:List D->M D:=cj 3 (Hh)
def qT:DS:=(aA (el (bH (d2 gE (dV 0) (dA aX aN))) (a9 (d2 ib (dC (.int 7)) (dV 1))) bS) (a9 (d2 d8 (d2 CY (dV 0) (d2 lL (dV 1) (dA bB (aC (dV 0) aN)))) (d2 ib (dC (.int 6553)) (d2 qZ (dV 1) (dA bB (aC (dV 0) aN)))))))
def gD:List D->M D:=cj 2 (qT)
def yo:DS:=(aA (el (fS (bV (bE (dA fX (aC (dV 0) (aC (dC (.raw (.ty "str"))) aN))))) (bV (bH (qX (fun i j=>decide (i<=j)) (fun i j=>decide (i<=j)) (dC (.int 1)) (dA bB (aC (dV 0) aN)) (dC (.int 8)))))) (a9 (dC (.bl false))) bS) (a9 (dA allM (aC (bA 0 (fun ρ=>(dV 0) ρ>>=Kk) cw (aw 1 dI (aC (dV 0) aN))) aN))))
def gB:List D->M D:=cj 1 (yo)
def tP:DS:=(aA (el (fS (bV (bE (dA fX (aC (dV 1) (aC (dC (.raw (.ty "tuple"))) aN))))) (bH (d2 gw (dA bB (aC (dV 1) aN)) (dC (.int 2))))) (a9 (dC (.bl false))) bS) (aA (el (fS (bV (bE (aw 1 bY (aC (d2 aZ (dV 1) (dC (.int 0))) aN)))) (bV (bE (aw 1 bY (aC (d2 aZ (dV 1) (dC (.int 1))) aN))))) (a9 (dC (.bl false))) bS) (a9 (dH (qX (fun i j=>decide (i<=j)) (fun i j=>decide (i<j)) (dC (.int 0)) (d2 aZ (dV 1) (dC (.int 0))) (dA bB (aC (dV 0) aN))) (qX (fun i j=>decide (i<=j)) (fun i j=>decide (i<j)) (dC (.int 0)) (d2 aZ (dV 1) (dC (.int 1))) (dA bB (aC (d2 aZ (dV 0) (dC (.int 0))) aN)))))))
def fi:List D->M D:=cj 2 (tP)
def yw:DS:=(el (fS (bV (bE (aw 1 bY (aC (dV 0) aN)))) (bH (d2 (FA true) (dV 0) (dA bc (aC (dC (.int 4)) (aC (dC (.int 8)) aN)))))) (O2 1 (aC (dC (.str "ways are 4 or 8")) aN)) bS)
def dN:List D->M D:=cj 1 (yw)
def vU:DS:=(aA (x_ 3) (aA (fun ρ=>noex ((dj (putN 4) (fun ρ=>(aC (dA zc (aC (d2 q_ (d2 aZ (dV 1) (dC (.int 0))) (dC (.int 1))) (aC (dC (.int 0)) aN))) (aC (dA BC (aC (d2 d8 (d2 aZ (dV 1) (dC (.int 0))) (dC (.int 2))) (aC (dA bB (aC (dV 0) aN)) aN))) aN)) ρ>>=qH) (bW [4,5] (dj (putN 5) (fun ρ=>(aC (dA zc (aC (d2 q_ (d2 aZ (dV 1) (dC (.int 1))) (dC (.int 1))) (aC (dC (.int 0)) aN))) (aC (dA BC (aC (d2 d8 (d2 aZ (dV 1) (dC (.int 1))) (dC (.int 2))) (aC (dA bB (aC (d2 aZ (dV 0) (dC (.int 0))) aN)) aN))) aN)) ρ>>=qH) (bW [5] (el (bE (aw 3 c_ (aC (dV 1) (aC (dA bc (aC (dV 4) (aC (dV 5) aN))) (aC (dV 2) aN))))) (fQ 3 (dA bc (aC (dV 4) (aC (dV 5) aN)))) bS))))) ρ)) (vZ 3 (a9 (dV 3)))))
def dU:List D->M D:=cj 6 (vU)
def ot:DS:=(aA (bD 3 (d2 lL (d2 d8 (d2 ib (d2 lL (aw 2 gD (aC (dV 0) (aC (dV 1) aN))) (dC (.int 2147483563))) (dC (.int 69069))) (d2 ib (dC (.int 104723)) (d2 d8 (dV 1) (dC (.int 1))))) (dC (.int 2147483563)))) (aA (bD 3 (d2 lL (d2 d8 (d2 ib (dV 3) (dV 3)) (d2 qZ (dV 3) (dC (.int 3)))) (dC (.int 2147483399)))) (a9 (d2 lL (d2 qZ (d2 lL (d2 d8 (d2 ib (dV 3) (dV 3)) (d2 qZ (dV 3) (dC (.int 7)))) (dC (.int 2147483647))) (dC (.int 11))) (dV 2)))))
def aF:List D->M D:=cj 4 (ot)
def qS:DS:=(aA (el (fS (bV (bE (dA fX (aC (dV 0) (aC (dC (.raw (.ty "tuple"))) aN))))) (bV (bH (qX (fun i j=>decide (i<=j)) (fun i j=>decide (i<=j)) (dC (.int 1)) (dA bB (aC (dV 0) aN)) (dC (.int 8)))))) (a9 (dC (.bl false))) bS) (aA (el (bV (bE (dA allM (aC (bA 0 (oK (dV 0)) cw (aw 1 gB (aC (dV 0) aN))) aN)))) (a9 (dC (.bl false))) bS) (a9 (dA allM (aC (bA 0 (oK (dV 0)) cw (d2 gE (dA bB (aC (dV 0) aN)) (dA bB (aC (d2 aZ (dV 1) (dC (.int 0))) aN)))) aN)))))
def iU:List D->M D:=cj 1 (qS)
def lC:DS:=(a9 (dH (dA fX (aC (dV 1) (aC (dC (.raw (.ty "list"))) aN))) (dA allM (aC (bA 0 (cQ (dV 1)) cw (aw 2 fi (aC (dV 1) (aC (dV 0) aN)))) aN))))
def bb:List D->M D:=cj 2 (lC)
def yu:DS:=(el (bV (bE (aw 2 fi (aC (dV 0) (aC (dV 1) aN))))) (O2 2 (aC (dC (.str "a tuple (row, column) on the board is asked for")) aN)) bS)
def eE:List D->M D:=cj 2 (yu)
def vS:DS:=(aA (bD 3 (aw 2 cE (aC (dV 0) (aC (dV 1) aN)))) (a9 (bA 0 (cQ (aw 3 dU (aC (dV 0) (aC (dV 1) (aC (dV 2) aN))))) (bH (d2 gE (aw 2 cE (aC (dV 1) (aC (dV 0) aN))) (dV 4))) (dV 0))))
def bp:List D->M D:=cj 4 (vS)
def yp:DS:=(aA (bD 3 (d2 d8 (dC (.int 1)) (aw 3 aF (aC (dV 0) (aC (dV 1) (aC (dV 2) aN)))))) (aA (bD 4 (d2 d8 (dC (.int 1)) (aw 3 aF (aC (dV 0) (aC (d2 d8 (dV 1) (dC (.int 1))) (aC (dV 2) aN)))))) (aA (bD 5 (d2 bZ (dA aX (aC (dC (.str "ab")) (aC (dC (.str "abc")) (aC (dC (.str "aab")) (aC (dC (.str "fa")) aN))))) (aw 3 aF (aC (dV 0) (aC (d2 d8 (dV 1) (dC (.int 2))) (aC (dC (.int 4)) aN)))))) (aA (bD 6 (dA bc aN)) (aA (fun ρ=>noex ((dj (putN 7) (fun ρ=>(aC (dV 3) aN) ρ>>=jl) (bW [7,8] (aA (bD 8 (bA 0 (fun ρ=>(aC (dV 4) aN) ρ>>=jl) cw (d2 jw (dV 6) (aw 3 aF (aC (dV 1) (aC (d2 d8 (d2 d8 (d2 d8 (dV 2) (dC (.int 3))) (d2 ib (dC (.int 7)) (dV 8))) (dV 0)) (aC (dA bB (aC (dV 6) aN)) aN))))))) (bD 6 (d2 wO (dV 6) (dA bc (aC (dM L5 joinM (dC (.str "")) (aC (dV 8) aN)) aN))))))) ρ)) (a9 (dV 6)))))))
def dJ:List D->M D:=cj 9 (yp)
def vT:DS:=(el (bV (bE (aw 1 iU (aC (dV 0) aN)))) (O2 0 (aC (dC (.str "a tuple of 1 to 8 texts of 1 to 8 letters, all as long, is asked for")) aN)) bS)
def dS:List D->M D:=cj 1 (vT)
def vV:DS:=(aA (jP 3 (fun ρ=>(dV 1) ρ>>=fun x=>(dC .non) ρ>>=fun y=>sf x y)) (aA (bD 4 (dA aX (aC (dV 1) aN))) (aA (fun ρ=>noex ((lr (bE (dV 4)) (bW [5,6,7] (aA (x_ 5) (aA (dj (putN 6) (cQ (dV 4)) (bW [6,7] (dj (putN 7) (cQ (aw 3 bp (aC (dV 0) (aC (dV 6) (aC (dV 2) aN))))) (bW [7] (el (qN (bH (d2 (h9 true) (dV 7) (dV 3)))) (aA (g7 3 (dV 7) (dV 6)) (fQ 5 (dV 7))) bS))))) (vZ 5 (bD 4 (dV 5))))))) ρ)) (vZ 3 (a9 (dV 3))))))
def dW:List D->M D:=cj 8 (vV)
def nz:DS:=(aA (mw (aw 1 dS (aC (dV 0) aN))) (aA (mw (aw 1 dN (aC (dV 1) aN))) (aA (mw (aw 2 eE (aC (dV 0) (aC (dV 2) aN)))) (mw (aw 2 eE (aC (dV 0) (aC (dV 3) aN)))))))
def aQ:List D->M D:=cj 4 (nz)
def Ca:DS:=(aA (mw (aw 4 aQ (aC (dV 0) (aC (dV 1) (aC (dV 2) (aC (dV 3) aN)))))) (a9 (d2 (h9 false) (dV 3) (aw 3 dW (aC (dV 0) (aC (dV 2) (aC (dV 1) aN)))))))
def dR:List D->M D:=cj 4 (Ca)
def Ic:DS:=(aA (mw (aw 4 aQ (aC (dV 0) (aC (dV 1) (aC (dV 2) (aC (dV 3) aN)))))) (aA (bD 4 (aw 3 dW (aC (dV 0) (aC (dV 3) (aC (dV 1) aN))))) (aA (el (bH (d2 (h9 true) (dV 2) (dV 4))) (a9 (dC .non)) bS) (aA (jP 5 (fun ρ=>(aC (dV 2) aN) ρ>>=Js)) (aA (fun ρ=>noex ((lr (qN (bH (d2 gw (d2 bZ (dV 5) (d1 d_ (dC (.int 1)))) (dV 3)))) (fQ 5 (EZ (d2 eA (dV 4) (d2 bZ (dV 5) (d1 d_ (dC (.int 1)))))))) ρ)) (vZ 5 (a9 (dV 5))))))))
def kB:List D->M D:=cj 6 (Ic)
def EY:DS:=(aA (mw (aw 4 aQ (aC (dV 0) (aC (dV 1) (aC (dV 2) (aC (dV 3) aN)))))) (aA (el (fS (bV (bE (aw 2 bb (aC (dV 0) (aC (dV 4) aN))))) (bH (d2 gE (dA bB (aC (dV 4) aN)) (dC (.int 0))))) (a9 (dC (.bl false))) bS) (aA (el (fS (bH (d2 gw (d2 bZ (dV 4) (dC (.int 0))) (dV 2))) (bH (d2 gw (d2 bZ (dV 4) (d1 d_ (dC (.int 1)))) (dV 3)))) (a9 (dC (.bl false))) bS) (aA (bD 5 (aw 2 cE (aC (dV 0) (aC (dV 2) aN)))) (aA (el (bV (bE (dA allM (aC (bA 0 (cQ (dV 4)) cw (d2 gE (aw 2 cE (aC (dV 1) (aC (dV 0) aN))) (dV 6))) aN)))) (a9 (dC (.bl false))) bS) (a9 (dA allM (aC (bA 0 (fun ρ=>(aC (dC (.int 1)) (aC (dA bB (aC (dV 4) aN)) aN)) ρ>>=qH) cw (aw 3 c_ (aC (d2 bZ (dV 5) (d2 q_ (dV 0) (dC (.int 1)))) (aC (d2 bZ (dV 5) (dV 0)) (aC (dV 2) aN))))) aN))))))))
def eM:List D->M D:=cj 6 (EY)
def zN:DS:=(aA (mw (aw 4 aQ (aC (dV 0) (aC (dV 1) (aC (dV 2) (aC (dV 3) aN)))))) (aA (el (bV (bE (aw 2 bb (aC (dV 0) (aC (dV 4) aN))))) (a9 (dC (.bl false))) bS) (aA (bD 5 (aw 1 oW (aC (dV 4) aN))) (aA (el (fS (bH (d2 (h9 true) (dV 2) (dV 5))) (bH (d2 (h9 false) (dV 3) (dV 5)))) (a9 (dC (.bl false))) bS) (aA (fun ρ=>noex ((dj (putN 6) (fun ρ=>(dV 5) ρ>>=jB) (bW [6] (el (bV (bE (dA allM (aC (bA 0 (cQ (aw 3 bp (aC (dV 0) (aC (dV 6) (aC (dV 1) aN))))) cw (d2 (h9 false) (dV 0) (dV 6))) aN)))) (a9 (dC (.bl false))) bS))) ρ)) (a9 (dC (.bl true))))))))
def da:List D->M D:=cj 7 (zN)
def yq:DS:=(aA (bD 1 (dA aX aN)) (aA (fun ρ=>noex ((dj (putN 2) (fun ρ=>(aC (dA bB (aC (dV 0) aN)) aN) ρ>>=jl) (bW [2] (bD 1 (d2 cY (dV 1) (bA 0 (fun ρ=>(aC (dA bB (aC (d2 aZ (dV 0) (dC (.int 0))) aN)) aN) ρ>>=jl) cw (dA bc (aC (dV 3) (aC (dV 0) aN)))))))) ρ)) (a9 (dV 1))))
def bM:List D->M D:=cj 3 (yq)
def vP:DS:=(aA (x_ 3) (aA (fun ρ=>noex ((dj (putN 4) (oK (dA bc (aC (d1 d_ (dC (.int 1))) (aC (dC (.int 0)) (aC (dC (.int 1)) aN))))) (bW [4,5,6,7,8] (dj (putN 5) (oK (dA bc (aC (d1 d_ (dC (.int 1))) (aC (dC (.int 0)) (aC (dC (.int 1)) aN))))) (bW [5,6,7,8] (aA (bD 6 (d2 d8 (d2 aZ (dV 1) (dC (.int 0))) (dV 4))) (aA (bD 7 (d2 d8 (d2 aZ (dV 1) (dC (.int 1))) (dV 5))) (aA (bD 8 (dH (qX (fun i j=>decide (i<=j)) (fun i j=>decide (i<j)) (dC (.int 0)) (dV 6) (dA bB (aC (dV 0) aN))) (qX (fun i j=>decide (i<=j)) (fun i j=>decide (i<j)) (dC (.int 0)) (dV 7) (dA bB (aC (d2 aZ (dV 0) (dC (.int 0))) aN))))) (el (gA (bE (dV 8)) (gA (bH (d2 gw (dA bc (aC (dV 4) (aC (dV 5) aN))) (dA bc (aC (dC (.int 0)) (aC (dC (.int 0)) aN))))) (fS (bH (d2 gE (dV 2) (dC (.int 8)))) (bH (d2 gE (d2 ib (dV 4) (dV 5)) (dC (.int 0))))))) (fQ 3 (dA bc (aC (dV 6) (aC (dV 7) aN)))) bS)))))))) ρ)) (vZ 3 (a9 (dV 3)))))
def a7:List D->M D:=cj 9 (vP)
def fJ(K:Tc)(cA:Nat->Addr):DS:=(aA (bD 1 (dA aX (aC (dA (mQ K (tZ cA)) (aC (dV 0) (aC (dC (.raw (.ref (cA 0)))) aN))) (aC (dA (mQ K (tZ cA)) (aC (dV 0) (aC (dC (.raw (.ref (cA 1)))) aN))) (aC (dA (mQ K (tZ cA)) (aC (dV 0) (aC (dC (.raw (.ref (cA 2)))) aN))) aN))))) (aA (bD 1 (d2 cY (dV 1) (dA aX (aC (dA (mQ K (tZ cA)) (aC (dV 0) (aC (dC (.raw (.ref (cA 3)))) aN))) (aC (dA (mQ K (tZ cA)) (aC (dV 0) (aC (dC (.raw (.ref (cA 4)))) aN))) (aC (dA (mQ K (tZ cA)) (aC (dV 0) (aC (dC (.raw (.ref (cA 5)))) aN))) aN)))))) (aA (bD 1 (d2 cY (dV 1) (dA aX (aC (dA (mQ K (tZ cA)) (aC (dV 0) (aC (dC (.raw (.ref (cA 6)))) aN))) aN)))) (aA (el (fS (bH (d2 gw (dM nL A6 (dV 1) (aC (dC (.bl true)) aN)) (dC (.int 1)))) (bV (bE (dA (mQ K (tZ cA)) (aC (dV 0) (aC (dC (.raw (.ty "ValueError"))) aN)))))) (a9 (dA bc (aC (dC (.str "refused")) (aC (d1 d_ (dC (.int 1))) aN)))) bS) (a9 (dA bc (aC (dC (.str "refused")) (aC (dM nL I_ (dV 1) (aC (dC (.bl true)) aN)) aN))))))))
def b7(K:Tc)(cA:Nat->Addr):List D->M D:=cj 2 (fJ K cA)
def zQ:DS:=(a9 (d2 jw (d2 aZ (dV 0) (d2 aZ (dV 1) (dC (.int 0)))) (d2 aZ (dV 1) (dC (.int 1)))))
def aY:List D->M D:=cj 2 (zQ)
def vR:DS:=(aA (jP 2 (fun ρ=>(aC (bA 0 (cQ (aw 1 bM (aC (dV 0) aN))) cw (dA bc (aC (dV 0) (aC (dV 0) aN)))) aN) ρ>>=z8)) (aA (x_ 3) (aA (fun ρ=>noex ((dj (putN 4) (cQ (aw 1 bM (aC (dV 0) aN))) (bW [4,5,6] (dj (putN 5) (cQ (aw 3 a7 (aC (dV 0) (aC (dV 4) (aC (dV 1) aN))))) (bW [5,6] (aA (bD 6 (d2 jw (d2 aZ (dV 0) (d2 aZ (dV 4) (dC (.int 0)))) (d2 aZ (dV 4) (dC (.int 1))))) (el (gA (bH (d2 wQ (dV 4) (dV 5))) (bH (d2 gE (dV 6) (d2 jw (d2 aZ (dV 0) (d2 aZ (dV 5) (dC (.int 0)))) (d2 aZ (dV 5) (dC (.int 1))))))) (fQ 3 (dA bc (aC (dV 4) (aC (dV 5) aN)))) bS)))))) ρ)) (aA (bD 7 (dC (.bl true))) (aA (fun ρ=>noex ((lr (bE (dV 7)) (bW [8,9,10] (aA (bD 7 (dC (.bl false))) (vZ 3 (dj (xR [8,9]) (cQ (dV 3)) (bW [8,9,10] (el (qN (bH (d2 gw (d2 eA (dV 2) (dV 8)) (d2 eA (dV 2) (dV 9))))) (aA (bD 10 (EZ (dA sN (aC (d2 eA (dV 2) (dV 8)) (aC (d2 eA (dV 2) (dV 9)) aN))))) (aA (g7 2 (dV 8) (dV 10)) (aA (g7 2 (dV 9) (dV 10)) (bD 7 (dC (.bl true)))))) bS))))))) ρ)) (vZ 2 (a9 (dV 2))))))))
def gb:List D->M D:=cj 11 (vR)
def rO:DS:=(aA (bD 2 (aw 2 gb (aC (dV 0) (aC (dV 1) aN)))) (aA (Ez 3) (aA (fun ρ=>noex ((dj (putN 4) (cQ (aw 1 bM (aC (dV 0) aN))) (bW [4] (g7 3 (d2 eA (dV 2) (dV 4)) (Kx (d2 cY (pC (dV 3) (d2 eA (dV 2) (dV 4)) (dA aX aN)) (dA aX (aC (dV 4) aN))))))) ρ)) (vZ 3 (a9 (bA 0 (cQ (dA AO (aC (dV 3) aN))) cw (d2 eA (dV 4) (dV 0))))))))
def cC:List D->M D:=cj 5 (rO)
def tQ:DS:=(aA (jP 4 (fun ρ=>(aC (dA aX (aC (dV 2) aN)) aN) ρ>>=Js)) (aA (jP 5 (fun ρ=>(aC (dV 2) aN) ρ>>=Js)) (aA (fun ρ=>noex ((lr (qN (bH (d2 gw (d2 bZ (dV 4) (d1 d_ (dC (.int 1)))) (dA aX aN)))) (bW [6,7,8] (aA (el (qN (bH (d2 (gF false) (dV 3) (d2 bZ (dV 4) (d1 d_ (dC (.int 1))))))) (vZ 4 (a9 (dA bB (aC (dV 4) aN)))) bS) (aA (x_ 6) (aA (dj (putN 7) (cQ (Fo 4 (d1 d_ (dC (.int 1))))) (bW [7,8] (dj (putN 8) (cQ (aw 3 a7 (aC (dV 0) (aC (dV 7) (aC (dV 1) aN))))) (bW [8] (el (qN (gA (bH (d2 (gF true) (dV 8) (dV 5))) (bH (d2 gE (aw 2 aY (aC (dV 0) (aC (dV 8) aN))) (aw 2 aY (aC (dV 0) (aC (dV 2) aN))))))) (aA (fQ 5 (dV 8)) (fQ 6 (dV 8))) bS))))) (vZ 6 (fQ 4 (dV 6)))))))) ρ)) (a9 (dC .non)))))
def eD:List D->M D:=cj 9 (tQ)
def zP:DS:=(aA (el (fS (bV (bE (dA fX (aC (dV 1) (aC (dC (.raw (.ty "list"))) aN))))) (bH (d2 gE (dV 1) (dA aX aN)))) (a9 (dC (.bl false))) bS) (aA (bD 2 (aw 1 bM (aC (dV 0) aN))) (aA (fun ρ=>noex ((dj (putN 3) (cQ (dV 1)) (bW [3] (el (fS (bV (bE (dA fX (aC (dV 3) (aC (dC (.raw (.ty "tuple"))) aN))))) (fS (bH (d2 (Bd true) (dV 3) (dV 2))) (bE (dA fX (aC (d2 aZ (dV 3) (dC (.int 0))) (aC (dC (.raw (.ty "bool"))) aN)))))) (a9 (dC (.bl false))) bS))) ρ)) (a9 (dC (.bl true))))))
def cp:List D->M D:=cj 4 (zP)
def vQ:DS:=(aA (el (fS (bV (bE (aw 2 cp (aC (dV 0) (aC (dV 4) aN))))) (fS (bH (d2 gw (d2 bZ (dV 4) (dC (.int 0))) (dV 2))) (bH (d2 gw (d2 bZ (dV 4) (d1 d_ (dC (.int 1)))) (dV 3))))) (a9 (dC (.bl false))) bS) (aA (el (bH (d2 gw (bA 0 (cQ (dV 4)) (bH (d2 gw (aw 2 aY (aC (dV 1) (aC (dV 0) aN))) (aw 2 aY (aC (dV 1) (aC (dV 3) aN))))) (dV 0)) (dA aX aN))) (a9 (dC (.bl false))) bS) (a9 (d2 gE (bA 2 (fun ρ=>(aC (dV 4) (aC (Fp (dV 4) (oS (dC (.int 1))) oN) aN)) ρ>>=B_) (bH (d2 (gF true) (dV 1) (aw 3 a7 (aC (dV 2) (aC (dV 0) (aC (dV 3) aN)))))) (dV 0)) (dA aX aN)))))
def b6:List D->M D:=cj 5 (vQ)
def yr:DS:=(aA (el (fS (bV (bE (aw 2 cp (aC (dV 0) (aC (dV 4) aN))))) (fS (bH (d2 (gF true) (dV 2) (dV 4))) (bH (d2 (gF false) (dV 3) (dV 4))))) (a9 (dC (.bl false))) bS) (aA (fun ρ=>noex ((dj (putN 5) (cQ (dV 4)) (bW [5,6] (dj (putN 6) (cQ (aw 3 a7 (aC (dV 0) (aC (dV 5) (aC (dV 1) aN))))) (bW [6] (el (gA (bH (d2 (gF true) (dV 6) (dV 4))) (bH (d2 gE (aw 2 aY (aC (dV 0) (aC (dV 6) aN))) (aw 2 aY (aC (dV 0) (aC (dV 5) aN)))))) (a9 (dC (.bl false))) bS))))) ρ)) (a9 (dC (.bl true)))))
def c7:List D->M D:=cj 7 (yr)
def rP:DS:=(EA (aA (el (bH (d2 PB (dV 0) (dC (.int 2)))) (a9 (CH [dR,kB] 4 (dV 0) (aC (dV 1) (aC (dV 2) (aC (dV 3) (aC (dV 4) aN)))))) bS) (a9 (CH [eM,da] 5 (d2 q_ (dV 0) (dC (.int 2))) (aC (dV 1) (aC (dV 2) (aC (dV 3) (aC (dV 4) (aC (dV 5) aN)))))))) fun k=>noex (Hy k))
def aG:List D->M D:=cj 7 (rP)
def ny:DS:=(aA (fun ρ=>noex ((dj (putN 5) (fun ρ=>(aC (dC (.int 4)) aN) ρ>>=jl) (bW [5,6] (aA (jP 6 (fun ρ=>(aC (aw 6 aG (aC (dV 5) (aC (dV 0) (aC (dV 1) (aC (dV 2) (aC (dV 3) (aC (dC .non) aN))))))) (aC (aw 6 aG (aC (dV 5) (aC (dV 0) (aC (dV 1) (aC (dV 3) (aC (dV 2) (aC (dC .non) aN))))))) aN)) ρ>>=Js)) (aA (fQ 6 (aw 6 aG (aC (dV 5) (aC (dV 0) (aC (dV 4) (aC (dV 3) (aC (dV 2) (aC (dC .non) aN)))))))) (aA (fQ 6 (aw 6 aG (aC (dV 5) (aC (dA Ar (aC (dV 0) aN)) (aC (dV 4) (aC (dV 3) (aC (dV 2) (aC (dC .non) aN)))))))) (el (qN (bH (d2 gw (dV 6) (dA aX (aC (dA bc (aC (dC (.str "refused")) (aC (dC (.int 2)) aN))) (aC (dA bc (aC (dC (.str "refused")) (aC (dC (.int 2)) aN))) (aC (dA bc (aC (dC (.str "refused")) (aC (dC (.int 1)) aN))) (aC (dA bc (aC (dC (.str "refused")) (aC (dC (.int 0)) aN))) aN)))))))) (a9 (dC (.bl false))) bS)))))) ρ)) (a9 (dC (.bl true))))
def cX:List D->M D:=cj 7 (ny)
def ou:DS:=(bD 1 (aw 3 dJ (aC (dV 0) (aC (dC (.int 0)) (aC (dC (.int 4)) aN)))))
def oy:DS:=(bD 2 (aw 1 bM (aC (dV 1) aN)))
def oz:DS:=(bD 3 (d2 bZ (dV 2) (aw 3 aF (aC (dV 0) (aC (dC (.int 50)) (aC (dA bB (aC (dV 2) aN)) aN))))))
def oA:DS:=(bD 4 (d2 bZ (dV 2) (aw 3 aF (aC (dV 0) (aC (dC (.int 51)) (aC (dA bB (aC (dV 2) aN)) aN))))))
def oB:DS:=(bD 5 (d2 bZ (dA aX (aC (dC (.int 4)) (aC (dC (.int 8)) aN))) (aw 3 aF (aC (dV 0) (aC (dC (.int 52)) (aC (dC (.int 2)) aN))))))
def oC:DS:=(bD 6 (aw 4 eD (aC (dV 1) (aC (dV 5) (aC (dV 3) (aC (dV 4) aN))))))
def oD:DS:=(bD 7 (aw 6 aG (aC (dC (.int 1)) (aC (dV 1) (aC (dV 5) (aC (dV 3) (aC (dV 4) (aC (dC .non) aN))))))))
def oE:DS:=(el (fS (bH (d2 gw (aw 6 aG (aC (dC (.int 0)) (aC (dV 1) (aC (dV 5) (aC (dV 3) (aC (dV 4) (aC (dC .non) aN))))))) (d2 (mP true) (dV 6) (dC .non)))) (bH (d2 gw (d2 (mP false) (dV 7) (dC .non)) (d2 (mP false) (dV 6) (dC .non))))) (a9 (dC (.bl false))) bS)
def oF:DS:=(el (gA (bH (d2 (mP true) (dV 7) (dC .non))) (bV (bE (aw 5 b6 (aC (dV 1) (aC (dV 5) (aC (dV 3) (aC (dV 4) (aC (dV 7) aN))))))))) (a9 (dC (.bl false))) bS)
def oG:DS:=(el (gA (bH (d2 (mP true) (dV 7) (dC .non))) (bH (d2 gw (dA bB (aC (dV 7) aN)) (dV 6)))) (a9 (dC (.bl false))) bS)
def jg:DS:=(bD 8 (d2 bZ (bA 0 (cQ (aw 2 cC (aC (dV 1) (aC (dV 5) aN)))) (bH (d2 (gF false) (dV 4) (dV 0))) (dV 0)) (dC (.int 0))))
def jh:DS:=(bD 9 (M7 (bH (d2 (mP true) (dV 7) (dC .non))) (dV 7) (dV 8)))
def ji:DS:=(bD 10 (aw 3 aF (aC (dV 0) (aC (dC (.int 53)) (aC (dA bB (aC (dV 9) aN)) aN)))))
def jj:DS:=(bD 11 (d2 bZ (dV 2) (aw 3 aF (aC (dV 0) (aC (dC (.int 54)) (aC (dA bB (aC (dV 2) aN)) aN))))))
def gp:DS:=(bD 12 (dA aX (aC (dV 9) (aC (sd (dV 9) (d1 d_ (dC (.int 1)))) (aC (d2 cY (Fp (dV 9) oN (oS (dV 10))) (Fp (dV 9) (oS (d2 d8 (dV 10) (dC (.int 1)))) oN)) (aC (d2 cY (d2 cY (Fp (dV 9) oN (oS (dV 10))) (dA aX (aC (dV 11) aN))) (Fp (dV 9) (oS (d2 d8 (dV 10) (dC (.int 1)))) oN)) (aC (d2 cY (d2 cY (Fp (dV 9) oN (oS (dV 10))) (dA aX (aC (dV 11) aN))) (Fp (dV 9) (oS (dV 10)) oN)) aN)))))))
def gq:DS:=(bD 12 (d2 cY (dV 12) (dA aX (aC (dV 8) (aC (d2 cY (dV 8) (dA aX (aC (dV 11) aN))) (aC (dV 2) (aC (dA aX (aC (dV 3) (aC (dV 4) aN))) (aC (dA aX (aC (dV 3) aN)) (aC (dA aX aN) (aC (dA ES (aC (dV 9) aN)) (aC (dC .non) (aC (dA aX (aC (dC .non) aN)) (aC (dA aX (aC (dV 3) (aC (dC (.int 1)) aN))) aN)))))))))))))
def gr:DS:=(bD 12 (d2 cY (dV 12) (dA aX (aC (dA aX (aC (dA Ar (aC (dV 3) aN)) aN)) (aC (d2 cY (dV 9) (dV 9)) (aC (d2 cY (dV 9) (sd (dV 9) (d1 d_ (dC (.int 1))))) (aC (dA aX (aC (dV 11) (aC (dV 3) aN))) (aC (d2 cY (dV 8) (dA aX (aC (dA bc (aC (dC (.bl true)) (aC (dC (.int 0)) aN))) aN))) (aC (d2 cY (dV 8) (dA aX (aC (dA bc (aC (dC (.int 9)) (aC (dC (.int 9)) aN))) aN))) aN)))))))))
def eZ:DS:=(fun ρ=>noex ((dj (putN 13) (cQ (dV 12)) (bW [13,14] (aA (bD 14 (dA aX (aC (aw 5 b6 (aC (dV 1) (aC (dV 5) (aC (dV 3) (aC (dV 4) (aC (dV 13) aN)))))) (aC (aw 5 c7 (aC (dV 1) (aC (dV 5) (aC (dV 3) (aC (dV 4) (aC (dV 13) aN)))))) aN)))) (el (bH (d2 gw (bA 0 (oK (dA bc (aC (dC (.int 2)) (aC (dC (.int 3)) aN)))) cw (aw 6 aG (aC (dV 0) (aC (dV 2) (aC (dV 6) (aC (dV 4) (aC (dV 5) (aC (dV 14) aN)))))))) (dV 14))) (a9 (dC (.bl false))) bS)))) ρ))
def e8:DS:=(bD 15 (d2 bZ (dA aX (aC (dA bc (aC (dA bB (aC (dV 1) aN)) (aC (dC (.int 0)) aN))) (aC (dA bc (aC (dC (.int 0)) (aC (d1 d_ (dC (.int 1))) aN))) (aC (dC .non) (aC (dA bc (aC (dC (.bl true)) (aC (dC (.int 0)) aN))) (aC (dA aX (aC (dC (.int 0)) (aC (dC (.int 0)) aN))) aN)))))) (aw 3 aF (aC (dV 0) (aC (dC (.int 55)) (aC (dC (.int 5)) aN))))))
def e9:DS:=(a9 (aw 5 cX (aC (dV 1) (aC (dV 5) (aC (dV 3) (aC (dV 15) (aC (d2 bZ (dA aX (aC (dC (.int 5)) (aC (dC .non) aN))) (aw 3 aF (aC (dV 0) (aC (dC (.int 56)) (aC (dC (.int 2)) aN))))) aN)))))))
def nv:DS:=(aA ou (aA oy (aA oz (aA oA (aA oB (aA oC (aA oD (aA oE (aA oF (aA oG (aA jg (aA jh (aA ji (aA jj (aA gp (aA gq (aA gr (aA eZ (aA e8 e9)))))))))))))))))))
def ke:List D->M D:=cj 16 nv
def NP:List Str:=["NoBoard","NoWays","NoCell","NoLetter","NoNumber","NoFit","Nothing"]
structure Bl (K:Tc) (mg:Str->Option Value) (base:Heap) (cv:Nat->Value) (cA:Nat->Addr) (Cp:Addr):Prop where
 len:mg "len"=none
 isinstance:mg "isinstance"=none
 all:mg "all"=none
 abs:mg "abs"=none
 max:mg "max"=none
 min:mg "min"=none
 range:mg "range"=none
 str:mg "str"=none
 int:mg "int"=none
 bool:mg "bool"=none
 tuple:mg "tuple"=none
 list:mg "list"=none
 dict:mg "dict"=none
 sorted:mg "sorted"=none
 zip:mg "zip"=none
 ValueError:mg "ValueError"=none
 LETTERS:∃t,mg "LETTERS"=some (.str "abcdef" t)
 MOST_ROWS:∃t,mg "MOST_ROWS"=some (.int 8 t)
 MOST_COLUMNS:∃t,mg "MOST_COLUMNS"=some (.int 8 t)
 cls:∀n x,NP[n]? =some x->mg x=some (.ref (cA n))
 own0:OwnCls "NoBoard" (cA 0) [.type "ValueError", .type "Exception", .type "BaseException", .type "object"] "ValueError.__new__" mg base
 own1:OwnCls "NoWays" (cA 1) [.type "ValueError", .type "Exception", .type "BaseException", .type "object"] "ValueError.__new__" mg base
 own2:OwnCls "NoCell" (cA 2) [.type "ValueError", .type "Exception", .type "BaseException", .type "object"] "ValueError.__new__" mg base
 cvE:∀n,cv n= .ref (cB cA n)
 top:mg "PatchError"=some (.ref Cp)
 exm:∀n,V3 K (cv n) (.ref Cp)=some true
 exs:∀C∈tZ cA,ExcC K C
 kit:∀n m,n∈[0,1,2]->m<7->Tp K (.ref (cA n)) (.ref (cA m))=some (decide (n=m))
 kitV:∀n,n∈[0,1,2]->Tp K (.ref (cA n)) (.type "ValueError")=some true
section
variable{P:TM}{w:World}{K:Tc}{mg:Str->Option Value}{base:Heap}{cv:Nat->Value}{cA:Nat->Addr}{Cp:Addr}{f:Addr}
abbrev lx:Stmt:=top 13
def p7:List Str:=["thing"]
def ql:List Str:=["thing"]
def yd:FnScope p7 ql (ai lx):=⟨rfl,rfl,rfl,by decide+kernel,rfl,by decide+kernel,by decide+kernel⟩
def xA(B:Bl K mg base cv cA Cp)(T:bU K mg "is_whole" lx f):av P w K mg base cv 1 "is_whole" 1 (bY):=
 aH (N:=p7) (ps:=ql) T yd (fun _ _ _ _ _ _ us hl=>match us,hl with | [_],_=>rfl) fun bo A outer s H E hr=>
  (au (aE (mY (ij rfl B.isinstance rfl (aa (af (pv 0)) (aa (jM rfl B.int rfl) ag))) (qw (JN (ij rfl B.isinstance rfl (aa (af (pv 0)) (aa (jM rfl B.bool rfl) ag))))))))
abbrev jQ:Stmt:=top 14
def nR:List Str:=["thing"]
def n8:List Str:=["thing"]
def vo:FnScope nR n8 (ai jQ):=⟨rfl,rfl,rfl,by decide+kernel,rfl,by decide+kernel,by decide+kernel⟩
def uP(B:Bl K mg base cv cA Cp)(T:bU K mg "is_letter" jQ f):av P w K mg base cv 1 "is_letter" 1 (dI):=
 aH (N:=nR) (ps:=n8) T vo (fun _ _ _ _ _ _ us hl=>match us,hl with | [_],_=>rfl) fun bo A outer s H E hr=>
  (au (aE (mY (ij rfl B.isinstance rfl (aa (af (pv 0)) (aa (jM rfl B.str rfl) ag))) (mY (s_ hr.units (cg rfl B.len (aa (af (pv 0)) ag)) aq) (qw (JK (af (pv 0)) (GA rfl B.LETTERS (by decide))))))))
abbrev jU:Stmt:=top 22
def nU:List Str:=["board","cell"]
def oi:List Str:=["board","cell"]
def vp:FnScope nU oi (ai jU):=⟨rfl,rfl,rfl,by decide+kernel,rfl,by decide+kernel,by decide+kernel⟩
def uU(B:Bl K mg base cv cA Cp)(T:bU K mg "letter_of" jU f):av P w K mg base cv 1 "letter_of" 2 (cE):=
 aH (N:=nU) (ps:=oi) T vp (fun _ _ _ _ _ _ us hl=>match us,hl with | [_,_],_=>rfl) fun bo A outer s H E hr=>
  (au (aE (qu (bI (af (pv 0)) (bI (af (pv 1)) aq)) (bI (af (pv 1)) aq))))
abbrev lu:Stmt:=top 23
def p6:List Str:=["one","other","ways","down","along"]
def qi:List Str:=["one","other","ways"]
def jX:FnScope p6 qi (ai lu):=⟨rfl,rfl,rfl,by decide+kernel,rfl,by decide+kernel,by decide+kernel⟩
def xu(B:Bl K mg base cv cA Cp)(T:bU K mg "are_next" lu f):av P w K mg base cv 1 "are_next" 3 (c_):=
 aH (N:=p6) (ps:=qi) T jX (fun _ _ _ _ _ _ us hl=>match us,hl with | [_,_,_],_=>rfl) fun bo A outer s H E hr=>
  (ao (aL jX.nd rfl (by first | exact .inl rfl | exact .inr rfl) (DZ rfl B.abs (aa (m6 (bI (af (pv 0)) aq) (bI (af (pv 1)) aq)) ag) rfl)) (ao (aL jX.nd rfl (by first | exact .inl rfl | exact .inr rfl) (DZ rfl B.abs (aa (m6 (bI (af (pv 0)) aq) (bI (af (pv 1)) aq)) ag) rfl)) (ao (bh (kI hr.units (af (pv 2)) aq) (au (aE (s_ hr.units (df (af (pv 3)) (af (pv 4))) aq))) aW) (au (aE (s_ hr.units (zt rfl rfl B.max rfl (aa (af (pv 3)) (aa (af (pv 4)) ag))) aq))))))
abbrev vn:Stmt:=top 25
def Au:List Str:=["things","found","thing"]
def Az:List Str:=["things"]
def qI:FnScope Au Az (ai vn):=⟨rfl,rfl,rfl,by decide+kernel,rfl,by decide+kernel,by decide+kernel⟩
def DQ(B:Bl K mg base cv cA Cp)(T:bU K mg "keyed" vn f):av P w K mg base cv 1 "keyed" 1 (oW):=
 aH (N:=Au) (ps:=Az) T qI (fun _ _ _ _ _ _ us hl=>match us,hl with | [_],_=>rfl) fun bo A outer s H E hr=>
  (ao (xO qI.nd rfl (by first | exact .inl rfl | exact .inr rfl)) (ao (cW (b_ TH rfl (GC (bJ (af (pv 0))) (xK (af (pv 0)))) (bu qI.nd rfl (by first | exact .inl rfl | exact .inr rfl)) bN (br (au (jN hr.units (pv 1) (af (pv 2)) ck))))) (au (eT (i:=1) (aE (af (pv 1)))))))
abbrev ly:Stmt:=top 35
def p8:List Str:=["_law_script","_law_k"]
def qm:List Str:=["_law_script","_law_k"]
def ye:FnScope p8 qm (ai ly):=⟨rfl,rfl,rfl,by decide+kernel,rfl,by decide+kernel,by decide+kernel⟩
def xB(B:Bl K mg base cv cA Cp)(T:bU K mg "_law_cell" ly f):av P w K mg base cv 1 "_law_cell" 2 (gD):=
 aH (N:=p8) (ps:=qm) T ye (fun _ _ _ _ _ _ us hl=>match us,hl with | [_,_],_=>rfl) fun bo A outer s H E hr=>
  (ao (bh (kI hr.units (af (pv 0)) (bw ag)) (au (aE (jL aq (af (pv 1))))) aW) (au (aE (df (JM (af (pv 0)) (mZ (af (pv 1)) (cg rfl B.len (aa (af (pv 0)) ag)))) (jL aq (va (af (pv 1)) (cg rfl B.len (aa (af (pv 0)) ag))))))))
abbrev g9:Stmt:=top 38
def gW:List Str:=["_law_board_here","_law_found","_law_row"]
def n_:List Str:=["_law_board_here"]
def gn:FnScope gW n_ (ai g9):=⟨rfl,rfl,rfl,by decide+kernel,rfl,by decide+kernel,by decide+kernel⟩
def uR(B:Bl K mg base cv cA Cp)(T:bU K mg "_law_cells" g9 f):av P w K mg base cv 1 "_law_cells" 1 (bM):=
 aH (N:=gW) (ps:=n_) T gn (fun _ _ _ _ _ _ us hl=>match us,hl with | [_],_=>rfl) fun bo A outer s H E hr=>
  (ao (aL gn.nd rfl (by first | exact .inl rfl | exact .inr rfl) (bw ag)) (ao (cW (b_ TH rfl (gL rfl B.range (aa (cg rfl B.len (aa (af (pv 0)) ag)) ag)) (bu gn.nd rfl (by first | exact .inl rfl | exact .inr rfl)) bN (br (au (aL gn.nd rfl (by first | exact .inl rfl | exact .inr rfl) (cV (af (pv 1)) (dg (tn:=["_law_column"]) (n:=0) (bT (N:=gW) (osc:=(ai g9)) rfl rfl (by decide+kernel)) rfl rfl (gL rfl B.range (aa (cg rfl B.len (aa (bI (af (pv 0)) aq) ag)) ag)) (fun _ _ _ _ _ _ _=>dq (show UC (((["_law_column"]:List Str))++dr ["_law_column"] gW) by decide+kernel) rfl rfl) (fun _ _ _ _ _ _=>du) (fun _ _ _ _ _ _=>(cu (aa (af (pv 3)) (aa (af (pv 0)) ag))))))))))) (au (aE (af (pv 1))))))
abbrev i_:Stmt:=top 39
def lX:List Str:=["_law_board_here","_law_cell_here","_law_ways","_law_found","_law_down","_law_right","_law_row","_law_column","_law_inside"]
def me:List Str:=["_law_board_here","_law_cell_here","_law_ways"]
def cR:FnScope lX me (ai i_):=⟨rfl,rfl,rfl,by decide+kernel,rfl,by decide+kernel,by decide+kernel⟩
def rk(B:Bl K mg base cv cA Cp)(T:bU K mg "_law_beside" i_ f):av P w K mg base cv 1 "_law_beside" 3 (a7):=
 aH (N:=lX) (ps:=me) T cR (fun _ _ _ _ _ _ us hl=>match us,hl with | [_,_,_],_=>rfl) fun bo A outer s H E hr=>
  (ao (mv cR.nd rfl (by first | exact .inl rfl | exact .inr rfl)) (ao (cW (b_ TH rfl (mq (cu (aa (fq aq) (aa aq (aa aq ag))))) (bu cR.nd rfl (by first | exact .inl rfl | exact .inr rfl)) bN (br (au (b_ TH rfl (mq (cu (aa (fq aq) (aa aq (aa aq ag))))) (bu cR.nd rfl (by first | exact .inl rfl | exact .inr rfl)) bN (br (ao (aL cR.nd rfl (by first | exact .inl rfl | exact .inr rfl) (df (bI (af (pv 1)) aq) (af (pv 4)))) (ao (aL cR.nd rfl (by first | exact .inl rfl | exact .inr rfl) (df (bI (af (pv 1)) aq) (af (pv 5)))) (ao (aL cR.nd rfl (by first | exact .inl rfl | exact .inr rfl) (mY (u_ n4 xE aq (af (pv 6)) (cg rfl B.len (aa (af (pv 0)) ag))) (qw (u_ n4 xE aq (af (pv 7)) (cg rfl B.len (aa (bI (af (pv 0)) aq) ag)))))) (au (bh (PDW.t (i7 (bO (af (pv 8))) (i7 (fP hr.units (cu (aa (af (pv 4)) (aa (af (pv 5)) ag))) (cu (aa aq (aa aq ag)))) (iG (PDW.t (dE (kI hr.units (af (pv 2)) aq) (di (kI hr.units (jL (af (pv 4)) (af (pv 5))) aq)))))))) (au (fF (pv 3) (cu (aa (af (pv 6)) (aa (af (pv 7)) ag))))) aW))))))))))) (au (eT (i:=3) (aE (af (pv 3)))))))
abbrev il:Stmt:=top 42
def kC:List Str:=["_law_e","_law_flags"]
def kG:List Str:=["_law_e"]
def eX:FnScope kC kG (ai il):=⟨rfl,rfl,rfl,by decide+kernel,rfl,by decide+kernel,by decide+kernel⟩
def qg(B:Bl K mg base cv cA Cp)(T:bU K mg "_law_refused" il f):oR P w K mg base cv 1 "_law_refused" 1 (b7 K cA):=
 yJ (N:=kC) (ps:=kG) T eX (fun _ _ _ _ _ _ us hl=>match us,hl with | [_],_=>rfl) fun bo A outer s H hr=>
  (ao (aL eX.nd rfl (by first | exact .inl rfl | exact .inr rfl) (bw (aa (jJ B.exs rfl B.isinstance rfl (aa (af (pv 0)) (aa (i6 rfl (B.cls 0 "NoBoard" rfl)) ag))) (aa (jJ B.exs rfl B.isinstance rfl (aa (af (pv 0)) (aa (i6 rfl (B.cls 1 "NoWays" rfl)) ag))) (aa (jJ B.exs rfl B.isinstance rfl (aa (af (pv 0)) (aa (i6 rfl (B.cls 2 "NoCell" rfl)) ag))) ag))))) (ao (aL eX.nd rfl (by first | exact .inl rfl | exact .inr rfl) (cV (af (pv 1)) (bw (aa (jJ B.exs rfl B.isinstance rfl (aa (af (pv 0)) (aa (i6 rfl (B.cls 3 "NoLetter" rfl)) ag))) (aa (jJ B.exs rfl B.isinstance rfl (aa (af (pv 0)) (aa (i6 rfl (B.cls 4 "NoNumber" rfl)) ag))) (aa (jJ B.exs rfl B.isinstance rfl (aa (af (pv 0)) (aa (i6 rfl (B.cls 5 "NoFit" rfl)) ag))) ag)))))) (ao (aL eX.nd rfl (by first | exact .inl rfl | exact .inr rfl) (cV (af (pv 1)) (bw (aa (jJ B.exs rfl B.isinstance rfl (aa (af (pv 0)) (aa (i6 rfl (B.cls 6 "Nothing" rfl)) ag))) ag)))) (ao (bh (PDW.t (dE (fP hr.units (JI (af (pv 1)) (aa ck ag)) aq) (di (b9 (bO (jJ B.exs rfl B.isinstance rfl (aa (af (pv 0)) (aa (jM rfl B.ValueError rfl) ag)))))))) (au (aE (cu (aa eS (aa (fq aq) ag))))) aW) (au (aE (cu (aa eS (aa (JJ (af (pv 1)) (aa ck ag)) ag)))))))))
abbrev lA:Stmt:=top 44
def p_:List Str:=["_law_board_here","_law_cell_here"]
def qp:List Str:=["_law_board_here","_law_cell_here"]
def yf:FnScope p_ qp (ai lA):=⟨rfl,rfl,rfl,by decide+kernel,rfl,by decide+kernel,by decide+kernel⟩
def xD(B:Bl K mg base cv cA Cp)(T:bU K mg "_law_sign" lA f):av P w K mg base cv 1 "_law_sign" 2 (aY):=
 aH (N:=p_) (ps:=qp) T yf (fun _ _ _ _ _ _ us hl=>match us,hl with | [_,_],_=>rfl) fun bo A outer s H E hr=>
  (au (aE (qu (bI (af (pv 0)) (bI (af (pv 1)) aq)) (bI (af (pv 1)) aq))))
abbrev my:Stmt:=top 15
def lW:List Str:=["thing"]
def xF:List Str:=["thing"]
def B0:FnScope lW xF (ai my):=⟨rfl,rfl,rfl,by decide+kernel,rfl,by decide+kernel,by decide+kernel⟩
def BI(B:Bl K mg base cv cA Cp)(wm:av P w K mg base cv 1 "is_letter" 1 dI)(T:bU K mg "is_row" my f):av P w K mg base cv 2 "is_row" 1 (gB):=
 aH (N:=lW) (ps:=xF) T B0 (fun _ _ _ _ _ _ us hl=>match us,hl with | [_],_=>rfl) fun bo A outer s H E hr=>
  (ao (bh (PDW.t (dE (b9 (bO (ij rfl B.isinstance rfl (aa (af (pv 0)) (aa (jM rfl B.str rfl) ag))))) (di (b9 (Ek n4 n4 aq (cg rfl B.len (aa (af (pv 0)) ag)) (AA rfl B.MOST_COLUMNS)))))) (au (aE ck)) aW) (au (aE (lj rfl rfl B.all rfl (aa (dg (tn:=["sign"]) (n:=0) (bT (N:=lW) (osc:=(ai my)) rfl rfl (by decide+kernel)) rfl rfl (GD (af (pv 0))) (fun _ _ _ _ _ _ _=>dq (show UC (((["sign"]:List Str))++dr ["sign"] lW) by decide+kernel) rfl rfl) (fun _ _ _ _ _ _=>du) (fun _ _ _ _ _ _=>(bq wm (hr.mono (by decide)) rfl cM (aa (af (pv 0)) ag) rfl))) ag)))))
abbrev nq:Stmt:=top 17
def sQ:List Str:=["board","thing"]
def sW:List Str:=["board","thing"]
def zy:FnScope sQ sW (ai nq):=⟨rfl,rfl,rfl,by decide+kernel,rfl,by decide+kernel,by decide+kernel⟩
def zk(B:Bl K mg base cv cA Cp)(iR:av P w K mg base cv 1 "is_whole" 1 bY)(T:bU K mg "is_cell" nq f):av P w K mg base cv 2 "is_cell" 2 (fi):=
 aH (N:=sQ) (ps:=sW) T zy (fun _ _ _ _ _ _ us hl=>match us,hl with | [_,_],_=>rfl) fun bo A outer s H E hr=>
  (ao (bh (PDW.t (dE (b9 (bO (ij rfl B.isinstance rfl (aa (af (pv 1)) (aa (jM rfl B.tuple rfl) ag))))) (di (fP hr.units (cg rfl B.len (aa (af (pv 1)) ag)) aq)))) (au (aE ck)) aW) (ao (bh (PDW.t (dE (b9 (bO (bq iR (hr.mono (by decide)) rfl bC (aa (bI (af (pv 1)) aq) ag) rfl))) (di (b9 (bO (bq iR (hr.mono (by decide)) rfl bC (aa (bI (af (pv 1)) aq) ag) rfl)))))) (au (aE ck)) aW) (au (aE (mY (u_ n4 xE aq (bI (af (pv 1)) aq) (cg rfl B.len (aa (af (pv 0)) ag))) (qw (u_ n4 xE aq (bI (af (pv 1)) aq) (cg rfl B.len (aa (bI (af (pv 0)) aq) ag)))))))))
abbrev jW:Stmt:=top 21
def nW:List Str:=["thing"]
def om:List Str:=["thing"]
def vv:FnScope nW om (ai jW):=⟨rfl,rfl,rfl,by decide+kernel,rfl,by decide+kernel,by decide+kernel⟩
def uW(B:Bl K mg base cv cA Cp)(iR:av P w K mg base cv 1 "is_whole" 1 bY)(T:bU K mg "need_ways" jW f):av P w K mg base cv 2 "need_ways" 1 (dN):=
 aH (N:=nW) (ps:=om) T vv (fun _ _ _ _ _ _ us hl=>match us,hl with | [_],_=>rfl) fun bo A outer s H E hr=>
  (au (bh (PDW.t (dE (b9 (bO (bq iR (hr.mono (by decide)) rfl bC (aa (af (pv 0)) ag) rfl))) (di (BX (af (pv 0)) (cu (aa aq (aa aq ag))))))) (au (m8 B.own1 V2 rfl rfl (B.cvE 1) Dz (aa eS ag))) aW))
abbrev jb:Stmt:=top 24
def lZ:List Str:=["board","cell","ways","found","row","column"]
def ml:List Str:=["board","cell","ways"]
def fI:FnScope lZ ml (ai jb):=⟨rfl,rfl,rfl,by decide+kernel,rfl,by decide+kernel,by decide+kernel⟩
def rp(B:Bl K mg base cv cA Cp)(kN:av P w K mg base cv 1 "are_next" 3 c_)(T:bU K mg "next_cells" jb f):av P w K mg base cv 2 "next_cells" 3 (dU):=
 aH (N:=lZ) (ps:=ml) T fI (fun _ _ _ _ _ _ us hl=>match us,hl with | [_,_,_],_=>rfl) fun bo A outer s H E hr=>
  (ao (mv fI.nd rfl (by first | exact .inl rfl | exact .inr rfl)) (ao (cW (b_ TH rfl (ll rfl B.range (aa (zt rfl rfl B.max rfl (aa (m6 (bI (af (pv 1)) aq) aq) (aa aq ag))) (aa (D4 rfl rfl B.min rfl (aa (df (bI (af (pv 1)) aq) aq) (aa (cg rfl B.len (aa (af (pv 0)) ag)) ag))) ag))) (bu fI.nd rfl (by first | exact .inl rfl | exact .inr rfl)) bN (br (au (b_ TH rfl (ll rfl B.range (aa (zt rfl rfl B.max rfl (aa (m6 (bI (af (pv 1)) aq) aq) (aa aq ag))) (aa (D4 rfl rfl B.min rfl (aa (df (bI (af (pv 1)) aq) aq) (aa (cg rfl B.len (aa (bI (af (pv 0)) aq) ag)) ag))) ag))) (bu fI.nd rfl (by first | exact .inl rfl | exact .inr rfl)) bN (br (au (bh (bO (bq kN (hr.mono (by decide)) rfl cM (aa (af (pv 1)) (aa (cu (aa (af (pv 4)) (aa (af (pv 5)) ag))) (aa (af (pv 2)) ag))) rfl)) (au (fF (pv 3) (cu (aa (af (pv 4)) (aa (af (pv 5)) ag))))) aW)))))))) (au (eT (i:=3) (aE (af (pv 3)))))))
abbrev jS:Stmt:=top 36
def nS:List Str:=["_law_script","_law_k","_law_many","_law_cell_here"]
def og:List Str:=["_law_script","_law_k","_law_many"]
def jd:FnScope nS og (ai jS):=⟨rfl,rfl,rfl,by decide+kernel,rfl,by decide+kernel,by decide+kernel⟩
def uS(B:Bl K mg base cv cA Cp)(yI:av P w K mg base cv 1 "_law_cell" 2 gD)(T:bU K mg "_law_drawn" jS f):av P w K mg base cv 2 "_law_drawn" 3 (aF):=
 aH (N:=nS) (ps:=og) T jd (fun _ _ _ _ _ _ us hl=>match us,hl with | [_,_,_],_=>rfl) fun bo A outer s H E hr=>
  (ao (aL jd.nd rfl (by first | exact .inl rfl | exact .inr rfl) (mZ (df (jL (mZ (bq yI (hr.mono (by decide)) rfl bC (aa (af (pv 0)) (aa (af (pv 1)) ag)) rfl) aq) aq) (jL aq (df (af (pv 1)) aq))) aq)) (ao (aL jd.nd rfl (by first | exact .inl rfl | exact .inr rfl) (mZ (df (jL (af (pv 3)) (af (pv 3))) (va (af (pv 3)) aq)) aq)) (au (aE (mZ (va (mZ (df (jL (af (pv 3)) (af (pv 3))) (va (af (pv 3)) aq)) aq) aq) (af (pv 2)))))))
abbrev gk:Stmt:=top 40
def gf:List Str:=["_law_board_here","_law_ways","_law_found","_law_pairs","_law_cell_here","_law_there","_law_mine","_law_changed","_law_one","_law_other","_law_least"]
def mh:List Str:=["_law_board_here","_law_ways"]
def bx:FnScope gf mh (ai gk):=⟨rfl,rfl,rfl,by decide+kernel,rfl,by decide+kernel,by decide+kernel⟩
def rm(B:Bl K mg base cv cA Cp)(cz:av P w K mg base cv 1 "_law_cells" 1 bM)(c9:av P w K mg base cv 1 "_law_beside" 3 a7)(T:bU K mg "_law_labels" gk f):av P w K mg base cv 2 "_law_labels" 2 (gb):=
 aH (N:=gf) (ps:=mh) T bx (fun _ _ _ _ _ _ us hl=>match us,hl with | [_,_],_=>rfl) fun bo A outer s H E hr=>
  (ao (iH bx.nd rfl (by first | exact .inl rfl | exact .inr rfl) (D6 hr.units rfl rfl B.dict rfl (aa (dg (tn:=["_law_cell_here"]) (n:=0) (bT (N:=gf) (osc:=(ai gk)) rfl rfl (by decide+kernel)) rfl rfl (bJ (bq cz (hr.mono (by decide)) rfl bC (aa (af (pv 0)) ag) rfl)) (fun _ _ _ _ _ _ _=>dq (show UC (((["_law_cell_here"]:List Str))++dr ["_law_cell_here"] gf) by decide+kernel) rfl rfl) (fun _ _ _ _ _ _=>du) (fun _ _ _ _ _ _=>(cu (aa (af (pv 0)) (aa (af (pv 0)) ag))))) ag))) (ao (mv bx.nd rfl (by first | exact .inl rfl | exact .inr rfl)) (ao (cW (b_ TH rfl (bJ (bq cz (hr.mono (by decide)) rfl cM (aa (af (pv 0)) ag) rfl)) (bu bx.nd rfl (by first | exact .inl rfl | exact .inr rfl)) bN (br (au (b_ TH rfl (bJ (bq c9 (hr.mono (by decide)) rfl cM (aa (af (pv 0)) (aa (af (pv 4)) (aa (af (pv 1)) ag))) rfl)) (bu bx.nd rfl (by first | exact .inl rfl | exact .inr rfl)) bN (br (ao (aL bx.nd rfl (by first | exact .inl rfl | exact .inr rfl) (qu (bI (af (pv 0)) (bI (af (pv 4)) aq)) (bI (af (pv 4)) aq))) (au (bh (PDW.t (i7 (J4 hr.units (af (pv 4)) (af (pv 5))) (iG (kI hr.units (af (pv 6)) (qu (bI (af (pv 0)) (bI (af (pv 5)) aq)) (bI (af (pv 5)) aq)))))) (au (fF (pv 3) (cu (aa (af (pv 4)) (aa (af (pv 5)) ag))))) aW))))))))) (ao (aL bx.nd rfl (by first | exact .inl rfl | exact .inr rfl) ck) (ao (cW (kj TH (bO (af (pv 7))) (br (ao (aL bx.nd rfl (by first | exact .inl rfl | exact .inr rfl) ck) (au (eT (i:=3) (b_ TH rfl (bJ (af (pv 3))) (Ef rfl (mr (bu bx.nd rfl (by first | exact .inl rfl | exact .inr rfl)) (mr (bu bx.nd rfl (by first | exact .inl rfl | exact .inr rfl)) AF))) (GY (is:=[8,9])) (br (au (bh (lq (fP hr.units (jK hr.units (af (pv 2)) (af (pv 8))) (jK hr.units (af (pv 2)) (af (pv 9))))) (ao (aL bx.nd rfl (by first | exact .inl rfl | exact .inr rfl) (HS (Gx hr.units rfl rfl B.min rfl (aa (jK hr.units (af (pv 2)) (af (pv 8))) (aa (jK hr.units (af (pv 2)) (af (pv 9))) ag))))) (ao (jN hr.units (pv 2) (af (pv 8)) (af (pv 10))) (ao (jN hr.units (pv 2) (af (pv 9)) (af (pv 10))) (au (aL bx.nd rfl (by first | exact .inl rfl | exact .inr rfl) ck))))) aW)))))))))) (au (eT (i:=2) (aE (af (pv 2))))))))))
abbrev nr:Stmt:=top 45
def sR:List Str:=["_law_board_here","_law_ways","_law_one","_law_other","_law_rows","_law_seen","_law_longer","_law_cell_here","_law_there"]
def sX:List Str:=["_law_board_here","_law_ways","_law_one","_law_other"]
def fB:FnScope sR sX (ai nr):=⟨rfl,rfl,rfl,by decide+kernel,rfl,by decide+kernel,by decide+kernel⟩
def zl(B:Bl K mg base cv cA Cp)(c9:av P w K mg base cv 1 "_law_beside" 3 a7)(dG:av P w K mg base cv 1 "_law_sign" 2 aY)(T:bU K mg "_law_far" nr f):av P w K mg base cv 2 "_law_far" 4 (eD):=
 aH (N:=sR) (ps:=sX) T fB (fun _ _ _ _ _ _ us hl=>match us,hl with | [_,_,_,_],_=>rfl) fun bo A outer s H E hr=>
  (ao (iH fB.nd rfl (by first | exact .inl rfl | exact .inr rfl) (o4 (aa (bw (aa (af (pv 2)) ag)) ag))) (ao (iH fB.nd rfl (by first | exact .inl rfl | exact .inr rfl) (o4 (aa (af (pv 2)) ag))) (ao (cW (kj TH (lq (fP hr.units (dD (af (pv 4)) (fq aq)) (bw ag))) (br (ao (bh (lq (zv hr.units (af (pv 3)) (dD (af (pv 4)) (fq aq)))) (au (eT (i:=4) (aE (cg rfl B.len (aa (af (pv 4)) ag))))) aW) (ao (mv fB.nd rfl (by first | exact .inl rfl | exact .inr rfl)) (ao (b_ TH rfl (bJ (JL (pv 4) (fq aq))) (bu fB.nd rfl (by first | exact .inl rfl | exact .inr rfl)) bN (br (au (b_ TH rfl (bJ (bq c9 (hr.mono (by decide)) rfl cM (aa (af (pv 0)) (aa (af (pv 7)) (aa (af (pv 1)) ag))) rfl)) (bu fB.nd rfl (by first | exact .inl rfl | exact .inr rfl)) bN (br (au (bh (lq (PDW.t (i7 (kl hr.units (af (pv 8)) (af (pv 5))) (iG (kI hr.units (bq dG (hr.mono (by decide)) rfl cM (aa (af (pv 0)) (aa (af (pv 8)) ag)) rfl) (bq dG (hr.mono (by decide)) rfl cM (aa (af (pv 0)) (aa (af (pv 2)) ag)) rfl)))))) (ao (fF (pv 5) (af (pv 8))) (au (fF (pv 6) (af (pv 8))))) aW))))))) (au (eT (i:=6) (fF (pv 4) (af (pv 6))))))))))) (au (aE dh)))))
abbrev lz:Stmt:=top 46
def p9:List Str:=["_law_board_here","_law_thing","_law_whole","_law_cell_here"]
def qo:List Str:=["_law_board_here","_law_thing"]
def jZ:FnScope p9 qo (ai lz):=⟨rfl,rfl,rfl,by decide+kernel,rfl,by decide+kernel,by decide+kernel⟩
def xC(B:Bl K mg base cv cA Cp)(cz:av P w K mg base cv 1 "_law_cells" 1 bM)(T:bU K mg "_law_good" lz f):av P w K mg base cv 2 "_law_good" 2 (cp):=
 aH (N:=p9) (ps:=qo) T jZ (fun _ _ _ _ _ _ us hl=>match us,hl with | [_,_],_=>rfl) fun bo A outer s H E hr=>
  (ao (bh (PDW.t (dE (b9 (bO (ij rfl B.isinstance rfl (aa (af (pv 1)) (aa (jM rfl B.list rfl) ag))))) (di (kI hr.units (af (pv 1)) (bw ag))))) (au (aE ck)) aW) (ao (aL jZ.nd rfl (by first | exact .inl rfl | exact .inr rfl) (bq cz (hr.mono (by decide)) rfl bC (aa (af (pv 0)) ag) rfl)) (ao (cW (b_ TH rfl (bJ (af (pv 1))) (bu jZ.nd rfl (by first | exact .inl rfl | exact .inr rfl)) bN (br (au (bh (PDW.t (dE (b9 (bO (ij rfl B.isinstance rfl (aa (af (pv 3)) (aa (jM rfl B.tuple rfl) ag))))) (dE (BW hr.units (af (pv 3)) (af (pv 2))) (di (bO (ij rfl B.isinstance rfl (aa (bI (af (pv 3)) aq) (aa (jM rfl B.bool rfl) ag)))))))) (au (aE ck)) aW))))) (au (aE ck)))))
abbrev gO:Stmt:=top 16
def fo:List Str:=["thing"]
def qj:List Str:=["thing"]
def yc:FnScope fo qj (ai gO):=⟨rfl,rfl,rfl,by decide+kernel,rfl,by decide+kernel,by decide+kernel⟩
def xx(B:Bl K mg base cv cA Cp)(Cu:av P w K mg base cv 2 "is_row" 1 gB)(T:bU K mg "is_board" gO f):av P w K mg base cv 3 "is_board" 1 (iU):=
 aH (N:=fo) (ps:=qj) T yc (fun _ _ _ _ _ _ us hl=>match us,hl with | [_],_=>rfl) fun bo A outer s H E hr=>
  (ao (bh (PDW.t (dE (b9 (bO (ij rfl B.isinstance rfl (aa (af (pv 0)) (aa (jM rfl B.tuple rfl) ag))))) (di (b9 (Ek n4 n4 aq (cg rfl B.len (aa (af (pv 0)) ag)) (AA rfl B.MOST_ROWS)))))) (au (aE ck)) aW) (ao (bh (b9 (bO (lj rfl rfl B.all rfl (aa (dg (tn:=["row"]) (n:=0) (bT (N:=fo) (osc:=(ai gO)) rfl rfl (by decide+kernel)) rfl rfl (mq (af (pv 0))) (fun _ _ _ _ _ _ _=>dq (show UC (((["row"]:List Str))++dr ["row"] fo) by decide+kernel) rfl rfl) (fun _ _ _ _ _ _=>du) (fun _ _ _ _ _ _=>(bq Cu (hr.mono (by decide)) rfl cM (aa (af (pv 0)) ag) rfl))) ag)))) (au (aE ck)) aW) (au (aE (lj rfl rfl B.all rfl (aa (dg (tn:=["row"]) (n:=0) (bT (N:=fo) (osc:=(ai gO)) rfl rfl (by decide+kernel)) rfl rfl (mq (af (pv 0))) (fun _ _ _ _ _ _ _=>dq (show UC (((["row"]:List Str))++dr ["row"] fo) by decide+kernel) rfl rfl) (fun _ _ _ _ _ _=>du) (fun _ _ _ _ _ _=>(s_ hr.units (cg rfl B.len (aa (af (pv 0)) ag)) (cg rfl B.len (aa (bI (af (pv 1)) aq) ag))))) ag))))))
abbrev dm:Stmt:=top 18
def de:List Str:=["board","thing"]
def gK:List Str:=["board","thing"]
def kz:FnScope de gK (ai dm):=⟨rfl,rfl,rfl,by decide+kernel,rfl,by decide+kernel,by decide+kernel⟩
def kx(B:Bl K mg base cv cA Cp)(mK:av P w K mg base cv 2 "is_cell" 2 fi)(T:bU K mg "is_list_of_cells" dm f):av P w K mg base cv 3 "is_list_of_cells" 2 (bb):=
 aH (N:=de) (ps:=gK) T kz (fun _ _ _ _ _ _ us hl=>match us,hl with | [_,_],_=>rfl) fun bo A outer s H E hr=>
  (au (aE (mY (ij rfl B.isinstance rfl (aa (af (pv 1)) (aa (jM rfl B.list rfl) ag))) (qw (lj rfl rfl B.all rfl (aa (dg (tn:=["part"]) (n:=0) (bT (N:=de) (osc:=(ai dm)) rfl rfl (by decide+kernel)) rfl rfl (bJ (af (pv 1))) (fun _ _ _ _ _ _ _=>dq (show UC (((["part"]:List Str))++dr ["part"] de) by decide+kernel) rfl rfl) (fun _ _ _ _ _ _=>du) (fun _ _ _ _ _ _=>(bq mK (hr.mono (by decide)) rfl cM (aa (af (pv 1)) (aa (af (pv 0)) ag)) rfl))) ag))))))
abbrev jV:Stmt:=top 20
def nV:List Str:=["board","thing"]
def oj:List Str:=["board","thing"]
def vq:FnScope nV oj (ai jV):=⟨rfl,rfl,rfl,by decide+kernel,rfl,by decide+kernel,by decide+kernel⟩
def uV(B:Bl K mg base cv cA Cp)(mK:av P w K mg base cv 2 "is_cell" 2 fi)(T:bU K mg "need_cell" jV f):av P w K mg base cv 3 "need_cell" 2 (eE):=
 aH (N:=nV) (ps:=oj) T vq (fun _ _ _ _ _ _ us hl=>match us,hl with | [_,_],_=>rfl) fun bo A outer s H E hr=>
  (au (bh (b9 (bO (bq mK (hr.mono (by decide)) rfl bC (aa (af (pv 0)) (aa (af (pv 1)) ag)) rfl))) (au (m8 B.own2 V2 rfl rfl (B.cvE 2) Dz (aa eS ag))) aW))
abbrev gm:Stmt:=top 28
def gh:List Str:=["board","cell","ways","letter"]
def mi:List Str:=["board","cell","ways"]
def kJ:FnScope gh mi (ai gm):=⟨rfl,rfl,rfl,by decide+kernel,rfl,by decide+kernel,by decide+kernel⟩
def rn(B:Bl K mg base cv cA Cp)(fM:av P w K mg base cv 1 "letter_of" 2 cE)(ua:av P w K mg base cv 2 "next_cells" 3 dU)(T:bU K mg "like_cells" gm f):av P w K mg base cv 3 "like_cells" 3 (bp):=
 aH (N:=gh) (ps:=mi) T kJ (fun _ _ _ _ _ _ us hl=>match us,hl with | [_,_,_],_=>rfl) fun bo A outer s H E hr=>
  (ao (aL kJ.nd rfl (by first | exact .inl rfl | exact .inr rfl) (bq fM (hr.mono (by decide)) rfl bC (aa (af (pv 0)) (aa (af (pv 1)) ag)) rfl)) (au (aE (dg (tn:=["near"]) (n:=0) (bT (N:=gh) (osc:=(ai gm)) rfl rfl (by decide+kernel)) rfl rfl (bJ (bq ua (hr.mono (by decide)) rfl bC (aa (af (pv 0)) (aa (af (pv 1)) (aa (af (pv 2)) ag))) rfl)) (fun _ _ _ _ _ _ _=>dq (show UC (((["near"]:List Str))++dr ["near"] gh) by decide+kernel) rfl rfl) (fun _ _ _ _ _ _=>(mB (kI hr.units (bq fM (hr.mono (by decide)) rfl cM (aa (af (pv 1)) (aa (af (pv 0)) ag)) rfl) (af (pv 4))))) (fun _ _ _ _ _ _=>(af (pv 0)))))))
abbrev g8:Stmt:=top 37
def gV:List Str:=["_law_script","_law_at","_law_most","_law_rows","_law_wide","_law_alphabet","_law_found","_law_row","_law_signs"]
def n9:List Str:=["_law_script","_law_at","_law_most"]
def cN:FnScope gV n9 (ai g8):=⟨rfl,rfl,rfl,by decide+kernel,rfl,by decide+kernel,by decide+kernel⟩
def uQ(B:Bl K mg base cv cA Cp)(aI:av P w K mg base cv 2 "_law_drawn" 3 aF)(T:bU K mg "_law_board" g8 f):av P w K mg base cv 3 "_law_board" 3 (dJ):=
 aH (N:=gV) (ps:=n9) T cN (fun _ _ _ _ _ _ us hl=>match us,hl with | [_,_,_],_=>rfl) fun bo A outer s H E hr=>
  (ao (aL cN.nd rfl (by first | exact .inl rfl | exact .inr rfl) (df aq (bq aI (hr.mono (by decide)) rfl bC (aa (af (pv 0)) (aa (af (pv 1)) (aa (af (pv 2)) ag))) rfl))) (ao (aL cN.nd rfl (by first | exact .inl rfl | exact .inr rfl) (df aq (bq aI (hr.mono (by decide)) rfl bC (aa (af (pv 0)) (aa (df (af (pv 1)) aq) (aa (af (pv 2)) ag))) rfl))) (ao (aL cN.nd rfl (by first | exact .inl rfl | exact .inr rfl) (dD (bw (aa eS (aa eS (aa eS (aa eS ag))))) (bq aI (hr.mono (by decide)) rfl bC (aa (af (pv 0)) (aa (df (af (pv 1)) aq) (aa aq ag))) rfl))) (ao (aL cN.nd rfl (by first | exact .inl rfl | exact .inr rfl) (cu ag)) (ao (cW (b_ TH rfl (gL rfl B.range (aa (af (pv 3)) ag)) (bu cN.nd rfl (by first | exact .inl rfl | exact .inr rfl)) bN (br (ao (xP (tn:=["_law_k"]) (n:=0) cN.nd rfl (by first | exact .inl rfl | exact .inr rfl) (bT (N:=gV) (osc:=(ai g8)) rfl rfl (by decide+kernel)) rfl rfl (gL rfl B.range (aa (af (pv 4)) ag)) (fun _ _ _ _ _ _ _=>dq (show UC (((["_law_k"]:List Str))++dr ["_law_k"] gV) by decide+kernel) rfl rfl) (fun _ _ _ _ _ _=>du) (fun _ _ _ _ _ _=>(qu (af (pv 6)) (bq aI (hr.mono (by decide)) rfl cM (aa (af (pv 1)) (aa (df (df (df (af (pv 2)) aq) (jL aq (af (pv 8)))) (af (pv 0))) (aa (cg rfl B.len (aa (af (pv 6)) ag)) ag))) rfl)))) (au (aL cN.nd rfl (by first | exact .inl rfl | exact .inr rfl) (Gu (af (pv 6)) (cu (aa (Gw eS (aa (af (pv 8)) ag)) ag))))))))) (au (aE (af (pv 6)))))))))
abbrev fH:Stmt:=top 41
def fE:List Str:=["_law_board_here","_law_ways","_law_labels_here","_law_rows","_law_cell_here"]
def kF:List Str:=["_law_board_here","_law_ways"]
def eW:FnScope fE kF (ai fH):=⟨rfl,rfl,rfl,by decide+kernel,rfl,by decide+kernel,by decide+kernel⟩
def qf(B:Bl K mg base cv cA Cp)(t9:av P w K mg base cv 2 "_law_labels" 2 gb)(cz:av P w K mg base cv 1 "_law_cells" 1 bM)(T:bU K mg "_law_patches" fH f):av P w K mg base cv 3 "_law_patches" 2 (cC):=
 aH (N:=fE) (ps:=kF) T eW (fun _ _ _ _ _ _ us hl=>match us,hl with | [_,_],_=>rfl) fun bo A outer s H E hr=>
  (ao (aL eW.nd rfl (by first | exact .inl rfl | exact .inr rfl) (bq t9 (hr.mono (by decide)) rfl bC (aa (af (pv 0)) (aa (af (pv 1)) ag)) rfl)) (ao (xO eW.nd rfl (by first | exact .inl rfl | exact .inr rfl)) (ao (cW (b_ TH rfl (bJ (bq cz (hr.mono (by decide)) rfl cM (aa (af (pv 0)) ag) rfl)) (bu eW.nd rfl (by first | exact .inl rfl | exact .inr rfl)) bN (br (au (jN hr.units (pv 3) (jK hr.units (af (pv 2)) (af (pv 4))) (Mo (cV (Gv hr.units (af (pv 3)) (jK hr.units (af (pv 2)) (af (pv 4))) (bw ag) ⟨rfl,rfl,rfl,rfl⟩) (bw (aa (af (pv 4)) ag))))))))) (au (eT (i:=3) (aE (dg (tn:=["_law_first"]) (n:=0) (bT (N:=fE) (osc:=(ai fH)) rfl rfl (by decide+kernel)) rfl rfl (bJ (Gz rfl rfl B.sorted rfl (aa (af (pv 3)) ag))) (fun _ _ _ _ _ _ _=>dq (show UC (((["_law_first"]:List Str))++dr ["_law_first"] fE) by decide+kernel) rfl rfl) (fun _ _ _ _ _ _=>du) (fun _ _ _ _ _ _=>(jK hr.units (af (pv 4)) (af (pv 0)))))))))))
abbrev eV:Stmt:=top 47
def dZ:List Str:=["_law_board_here","_law_ways","_law_one","_law_other","_law_thing"]
def mf:List Str:=["_law_board_here","_law_ways","_law_one","_law_other","_law_thing"]
def rA:FnScope dZ mf (ai eV):=⟨rfl,rfl,rfl,by decide+kernel,rfl,by decide+kernel,by decide+kernel⟩
def rl(B:Bl K mg base cv cA Cp)(kO:av P w K mg base cv 2 "_law_good" 2 cp)(dG:av P w K mg base cv 1 "_law_sign" 2 aY)(c9:av P w K mg base cv 1 "_law_beside" 3 a7)(T:bU K mg "_law_is_way" eV f):av P w K mg base cv 3 "_law_is_way" 5 (b6):=
 aH (N:=dZ) (ps:=mf) T rA (fun _ _ _ _ _ _ us hl=>match us,hl with | [_,_,_,_,_],_=>rfl) fun bo A outer s H E hr=>
  (ao (bh (PDW.t (dE (b9 (bO (bq kO (hr.mono (by decide)) rfl bC (aa (af (pv 0)) (aa (af (pv 4)) ag)) rfl))) (dE (fP hr.units (dD (af (pv 4)) aq) (af (pv 2))) (di (fP hr.units (dD (af (pv 4)) (fq aq)) (af (pv 3))))))) (au (aE ck)) aW) (ao (bh (fP hr.units (dg (tn:=["_law_cell_here"]) (n:=0) (bT (N:=dZ) (osc:=(ai eV)) rfl rfl (by decide+kernel)) rfl rfl (bJ (af (pv 4))) (fun _ _ _ _ _ _ _=>dq (show UC (((["_law_cell_here"]:List Str))++dr ["_law_cell_here"] dZ) by decide+kernel) rfl rfl) (fun _ _ _ _ _ _=>(mB (fP hr.units (bq dG (hr.mono (by decide)) rfl cM (aa (af (pv 1)) (aa (af (pv 0)) ag)) rfl) (bq dG (hr.mono (by decide)) rfl cM (aa (af (pv 1)) (aa (af (pv 3)) ag)) rfl)))) (fun _ _ _ _ _ _=>(af (pv 0)))) (bw ag)) (au (aE ck)) aW) (au (aE (s_ hr.units (dg (tn:=["_law_cell_here","_law_there"]) (n:=2) (bT (N:=dZ) (osc:=(ai eV)) rfl rfl (by decide+kernel)) rfl rfl (GF rfl B.zip (aa (af (pv 4)) (aa (qy (af (pv 4)) (gN aq) gM) ag))) (fun _ _ _ _ _ _ _=>Ks (show UC (((["_law_cell_here","_law_there"]:List Str))++dr ["_law_cell_here","_law_there"] dZ) by decide+kernel) rfl rfl rfl rfl rfl) (fun _ _ _ _ _ _=>(mB (kl hr.units (af (pv 1)) (bq c9 (hr.mono (by decide)) rfl cM (aa (af (pv 2)) (aa (af (pv 0)) (aa (af (pv 3)) ag))) rfl)))) (fun _ _ _ _ _ _=>(af (pv 0)))) (bw ag))))))
abbrev jT:Stmt:=top 48
def nT:List Str:=["_law_board_here","_law_ways","_law_one","_law_other","_law_thing","_law_cell_here","_law_there"]
def oh:List Str:=["_law_board_here","_law_ways","_law_one","_law_other","_law_thing"]
def je:FnScope nT oh (ai jT):=⟨rfl,rfl,rfl,by decide+kernel,rfl,by decide+kernel,by decide+kernel⟩
def uT(B:Bl K mg base cv cA Cp)(c9:av P w K mg base cv 1 "_law_beside" 3 a7)(kO:av P w K mg base cv 2 "_law_good" 2 cp)(dG:av P w K mg base cv 1 "_law_sign" 2 aY)(T:bU K mg "_law_fence" jT f):av P w K mg base cv 3 "_law_fence" 5 (c7):=
 aH (N:=nT) (ps:=oh) T je (fun _ _ _ _ _ _ us hl=>match us,hl with | [_,_,_,_,_],_=>rfl) fun bo A outer s H E hr=>
  (ao (bh (PDW.t (dE (b9 (bO (bq kO (hr.mono (by decide)) rfl bC (aa (af (pv 0)) (aa (af (pv 4)) ag)) rfl))) (dE (kl hr.units (af (pv 2)) (af (pv 4))) (di (zv hr.units (af (pv 3)) (af (pv 4))))))) (au (aE ck)) aW) (ao (cW (b_ TH rfl (bJ (af (pv 4))) (bu je.nd rfl (by first | exact .inl rfl | exact .inr rfl)) bN (br (au (b_ TH rfl (bJ (bq c9 (hr.mono (by decide)) rfl cM (aa (af (pv 0)) (aa (af (pv 5)) (aa (af (pv 1)) ag))) rfl)) (bu je.nd rfl (by first | exact .inl rfl | exact .inr rfl)) bN (br (au (bh (PDW.t (i7 (kl hr.units (af (pv 6)) (af (pv 4))) (iG (kI hr.units (bq dG (hr.mono (by decide)) rfl cM (aa (af (pv 0)) (aa (af (pv 6)) ag)) rfl) (bq dG (hr.mono (by decide)) rfl cM (aa (af (pv 0)) (aa (af (pv 5)) ag)) rfl))))) (au (aE ck)) aW)))))))) (au (aE ck))))
abbrev ja:Stmt:=top 19
def lY:List Str:=["thing"]
def mj:List Str:=["thing"]
def rB:FnScope lY mj (ai ja):=⟨rfl,rfl,rfl,by decide+kernel,rfl,by decide+kernel,by decide+kernel⟩
def ro(B:Bl K mg base cv cA Cp)(yG:av P w K mg base cv 3 "is_board" 1 iU)(T:bU K mg "need_board" ja f):av P w K mg base cv 4 "need_board" 1 (dS):=
 aH (N:=lY) (ps:=mj) T rB (fun _ _ _ _ _ _ us hl=>match us,hl with | [_],_=>rfl) fun bo A outer s H E hr=>
  (au (bh (b9 (bO (bq yG (hr.mono (by decide)) rfl bC (aa (af (pv 0)) ag) rfl))) (au (m8 B.own0 V2 rfl rfl (B.cvE 0) Dz (aa eS ag))) aW))
abbrev jc:Stmt:=top 29
def l5:List Str:=["board","start","ways","back","ring","further","cell","near"]
def mn:List Str:=["board","start","ways"]
def cS:FnScope l5 mn (ai jc):=⟨rfl,rfl,rfl,by decide+kernel,rfl,by decide+kernel,by decide+kernel⟩
def rq(B:Bl K mg base cv cA Cp)(iS:av P w K mg base cv 3 "like_cells" 3 bp)(T:bU K mg "steps_back" jc f):av P w K mg base cv 4 "steps_back" 3 (dW):=
 aH (N:=l5) (ps:=mn) T cS (fun _ _ _ _ _ _ us hl=>match us,hl with | [_,_,_],_=>rfl) fun bo A outer s H E hr=>
  (ao (iH cS.nd rfl (by first | exact .inl rfl | exact .inr rfl) (BS hr.units (af (pv 1)) dh)) (ao (aL cS.nd rfl (by first | exact .inl rfl | exact .inr rfl) (bw (aa (af (pv 1)) ag))) (ao (cW (kj TH (bO (af (pv 4))) (br (ao (mv cS.nd rfl (by first | exact .inl rfl | exact .inr rfl)) (ao (b_ TH rfl (bJ (af (pv 4))) (bu cS.nd rfl (by first | exact .inl rfl | exact .inr rfl)) bN (br (au (b_ TH rfl (bJ (bq iS (hr.mono (by decide)) rfl cM (aa (af (pv 0)) (aa (af (pv 6)) (aa (af (pv 2)) ag))) rfl)) (bu cS.nd rfl (by first | exact .inl rfl | exact .inr rfl)) bN (br (au (bh (lq (m9 hr.units (af (pv 7)) (af (pv 3)))) (ao (jN hr.units (pv 3) (af (pv 7)) (af (pv 6))) (au (fF (pv 5) (af (pv 7))))) aW))))))) (au (eT (i:=5) (aL cS.nd rfl (by first | exact .inl rfl | exact .inr rfl) (af (pv 5)))))))))) (au (eT (i:=3) (aE (af (pv 3))))))))
abbrev fw:Stmt:=top 27
def iC:List Str:=["board","ways","one","other"]
def iE:List Str:=["board","ways","one","other"]
def mz:FnScope iC iE (ai fw):=⟨rfl,rfl,rfl,by decide+kernel,rfl,by decide+kernel,by decide+kernel⟩
def ma(B:Bl K mg base cv cA Cp)(t_:av P w K mg base cv 4 "need_board" 1 dS)(wo:av P w K mg base cv 2 "need_ways" 1 dN)(nA:av P w K mg base cv 3 "need_cell" 2 eE)(T:bU K mg "need_two_cells" fw f):av P w K mg base cv 5 "need_two_cells" 4 (aQ):=
 aH (N:=iC) (ps:=iE) T mz (fun _ _ _ _ _ _ us hl=>match us,hl with | [_,_,_,_],_=>rfl) fun bo A outer s H E hr=>
  (ao (gY (bq t_ (hr.mono (by decide)) rfl bC (aa (af (pv 0)) ag) rfl)) (ao (gY (bq wo (hr.mono (by decide)) rfl bC (aa (af (pv 1)) ag) rfl)) (ao (gY (bq nA (hr.mono (by decide)) rfl bC (aa (af (pv 0)) (aa (af (pv 2)) ag)) rfl)) (au (gY (bq nA (hr.mono (by decide)) rfl bC (aa (af (pv 0)) (aa (af (pv 3)) ag)) rfl))))))
abbrev nk:Stmt:=top 30
def sP:List Str:=["board","ways","one","other"]
def sV:List Str:=["board","ways","one","other"]
def zx:FnScope sP sV (ai nk):=⟨rfl,rfl,rfl,by decide+kernel,rfl,by decide+kernel,by decide+kernel⟩
def zj(B:Bl K mg base cv cA Cp)(bX:av P w K mg base cv 5 "need_two_cells" 4 aQ)(iT:av P w K mg base cv 4 "steps_back" 3 dW)(T:bU K mg "are_one" nk f):av P w K mg base cv 6 "are_one" 4 (dR):=
 aH (N:=sP) (ps:=sV) T zx (fun _ _ _ _ _ _ us hl=>match us,hl with | [_,_,_,_],_=>rfl) fun bo A outer s H E hr=>
  (ao (gY (bq bX (hr.mono (by decide)) rfl bC (aa (af (pv 0)) (aa (af (pv 1)) (aa (af (pv 2)) (aa (af (pv 3)) ag)))) rfl)) (au (aE (D2 hr.units (af (pv 3)) (bq iT (hr.mono (by decide)) rfl bC (aa (af (pv 0)) (aa (af (pv 2)) (aa (af (pv 1)) ag))) rfl)))))
abbrev EB:Stmt:=top 31
def HJ:List Str:=["board","ways","one","other","back","told"]
def HR:List Str:=["board","ways","one","other"]
def zA:FnScope HJ HR (ai EB):=⟨rfl,rfl,rfl,by decide+kernel,rfl,by decide+kernel,by decide+kernel⟩
def Jw(B:Bl K mg base cv cA Cp)(bX:av P w K mg base cv 5 "need_two_cells" 4 aQ)(iT:av P w K mg base cv 4 "steps_back" 3 dW)(T:bU K mg "way" EB f):av P w K mg base cv 6 "way" 4 (kB):=
 aH (N:=HJ) (ps:=HR) T zA (fun _ _ _ _ _ _ us hl=>match us,hl with | [_,_,_,_],_=>rfl) fun bo A outer s H E hr=>
  (ao (gY (bq bX (hr.mono (by decide)) rfl bC (aa (af (pv 0)) (aa (af (pv 1)) (aa (af (pv 2)) (aa (af (pv 3)) ag)))) rfl)) (ao (aL zA.nd rfl (by first | exact .inl rfl | exact .inr rfl) (bq iT (hr.mono (by decide)) rfl bC (aa (af (pv 0)) (aa (af (pv 3)) (aa (af (pv 1)) ag))) rfl)) (ao (bh (m9 hr.units (af (pv 2)) (af (pv 4))) (au (aE dh)) aW) (ao (iH zA.nd rfl (by first | exact .inl rfl | exact .inr rfl) (o4 (aa (af (pv 2)) ag))) (ao (cW (kj TH (lq (fP hr.units (dD (af (pv 5)) (fq aq)) (af (pv 3)))) (au (fF (pv 5) (HS (jK hr.units (af (pv 4)) (dD (af (pv 5)) (fq aq)))))))) (au (eT (i:=5) (aE (af (pv 5))))))))))
abbrev jR:Stmt:=top 32
def iA:List Str:=["board","ways","one","other","thing","letter"]
def xG:List Str:=["board","ways","one","other","thing"]
def tG:FnScope iA xG (ai jR):=⟨rfl,rfl,rfl,by decide+kernel,rfl,by decide+kernel,by decide+kernel⟩
def BJ(B:Bl K mg base cv cA Cp)(bX:av P w K mg base cv 5 "need_two_cells" 4 aQ)(fM:av P w K mg base cv 1 "letter_of" 2 cE)(et:av P w K mg base cv 3 "is_list_of_cells" 2 bb)(kN:av P w K mg base cv 1 "are_next" 3 c_)(T:bU K mg "is_way" jR f):av P w K mg base cv 6 "is_way" 5 (eM):=
 aH (N:=iA) (ps:=xG) T tG (fun _ _ _ _ _ _ us hl=>match us,hl with | [_,_,_,_,_],_=>rfl) fun bo A outer s H E hr=>
  (ao (gY (bq bX (hr.mono (by decide)) rfl bC (aa (af (pv 0)) (aa (af (pv 1)) (aa (af (pv 2)) (aa (af (pv 3)) ag)))) rfl)) (ao (bh (PDW.t (dE (b9 (bO (bq et (hr.mono (by decide)) rfl bC (aa (af (pv 0)) (aa (af (pv 4)) ag)) rfl))) (di (kI hr.units (cg rfl B.len (aa (af (pv 4)) ag)) aq)))) (au (aE ck)) aW) (ao (bh (PDW.t (dE (fP hr.units (dD (af (pv 4)) aq) (af (pv 2))) (di (fP hr.units (dD (af (pv 4)) (fq aq)) (af (pv 3)))))) (au (aE ck)) aW) (ao (aL tG.nd rfl (by first | exact .inl rfl | exact .inr rfl) (bq fM (hr.mono (by decide)) rfl bC (aa (af (pv 0)) (aa (af (pv 2)) ag)) rfl)) (ao (bh (b9 (bO (lj rfl rfl B.all rfl (aa (dg (tn:=["cell"]) (n:=0) (bT (N:=iA) (osc:=(ai jR)) rfl rfl (by decide+kernel)) rfl rfl (bJ (af (pv 4))) (fun _ _ _ _ _ _ _=>dq (show UC (((["cell"]:List Str))++dr ["cell"] iA) by decide+kernel) rfl rfl) (fun _ _ _ _ _ _=>du) (fun _ _ _ _ _ _=>(s_ hr.units (bq fM (hr.mono (by decide)) rfl cM (aa (af (pv 1)) (aa (af (pv 0)) ag)) rfl) (af (pv 6))))) ag)))) (au (aE ck)) aW) (au (aE (lj rfl rfl B.all rfl (aa (dg (tn:=["place"]) (n:=0) (bT (N:=iA) (osc:=(ai jR)) rfl rfl (by decide+kernel)) rfl rfl (ll rfl B.range (aa aq (aa (cg rfl B.len (aa (af (pv 4)) ag)) ag))) (fun _ _ _ _ _ _ _=>dq (show UC (((["place"]:List Str))++dr ["place"] iA) by decide+kernel) rfl rfl) (fun _ _ _ _ _ _=>du) (fun _ _ _ _ _ _=>(bq kN (hr.mono (by decide)) rfl cM (aa (dD (af (pv 5)) (m6 (af (pv 0)) aq)) (aa (dD (af (pv 5)) (af (pv 0))) (aa (af (pv 2)) ag))) rfl))) ag)))))))))
abbrev i9:Stmt:=top 33
def iZ:List Str:=["board","ways","one","other","thing","inside","cell"]
def qk:List Str:=["board","ways","one","other","thing"]
def jY:FnScope iZ qk (ai i9):=⟨rfl,rfl,rfl,by decide+kernel,rfl,by decide+kernel,by decide+kernel⟩
def xy(B:Bl K mg base cv cA Cp)(bX:av P w K mg base cv 5 "need_two_cells" 4 aQ)(Fh:av P w K mg base cv 1 "keyed" 1 oW)(et:av P w K mg base cv 3 "is_list_of_cells" 2 bb)(iS:av P w K mg base cv 3 "like_cells" 3 bp)(T:bU K mg "is_fence" i9 f):av P w K mg base cv 6 "is_fence" 5 (da):=
 aH (N:=iZ) (ps:=qk) T jY (fun _ _ _ _ _ _ us hl=>match us,hl with | [_,_,_,_,_],_=>rfl) fun bo A outer s H E hr=>
  (ao (gY (bq bX (hr.mono (by decide)) rfl bC (aa (af (pv 0)) (aa (af (pv 1)) (aa (af (pv 2)) (aa (af (pv 3)) ag)))) rfl)) (ao (bh (b9 (bO (bq et (hr.mono (by decide)) rfl bC (aa (af (pv 0)) (aa (af (pv 4)) ag)) rfl))) (au (aE ck)) aW) (ao (aL jY.nd rfl (by first | exact .inl rfl | exact .inr rfl) (bq Fh (hr.mono (by decide)) rfl bC (aa (af (pv 4)) ag) rfl)) (ao (bh (PDW.t (dE (m9 hr.units (af (pv 2)) (af (pv 5))) (di (J3 hr.units (af (pv 3)) (af (pv 5)))))) (au (aE ck)) aW) (ao (cW (b_ TH rfl (xK (af (pv 5))) (bu jY.nd rfl (by first | exact .inl rfl | exact .inr rfl)) bN (br (au (bh (b9 (bO (lj rfl rfl B.all rfl (aa (dg (tn:=["near"]) (n:=0) (bT (N:=iZ) (osc:=(ai i9)) rfl rfl (by decide+kernel)) rfl rfl (bJ (bq iS (hr.mono (by decide)) rfl cM (aa (af (pv 0)) (aa (af (pv 6)) (aa (af (pv 1)) ag))) rfl)) (fun _ _ _ _ _ _ _=>dq (show UC (((["near"]:List Str))++dr ["near"] iZ) by decide+kernel) rfl rfl) (fun _ _ _ _ _ _=>du) (fun _ _ _ _ _ _=>(D2 hr.units (af (pv 0)) (af (pv 6))))) ag)))) (au (aE ck)) aW))))) (au (aE ck)))))))
def FN(B:Bl K mg base cv cA Cp){n m:Nat}(hn:n∈[0,1,2])(hm:m<7):mQ K (tZ cA) [.exc (cA n), .raw (.ref (cA m))]=ae (.bl (decide (n=m))):=by
 have h:cA n∈tZ cA:=by
  unfold tZ
  simp only[Th,TK,or_false] at hn
  rcases hn with rfl | rfl | rfl<;>simp
 show (if cA n∈tZ cA then(match Tp K (.ref (cA n)) (.ref (cA m)) with | some b=>ae (D.bl b) | none=>ah) else ah)=_
 rw[if_pos h,B.kit n m hn hm]
def Dr(B:Bl K mg base cv cA Cp){n:Nat}(hn:n∈[0,1,2]):mQ K (tZ cA) [.exc (cA n), .raw (.ty "ValueError")]=ae (.bl true):=by
 have h:cA n∈tZ cA:=by
  unfold tZ
  simp only[Th,TK,or_false] at hn
  rcases hn with rfl | rfl | rfl<;>simp
 show (if cA n∈tZ cA then(match Tp K (.ref (cA n)) (.type "ValueError") with | some b=>ae (D.bl b) | none=>ah) else ah)=_
 rw[if_pos h,B.kitV n hn]
def AK(k:Nat):KS k∈[0,1,2]:=by
 unfold KS
 split<;>simp
def xX(B:Bl K mg base cv cA Cp)(k:Nat):b7 K cA [.exc (cB cA k)]=Hy k:=by
 unfold Hy cB
 have hn:=AK k
 generalize KS k=n at hn
 have hx:∀m (hm:m<7),mQ K (tZ cA) [.exc (cA n), .raw (.ref (cA m))]=ae (.bl (decide (n=m))):=fun m hm=>FN B hn hm
 have hv:=Dr B hn
 have x0:=hx 0 (by decide)
 have x1:=hx 1 (by decide)
 have x2:=hx 2 (by decide)
 have x3:=hx 3 (by decide)
 have x4:=hx 4 (by decide)
 have x5:=hx 5 (by decide)
 have x6:=hx 6 (by decide)
 clear hx B
 simp only[Th,TK,or_false] at hn
 rcases hn with rfl | rfl | rfl
 ·simp only[b7,fJ,hv,x0,x1,x2,x3,x4,x5,x6,cj,aA,bD,dA,aC,aN,dV,dC,d1,d2,dM,fS,bV,bE,el,a9,bS,bH,ay,Tf,UP,UM,T4,TB,Tj,Ud,U6,U7,T1,T5,aX,Nat.reduceSub,Nat.reduceAdd,lim,Nat.reduceLeDiff,if_true,cY,nL,A6,bools,decide_true,decide_false,Nat.reduceEqDiff];rfl
 ·simp only[b7,fJ,hv,x0,x1,x2,x3,x4,x5,x6,cj,aA,bD,dA,aC,aN,dV,dC,d1,d2,dM,fS,bV,bE,el,a9,bS,bH,ay,Tf,UP,UM,T4,TB,Tj,Ud,U6,U7,T1,T5,aX,Nat.reduceSub,Nat.reduceAdd,lim,Nat.reduceLeDiff,if_true,cY,nL,A6,bools,decide_true,decide_false,Nat.reduceEqDiff];rfl
 ·simp only[b7,fJ,hv,x0,x1,x2,x3,x4,x5,x6,cj,aA,bD,dA,aC,aN,dV,dC,d1,d2,dM,fS,bV,bE,el,a9,bS,bH,ay,Tf,UP,UM,T4,TB,Tj,Ud,U6,U7,T1,T5,aX,Nat.reduceSub,Nat.reduceAdd,lim,Nat.reduceLeDiff,if_true,cY,nL,A6,bools,decide_true,decide_false,Nat.reduceEqDiff];rfl
def hh(B:Bl K mg base cv cA Cp){i:Nat}(k:Nat)(ρ:bf)(e:ρ[i]? =some (some (.fz (.exc (cB cA k))))):a9 (Cw 1 (b7 K cA) (aC (dV i) aN)) ρ=(Hy k>>=fun d=>ae (.rt d)):=by
 have h4:dV i ρ=ae (.exc (cB cA k)):=by unfold dV;rw[e]
 show ((dV i ρ>>=fun x=>aN ρ>>=fun xs=>ae (x::xs))>>=fun ds=>if ds.length=1 then noex (noex (b7 K cA ds)) else ah)>>=_=_
 rw[h4]
 show (if [D.exc (cB cA k)].length=1 then noex (noex (b7 K cA [.exc (cB cA k)])) else ah)>>=_=_
 rw[xX B k]
 rfl
abbrev ip:Stmt:=top 43
def kD:List Str:=["_law_which","_law_board_here","_law_ways","_law_one","_law_other","_law_thing","_law_e"]
def kH:List Str:=["_law_which","_law_board_here","_law_ways","_law_one","_law_other","_law_thing"]
def j0:FnScope kD kH (ai ip):=⟨rfl,rfl,rfl,by decide+kernel,rfl,by decide+kernel,by decide+kernel⟩
def qh(B:Bl K mg base cv cA Cp)(qV:oR P w K mg base cv 1 "_law_refused" 1 (b7 K cA))(Cv:av P w K mg base cv 6 "is_way" 5 eM)(yH:av P w K mg base cv 6 "is_fence" 5 da)(AZ:av P w K mg base cv 6 "are_one" 4 dR)(K9:av P w K mg base cv 6 "way" 4 kB)(T:bU K mg "_law_told" ip f):av P w K mg base cv 7 "_law_told" 6 (aG):=
 aH (N:=kD) (ps:=kH) T j0 (fun _ _ _ _ _ _ us hl=>match us,hl with | [_,_,_,_,_,_],_=>rfl) fun bo A outer s H E hr=>
  (au (GS (i:=6) (hd:=Hy) B.cvE j0.nd rfl rfl rfl B.top B.exm (fun pn Ec Xw' hp=>(ao (bh (Mu (af (pv 0)) aq) (au (aE (xJ AZ K9 (hr.mono (by decide)) (hr.mono (by decide)) rfl rfl hp (af (pv 0)) (aa (af (pv 1)) (aa (af (pv 2)) (aa (af (pv 3)) (aa (af (pv 4)) ag)))) rfl))) aW) (au (aE (xJ Cv yH (hr.mono (by decide)) (hr.mono (by decide)) rfl rfl hp (m6 (af (pv 0)) aq) (aa (af (pv 1)) (aa (af (pv 2)) (aa (af (pv 3)) (aa (af (pv 4)) (aa (af (pv 5)) ag))))) rfl))))) (fun ea=>(au (aE (Fi qV (RoomH.of (hr.mono (by decide)) _) rfl (aa (af (pv 6)) ag))))) (fun k ρ _ e=>hh B k ρ e)))
abbrev ft:Stmt:=top 49
def iB:List Str:=["_law_board_here","_law_ways","_law_cell_here","_law_bad","_law_none","_law_which","_law_told_here"]
def iD:List Str:=["_law_board_here","_law_ways","_law_cell_here","_law_bad","_law_none"]
def eY:FnScope iB iD (ai ft):=⟨rfl,rfl,rfl,by decide+kernel,rfl,by decide+kernel,by decide+kernel⟩
def l_(B:Bl K mg base cv cA Cp)(ba:av P w K mg base cv 7 "_law_told" 6 aG)(T:bU K mg "_law_refuses" ft f):av P w K mg base cv 8 "_law_refuses" 5 (cX):=
 aH (N:=iB) (ps:=iD) T eY (fun _ _ _ _ _ _ us hl=>match us,hl with | [_,_,_,_,_],_=>rfl) fun bo A outer s H E hr=>
  (ao (cW (b_ TH rfl (gL rfl B.range (aa aq ag)) (bu eY.nd rfl (by first | exact .inl rfl | exact .inr rfl)) bN (br (ao (iH eY.nd rfl (by first | exact .inl rfl | exact .inr rfl) (o4 (aa (bq ba (hr.mono (by decide)) rfl cM (aa (af (pv 5)) (aa (af (pv 0)) (aa (af (pv 1)) (aa (af (pv 2)) (aa (af (pv 3)) (aa dh ag)))))) rfl) (aa (bq ba (hr.mono (by decide)) rfl cM (aa (af (pv 5)) (aa (af (pv 0)) (aa (af (pv 1)) (aa (af (pv 3)) (aa (af (pv 2)) (aa dh ag)))))) rfl) ag)))) (ao (fF (pv 6) (bq ba (hr.mono (by decide)) rfl cM (aa (af (pv 5)) (aa (af (pv 0)) (aa (af (pv 4)) (aa (af (pv 3)) (aa (af (pv 2)) (aa dh ag)))))) rfl)) (ao (fF (pv 6) (bq ba (hr.mono (by decide)) rfl cM (aa (af (pv 5)) (aa (AD rfl B.list rfl (aa (af (pv 0)) ag)) (aa (af (pv 4)) (aa (af (pv 3)) (aa (af (pv 2)) (aa dh ag)))))) rfl)) (au (bh (lq (fP hr.units (af (pv 6)) (bw (aa (cu (aa eS (aa aq ag))) (aa (cu (aa eS (aa aq ag))) (aa (cu (aa eS (aa aq ag))) (aa (cu (aa eS (aa aq ag))) ag))))))) (au (aE ck)) aW)))))))) (au (aE ck)))
abbrev ar:Stmt:=top 50
def aT:List Str:=["_law_script","_law_board_here","_law_whole","_law_one","_law_other","_law_ways","_law_far_here","_law_told_here","_law_patch","_law_row","_law_at","_law_cell_here","_law_things","_law_thing","_law_due","_law_bad"]
def mX:List Str:=["_law_script"]
def bj:FnScope aT mX (ai ar):=⟨rfl,rfl,rfl,by decide+kernel,rfl,by decide+kernel,by decide+kernel⟩
def vy(B:Bl K mg base cv cA Cp)(jq:av P w K mg base cv 3 "_law_board" 3 dJ){bo:Value}{A:TY}{outer:List Env}{s:S7}{H:Hp}{E:XK}(hr:Room 8 (A.deeper (UA "law" (ai ar) s.heap.objs.size f bo))):
 Box (iq (a_ (cT P w cv) P w K mg base aT "law" (ai ar) f bo A outer s H E) (fun n H'=>E (cv n) none H') ((aV ar).getD 0 (.Pass ⟨0,0,0,0⟩)) ou):=
 ⟨(aL bj.nd rfl (by first | exact .inl rfl | exact .inr rfl) (bq jq (hr.mono (by decide)) rfl bC (aa (af (pv 0)) (aa aq (aa aq ag))) rfl))⟩
def vz(B:Bl K mg base cv cA Cp)(cz:av P w K mg base cv 1 "_law_cells" 1 bM){bo:Value}{A:TY}{outer:List Env}{s:S7}{H:Hp}{E:XK}(hr:Room 8 (A.deeper (UA "law" (ai ar) s.heap.objs.size f bo))):
 Box (iq (a_ (cT P w cv) P w K mg base aT "law" (ai ar) f bo A outer s H E) (fun n H'=>E (cv n) none H') ((aV ar).getD 1 (.Pass ⟨0,0,0,0⟩)) oy):=
 ⟨(aL bj.nd rfl (by first | exact .inl rfl | exact .inr rfl) (bq cz (hr.mono (by decide)) rfl bC (aa (af (pv 1)) ag) rfl))⟩
def vA(B:Bl K mg base cv cA Cp)(aI:av P w K mg base cv 2 "_law_drawn" 3 aF){bo:Value}{A:TY}{outer:List Env}{s:S7}{H:Hp}{E:XK}(hr:Room 8 (A.deeper (UA "law" (ai ar) s.heap.objs.size f bo))):
 Box (iq (a_ (cT P w cv) P w K mg base aT "law" (ai ar) f bo A outer s H E) (fun n H'=>E (cv n) none H') ((aV ar).getD 2 (.Pass ⟨0,0,0,0⟩)) oz):=
 ⟨(aL bj.nd rfl (by first | exact .inl rfl | exact .inr rfl) (dD (af (pv 2)) (bq aI (hr.mono (by decide)) rfl bC (aa (af (pv 0)) (aa aq (aa (cg rfl B.len (aa (af (pv 2)) ag)) ag))) rfl)))⟩
def vB(B:Bl K mg base cv cA Cp)(aI:av P w K mg base cv 2 "_law_drawn" 3 aF){bo:Value}{A:TY}{outer:List Env}{s:S7}{H:Hp}{E:XK}(hr:Room 8 (A.deeper (UA "law" (ai ar) s.heap.objs.size f bo))):
 Box (iq (a_ (cT P w cv) P w K mg base aT "law" (ai ar) f bo A outer s H E) (fun n H'=>E (cv n) none H') ((aV ar).getD 3 (.Pass ⟨0,0,0,0⟩)) oA):=
 ⟨(aL bj.nd rfl (by first | exact .inl rfl | exact .inr rfl) (dD (af (pv 2)) (bq aI (hr.mono (by decide)) rfl bC (aa (af (pv 0)) (aa aq (aa (cg rfl B.len (aa (af (pv 2)) ag)) ag))) rfl)))⟩
def vC(B:Bl K mg base cv cA Cp)(aI:av P w K mg base cv 2 "_law_drawn" 3 aF){bo:Value}{A:TY}{outer:List Env}{s:S7}{H:Hp}{E:XK}(hr:Room 8 (A.deeper (UA "law" (ai ar) s.heap.objs.size f bo))):
 Box (iq (a_ (cT P w cv) P w K mg base aT "law" (ai ar) f bo A outer s H E) (fun n H'=>E (cv n) none H') ((aV ar).getD 4 (.Pass ⟨0,0,0,0⟩)) oB):=
 ⟨(aL bj.nd rfl (by first | exact .inl rfl | exact .inr rfl) (dD (bw (aa aq (aa aq ag))) (bq aI (hr.mono (by decide)) rfl bC (aa (af (pv 0)) (aa aq (aa aq ag))) rfl)))⟩
def vD(B:Bl K mg base cv cA Cp)(mL:av P w K mg base cv 2 "_law_far" 4 eD){bo:Value}{A:TY}{outer:List Env}{s:S7}{H:Hp}{E:XK}(hr:Room 8 (A.deeper (UA "law" (ai ar) s.heap.objs.size f bo))):
 Box (iq (a_ (cT P w cv) P w K mg base aT "law" (ai ar) f bo A outer s H E) (fun n H'=>E (cv n) none H') ((aV ar).getD 5 (.Pass ⟨0,0,0,0⟩)) oC):=
 ⟨(aL bj.nd rfl (by first | exact .inl rfl | exact .inr rfl) (bq mL (hr.mono (by decide)) rfl bC (aa (af (pv 1)) (aa (af (pv 5)) (aa (af (pv 3)) (aa (af (pv 4)) ag)))) rfl))⟩
def vE(B:Bl K mg base cv cA Cp)(ba:av P w K mg base cv 7 "_law_told" 6 aG){bo:Value}{A:TY}{outer:List Env}{s:S7}{H:Hp}{E:XK}(hr:Room 8 (A.deeper (UA "law" (ai ar) s.heap.objs.size f bo))):
 Box (iq (a_ (cT P w cv) P w K mg base aT "law" (ai ar) f bo A outer s H E) (fun n H'=>E (cv n) none H') ((aV ar).getD 6 (.Pass ⟨0,0,0,0⟩)) oD):=
 ⟨(aL bj.nd rfl (by first | exact .inl rfl | exact .inr rfl) (bq ba (hr.mono (by decide)) rfl bC (aa aq (aa (af (pv 1)) (aa (af (pv 5)) (aa (af (pv 3)) (aa (af (pv 4)) (aa dh ag)))))) rfl))⟩
def vF(B:Bl K mg base cv cA Cp)(ba:av P w K mg base cv 7 "_law_told" 6 aG){bo:Value}{A:TY}{outer:List Env}{s:S7}{H:Hp}{E:XK}(hr:Room 8 (A.deeper (UA "law" (ai ar) s.heap.objs.size f bo))):
 Box (iq (a_ (cT P w cv) P w K mg base aT "law" (ai ar) f bo A outer s H E) (fun n H'=>E (cv n) none H') ((aV ar).getD 7 (.Pass ⟨0,0,0,0⟩)) oE):=
 ⟨(bh (PDW.t (dE (fP hr.units (bq ba (hr.mono (by decide)) rfl bC (aa aq (aa (af (pv 1)) (aa (af (pv 5)) (aa (af (pv 3)) (aa (af (pv 4)) (aa dh ag)))))) rfl) (Gy (af (pv 6)) dh)) (di (fP hr.units (D3 (af (pv 7)) dh) (D3 (af (pv 6)) dh))))) (au (aE ck)) aW)⟩
def vG(B:Bl K mg base cv cA Cp)(dP:av P w K mg base cv 3 "_law_is_way" 5 b6){bo:Value}{A:TY}{outer:List Env}{s:S7}{H:Hp}{E:XK}(hr:Room 8 (A.deeper (UA "law" (ai ar) s.heap.objs.size f bo))):
 Box (iq (a_ (cT P w cv) P w K mg base aT "law" (ai ar) f bo A outer s H E) (fun n H'=>E (cv n) none H') ((aV ar).getD 8 (.Pass ⟨0,0,0,0⟩)) oF):=
 ⟨(bh (PDW.t (i7 (vg (af (pv 7)) dh) (iG (b9 (bO (bq dP (hr.mono (by decide)) rfl bC (aa (af (pv 1)) (aa (af (pv 5)) (aa (af (pv 3)) (aa (af (pv 4)) (aa (af (pv 7)) ag))))) rfl)))))) (au (aE ck)) aW)⟩
def vH(B:Bl K mg base cv cA Cp){bo:Value}{A:TY}{outer:List Env}{s:S7}{H:Hp}{E:XK}(hr:Room 8 (A.deeper (UA "law" (ai ar) s.heap.objs.size f bo))):
 Box (iq (a_ (cT P w cv) P w K mg base aT "law" (ai ar) f bo A outer s H E) (fun n H'=>E (cv n) none H') ((aV ar).getD 9 (.Pass ⟨0,0,0,0⟩)) oG):=
 ⟨(bh (PDW.t (i7 (vg (af (pv 7)) dh) (iG (fP hr.units (cg rfl B.len (aa (af (pv 7)) ag)) (af (pv 6)))))) (au (aE ck)) aW)⟩
def rD(B:Bl K mg base cv cA Cp)(g_:av P w K mg base cv 3 "_law_patches" 2 cC){bo:Value}{A:TY}{outer:List Env}{s:S7}{H:Hp}{E:XK}(hr:Room 8 (A.deeper (UA "law" (ai ar) s.heap.objs.size f bo))):
 Box (iq (a_ (cT P w cv) P w K mg base aT "law" (ai ar) f bo A outer s H E) (fun n H'=>E (cv n) none H') ((aV ar).getD 10 (.Pass ⟨0,0,0,0⟩)) jg):=
 ⟨(aL bj.nd rfl (by first | exact .inl rfl | exact .inr rfl) (dD (dg (tn:=["_law_row"]) (n:=0) (bT (N:=aT) (osc:=(ai ar)) rfl rfl (by decide+kernel)) rfl rfl (bJ (bq g_ (hr.mono (by decide)) rfl bC (aa (af (pv 1)) (aa (af (pv 5)) ag)) rfl)) (fun _ _ _ _ _ _ _=>dq (show UC (((["_law_row"]:List Str))++dr ["_law_row"] aT) by decide+kernel) rfl rfl) (fun _ _ _ _ _ _=>(mB (zv hr.units (af (pv 4)) (af (pv 0))))) (fun _ _ _ _ _ _=>(af (pv 0)))) aq))⟩
def rE(B:Bl K mg base cv cA Cp){bo:Value}{A:TY}{outer:List Env}{s:S7}{H:Hp}{E:XK}(hr:Room 8 (A.deeper (UA "law" (ai ar) s.heap.objs.size f bo))):
 Box (iq (a_ (cT P w cv) P w K mg base aT "law" (ai ar) f bo A outer s H E) (fun n H'=>E (cv n) none H') ((aV ar).getD 11 (.Pass ⟨0,0,0,0⟩)) jh):=
 ⟨(aL bj.nd rfl (by first | exact .inl rfl | exact .inr rfl) (Mn (vg (af (pv 7)) dh) (af (pv 7)) (af (pv 8))))⟩
def rF(B:Bl K mg base cv cA Cp)(aI:av P w K mg base cv 2 "_law_drawn" 3 aF){bo:Value}{A:TY}{outer:List Env}{s:S7}{H:Hp}{E:XK}(hr:Room 8 (A.deeper (UA "law" (ai ar) s.heap.objs.size f bo))):
 Box (iq (a_ (cT P w cv) P w K mg base aT "law" (ai ar) f bo A outer s H E) (fun n H'=>E (cv n) none H') ((aV ar).getD 12 (.Pass ⟨0,0,0,0⟩)) ji):=
 ⟨(aL bj.nd rfl (by first | exact .inl rfl | exact .inr rfl) (bq aI (hr.mono (by decide)) rfl bC (aa (af (pv 0)) (aa aq (aa (cg rfl B.len (aa (af (pv 9)) ag)) ag))) rfl))⟩
def rG(B:Bl K mg base cv cA Cp)(aI:av P w K mg base cv 2 "_law_drawn" 3 aF){bo:Value}{A:TY}{outer:List Env}{s:S7}{H:Hp}{E:XK}(hr:Room 8 (A.deeper (UA "law" (ai ar) s.heap.objs.size f bo))):
 Box (iq (a_ (cT P w cv) P w K mg base aT "law" (ai ar) f bo A outer s H E) (fun n H'=>E (cv n) none H') ((aV ar).getD 13 (.Pass ⟨0,0,0,0⟩)) jj):=
 ⟨(aL bj.nd rfl (by first | exact .inl rfl | exact .inr rfl) (dD (af (pv 2)) (bq aI (hr.mono (by decide)) rfl bC (aa (af (pv 0)) (aa aq (aa (cg rfl B.len (aa (af (pv 2)) ag)) ag))) rfl)))⟩
def rH(B:Bl K mg base cv cA Cp){bo:Value}{A:TY}{outer:List Env}{s:S7}{H:Hp}{E:XK}(hr:Room 8 (A.deeper (UA "law" (ai ar) s.heap.objs.size f bo))):
 Box (iq (a_ (cT P w cv) P w K mg base aT "law" (ai ar) f bo A outer s H E) (fun n H'=>E (cv n) none H') ((aV ar).getD 14 (.Pass ⟨0,0,0,0⟩)) gp):=
 ⟨(aL bj.nd rfl (by first | exact .inl rfl | exact .inr rfl) (bw (aa (af (pv 9)) (aa (AE (af (pv 9)) (fq aq)) (aa (cV (qy (af (pv 9)) gM (gN (af (pv 10)))) (qy (af (pv 9)) (gN (df (af (pv 10)) aq)) gM)) (aa (cV (cV (qy (af (pv 9)) gM (gN (af (pv 10)))) (bw (aa (af (pv 11)) ag))) (qy (af (pv 9)) (gN (df (af (pv 10)) aq)) gM)) (aa (cV (cV (qy (af (pv 9)) gM (gN (af (pv 10)))) (bw (aa (af (pv 11)) ag))) (qy (af (pv 9)) (gN (af (pv 10))) gM)) ag)))))))⟩
def rJ(B:Bl K mg base cv cA Cp){bo:Value}{A:TY}{outer:List Env}{s:S7}{H:Hp}{E:XK}(hr:Room 8 (A.deeper (UA "law" (ai ar) s.heap.objs.size f bo))):
 Box (iq (a_ (cT P w cv) P w K mg base aT "law" (ai ar) f bo A outer s H E) (fun n H'=>E (cv n) none H') ((aV ar).getD 15 (.Pass ⟨0,0,0,0⟩)) gq):=
 ⟨(aL bj.nd rfl (by first | exact .inl rfl | exact .inr rfl) (cV (af (pv 12)) (bw (aa (af (pv 8)) (aa (cV (af (pv 8)) (bw (aa (af (pv 11)) ag))) (aa (af (pv 2)) (aa (bw (aa (af (pv 3)) (aa (af (pv 4)) ag))) (aa (bw (aa (af (pv 3)) ag)) (aa (bw ag) (aa (D5 rfl B.tuple rfl (aa (af (pv 9)) ag)) (aa dh (aa (bw (aa dh ag)) (aa (bw (aa (af (pv 3)) (aa aq ag))) ag)))))))))))))⟩
def rK(B:Bl K mg base cv cA Cp){bo:Value}{A:TY}{outer:List Env}{s:S7}{H:Hp}{E:XK}(hr:Room 8 (A.deeper (UA "law" (ai ar) s.heap.objs.size f bo))):
 Box (iq (a_ (cT P w cv) P w K mg base aT "law" (ai ar) f bo A outer s H E) (fun n H'=>E (cv n) none H') ((aV ar).getD 16 (.Pass ⟨0,0,0,0⟩)) gr):=
 ⟨(aL bj.nd rfl (by first | exact .inl rfl | exact .inr rfl) (cV (af (pv 12)) (bw (aa (bw (aa (AD rfl B.list rfl (aa (af (pv 3)) ag)) ag)) (aa (cV (af (pv 9)) (af (pv 9))) (aa (cV (af (pv 9)) (AE (af (pv 9)) (fq aq))) (aa (bw (aa (af (pv 11)) (aa (af (pv 3)) ag))) (aa (cV (af (pv 8)) (bw (aa (cu (aa ck (aa aq ag))) ag))) (aa (cV (af (pv 8)) (bw (aa (cu (aa aq (aa aq ag))) ag))) ag)))))))))⟩
def rL(B:Bl K mg base cv cA Cp)(ba:av P w K mg base cv 7 "_law_told" 6 aG)(dP:av P w K mg base cv 3 "_law_is_way" 5 b6)(jr:av P w K mg base cv 3 "_law_fence" 5 c7){bo:Value}{A:TY}{outer:List Env}{s:S7}{H:Hp}{E:XK}(hr:Room 8 (A.deeper (UA "law" (ai ar) s.heap.objs.size f bo))):
 Box (iq (a_ (cT P w cv) P w K mg base aT "law" (ai ar) f bo A outer s H E) (fun n H'=>E (cv n) none H') ((aV ar).getD 17 (.Pass ⟨0,0,0,0⟩)) eZ):=
 ⟨(cW (b_ TH rfl (bJ (af (pv 12))) (bu bj.nd rfl (by first | exact .inl rfl | exact .inr rfl)) bN (br (ao (aL bj.nd rfl (by first | exact .inl rfl | exact .inr rfl) (bw (aa (bq dP (hr.mono (by decide)) rfl cM (aa (af (pv 1)) (aa (af (pv 5)) (aa (af (pv 3)) (aa (af (pv 4)) (aa (af (pv 13)) ag))))) rfl) (aa (bq jr (hr.mono (by decide)) rfl cM (aa (af (pv 1)) (aa (af (pv 5)) (aa (af (pv 3)) (aa (af (pv 4)) (aa (af (pv 13)) ag))))) rfl) ag)))) (au (bh (fP hr.units (dg (tn:=["_law_which"]) (n:=0) (bT (N:=aT) (osc:=(ai ar)) rfl rfl (by decide+kernel)) rfl rfl (mq (cu (aa aq (aa aq ag)))) (fun _ _ _ _ _ _ _=>dq (show UC (((["_law_which"]:List Str))++dr ["_law_which"] aT) by decide+kernel) rfl rfl) (fun _ _ _ _ _ _=>du) (fun _ _ _ _ _ _=>(bq ba (hr.mono (by decide)) rfl cM (aa (af (pv 0)) (aa (af (pv 2)) (aa (af (pv 6)) (aa (af (pv 4)) (aa (af (pv 5)) (aa (af (pv 14)) ag)))))) rfl))) (af (pv 14))) (au (aE ck)) aW))))))⟩
def rM(B:Bl K mg base cv cA Cp)(aI:av P w K mg base cv 2 "_law_drawn" 3 aF){bo:Value}{A:TY}{outer:List Env}{s:S7}{H:Hp}{E:XK}(hr:Room 8 (A.deeper (UA "law" (ai ar) s.heap.objs.size f bo))):
 Box (iq (a_ (cT P w cv) P w K mg base aT "law" (ai ar) f bo A outer s H E) (fun n H'=>E (cv n) none H') ((aV ar).getD 18 (.Pass ⟨0,0,0,0⟩)) e8):=
 ⟨(aL bj.nd rfl (by first | exact .inl rfl | exact .inr rfl) (dD (bw (aa (cu (aa (cg rfl B.len (aa (af (pv 1)) ag)) (aa aq ag))) (aa (cu (aa aq (aa (fq aq) ag))) (aa dh (aa (cu (aa ck (aa aq ag))) (aa (bw (aa aq (aa aq ag))) ag)))))) (bq aI (hr.mono (by decide)) rfl bC (aa (af (pv 0)) (aa aq (aa aq ag))) rfl)))⟩
def rN(B:Bl K mg base cv cA Cp)(aI:av P w K mg base cv 2 "_law_drawn" 3 aF)(fc:av P w K mg base cv 8 "_law_refuses" 5 cX){bo:Value}{A:TY}{outer:List Env}{s:S7}{H:Hp}{E:XK}(hr:Room 8 (A.deeper (UA "law" (ai ar) s.heap.objs.size f bo))):
 Box (iq (a_ (cT P w cv) P w K mg base aT "law" (ai ar) f bo A outer s H E) (fun n H'=>E (cv n) none H') ((aV ar).getD 19 (.Pass ⟨0,0,0,0⟩)) e9):=
 ⟨(aE (bq fc (hr.mono (by decide)) rfl bC (aa (af (pv 1)) (aa (af (pv 5)) (aa (af (pv 3)) (aa (af (pv 15)) (aa (dD (bw (aa aq (aa dh ag))) (bq aI (hr.mono (by decide)) rfl bC (aa (af (pv 0)) (aa aq (aa aq ag))) rfl)) ag))))) rfl))⟩
def xt{fd:U1}(B:Bl K mg base cv cA Cp)(jq:av P w K mg base cv 3 "_law_board" 3 dJ)(cz:av P w K mg base cv 1 "_law_cells" 1 bM)(mL:av P w K mg base cv 2 "_law_far" 4 eD)(ba:av P w K mg base cv 7 "_law_told" 6 aG)(aI:av P w K mg base cv 2 "_law_drawn" 3 aF)(fc:av P w K mg base cv 8 "_law_refuses" 5 cX)(dP:av P w K mg base cv 3 "_law_is_way" 5 b6)(jr:av P w K mg base cv 3 "_law_fence" 5 c7)(g_:av P w K mg base cv 3 "_law_patches" 2 cC)(Fn:Fun K "law" "law" ar f fd):FnOk P w K mg base (cT P w cv) 9 f fd mX (Ci K cv 1 ke):=
 Ln (N:=aT) (ps:=mX) (τ:=nv) Fn bj fun bo A outer s H E hr=>by
  obtain⟨SK⟩:Box (PSDs (a_ (cT P w cv) P w K mg base aT "law" (ai ar) f bo A outer s H E) (fun n H'=>E (cv n) none H') (aV ar) nv):=(c8 (vy B jq hr) (c8 (vz B cz hr) (c8 (vA B aI hr) (c8 (vB B aI hr) (c8 (vC B aI hr) (c8 (vD B mL hr) (c8 (vE B ba hr) (c8 (vF B ba hr) (c8 (vG B dP hr) (c8 (vH B hr) (c8 (rD B g_ hr) (c8 (rE B hr) (c8 (rF B aI hr) (c8 (rG B aI hr) (c8 (rH B hr) (c8 (rJ B hr) (c8 (rK B hr) (c8 (rL B ba dP jr hr) (c8 (rM B aI hr) (Io (rN B aI fc hr)))))))))))))))))))))
  assumption
end
end K1
namespace K1
open PySem L2 L3
def DB{ds:List D}(h:ds.length<=lim):aX ds=ae (.lst ds):=if_pos h
def dz:lim=4096:=rfl
def fK{α:Type}{xs:List α}{i:Nat}{x:α}(h:xs[i]? =some x):L2.atI xs (i:Int)=some x:=by
 obtain⟨hi,e⟩:=Tn.mp h
 unfold L2.atI An
 rw[if_pos (Int.natCast_nonneg i),if_pos (by exact Int.ofNat_lt.mpr hi)]
 exact h
def aj{m:Nat}{g:List D->M D}{δs:DA}{ρ:bf}{ds:List D}(h:δs ρ=ae ds)(hl:ds.length=m):aw m g δs ρ=g ds:=by
 unfold aw
 rw[h]
 exact if_pos hl
def aS{a:DE}{r:DA}{ρ:bf}{x:D}{xs:List D}(h1:a ρ=ae x)(h2:r ρ=ae xs):aC a r ρ=ae (x::xs):=by
 unfold aC
 rw[h1,ay,h2]
 rfl
def az{g:D->D->M D}{a b:DE}{ρ:bf}{x y:D}(h1:a ρ=ae x)(h2:b ρ=ae y):d2 g a b ρ=g x y:=by
 unfold d2
 rw[h1,ay,h2]
 rfl
def cO{g:List D->M D}{a:DA}{ρ:bf}{xs:List D}(h:a ρ=ae xs):dA g a ρ=g xs:=by
 unfold dA
 rw[h]
 rfl
def iw{i j:Int}(h:0<j):lL (.int i) (.int j)=ae (.int (i % j)):=by
 show (if decide (0<j)=true then _ else _)=_
 rw[if_pos (decide_eq_true h)]
def lK{i j:Int}(h:0<j)(h2:j<1073741824):qZ (.int i) (.int j)=ae (.int (i / j)):=by
 show (if decide (0<j/\j<1073741824)=true then _ else _)=_
 rw[if_pos (decide_eq_true ⟨h,h2⟩)]
def gG{i j:Int}(h:(-(2 ^ 64)<i/\i<2 ^ 64)\/(-(2 ^ 64)<j/\j<2 ^ 64)):ib (.int i) (.int j)=ae (.int (i*j)):=by
 show (if decide _=true then _ else _)=_
 rw[if_pos (decide_eq_true h)]
def jv{i j:Int}:d8 (.int i) (.int j)=ae (.int (i+j)):=rfl
def CC(ns:List Int)(hl:ns.length<=63)(k:Nat):∃v,gD [.scr ns, .int (k:Int)]=ae (.int v):=by
 cases ns with
 |nil=>
  refine⟨7*(k:Int),?_⟩
  rfl
 |cons n r=>
  have hp:0<(n::r).length:=Nat.succ_pos _
  generalize e:(n::r)=ns at*
  have he:ju 6 (.scr ns) (.lst [])=some false:=by subst e;rfl
  obtain⟨y,hy⟩:∃y,ns[k % ns.length]? =some y:=⟨_,Tb (Nat.mod_lt _ hp)⟩
  have P7:(0:Int)<(ns.length:Int):=by omega
  have h1:lL (.int (k:Int)) (.int (ns.length:Int))=ae (.int ((k % ns.length:Nat):Int)):=iw P7
  have h2:qZ (.int (k:Int)) (.int (ns.length:Int))=ae (.int ((k:Int) / (ns.length:Int))):=lK P7 (by omega)
  have h3:CY (.scr ns) (.int ((k % ns.length:Nat):Int))=ae (.int y):=by
   show (match L2.atI ns ((k % ns.length:Nat):Int) with | some n=>ae (D.int n) | none=>ah)=_
   rw[fK hy]
  have h4:ib (.int 6553) (.int ((k:Int) / (ns.length:Int)))=ae (.int (6553*((k:Int) / (ns.length:Int)))):=gG (.inl ⟨by decide,by decide⟩)
  refine⟨y+6553*((k:Int) / (ns.length:Int)),?_⟩
  simp only[gD,qT,cj,aA,el,a9,bS,bH,d2,dV,dC,dA,aC,aN,aX,bB,Cc,gE,he,ay,h1,h2,h3,h4,Tf,UP,UM,T4,Tj,Ud,T1,T5,dz,Nat.reduceAdd,Ue,if_true,Uj,if_false,d8,gI]
def dQ(ns:List Int)(hl:ns.length<=63)(k m:Nat)(hm:0<m):∃v:Nat,v<m/\aF [.scr ns, .int (k:Int), .int (m:Int)]=ae (.int (v:Int)):=by
 obtain⟨c,hc⟩:=CC ns hl k
 have b1:=X4 (c % 2147483563*69069+104723*((k:Int)+1)) (b:=2147483563) (by decide)
 have b2:=Xe (c % 2147483563*69069+104723*((k:Int)+1)) (b:=2147483563) (by decide)
 generalize hx:(c % 2147483563*69069+104723*((k:Int)+1)) % 2147483563=x at b1 b2
 have b3:=X4 (x*x+x / 3) (b:=2147483399) (by decide)
 have b4:=Xe (x*x+x / 3) (b:=2147483399) (by decide)
 generalize hy:(x*x+x / 3) % 2147483399=y at b3 b4
 have m1:ib (.int (c % 2147483563)) (.int 69069)=_:=gG (.inr ⟨by decide,by decide⟩)
 have m2:ib (.int 104723) (.int ((k:Int)+1))=_:=gG (.inl ⟨by decide,by decide⟩)
 have m3:ib (.int x) (.int x)=_:=gG (.inl ⟨by omega,by omega⟩)
 have m4:ib (.int y) (.int y)=_:=gG (.inl ⟨by omega,by omega⟩)
 have hM:(0:Int)<(m:Int):=Int.ofNat_lt.mpr hm
 have n1:=X4 ((y*y+y / 7) % 2147483647 / 11) (b:=(m:Int)) (by omega)
 have n2:=Xe ((y*y+y / 7) % 2147483647 / 11) hM
 have q1:lL (.int c) (.int 2147483563)=_:=iw (by decide)
 have q2:lL (.int (c % 2147483563*69069+104723*((k:Int)+1))) (.int 2147483563)=_:=iw (by decide)
 have q3:qZ (.int x) (.int 3)=_:=lK (by decide) (by decide)
 have q4:lL (.int (x*x+x / 3)) (.int 2147483399)=_:=iw (by decide)
 have q5:qZ (.int y) (.int 7)=_:=lK (by decide) (by decide)
 have q6:lL (.int (y*y+y / 7)) (.int 2147483647)=_:=iw (by decide)
 have q7:qZ (.int ((y*y+y / 7) % 2147483647)) (.int 11)=_:=lK (by decide) (by decide)
 have q8:lL (.int ((y*y+y / 7) % 2147483647 / 11)) (.int (m:Int))=_:=iw hM
 refine⟨((y*y+y / 7) % 2147483647 / 11 % (m:Int)).toNat,by omega,?_⟩
 rw[W7 n1]
 rw[hx] at q2
 rw[hy] at q4
 simp only[aF,ot,cj,aA,bD,a9,aw,d2,dV,dC,dA,aC,aN,ay,hc,Tf,UP,UM,T4,Tj,Ud,T1,T5,TB,U6,U7,Nat.reduceAdd,Nat.reduceSub,if_true,jv,m1,m2,m3,m4,q1,q2,q3,q4,q5,q6,q7,q8]
def DG{α:Type}(a:α):noex (ae a)=ae a:=rfl
def wN{put:D->bf->Option bf}{body:DS}{I:Nat->bf->Prop}:∀(ds:List D) (i:Nat) (ρ:bf),I i ρ->
 (∀j d,ds[j]? =some d->∀ρ,I (i+j) ρ->∃ρ1 ρ2,put d ρ=some ρ1/\body ρ1=ae (.nx ρ2)/\I (i+j+1) ρ2)->∃ρ',forL put body ds ρ=ae (.nx ρ')/\I (i+ds.length) ρ'
 |[],i,ρ,h,_=>⟨ρ,rfl,h⟩
 |d::ds,i,ρ,h,step=>by
  obtain⟨ρ1,ρ2,e1,e2,h2⟩:=step 0 d rfl ρ h
  obtain⟨ρ',e3,h3⟩:=wN (I:=I) ds (i+1) ρ2 h2 fun j d' hd ρ hI=>by
   have:=step (j+1) d' hd ρ (by rw[show i+(j+1)=i+1+j by omega];exact hI)
   rw[show i+(j+1)+1=i+1+j+1 by omega] at this
   exact this
  refine⟨ρ',?_,?_⟩
  ·show (match put d ρ with | none=>ah | some ρ1=>body ρ1>>=fun o=>match o with | .nx ρ2=>forL put body ds ρ2 | .rt v=>ae (.rt v))=_
   rw[e1]
   show (body ρ1>>=fun o=>match o with | .nx ρ2=>forL put body ds ρ2 | .rt v=>ae (.rt v))=_
   rw[e2]
   exact e3
  ·rw[show i+(d::ds).length=i+1+ds.length by simp;omega]
   exact h3
def rZ{f:D->M (Option D)}{Pr:D->Prop}:∀(ds:List D),(∀d∈ds,∃y,f d=ae (some y)/\Pr y)->∃ys,eh f ds=ae ys/\ys.length=ds.length/\∀y∈ys,Pr y
 |[],_=>⟨[],rfl,rfl,fun _ h=>by cases h⟩
 |d::ds,h=>by
  obtain⟨y,e,hy⟩:=h d (Ta ..)
  obtain⟨ys,e2,hl,hp⟩:=rZ ds fun d' hd=>h d' (S9 _ hd)
  refine⟨y::ys,?_,by simp[hl],fun z hz=>?_⟩
  ·rw[fe,e,ay,e2]
   rfl
  ·cases hz with
   |head=>exact hy
   |tail _ hz=>exact hp z hz
def kc{f:D->M (Option D)}{g:D->D}:∀(ds:List D),(∀d∈ds,f d=ae (some (g d)))->eh f ds=ae (ds.map g)
 |[],_=>rfl
 |d::ds,h=>by
  rw[fe,h d (Ta ..),ay,kc ds fun d' hd=>h d' (S9 _ hd)]
  rfl
def Jc(x:Str):Bool:=!(Vn ("abcdef":Str) x 0 ("abcdef":Str).length 1).isEmpty
structure Row (W:Nat) (r:Str):Prop where
 len:r.length=W
 let':∀c∈r.cps.toList,Jc ⟨#[c]⟩=true
structure Good (bd:List Str) (W:Nat):Prop where
 r1:1<=bd.length
 r5:bd.length<=5
 w1:1<=W
 w5:W<=5
 rows:∀r∈bd,Row W r
abbrev lE(c:Nat):Prop:=Jc ⟨#[c]⟩=true/\c≠101
def MZ(r:Str):Prop:=∀c∈r.cps.toList,c≠101
def yk:∀(ys:List D),(∀y∈ys,∃c,y= .str ⟨#[c]⟩/\lE c)->∃xs,vL ys=some xs/\xs.length=ys.length/\(xs.map (·.length)).sum=ys.length/\Row ys.length (fV xs)/\MZ (fV xs)
 |[],_=>⟨[],rfl,rfl,rfl,⟨rfl,fun c h=>by cases h⟩,fun c h=>by cases h⟩
 |y::ys,h=>by
  obtain⟨c,e,hc⟩:=h y (Ta ..)
  obtain⟨xs,e1,e2,e3,e4,e5⟩:=yk ys fun z hz=>h z (S9 _ hz)
  subst e
  have yy:∀z,z∈((⟨#[c]⟩:Str)++fV xs).cps.toList->z=c\/z∈(fV xs).cps.toList:=fun z hz=>by
   have:((⟨#[c]⟩:Str)++fV xs).cps= #[c]++(fV xs).cps:=rfl
   rw[this] at hz
   simpa using hz
  refine⟨⟨#[c]⟩::xs,?_,by simp[e2],?_,⟨?_,fun z hz=>?_⟩,fun z hz=>?_⟩
  ·show (vL ys).map _=_
   rw[e1]
   rfl
  ·rw[Tf,Vi,e3]
   show 1+ys.length=_
   simp
   omega
  ·show ((⟨#[c]⟩:Str)++fV xs).length=_
   rw[j5,e4.len]
   show 1+ys.length=_
   simp
   omega
  ·rcases yy z hz with rfl | q
   ·exact hc.1
   ·exact e4.let' z q
  ·rcases yy z hz with rfl | q
   ·exact hc.2
   ·exact e5 z q
def Ew{lo:Int}{n:Nat}{d:D}(h:d∈iL lo n):∃i:Nat,i<n/\d= .int (lo+(i:Int)):=by
 unfold iL at h
 obtain⟨i,hi,e⟩:=TJ.mp h
 exact⟨i,WR.mp hi,e.symm⟩
def G3{lo:Int}{n j:Nat}{d:D}(h:(iL lo n)[j]? =some d):j<n/\d= .int (lo+(j:Int)):=by
 unfold iL at h
 rw[Tu] at h
 by_cases hj:j<n
 ·rw[Y0 hj] at h
  cases h
  exact⟨hj,rfl⟩
 ·rw[WG (by simpa using hj)] at h
  cases h
def jO(lo:Int)(n:Nat):(iL lo n).length=n:=by simp[iL]
abbrev fz(d:D):Option Sl:=some (.fz d)
def kS{δe:DE}{ρ:bf}{d:D}:jk 0 cw δe ρ d=(δe (fz d::ρ)>>=fun y=>ae (some y)):=rfl
def yM{δt:DT}{δe:DE}{ρ:bf}{d:D}:jk 0 δt δe ρ d=(δt (fz d::ρ)>>=fun b=>if b then δe (fz d::ρ)>>=fun y=>ae (some y) else ae none):=rfl
def ak{a b:DS}{ρ ρ':bf}{o:M Out}(h:a ρ=ae (.nx ρ'))(h2:b ρ'=o):aA a b ρ=o:=by
 unfold aA
 rw[h]
 exact h2
def a8{a b:DS}{ρ:bf}{d:D}(h:a ρ=ae (.rt d)):aA a b ρ=ae (.rt d):=by
 unfold aA
 rw[h]
 rfl
def aM{i:Nat}{δ:DE}{ρ:bf}{d:D}(h:δ ρ=ae d):bD i δ ρ=ae (.nx (ρ.set i (fz d))):=by
 unfold bD
 rw[h]
 rfl
def bL{c:DT}{a b:DS}{ρ:bf}{o:M Out}(h:c ρ=ae true)(h2:a ρ=o):el c a b ρ=o:=by
 unfold el
 rw[h]
 exact h2
def bR{c:DT}{a b:DS}{ρ:bf}{o:M Out}(h:c ρ=ae false)(h2:b ρ=o):el c a b ρ=o:=by
 unfold el
 rw[h]
 exact h2
def aD{δ:DE}{ρ:bf}{d:D}(h:δ ρ=ae d):a9 δ ρ=ae (.rt d):=by
 unfold a9
 rw[h]
 rfl
def cx{δ:DE}{ρ:bf}{d:D}(h:δ ρ=ae d):mw δ ρ=ae (.nx ρ):=by
 unfold mw
 rw[h]
 rfl
def aP{n:Nat}{τ:DS}{ds:List D}{d:D}(h:τ (ds.map (fun d=>some (Sl.fz d))++TB (n - ds.length) none)=ae (.rt d)):cj n τ ds=ae d:=by
 unfold cj
 rw[h]
 rfl
def vm{n:Nat}{τ:DS}{ds:List D}{ρ:bf}(h:τ (ds.map (fun d=>some (Sl.fz d))++TB (n - ds.length) none)=ae (.nx ρ)):cj n τ ds=ae .non:=by
 unfold cj
 rw[h]
 rfl
def fG{n k:Nat}{τ:DS}{ds:List D}(h:τ (ds.map (fun d=>some (Sl.fz d))++TB (n - ds.length) none)=bz k):cj n τ ds=bz k:=by
 unfold cj
 rw[h]
 rfl
def Ey{put:D->bf->Option bf}{δi:DA}{b:DS}{ρ:bf}{ds:List D}{o:Out}(h:δi ρ=ae ds)(h2:forL put b ds ρ=ae o):noex (dj put δi b ρ)=ae o:=by
 unfold dj
 rw[h,ay,h2]
 rfl
def bt{is:List Nat}{τ:DS}{ρ ρ':bf}(h:τ ρ=ae (.nx ρ')):bW is τ ρ=ae (.nx (fgt is ρ')):=by
 unfold bW
 rw[h]
 rfl
def mx{is:List Nat}{τ:DS}{ρ:bf}{d:D}(h:τ ρ=ae (.rt d)):bW is τ ρ=ae (.rt d):=by
 unfold bW
 rw[h]
 rfl
def cG{n:Nat}{δi:DA}{δt:DT}{δe:DE}{ρ:bf}{ds ys:List D}(h:δi ρ=ae ds)(h2:eh (jk n δt δe ρ) ds=ae ys)(h3:ys.length<=lim):bA n δi δt δe ρ=ae (.lst ys):=by
 unfold bA
 rw[h,ay,h2,DG,ay,DB h3]
def nj{n:Nat}(h:n<=4096):jl [.int (n:Int)]=ae (iL 0 n):=by
 show (if -4096<=(n:Int)/\(n:Int)<=4096 then ae (iL 0 (n:Int).toNat) else ah)=_
 rw[if_pos ⟨by omega,by omega⟩]
 rfl
structure Alpha (al:Str):Prop where
 pos:0<al.length
 ok:∀c∈al.cps.toList,lE c
def Ii:Alpha "ab"/\Alpha "abc"/\Alpha "aab"/\Alpha "fa":=by
 refine⟨⟨by decide+kernel,?_⟩,⟨by decide+kernel,?_⟩,⟨by decide+kernel,?_⟩,⟨by decide+kernel,?_⟩⟩<;>decide+kernel
def CZ{x:Str}{i:Nat}(h:i<x.length):∃c,c∈x.cps.toList/\x.cps.toList[i]? =some c/\jw (.str x) (.int (i:Int))=ae (.str ⟨#[c]⟩):=by
 have h:i<x.cps.toList.length:=by rw[TZ];exact h
 refine⟨x.cps.toList[i],Vr h,Tb h,?_⟩
 show (match L2.atI x.cps.toList (i:Int) with | some c=>ae (D.str ⟨#[c]⟩) | none=>ah)=_
 rw[fK (Tb h)]
abbrev brd(bd:List Str):D:= .tup (bd.map D.str)
abbrev sgn(at' mo:Nat)(ns:List Int)(W:Nat)(al:Str)(bd:List Str)(R:Nat)(x7 x8:Option Sl):bf:=[fz (.scr ns),fz (.int (at':Int)),fz (.int (mo:Int)),fz (.int (R:Int)),fz (.int (W:Int)),fz (.str al),fz (brd bd),x7,x8]
def QB:DE:=bA 0 (fun ρ=>(aC (dV 4) aN) ρ>>=jl) cw (d2 jw (dV 6) (aw 3 aF (aC (dV 1) (aC (d2 d8 (d2 d8 (d2 d8 (dV 2) (dC (.int 3))) (d2 ib (dC (.int 7)) (dV 8))) (dV 0)) (aC (dA bB (aC (dV 6) aN)) aN)))))
def B1(at' mo:Nat)(ns:List Int)(hl:ns.length<=63)(al:Str)(ha:Alpha al)(j W R:Nat)(hW:W<=5)(bd:List Str)(x8:Option Sl):
 ∃ys,QB (sgn at' mo ns W al bd R (fz (.int (0+(j:Int)))) x8)=ae (.lst ys)/\ys.length=W/\∀y∈ys,∃c,y= .str ⟨#[c]⟩/\lE c:=by
 obtain⟨ys,e,KI,hp⟩:=rZ (f:=jk 0 cw (d2 jw (dV 6) (aw 3 aF (aC (dV 1) (aC (d2 d8 (d2 d8 (d2 d8 (dV 2) (dC (.int 3))) (d2 ib (dC (.int 7)) (dV 8))) (dV 0)) (aC (dA bB (aC (dV 6) aN)) aN)))))
  (sgn at' mo ns W al bd R (fz (.int (0+(j:Int)))) x8)) (Pr:=fun y=>∃c,y= .str ⟨#[c]⟩/\lE c) (iL 0 W) fun d hd=>by
  obtain⟨i,hi,rfl⟩:=Ew hd
  obtain⟨v,hv,e⟩:=dQ ns hl (at'+3+7*j+i) al.length ha.pos
  obtain⟨c,hc,_,e2⟩:=CZ hv
  refine⟨.str ⟨#[c]⟩,?_,c,rfl,ha.ok c hc⟩
  rw[kS]
  have k:(at':Int)+3+7*(0+(j:Int))+(0+(i:Int))=((at'+3+7*j+i:Nat):Int):=by omega
  have m1:ib (.int 7) (.int (0+(j:Int)))=ae (.int (7*(0+(j:Int)))):=gG (.inl ⟨by decide,by decide⟩)
  simp only[aw,d2,dV,dC,dA,aC,aN,ay,Tj,Ud,T1,T5,Nat.reduceAdd,if_true,jv,m1,k,bB,e,e2]
 refine⟨ys,cG (nj (n:=W) (by omega)) e (by rw[KI,jO,dz];omega),by rw[KI,jO],hp⟩
def QC:DS:=bD 6 (d2 wO (dV 6) (dA bc (aC (dM L5 joinM (dC (.str "")) (aC (dV 8) aN)) aN)))
def Fl(at' mo:Nat)(ns:List Int)(W:Nat)(al:Str)(bd:List Str)(R:Nat)(x7:Option Sl)(ys:List D)(hb:bd.length<=5)(hy:ys.length<=5)(s3:∀y∈ys,∃c,y= .str ⟨#[c]⟩/\lE c):
 ∃r,(Row ys.length r/\MZ r)/\QC (sgn at' mo ns W al bd R x7 (fz (.lst ys)))=ae (.nx (sgn at' mo ns W al (bd++[r]) R x7 (fz (.lst ys)))):=by
 obtain⟨xs,t1,t2,t3,t4⟩:=yk ys s3
 refine⟨fV xs,t4,?_⟩
 have jn:joinM (.str "") [.lst ys]=ae (.str (fV xs)):=by
  show (match vL ys with | some (xs:List Str)=>if ("":Str).length=0/\(xs.map (fun x:Str=>x.length)).sum<=lim then ae (D.str (fV xs)) else ah | none=>ah)=_
  rw[t1]
  show (if ("":Str).length=0/\(xs.map (fun x:Str=>x.length)).sum<=lim then ae (D.str (fV xs)) else ah)=_
  rw[if_pos ⟨rfl,by rw[t3,dz];omega⟩]
 have ct:wO (brd bd) (.tup [.str (fV xs)])=ae (brd (bd++[fV xs])):=by
  show (if (bd.map D.str).length+1<=lim then ae (D.tup (bd.map D.str++[.str (fV xs)])) else ah)=_
  rw[if_pos (by rw[S6,dz];omega)]
  simp[brd]
 refine(aM (d:=brd (bd++[fV xs])) ?_).trans rfl
 simp only[d2,dV,dC,dA,aC,aN,dM,L5,ay,T1,T5,if_true,jn,bc,Tj,Ud,dz,Nat.reduceAdd,Nat.reduceLeDiff,ct]
def yE(ns:List Int)(hl:ns.length<=63)(at' mo:Nat)(m0:0<mo)(m5:mo<=5):∃bd W,Good bd W/\(∀r∈bd,MZ r)/\bd.length<=mo/\W<=mo/\dJ [.scr ns, .int (at':Int), .int (mo:Int)]=ae (brd bd):=by
 obtain⟨r,hr,e1⟩:=dQ ns hl at' mo m0
 obtain⟨c,hc,e2⟩:=dQ ns hl (at'+1) mo m0
 obtain⟨a,ha,e3⟩:=dQ ns hl (at'+2) 4 (by decide)
 obtain⟨al,Ls,e4⟩:∃al,Alpha al/\bZ (.lst [.str "ab", .str "abc", .str "aab", .str "fa"]) (.int (a:Int))=ae (.str al):=by
  obtain⟨a1,a2,a3,a4⟩:=Ii
  match a,ha with
  |0,_=>exact⟨_,a1,rfl⟩
  |1,_=>exact⟨_,a2,rfl⟩
  |2,_=>exact⟨_,a3,rfl⟩
  |3,_=>exact⟨_,a4,rfl⟩
 have k1:(1:Int)+(r:Int)=((r+1:Nat):Int):=by omega
 have k2:(1:Int)+(c:Int)=((c+1:Nat):Int):=by omega
 have Cd:aF [.scr ns, .int (at':Int), .int (mo:Int)]=ae (.int (r:Int)):=e1
 have Ky:aF [.scr ns, .int ((at':Int)+1), .int (mo:Int)]=ae (.int (c:Int)):=e2
 have M8:aF [.scr ns, .int ((at':Int)+2), .int 4]=ae (.int (a:Int)):=e3
 obtain⟨ρ',f1,bd,f2,f3,f4⟩:=wN (put:=putN 7) (body:=bW [7,8] (aA (bD 8 QB) QC))
  (I:=fun i ρ=>∃bd,ρ=sgn at' mo ns (c+1) al bd (r+1) none none/\bd.length=i/\∀z∈bd,Row (c+1) z/\MZ z)
  (iL 0 (r+1)) 0 (sgn at' mo ns (c+1) al [] (r+1) none none) ⟨[],rfl,rfl,fun _ h=>by cases h⟩ fun j d hd ρ ⟨bd,hρ,hb,hw⟩=>by
   obtain⟨hj,rfl⟩:=G3 hd
   subst hρ
   obtain⟨ys,s1,s2,s3⟩:=B1 at' mo ns hl al Ls j (c+1) (r+1) (by omega) bd none
   obtain⟨yz,t1,t2⟩:=Fl at' mo ns (c+1) al bd (r+1) (fz (.int (0+(j:Int)))) ys (by omega) (by omega) s3
   refine⟨_,_,rfl,bt (ak (aM s1) t2),bd++[yz],rfl,by simp[hb],fun z hz=>?_⟩
   rcases Ui.mp hz with h | h
   ·exact hw z h
   ·have h:z=yz:=by simpa using h
    subst h
    rw[s2] at t1
    exact t1
 refine⟨bd,c+1,⟨by rw[f3,jO];omega,by rw[f3,jO];omega,by omega,by omega,fun r q=>(f4 r q).1⟩,fun r q=>(f4 r q).2,by rw[f3,jO];omega,by omega,?_⟩
 subst f2
 refine aP ?_
 refine ak (aM (d:= .int ((r+1:Nat):Int)) ?_) ?_
 ·simp only[aw,d2,dV,dC,aC,aN,ay,Tf,UP,UM,T4,Tj,Ud,T1,T5,Nat.reduceAdd,if_true,jv,Cd,k1]
 refine ak (aM (d:= .int ((c+1:Nat):Int)) ?_) ?_
 ·simp only[aw,d2,dV,dC,aC,aN,ay,Tf,UP,UM,T4,Tj,Ud,TB,U6,U7,Nat.reduceSub,T1,T5,Nat.reduceAdd,if_true,jv,Ky,k2]
 refine ak (aM (d:= .str al) ?_) ?_
 ·simp only[aw,d2,dV,dC,dA,aC,aN,ay,Tf,UP,UM,T4,Tj,Ud,TB,U6,U7,Nat.reduceSub,T1,T5,Nat.reduceAdd,if_true,jv,M8,aX,dz,Nat.reduceLeDiff,e4]
 refine ak (aM (d:= .tup []) rfl) ?_
 refine ak (Ey (nj (n:=r+1) (by omega)) f1) ?_
 exact aD rfl
def yF(ns:List Int)(hl:ns.length<=63)(at' mo:Nat)(m0:0<mo)(m5:mo<=5):∃bd W,Good bd W/\bd.length<=mo/\W<=mo/\dJ [.scr ns, .int (at':Int), .int (mo:Int)]=ae (brd bd):=
 let ⟨bd,W,h1,_,h2⟩:=yE ns hl at' mo m0 m5
 ⟨bd,W,h1,h2⟩
def AW(ns:List Int)(hl:ns.length<=63)(at' mo:Nat)(m0:0<mo)(m5:mo<=5):∃bd W,Good bd W/\dJ [.scr ns, .int (at':Int), .int (mo:Int)]=ae (brd bd):=by
 obtain⟨bd,W,h1,_,_,h2⟩:=yF ns hl at' mo m0 m5
 exact⟨bd,W,h1,h2⟩
def Plain:D->Prop
 | .non | .bl _ | .int _ | .str _ | .tup _ | .lst _=>True
 |_=>False
def isStr:D->Bool
 | .str _=>true
 |_=>false
def isTup:D->Bool
 | .tup _=>true
 |_=>false
def gT{d:D}(h:Plain d):fX [d, .raw (.ty "str")]=ae (.bl (isStr d)):=by
 cases d<;>first | rfl | exact h.elim
def oY{d:D}(h:Plain d):fX [d, .raw (.ty "tuple")]=ae (.bl (isTup d)):=by
 cases d<;>first | rfl | exact h.elim
def uG:D->Bool
 | .str x=>(x.length==1)&&Jc x
 |_=>false
def ug{ρ:bf}{i:Nat}{d:D}(h:ρ[i]? =some (fz d)):dV i ρ=ae d:=by
 unfold dV
 rw[h]
def eq_int(i j:Int):gE (.int i) (.int j)=ae (.bl (i==j)):=rfl
def ne_int(i j:Int):gw (.int i) (.int j)=ae (.bl (!(i==j))):=rfl
def len_str(x:Str):bB [.str x]=ae (.int (x.length:Int)):=rfl
def in_str(x:Str):CW false (.str x) (.str "abcdef")=ae (.bl (Jc x)):=rfl
def jF(a b:Nat):((a:Int)==(b:Int))=(a==b):=by
 by_cases h:a=b
 ·subst h;simp
 ·have h2:¬(a:Int)=(b:Int):=by omega
  rw[beq_eq_false_iff_ne.mpr h,beq_eq_false_iff_ne.mpr h2]
def F9{d:D}(h:Plain d){i:Nat}{ρ:bf}(hρ:ρ[i]? =some (fz d)):
 dH (dA fX (aC (dV i) (aC (dC (.raw (.ty "str"))) aN))) (dH (d2 gE (dA bB (aC (dV i) aN)) (dC (.int 1))) (d2 (CW false) (dV i) (dC (.str "abcdef")))) ρ=ae (.bl (uG d)):=by
 have hv:=ug hρ
 have e1:=jF
 cases d with
 |str x=>
  have k:((x.length:Int)==1)=(x.length==1):=jF x.length 1
  simp only[dH,dA,aC,aN,dC,d2,hv,ay,gT h,isStr,Cc,if_true,len_str,eq_int,k,in_str,uG]
  cases x.length==1<;>rfl
 |non=>simp only[dH,dA,aC,aN,dC,d2,hv,ay,gT h,isStr,Cc,if_false,Uj,uG]
 |bl b=>simp only[dH,dA,aC,aN,dC,d2,hv,ay,gT h,isStr,Cc,if_false,Uj,uG]
 |int b=>simp only[dH,dA,aC,aN,dC,d2,hv,ay,gT h,isStr,Cc,if_false,Uj,uG]
 |tup b=>simp only[dH,dA,aC,aN,dC,d2,hv,ay,gT h,isStr,Cc,if_false,Uj,uG]
 |lst b=>simp only[dH,dA,aC,aN,dC,d2,hv,ay,gT h,isStr,Cc,if_false,Uj,uG]
 |raw _=>exact h.elim
 |exc _=>exact h.elim
 |scr _=>exact h.elim
 |dct _ _=>exact h.elim
 |dci _ _=>exact h.elim
def ra{d:D}(h:Plain d):dI [d]=ae (.bl (uG d)):=aP (aD (F9 h rfl))
def ki(x:Str):Bool:=x.cps.toList.all fun c=>Jc ⟨#[c]⟩
def oP:D->Bool
 | .str x=>(decide (1<=x.length)&&decide (x.length<=8))&&ki x
 |_=>false
def AX(l:List Bool):bools (l.map D.bl)=some l:=by
 induction l with
 |nil=>rfl
 |cons b r ih=>show (bools (r.map D.bl)).map _=_;rw[ih];rfl
def all_map(l:List Bool):allM [.lst (l.map D.bl)]=ae (.bl (l.all id)):=by
 show (match bools (l.map D.bl) with | some bs=>ae (D.bl (bs.all id)) | none=>ah)=_
 rw[AX]
def CF{δ:DE}{ρ:bf}{n:Nat}(h:δ ρ=ae (.int (n:Int))):
 bH (qX (fun i j=>decide (i<=j)) (fun i j=>decide (i<=j)) (dC (.int 1)) δ (dC (.int 8))) ρ=ae (decide (1<=n)&&decide (n<=8)):=by
 have k1:decide ((1:Int)<=(n:Int))=decide (1<=n):=by by_cases h:1<=n<;>simp[h]<;>omega
 have k2:decide ((n:Int)<=8)=decide (n<=8):=by by_cases h:n<=8<;>simp[h]<;>omega
 simp only[bH,qX,dC,h,ay,k1,k2,gI,Cc]
 cases decide (1<=n)<;>rfl
def y0{d:D}(h:Plain d):gB [d]=ae (.bl (oP d)):=by
 refine aP ?_
 have hρ:([d].map (fun d=>some (Sl.fz d))++TB (1 - [d].length) none)=[fz d]:=rfl
 rw[hρ]
 have hv:dV 0 [fz d]=ae d:=rfl
 have no:isStr d=false->yo [fz d]=ae (.rt (.bl false)):=fun hs=>by
  refine a8 (bL ?_ (aD rfl))
  simp only[fS,bV,bE,dA,aC,aN,dC,hv,ay,gT h,hs,yj,Ye,if_true]
 cases d with
 |str x=>
  have hi:bE (dA fX (aC (dV 0) (aC (dC (.raw (.ty "str"))) aN))) [fz (.str x)]=ae true:=by
   simp only[bE,dA,aC,aN,dC,hv,ay,gT h,isStr,yj]
  have hl:dA bB (aC (dV 0) aN) [fz (.str x)]=ae (.int (x.length:Int)):=rfl
  have hc:=CF hl
  by_cases hr:(decide (1<=x.length)&&decide (x.length<=8))=true
  ·rw[hr] at hc
   refine ak (bR ?_ (ρ:=[fz (.str x)]) rfl) (aD ?_)
   ·unfold fS bV
    rw[hi,ay,ay,hc]
    rfl
   ·have hb:x.length<=8:=by simp only[Ts,decide_eq_true_eq] at hr;exact hr.2
    have cm:bA 0 (fun ρ=>(dV 0) ρ>>=Kk) cw (aw 1 dI (aC (dV 0) aN)) [fz (.str x)]=ae (.lst ((x.cps.toList.map fun c=>Jc ⟨#[c]⟩).map D.bl)):=by
     refine cG (ds:=signs x) rfl ?_ ?_
     ·have:=kc (f:=jk 0 cw (aw 1 dI (aC (dV 0) aN)) [fz (.str x)]) (g:=fun d=>D.bl (uG d)) (signs x) fun d hd=>by
       rw[kS]
       obtain⟨c,_,rfl⟩:=TJ.mp hd
       show (dI [.str ⟨#[c]⟩]>>=fun y=>ae (some y))=_
       rw[ra (d:= .str ⟨#[c]⟩) trivial]
       rfl
      rw[this]
      unfold signs
      rw[UQ,UQ]
      congr 1
     ·rw[S6,S6,TZ,dz]
      exact Tw hb (by decide)
    rw[cO (aS cm rfl),all_map]
    show ae (D.bl ((x.cps.toList.map fun c=>Jc ⟨#[c]⟩).all id))=ae (D.bl ((decide (1<=x.length)&&decide (x.length<=8))&&ki x))
    rw[hr]
    unfold ki
    rw[Vu]
    rfl
  ·have hr:(decide (1<=x.length)&&decide (x.length<=8))=false:=by simpa using hr
   rw[hr] at hc
   have:oP (.str x)=false:=by
    show ((decide (1<=x.length)&&decide (x.length<=8))&&ki x)=false
    rw[hr];rfl
   rw[this]
   refine a8 (bL ?_ (aD rfl))
   unfold fS bV
   rw[hi,ay,ay,hc]
   rfl
 |non=>exact no rfl
 |bl b=>exact no rfl
 |int b=>exact no rfl
 |tup b=>exact no rfl
 |lst b=>exact no rfl
 |raw _=>exact h.elim
 |exc _=>exact h.elim
 |scr _=>exact h.elim
 |dct _ _=>exact h.elim
 |dci _ _=>exact h.elim
def kZ:D->Nat
 | .str x=>x.length
 |_=>0
def mJ:D->Bool
 | .tup ds=>(decide (1<=ds.length)&&decide (ds.length<=8))&&(ds.all oP&&ds.all fun d=>kZ d==kZ (ds.headD .non))
 |_=>false
def Plain2:D->Prop
 | .tup ds=>∀d∈ds,Plain d
 |d=>Plain d
def Plain2.plain{d:D}(h:Plain2 d):Plain d:=by
 cases d<;>first | exact h | exact trivial
def F7{ds:List D}:bB [.tup ds]=ae (.int (ds.length:Int)):=rfl
def OH{ds:List D}{d:D}{r:List D}(h:ds=d::r):aZ (.tup ds) (.int 0)=ae d:=by
 subst h
 show (match L2.atI (d::r) ((0:Nat):Int) with | some d=>ae d | none=>ah)=_
 rw[fK (x:=d) rfl]
def G4{d:D}(h:oP d=true):∃x,d= .str x:=by
 cases d<;>first | exact⟨_,rfl⟩ | cases h
def eq_nil(l:List D):gE (.lst l) (.lst [])=ae (.bl l.isEmpty):=by cases l<;>rfl
def Bb{d:D}(h:Plain d):fS (bV (bE (dA fX (aC (dV 0) (aC (dC (.raw (.ty "tuple"))) aN))))) (bV (bH (qX (fun i j=>decide (i<=j)) (fun i j=>decide (i<=j)) (dC (.int 1)) (dA bB (aC (dV 0) aN)) (dC (.int 8))))) [fz d]=
 ae (match d with | .tup ds=>!(decide (1<=ds.length)&&decide (ds.length<=8)) | _=>true):=by
 have hv:dV 0 [fz d]=ae d:=rfl
 have no:isTup d=false->fS (bV (bE (dA fX (aC (dV 0) (aC (dC (.raw (.ty "tuple"))) aN))))) (bV (bH (qX (fun i j=>decide (i<=j)) (fun i j=>decide (i<=j)) (dC (.int 1)) (dA bB (aC (dV 0) aN)) (dC (.int 8))))) [fz d]=ae true:=fun hs=>by
  simp only[fS,bV,bE,dA,aC,aN,dC,hv,ay,oY h,hs,yj,Ye,if_true]
 cases d with
 |tup ds=>
  have hi:bE (dA fX (aC (dV 0) (aC (dC (.raw (.ty "tuple"))) aN))) [fz (.tup ds)]=ae true:=by
   simp only[bE,dA,aC,aN,dC,hv,ay,oY h,isTup,yj]
  have hl:dA bB (aC (dV 0) aN) [fz (.tup ds)]=ae (.int (ds.length:Int)):=rfl
  unfold fS bV
  rw[hi,ay,ay,CF hl]
  rfl
 |non=>exact no rfl
 |bl b=>exact no rfl
 |int b=>exact no rfl
 |str b=>exact no rfl
 |lst b=>exact no rfl
 |raw _=>exact h.elim
 |exc _=>exact h.elim
 |scr _=>exact h.elim
 |dct _ _=>exact h.elim
 |dci _ _=>exact h.elim
def all_rows{ds:List D}(h:∀d∈ds,Plain d)(hl:ds.length<=8):dA allM (aC (bA 0 (oK (dV 0)) cw (aw 1 gB (aC (dV 0) aN))) aN) [fz (.tup ds)]=ae (.bl (ds.all oP)):=by
 have cm:bA 0 (oK (dV 0)) cw (aw 1 gB (aC (dV 0) aN)) [fz (.tup ds)]=ae (.lst ((ds.map oP).map D.bl)):=by
  refine cG (ds:=ds) rfl ?_ (by rw[S6,S6,dz];omega)
  rw[UQ]
  refine kc (g:=D.bl∘oP) ds fun d hd=>?_
  rw[kS]
  show (gB [d]>>=fun y=>ae (some y))=_
  rw[y0 (h d hd)]
  rfl
 rw[cO (aS cm rfl),all_map,Vu]
 rfl
def all_lens{ds:List D}(hs:∀d∈ds,∃x,d= .str x)(h0:1<=ds.length)(hl:ds.length<=8):
 dA allM (aC (bA 0 (oK (dV 0)) cw (d2 gE (dA bB (aC (dV 0) aN)) (dA bB (aC (d2 aZ (dV 1) (dC (.int 0))) aN)))) aN) [fz (.tup ds)]=ae (.bl (ds.all fun d=>kZ d==kZ (ds.headD .non))):=by
 obtain⟨d0,r,e0⟩:∃d0 r,ds=d0::r:=by
  cases ds with
  |nil=>simp at h0
  |cons a r=>exact⟨a,r,rfl⟩
 have hh:ds.headD .non=d0:=by rw[e0];rfl
 obtain⟨x0,Qa⟩:=hs d0 (by rw[e0];exact Ta ..)
 have cm:bA 0 (oK (dV 0)) cw (d2 gE (dA bB (aC (dV 0) aN)) (dA bB (aC (d2 aZ (dV 1) (dC (.int 0))) aN))) [fz (.tup ds)]=ae (.lst ((ds.map fun d=>kZ d==kZ (ds.headD .non)).map D.bl)):=by
  refine cG (ds:=ds) rfl ?_ (by rw[S6,S6,dz];omega)
  rw[UQ]
  refine kc (g:=D.bl∘fun d=>kZ d==kZ (ds.headD .non)) ds fun d hd=>?_
  rw[kS]
  obtain⟨x,rfl⟩:=hs d hd
  have k:((x.length:Int)==(x0.length:Int))=(x.length==x0.length):=jF _ _
  have i0:aZ (.tup ds) (.int 0)=ae (.str x0):=by rw[OH e0,Qa]
  have Rv:ds.headD .non= .str x0:=by rw[hh,Qa]
  simp only[d2,dA,aC,aN,dC,dV,ay,T1,T5,len_str,i0,eq_int,k,XI,kZ,Rv]
 rw[cO (aS cm rfl),all_map,Vu]
 rfl
def lO{d:D}(h:Plain2 d):iU [d]=ae (.bl (mJ d)):=by
 refine aP ?_
 have hρ:([d].map (fun d=>some (Sl.fz d))++TB (1 - [d].length) none)=[fz d]:=rfl
 rw[hρ]
 have hf:=Bb h.plain
 have no:(∀ds,d≠ .tup ds)->qS [fz d]=ae (.rt (.bl (mJ d))):=fun hn=>by
  cases d<;>first | exact absurd rfl (hn _) | exact a8 (bL hf (aD rfl))
 cases d with
 |tup ds=>
  have hf:_=ae (!(decide (1<=ds.length)&&decide (ds.length<=8))):=hf
  by_cases hr:(decide (1<=ds.length)&&decide (ds.length<=8))=true
  ·rw[hr] at hf
   have hb:=hr
   simp only[Ts,decide_eq_true_eq] at hb
   have e:mJ (.tup ds)=(ds.all oP&&ds.all fun d=>kZ d==kZ (ds.headD .non)):=by
    show ((decide (1<=ds.length)&&decide (ds.length<=8))&&_)=_
    rw[hr,US]
   rw[e]
   have a1:=all_rows h hb.2
   refine ak (bR hf rfl) ?_
   cases hc:ds.all oP with
   |false=>
    rw[hc] at a1
    refine a8 (bL ?_ (aD rfl))
    unfold bV bE
    rw[a1]
    rfl
   |true=>
    rw[hc] at a1
    refine ak (bR ?_ rfl) (aD ?_)
    ·unfold bV bE
     rw[a1]
     rfl
    ·rw[US]
     exact all_lens (fun d hd=>G4 (T2.mp hc d hd)) hb.1 hb.2
  ·have hr:(decide (1<=ds.length)&&decide (ds.length<=8))=false:=by simpa using hr
   rw[hr] at hf
   have e:mJ (.tup ds)=false:=by
    show ((decide (1<=ds.length)&&decide (ds.length<=8))&&_)=_
    rw[hr];rfl
   rw[e]
   exact a8 (bL hf (aD rfl))
 |non=>exact no fun _ z=>by cases z
 |bl b=>exact no fun _ z=>by cases z
 |int b=>exact no fun _ z=>by cases z
 |str b=>exact no fun _ z=>by cases z
 |lst b=>exact no fun _ z=>by cases z
 |raw _=>exact h.elim
 |exc _=>exact h.elim
 |scr _=>exact h.elim
 |dct _ _=>exact h.elim
 |dci _ _=>exact h.elim
structure Brd (ob:List Str) (V:Nat):Prop where
 r1:1<=ob.length
 r8:ob.length<=8
 w1:1<=V
 w8:V<=8
 rows:∀r∈ob,Row V r
def Good.brd{bd:List Str}{W:Nat}(hg:Good bd W):Brd bd W:=⟨hg.r1,by have:=hg.r5;omega,hg.w1,by have:=hg.w5;omega,hg.rows⟩
def Brd.board{ob:List Str}{V:Nat}(h:Brd ob V):mJ (brd ob)=true:=by
 have IU:∀r∈ob,oP (.str r)=true:=fun r hr=>by
  have q:=h.rows r hr
  show ((decide (1<=r.length)&&decide (r.length<=8))&&ki r)=true
  rw[q.len]
  have a:decide (1<=V)=true:=decide_eq_true h.w1
  have b:decide (V<=8)=true:=decide_eq_true h.w8
  rw[a,b]
  show ki r=true
  exact T2.mpr fun c hc=>q.let' c hc
 have h0:kZ ((ob.map D.str).headD .non)=V:=by
  have:=h.r1
  have hr:=h.rows
  cases ob with
  |nil=>simp at this
  |cons x l=>exact(hr x (Ta ..)).len
 show ((decide (1<=(ob.map D.str).length)&&decide ((ob.map D.str).length<=8))&&((ob.map D.str).all oP&&(ob.map D.str).all fun d=>kZ d==kZ ((ob.map D.str).headD .non)))=true
 rw[h0,S6,decide_eq_true h.r1,decide_eq_true h.r8]
 have a:(ob.map D.str).all oP=true:=T2.mpr fun d hd=>by
  obtain⟨r,hr,rfl⟩:=TJ.mp hd
  exact IU r hr
 have b:((ob.map D.str).all fun d=>kZ d==V)=true:=T2.mpr fun d hd=>by
  obtain⟨r,hr,rfl⟩:=TJ.mp hd
  show (r.length==V)=true
  rw[(h.rows r hr).len]
  simp
 rw[a,b]
 rfl
def AY{bd:List Str}:Plain2 (brd bd):=fun d hd=>by
 obtain⟨r,_,rfl⟩:=TJ.mp hd
 trivial
def bF{δ:DE}{ρ:bf}{b:Bool}(h:δ ρ=ae (.bl b)):bE δ ρ=ae b:=by
 unfold bE
 rw[h]
 rfl
def cI{δ:DE}{ρ:bf}{b:Bool}(h:δ ρ=ae (.bl b)):bH δ ρ=ae b:=by
 unfold bH
 rw[h]
 rfl
def cf{τ:DT}{ρ:bf}{b:Bool}(h:τ ρ=ae b):bV τ ρ=ae (!b):=by
 unfold bV
 rw[h]
 rfl
def fZ{a c:DT}{ρ:bf}{p q:Bool}(h1:a ρ=ae p)(h2:c ρ=ae q):fS a c ρ=ae (p||q):=by
 unfold fS
 rw[h1,ay]
 cases p
 ·exact h2
 ·rfl
def jt{a c:DT}{ρ:bf}(h1:a ρ=ae true):fS a c ρ=ae true:=by
 unfold fS
 rw[h1]
 rfl
def kT{a c:DT}{ρ:bf}{p q:Bool}(h1:a ρ=ae p)(h2:c ρ=ae q):gA a c ρ=ae (p&&q):=by
 unfold gA
 rw[h1,ay]
 cases p
 ·rfl
 ·exact h2
def CG{a c:DT}{ρ:bf}(h1:a ρ=ae false):gA a c ρ=ae false:=by
 unfold gA
 rw[h1]
 rfl
def uf{a c:DE}{ρ:bf}{p q:Bool}(h1:a ρ=ae (.bl p))(h2:c ρ=ae (.bl q)):dH a c ρ=ae (.bl (p&&q)):=by
 unfold dH
 rw[h1,ay]
 cases p
 ·rfl
 ·exact h2
def Ld{c:DT}{a b:DE}{ρ:bf}{p:Bool}(h:c ρ=ae p):M7 c a b ρ=if p then a ρ else b ρ:=by
 unfold M7
 rw[h]
 rfl
def Brd.nb{ob:List Str}{V:Nat}(h:Brd ob V):dS [brd ob]=ae .non:=by
 refine vm (ρ:=[fz (brd ob)]) (bR (cf (bF (b:=true) ?_)) rfl)
 refine(aj (ds:=[brd ob]) rfl rfl).trans ?_
 rw[lO AY,h.board]
def Brd.len0{ob:List Str}{V:Nat}(h:Brd ob V){i:Nat}{ρ:bf}(hρ:ρ[i]? =some (fz (brd ob))):dA bB (aC (d2 aZ (dV i) (dC (.int 0))) aN) ρ=ae (.int (V:Int)):=by
 have h1:=h.r1
 have hr:=h.rows
 obtain⟨x,l,e⟩:∃x l,ob=x::l:=by
  cases ob with
  |nil=>simp at h1
  |cons x l=>exact⟨x,l,rfl⟩
 have hx:x.length=V:=(hr x (by rw[e];exact Ta ..)).len
 have i0:aZ (brd ob) (.int 0)=ae (.str x):=OH (show ob.map D.str=D.str x::l.map D.str by rw[e];rfl)
 have k:=az (g:=aZ) (ug hρ) (show dC (.int 0) ρ=ae (.int 0) from rfl)
 rw[i0] at k
 rw[cO (aS (xs:=[]) k rfl)]
 show ae (D.int (x.length:Int))=_
 rw[hx]
def F4{bd:List Str}{i:Nat}{ρ:bf}(hρ:ρ[i]? =some (fz (brd bd))):dA bB (aC (dV i) aN) ρ=ae (.int (bd.length:Int)):=by
 have:bB [brd bd]=ae (.int (bd.length:Int)):=by
  show ae (D.int ((bd.map D.str).length:Int))=_
  rw[S6]
 simp only[dA,aC,aN,ug hρ,ay,this]
def jf:D->Bool
 | .int _=>true
 |_=>false
def tO{d:D}(h:Plain d):bY [d]=ae (.bl (jf d)):=by
 cases d<;>first | rfl | exact h.elim
def K_(R W:Nat):D->D->Bool
 | .int a, .int b=>(decide (0<=a)&&decide (a<(R:Int)))&&(decide (0<=b)&&decide (b<(W:Int)))
 |_,_=>false
def rX(R W:Nat):D->Bool
 | .tup [u,v]=>K_ R W u v
 |_=>false
def Fm{δ ε:DE}{ρ:bf}{i n:Int}(h:δ ρ=ae (.int i))(h2:ε ρ=ae (.int n)):
 qX (fun i j=>decide (i<=j)) (fun i j=>decide (i<j)) (dC (.int 0)) δ ε ρ=ae (.bl (decide (0<=i)&&decide (i<n))):=by
 simp only[qX,dC,h,h2,ay,gI]
 cases decide (0<=i)<;>rfl
def L7{d e:D}:aZ (.tup [d,e]) (.int 0)=ae d/\aZ (.tup [d,e]) (.int 1)=ae e:=⟨rfl,rfl⟩
def gS{bd:List Str}{W:Nat}(hg:Brd bd W){d:D}(h:Plain2 d):fi [brd bd,d]=ae (.bl (rX bd.length W d)):=by
 refine aP ?_
 have hρ:([brd bd,d].map (fun d=>some (Sl.fz d))++TB (2 - [brd bd,d].length) none)=[fz (brd bd),fz d]:=rfl
 rw[hρ]
 have hv:dV 1 [fz (brd bd),fz d]=ae d:=rfl
 have no:isTup d=false->tP [fz (brd bd),fz d]=ae (.rt (.bl false)):=fun hs=>by
  refine a8 (bL ?_ (aD rfl))
  simp only[fS,bV,bE,dA,aC,aN,dC,hv,ay,oY h.plain,hs,yj,Ye,if_true]
 cases d with
 |tup ds=>
  have hi:bV (bE (dA fX (aC (dV 1) (aC (dC (.raw (.ty "tuple"))) aN)))) [fz (brd bd),fz (.tup ds)]=ae false:=by
   simp only[bV,bE,dA,aC,aN,dC,hv,ay,oY h.plain,isTup,yj,Bool.not_true]
  have k:((ds.length:Int)==2)=(ds.length==2):=jF ds.length 2
  have hl:fS (bV (bE (dA fX (aC (dV 1) (aC (dC (.raw (.ty "tuple"))) aN))))) (bH (d2 gw (dA bB (aC (dV 1) aN)) (dC (.int 2)))) [fz (brd bd),fz (.tup ds)]=ae (!(ds.length==2)):=by
   unfold fS
   rw[hi]
   simp only[bH,d2,dA,aC,aN,dC,hv,ay,F7,ne_int,k,Cc,Uj,if_false]
  match ds,h,hl with
  |[],h,hl=>exact a8 (bL hl (aD rfl))
  |[_],h,hl=>exact a8 (bL hl (aD rfl))
  |_::_::_::_,h,hl=>
   refine a8 (bL (hl.trans ?_) (aD rfl))
   simp
  |[u,v],h,hl=>
   refine ak (bR hl rfl) ?_
   have pu:Plain u:=h u (by simp)
   have pv:Plain v:=h v (by simp)
   have w1:aw 1 bY (aC (d2 aZ (dV 1) (dC (.int 0))) aN) [fz (brd bd),fz (.tup [u,v])]=ae (.bl (jf u)):=tO pu
   have w2:aw 1 bY (aC (d2 aZ (dV 1) (dC (.int 1))) aN) [fz (brd bd),fz (.tup [u,v])]=ae (.bl (jf v)):=tO pv
   have hw:fS (bV (bE (aw 1 bY (aC (d2 aZ (dV 1) (dC (.int 0))) aN)))) (bV (bE (aw 1 bY (aC (d2 aZ (dV 1) (dC (.int 1))) aN)))) [fz (brd bd),fz (.tup [u,v])]=ae (!(jf u&&jf v)):=by
    unfold fS bV bE
    rw[w1,w2]
    simp only[ay,yj]
    cases jf u<;>cases jf v<;>rfl
   have bad:(jf u&&jf v)=false->aA (el (fS (bV (bE (aw 1 bY (aC (d2 aZ (dV 1) (dC (.int 0))) aN)))) (bV (bE (aw 1 bY (aC (d2 aZ (dV 1) (dC (.int 1))) aN))))) (a9 (dC (.bl false))) bS) (a9 (dH (qX (fun i j=>decide (i<=j)) (fun i j=>decide (i<j)) (dC (.int 0)) (d2 aZ (dV 1) (dC (.int 0))) (dA bB (aC (dV 0) aN))) (qX (fun i j=>decide (i<=j)) (fun i j=>decide (i<j)) (dC (.int 0)) (d2 aZ (dV 1) (dC (.int 1))) (dA bB (aC (d2 aZ (dV 0) (dC (.int 0))) aN))))) [fz (brd bd),fz (.tup [u,v])]=ae (.rt (.bl false)):=fun hz=>by
    rw[hz] at hw
    exact a8 (bL hw (aD rfl))
   match u,v,hw,bad with
   | .int a, .int b,hw,bad=>
     refine ak (bR hw rfl) (aD ?_)
     obtain⟨x0,r,e0⟩:∃x0 r,bd=x0::r:=by
      have:=hg.r1
      cases bd with
      |nil=>simp at this
      |cons x r=>exact⟨x,r,rfl⟩
     have hx:x0.length=W:=(hg.rows x0 (by rw[e0];simp)).len
     have l0:dA bB (aC (dV 0) aN) [fz (brd bd),fz (.tup [.int a, .int b])]=ae (.int (bd.length:Int)):=by
      show ae (D.int ((bd.map D.str).length:Int))=_
      rw[S6]
     have l1:dA bB (aC (d2 aZ (dV 0) (dC (.int 0))) aN) [fz (brd bd),fz (.tup [.int a, .int b])]=ae (.int (W:Int)):=by
      have i0:aZ (brd bd) (.int 0)=ae (.str x0):=OH (r:=r.map D.str) (by rw[e0];rfl)
      simp only[dA,aC,aN,d2,dC,dV,T1,ay,i0,len_str,hx]
     have c1:=Fm (δ:=d2 aZ (dV 1) (dC (.int 0))) (i:=a) rfl l0
     have c2:=Fm (δ:=d2 aZ (dV 1) (dC (.int 1))) (i:=b) rfl l1
     unfold dH
     rw[c1,ay]
     show (if (decide (0<=a)&&decide (a<(bd.length:Int)))=true then _ else _)=ae (D.bl ((decide (0<=a)&&decide (a<(bd.length:Int)))&&(decide (0<=b)&&decide (b<(W:Int)))))
     cases (decide (0<=a)&&decide (a<(bd.length:Int)))
     ·rfl
     ·rw[if_pos rfl,c2,US]
   | .non,_,_,bad=>exact bad rfl
   | .bl _,_,_,bad=>exact bad rfl
   | .str _,_,_,bad=>exact bad rfl
   | .tup _,_,_,bad=>exact bad rfl
   | .lst _,_,_,bad=>exact bad rfl
   | .raw _,_,_,_=>exact pu.elim
   | .exc _,_,_,_=>exact pu.elim
   | .scr _,_,_,_=>exact pu.elim
   | .int a, .non,_,bad=>exact bad rfl
   | .int a, .bl _,_,bad=>exact bad rfl
   | .int a, .str _,_,bad=>exact bad rfl
   | .int a, .tup _,_,bad=>exact bad rfl
   | .int a, .lst _,_,bad=>exact bad rfl
   | .int a, .raw _,_,_=>exact pv.elim
   | .int a, .exc _,_,_=>exact pv.elim
   | .int a, .scr _,_,_=>exact pv.elim
 |non=>exact no rfl
 |bl b=>exact no rfl
 |int b=>exact no rfl
 |str b=>exact no rfl
 |lst b=>exact no rfl
 |raw _=>exact h.elim
 |exc _=>exact h.elim
 |scr _=>exact h.elim
 |dct _ _=>exact h.elim
 |dci _ _=>exact h.elim
abbrev Cell:=Nat×Nat
def cD(c:Cell):D:= .tup [.int (c.1:Int), .int (c.2:Int)]
def On(R W:Nat)(c:Cell):Prop:=c.1<R/\c.2<W
instance {R W:Nat}{c:Cell}:Decidable (On R W c):=by unfold On;infer_instance
def lG{c:Cell}:Plain2 (cD c):=fun d hd=>by
 have:d= .int (c.1:Int)\/d= .int (c.2:Int):=by simpa[cD] using hd
 rcases this with rfl | rfl<;>trivial
def z3{R W:Nat}{c:Cell}(h:On R W c):rX R W (cD c)=true:=by
 show ((decide ((0:Int)<=(c.1:Int))&&decide ((c.1:Int)<(R:Int)))&&(decide ((0:Int)<=(c.2:Int))&&decide ((c.2:Int)<(W:Int))))=true
 obtain⟨h1,h2⟩:=h
 simp
 omega
def Brd.nc{bd:List Str}{W:Nat}(hg:Brd bd W){c:Cell}(h:On bd.length W c):eE [brd bd,cD c]=ae .non:=by
 refine vm (ρ:=[fz (brd bd),fz (cD c)]) (bR (cf (bF (b:=true) ?_)) rfl)
 refine(aj (ds:=[brd bd,cD c]) rfl rfl).trans ?_
 rw[gS hg lG,z3 h]
def Ways(w:Nat):Prop:=w=4\/w=8
def Ways.nw{w:Nat}(h:Ways w):dN [.int (w:Int)]=ae .non:=by
 rcases h with rfl | rfl<;>rfl
def ch(x:Str)(j:Nat):Nat:=x.cps.toList.getD j 0
def at2(bd:List Str)(i j:Nat):Nat:=ch (bd.getD i ⟨#[]⟩) j
abbrev lt(bd:List Str)(c:Cell):Nat:=at2 bd c.1 c.2
def sg(n:Nat):D:= .str ⟨#[n]⟩
def AN{x:Str}{c:Nat}(h:c<x.length):jw (.str x) (.int (c:Int))=ae (sg (ch x c)):=by
 have h':c<x.cps.toList.length:=by rw[TZ];exact h
 show (match L2.atI x.cps.toList (c:Int) with | some c=>ae (D.str ⟨#[c]⟩) | none=>ah)=_
 rw[fK (Tb h')]
 unfold sg ch
 rw[TU,Tb h']
 rfl
def getD_mem{bd:List Str}{i:Nat}(h:i<bd.length):bd.getD i ⟨#[]⟩∈bd:=by
 rw[TU,Tb h]
 exact Vr h
def Du{bd:List Str}{i:Nat}(h:i<bd.length):aZ (brd bd) (.int (i:Int))=ae (.str (bd.getD i ⟨#[]⟩)):=by
 show (match L2.atI (bd.map D.str) (i:Int) with | some d=>ae d | none=>ah)=_
 rw[fK (x:= .str (bd.getD i ⟨#[]⟩)) ?_]
 rw[Tu,Tb h,TU,Tb h]
 rfl
def fC{bd:List Str}{W:Nat}(hg:Brd bd W){c:Cell}(h:On bd.length W c):cE [brd bd,cD c]=ae (sg (lt bd c)):=by
 refine aP (aD ?_)
 refine(az (x:= .str (bd.getD c.1 ⟨#[]⟩)) (y:= .int (c.2:Int)) ((az (x:=brd bd) (y:= .int (c.1:Int)) rfl rfl).trans (Du h.1)) rfl).trans ?_
 exact AN (by rw[(hg.rows _ (getD_mem h.1)).len];exact h.2)
def wI(a b:Nat):gE (sg a) (sg b)=ae (.bl (decide (a=b))):=by
 show ae (D.bl (decide ((⟨#[a]⟩:Str)=⟨#[b]⟩)))=_
 congr 2
 by_cases h:a=b
 ·subst h;simp
 ·have:¬((⟨#[a]⟩:Str)=⟨#[b]⟩):=fun z=>by
   injection z with z
   exact h (by simpa using z)
  rw[decide_eq_false h,decide_eq_false this]
def iu(a b:Nat):Nat:=max a b - min a b
def ir(w:Nat)(a b:Cell):Bool:=if w=4 then decide (iu a.1 b.1+iu a.2 b.2=1) else decide (max (iu a.1 b.1) (iu a.2 b.2)=1)
def zU(a b:Nat):Cm [.int ((a:Int) - (b:Int))]=ae (.int (iu a b:Int)):=by
 show ae (D.int _)=_
 congr 2
 unfold iu
 omega
def lF{w:Nat}(hw:Ways w)(a b:Cell):c_ [cD a,cD b, .int (w:Int)]=ae (.bl (ir w a b)):=by
 refine aP ?_
 refine ak (ρ':=[fz (cD a),fz (cD b),fz (.int (w:Int)),fz (.int (iu a.1 b.1:Int)),none]) ((aM (d:= .int (iu a.1 b.1:Int)) (zU a.1 b.1)).trans rfl) ?_
 refine ak (ρ':=[fz (cD a),fz (cD b),fz (.int (w:Int)),fz (.int (iu a.1 b.1:Int)),fz (.int (iu a.2 b.2:Int))]) ((aM (d:= .int (iu a.2 b.2:Int)) (zU a.2 b.2)).trans rfl) ?_
 rcases hw with rfl | rfl
 ·refine a8 (bL (cI rfl) (aD ?_))
  show ae (D.bl (((iu a.1 b.1:Int)+(iu a.2 b.2:Int))==1))=_
  unfold ir
  rw[if_pos rfl]
  congr 2
  have:((iu a.1 b.1:Int)+(iu a.2 b.2:Int))=((iu a.1 b.1+iu a.2 b.2:Nat):Int):=by omega
  rw[this]
  have e:=jF (iu a.1 b.1+iu a.2 b.2) 1
  exact e.trans rfl
 ·refine ak (bR (cI rfl) rfl) (aD ?_)
  show ae (D.bl ((if (iu a.1 b.1:Int)<(iu a.2 b.2:Int) then(iu a.2 b.2:Int) else(iu a.1 b.1:Int))==1))=_
  have hn:ir 8 a b=decide (max (iu a.1 b.1) (iu a.2 b.2)=1):=rfl
  rw[hn]
  congr 2
  have:(if (iu a.1 b.1:Int)<(iu a.2 b.2:Int) then(iu a.2 b.2:Int) else(iu a.1 b.1:Int))=((max (iu a.1 b.1) (iu a.2 b.2):Nat):Int):=by split<;>omega
  rw[this]
  have e:=jF (max (iu a.1 b.1) (iu a.2 b.2)) 1
  exact e.trans rfl
def l7(w:Nat)(a b:Cell):ir w a b=ir w b a:=by
 have e:∀x y:Nat,iu x y=iu y x:=fun x y=>by unfold iu;omega
 unfold ir
 rw[e a.1,e a.2]
def Jv{w:Nat}(hw:Ways w){a:Cell}:ir w a a=false:=by
 unfold ir iu
 rcases hw with rfl | rfl<;>simp
def dX{put:D->bf->Option bf}{body:DS}{d:D}{ds:List D}{ρ ρ1 ρ2:bf}(h1:put d ρ=some ρ1)(h2:body ρ1=ae (.nx ρ2)):forL put body (d::ds) ρ=forL put body ds ρ2:=by
 show (match put d ρ with | none=>ah | some ρ1=>body ρ1>>=fun o=>match o with | .nx ρ2=>forL put body ds ρ2 | .rt v=>ae (.rt v))=_
 rw[h1]
 show (body ρ1>>=fun o=>match o with | .nx ρ2=>forL put body ds ρ2 | .rt v=>ae (.rt v))=_
 rw[h2]
 rfl
def oX{put:D->bf->Option bf}{body:DS}{d v:D}{ds:List D}{ρ ρ1:bf}(h1:put d ρ=some ρ1)(h2:body ρ1=ae (.rt v)):forL put body (d::ds) ρ=ae (.rt v):=by
 show (match put d ρ with | none=>ah | some ρ1=>body ρ1>>=fun o=>match o with | .nx ρ2=>forL put body ds ρ2 | .rt v=>ae (.rt v))=_
 rw[h1]
 show (body ρ1>>=fun o=>match o with | .nx ρ2=>forL put body ds ρ2 | .rt v=>ae (.rt v))=_
 rw[h2]
 rfl
section
variable{α σ:Type}{put:D->bf->Option bf}{body:DS}
def gu(enc:α->D)(mk:σ->bf)(step:σ->α->σ)(I:σ->Prop):∀(xs:List α) (s:σ),I s->(∀s,I s->∀x∈xs,I (step s x)/\∃ρ1,put (enc x) (mk s)=some ρ1/\body ρ1=ae (.nx (mk (step s x))))->
 I (xs.foldl step s)/\forL put body (xs.map enc) (mk s)=ae (.nx (mk (xs.foldl step s)))
 |[],s,h,_=>⟨h,rfl⟩
 |x::xs,s,h,st=>by
  obtain⟨h2,ρ1,e1,e2⟩:=st s h x (Ta ..)
  obtain⟨h3,e3⟩:=gu enc mk step I xs (step s x) h2 fun s hs y hy=>st s hs y (S9 _ hy)
  exact⟨h3,(dX e1 e2).trans e3⟩
def mO(enc:α->D)(ρ:bf):∀(xs:List α),(∀x∈xs,∃ρ1,put (enc x) ρ=some ρ1/\body ρ1=ae (.nx ρ))->forL put body (xs.map enc) ρ=ae (.nx ρ)
 |[],_=>rfl
 |x::xs,st=>by
  obtain⟨ρ1,e1,e2⟩:=st x (Ta ..)
  exact(dX e1 e2).trans (mO enc ρ xs fun y hy=>st y (S9 _ hy))
def fN(enc:α->D)(mk:List D->bf)(g:α->List D){B:Nat}:∀(xs:List α) (acc:List D),(acc++xs.flatMap g).length<=B->(∀x∈xs,∀acc,(acc++g x).length<=B->∃ρ1,put (enc x) (mk acc)=some ρ1/\body ρ1=ae (.nx (mk (acc++g x))))->
 forL put body (xs.map enc) (mk acc)=ae (.nx (mk (acc++xs.flatMap g)))
 |[],acc,_,_=>by simp;rfl
 |x::xs,acc,hB,st=>by
  have PH:((acc++g x)++xs.flatMap g).length<=B:=by simpa[UX,Xl] using hB
  obtain⟨ρ1,e1,e2⟩:=st x (Ta ..) acc (Tw (by simp only[Ti];omega) PH)
  have e3:=fN enc mk g xs (acc++g x) PH fun y hy=>st y (S9 _ hy)
  rw[Tf,dX e1 e2,e3,UX,Xl]
end
def dF{put:D->bf->Option bf}{δi:DA}{b:DS}{ρ:bf}{ds:List D}{m:M Out}(h:δi ρ=ae ds)(h2:forL put b ds ρ=m):dj put δi b ρ=m:=by
 unfold dj
 rw[h]
 exact h2
def cK{τ:DS}{ρ:bf}{o:Out}(h:τ ρ=ae o):(fun ρ=>noex (τ ρ)) ρ=ae o:=by
 show noex (τ ρ)=_
 rw[h]
 rfl
def xZ(lo n:Nat):iL (lo:Int) n=(T_ lo n).map fun(k:Nat)=>D.int (k:Int):=by
 unfold iL
 rw[YQ]
 have:∀(n a:Nat),(T_ a n).map (fun (i:Nat)=>D.int ((lo:Int)+(i:Int)))=(T_ (lo+a) n).map fun(k:Nat)=>D.int (k:Int):=by
  intro n
  induction n with
  |zero=>intro a;rfl
  |succ n ih=>
   intro a
   rw[Xs,Xs,Tf,Tf,ih (a+1)]
   rfl
 exact this n 0
def Kf{δ:DE}{ρ:bf}{n:Nat}(h:δ ρ=ae (.int (n:Int)))(hn:n<=4096):(aC δ aN ρ>>=jl)=ae ((Um n).map fun(k:Nat)=>D.int (k:Int)):=by
 rw[aS h rfl,ay,nj hn,show iL 0 n=iL ((0:Nat):Int) n from rfl,xZ,YQ]
def Kg{δ ε:DE}{ρ:bf}{i j:Nat}(h:δ ρ=ae (.int (i:Int)))(h2:ε ρ=ae (.int (j:Int)))(hi:i<=4096)(hj:j<=4096):(aC δ (aC ε aN) ρ>>=qH)=ae ((T_ i (j - i)).map fun(k:Nat)=>D.int (k:Int)):=by
 rw[aS h (aS h2 rfl),ay]
 show (if (-4096<=(i:Int)/\(i:Int)<=4096)/\(-4096<=(j:Int)/\(j:Int)<=4096) then ae (iL (i:Int) ((j:Int) - (i:Int)).toNat) else ah)=_
 rw[if_pos ⟨⟨by omega,by omega⟩,by omega,by omega⟩,show ((j:Int) - (i:Int)).toNat=j - i by omega,xZ]
def f_(W r:Nat):List Cell:=(Um W).map fun k=>(r,k)
def ax(R W:Nat):List Cell:=(Um R).flatMap (f_ W)
def aJ{R W:Nat}{c:Cell}:c∈ax R W↔On R W c:=by
 unfold ax f_ On
 simp only[Wu,WR,TJ]
 constructor
 ·rintro⟨r,hr,k,hk,rfl⟩;exact⟨hr,hk⟩
 ·rintro⟨h1,h2⟩;exact⟨c.1,h1,c.2,h2,rfl⟩
def bg(R W:Nat):(ax R W).length=R*W:=by
 unfold ax
 have:∀l:List Nat,(l.flatMap (f_ W)).length=l.length*W:=by
  intro l
  induction l with
  |nil=>simp
  |cons a l ih=>rw[UX,Ti,ih,Tj,Nat.succ_mul];simp[f_];omega
 rw[this,List.length_range]
def jG(R W w:Nat)(c:Cell):List Cell:=
 (T_ (c.1 - 1) (min (c.1+2) R - (c.1 - 1))).flatMap fun r=>((T_ (c.2 - 1) (min (c.2+2) W - (c.2 - 1))).map fun k=>(r,k)).filter (ir w c)
def sL{R W w:Nat}(hw:Ways w){c x:Cell}:x∈jG R W w c↔On R W x/\ir w c x=true:=by
 unfold jG On
 simp only[Wu,Uo,TJ,Xk]
 constructor
 ·rintro⟨r,⟨h1,h2⟩,⟨k,⟨h3,h4⟩,rfl⟩,h5⟩
  refine⟨⟨?_,?_⟩,h5⟩
  ·show r<R;omega
  ·show k<W;omega
 ·rintro⟨⟨h1,h2⟩,h5⟩
  have h6:iu c.1 x.1<=1/\iu c.2 x.2<=1:=by
   unfold ir at h5
   rcases hw with rfl | rfl
   ·rw[if_pos rfl] at h5;have:=of_decide_eq_true h5;omega
   ·rw[if_neg (by decide)] at h5;have:=of_decide_eq_true h5;omega
  unfold iu at h6
  exact⟨x.1,⟨by omega,by omega⟩,⟨x.2,⟨by omega,by omega⟩,rfl⟩,h5⟩
def sI(R W w:Nat)(c:Cell):(jG R W w c).length<=9:=by
 unfold jG
 rw[YY]
 have h:∀r,(((T_ (c.2 - 1) (min (c.2+2) W - (c.2 - 1))).map fun k=>(r,k)).filter (ir w c)).length<=3:=fun r=>by
  refine Tw (Uh ..) ?_
  rw[S6,V8]
  omega
 have:∀(l:List Nat),(l.map fun r=>(((T_ (c.2 - 1) (min (c.2+2) W - (c.2 - 1))).map fun k=>(r,k)).filter (ir w c)).length).sum<=3*l.length:=by
  intro l
  induction l with
  |nil=>simp
  |cons a l ih=>rw[Tf,Vi,Tj];have:=h a;omega
 refine Tw (this _) ?_
 rw[V8]
 omega
abbrev nc(b c w:D)(acc:List D)(x4 x5:Option Sl):bf:=[fz b,fz c,fz w,some (.ow (.lst acc)),x4,x5]
def qb{bd:List Str}{W w:Nat}(hg:Brd bd W)(hw:Ways w){c:Cell}(hc:On bd.length W c):dU [brd bd,cD c, .int (w:Int)]=ae (.lst ((jG bd.length W w c).map cD)):=by
 have h8:=hg.r8
 have w8:=hg.w8
 obtain⟨c1,c2⟩:=hc
 have LN:∀n:Nat,zc [.int ((n:Int) - 1), .int 0]=ae (.int ((n - 1:Nat):Int)):=fun n=>by
  show ae (D.int (if (0:Int)>(n:Int) - 1 then 0 else(n:Int) - 1))=_
  congr 2
  split<;>omega
 have Di:∀n m:Nat,BC [.int ((n:Int)+2), .int (m:Int)]=ae (.int ((min (n+2) m:Nat):Int)):=fun n m=>by
  show ae (D.int (if (m:Int)<(n:Int)+2 then(m:Int) else(n:Int)+2))=_
  congr 2
  split<;>omega
 have inner:∀(r:Nat) (acc:List D),acc.length<=16->forL (putN 5) (bW [5] (el (bE (aw 3 c_ (aC (dV 1) (aC (dA bc (aC (dV 4) (aC (dV 5) aN))) (aC (dV 2) aN))))) (fQ 3 (dA bc (aC (dV 4) (aC (dV 5) aN)))) bS))
  ((T_ (c.2 - 1) (min (c.2+2) W - (c.2 - 1))).map fun(k:Nat)=>D.int (k:Int)) (nc (brd bd) (cD c) (.int (w:Int)) acc (fz (.int (r:Int))) none)=
  ae (.nx (nc (brd bd) (cD c) (.int (w:Int)) (acc++(T_ (c.2 - 1) (min (c.2+2) W - (c.2 - 1))).flatMap fun k=>if ir w c (r,k) then [cD (r,k)] else []) (fz (.int (r:Int))) none)):=fun r acc C_=>by
  refine fN (fun (k:Nat)=>D.int (k:Int)) (fun acc=>nc (brd bd) (cD c) (.int (w:Int)) acc (fz (.int (r:Int))) none) (fun k=>if ir w c (r,k) then [cD (r,k)] else []) (B:=64) _ acc ?_ fun k hk acc hB=>?_
  ·rw[Ti,YY]
   have:∀l:List Nat,(l.map fun k=>(if ir w c (r,k) then [cD (r,k)] else []).length).sum<=l.length:=by
    intro l
    induction l with
    |nil=>simp
    |cons a l ih=>rw[Tf,Vi,Tj];split<;>simp<;>omega
   have h2:=this (T_ (c.2 - 1) (min (c.2+2) W - (c.2 - 1)))
   rw[V8] at h2
   omega
  ·refine⟨nc (brd bd) (cD c) (.int (w:Int)) acc (fz (.int (r:Int))) (fz (.int (k:Int))),rfl,?_⟩
   have ht:bE (aw 3 c_ (aC (dV 1) (aC (dA bc (aC (dV 4) (aC (dV 5) aN))) (aC (dV 2) aN)))) (nc (brd bd) (cD c) (.int (w:Int)) acc (fz (.int (r:Int))) (fz (.int (k:Int))))=ae (ir w c (r,k)):=
    bF ((aj (ds:=[cD c,cD (r,k), .int (w:Int)]) rfl rfl).trans (lF hw c (r,k)))
   cases hn:ir w c (r,k) with
   |true=>
    rw[hn] at ht
    rw[hn,if_pos rfl,Ti] at hB
    refine(bt (ρ':=nc (brd bd) (cD c) (.int (w:Int)) (acc++[cD (r,k)]) (fz (.int (r:Int))) (fz (.int (k:Int)))) (bL ht ?_)).trans rfl
    show (if acc.length<lim then ae (Out.nx (nc (brd bd) (cD c) (.int (w:Int)) (acc++[cD (r,k)]) (fz (.int (r:Int))) (fz (.int (k:Int))))) else ah)=_
    rw[if_pos (by rw[dz];simp at hB;omega)]
   |false=>
    rw[hn] at ht
    refine(bt (ρ':=nc (brd bd) (cD c) (.int (w:Int)) acc (fz (.int (r:Int))) (fz (.int (k:Int)))) (bR ht rfl)).trans ?_
    simp
    rfl
 have flt:∀r,((T_ (c.2 - 1) (min (c.2+2) W - (c.2 - 1))).flatMap fun k=>if ir w c (r,k) then [cD (r,k)] else [])=(((T_ (c.2 - 1) (min (c.2+2) W - (c.2 - 1))).map fun k=>(r,k)).filter (ir w c)).map cD:=fun r=>by
  generalize T_ (c.2 - 1) (min (c.2+2) W - (c.2 - 1))=l
  induction l with
  |nil=>rfl
  |cons a l ih=>
   rw[UX,ih,Tf,List.filter_cons]
   cases ir w c (r,a)<;>rfl
 have tot:(T_ (c.1 - 1) (min (c.1+2) bd.length - (c.1 - 1))).flatMap (fun r=>(((T_ (c.2 - 1) (min (c.2+2) W - (c.2 - 1))).map fun k=>(r,k)).filter (ir w c)).map cD)=(jG bd.length W w c).map cD:=by
  unfold jG;rw[Wv]
 have outer:=fN (put:=putN 4) (body:=bW [4,5] (dj (putN 5) (fun ρ=>(aC (dA zc (aC (d2 q_ (d2 aZ (dV 1) (dC (.int 1))) (dC (.int 1))) (aC (dC (.int 0)) aN))) (aC (dA BC (aC (d2 d8 (d2 aZ (dV 1) (dC (.int 1))) (dC (.int 2))) (aC (dA bB (aC (d2 aZ (dV 0) (dC (.int 0))) aN)) aN))) aN)) ρ>>=qH) (bW [5] (el (bE (aw 3 c_ (aC (dV 1) (aC (dA bc (aC (dV 4) (aC (dV 5) aN))) (aC (dV 2) aN))))) (fQ 3 (dA bc (aC (dV 4) (aC (dV 5) aN)))) bS))))
  (fun (k:Nat)=>D.int (k:Int)) (fun acc=>nc (brd bd) (cD c) (.int (w:Int)) acc none none) (fun r=>(((T_ (c.2 - 1) (min (c.2+2) W - (c.2 - 1))).map fun k=>(r,k)).filter (ir w c)).map cD) (B:=16) (T_ (c.1 - 1) (min (c.1+2) bd.length - (c.1 - 1))) []
  (by rw[T4,tot,S6];have:=sI bd.length W w c;omega) fun r hr acc hB=>by
   refine⟨nc (brd bd) (cD c) (.int (w:Int)) acc (fz (.int (r:Int))) none,rfl,?_⟩
   have e:=inner r acc (by rw[Ti] at hB;omega)
   rw[flt r] at e
   refine(bt (dF (Kg (i:=c.2 - 1) (j:=min (c.2+2) W) ?_ ?_ (by omega) (by omega)) e)).trans rfl
   ·exact(cO (xs:=[.int ((c.2:Int) - 1), .int 0]) rfl).trans (LN c.2)
   ·refine(cO (xs:=[.int ((c.2:Int)+2), .int (W:Int)]) ?_).trans (Di c.2 W)
    exact aS (show d2 d8 (d2 aZ (dV 1) (dC (.int 1))) (dC (.int 2)) (nc (brd bd) (cD c) (.int (w:Int)) acc (fz (.int (r:Int))) none)=ae (.int ((c.2:Int)+2)) from rfl) (aS (hg.len0 rfl) rfl)
 rw[T4,tot] at outer
 refine aP (ak (ρ':=nc (brd bd) (cD c) (.int (w:Int)) [] none none) rfl (ak (ρ':=nc (brd bd) (cD c) (.int (w:Int)) ((jG bd.length W w c).map cD) none none) (cK (dF (Kg (i:=c.1 - 1) (j:=min (c.1+2) bd.length) ?_ ?_ (by omega) (by omega)) outer)) ?_))
 ·exact(cO (xs:=[.int ((c.1:Int) - 1), .int 0]) rfl).trans (LN c.1)
 ·refine(cO (xs:=[.int ((c.1:Int)+2), .int (bd.length:Int)]) ?_).trans (Di c.1 bd.length)
  exact aS (show d2 d8 (d2 aZ (dV 1) (dC (.int 0))) (dC (.int 2)) (nc (brd bd) (cD c) (.int (w:Int)) [] none none)=ae (.int ((c.1:Int)+2)) from rfl) (aS (F4 rfl) rfl)
 ·rfl
def aU(bd:List Str)(W w:Nat)(c:Cell):List Cell:=(jG bd.length W w c).filter fun x=>decide (lt bd x=lt bd c)
def cH{bd:List Str}{W w:Nat}(hw:Ways w){c x:Cell}:x∈aU bd W w c↔On bd.length W x/\ir w c x=true/\lt bd x=lt bd c:=by
 unfold aU
 rw[Uo,sL hw,decide_eq_true_eq,and_assoc]
def sH(bd:List Str)(W w:Nat)(c:Cell):(aU bd W w c).length<=9:=Tw (Uh ..) (sI ..)
def j_{α:Type}{f:D->M (Option D)}(enc:α->D)(p:α->Bool):∀(xs:List α),(∀x∈xs,f (enc x)=ae (if p x then some (enc x) else none))->eh f (xs.map enc)=ae ((xs.filter p).map enc)
 |[],_=>rfl
 |x::xs,h=>by
  rw[Tf,fe,h x (Ta ..),ay,j_ enc p xs fun y hy=>h y (S9 _ hy),List.filter_cons]
  cases p x<;>rfl
def jD{bd:List Str}{W w:Nat}(hg:Brd bd W)(hw:Ways w){c:Cell}(hc:On bd.length W c):bp [brd bd,cD c, .int (w:Int)]=ae (.lst ((aU bd W w c).map cD)):=by
 refine aP (ak (ρ':=[fz (brd bd),fz (cD c),fz (.int (w:Int)),fz (sg (lt bd c))]) ((aM (d:=sg (lt bd c)) ((aj (ds:=[brd bd,cD c]) rfl rfl).trans (fC hg hc))).trans rfl) (aD ?_))
 refine cG (ds:=(jG bd.length W w c).map cD) ?_ (j_ cD _ _ fun x hx=>?_) (by rw[S6,dz];exact Tw (sH bd W w c) (by decide))
 ·show (aw 3 dU _ _>>=lstM)=_
  have e:aw 3 dU (aC (dV 0) (aC (dV 1) (aC (dV 2) aN))) [fz (brd bd),fz (cD c),fz (.int (w:Int)),fz (sg (lt bd c))]=ae (.lst ((jG bd.length W w c).map cD)):=qb hg hw hc
  rw[e]
  rfl
 ·have Bi:=(sL hw).mp hx
  rw[yM]
  have e:bH (d2 gE (aw 2 cE (aC (dV 1) (aC (dV 0) aN))) (dV 4)) (fz (cD x)::[fz (brd bd),fz (cD c),fz (.int (w:Int)),fz (sg (lt bd c))])=ae (decide (lt bd x=lt bd c)):=by
   refine cI ?_
   exact(az (x:=sg (lt bd x)) (y:=sg (lt bd c)) ((aj (ds:=[brd bd,cD x]) rfl rfl).trans (fC hg Bi.1)) rfl).trans (wI _ _)
  rw[e,ay]
  cases decide (lt bd x=lt bd c)<;>rfl
end K1
namespace K1
section
variable{α:Type}[DecidableEq α]
structure Bk (α:Type) where
 ks:List α
 ps:List (Option α)
 fu:List α
def fb(c:α)(s:Bk α)(x:α):Bk α:=if x∈s.ks then s else⟨s.ks++[x],s.ps++[some c],s.fu++[x]⟩
variable(nb:α->List α)
def gR(s:Bk α)(c:α):Bk α:=(nb c).foldl (fb c) s
def cb(s:Bk α)(ring:List α):Bk α:=ring.foldl (gR nb) s
def Rb(a:α):Nat->α->Prop
 |0,x=>x=a
 |k+1,x=>Rb a k x\/∃y,Rb a k y/\x∈nb y
variable{nb}{a:α}
def Rb.mono{i j:Nat}{x:α}(h:i<=j)(r:Rb nb a i x):Rb nb a j x:=by
 induction h with
 |refl=>exact r
 |step _ ih=>exact .inl ih
structure Grown (P:α->α->Prop) (s t:Bk α):Prop where
 ex:∃fs:List (α×α),t.ks=s.ks++fs.map (·.1)/\t.ps=s.ps++fs.map (fun p=>some p.2)/\t.fu=s.fu++fs.map (·.1)/\(∀p∈fs,P p.2 p.1)
 nd:s.ks.Nodup->t.ks.Nodup
def Grown.refl{P:α->α->Prop}(s:Bk α):Grown P s s:=⟨⟨[],by simp,by simp,by simp,fun _ h=>by cases h⟩,id⟩
def Grown.trans{P:α->α->Prop}{s t u:Bk α}(h1:Grown P s t)(h2:Grown P t u):Grown P s u:=by
 obtain⟨fs,a1,a2,a3,a4⟩:=h1.ex
 obtain⟨gs,b1,b2,b3,b4⟩:=h2.ex
 refine⟨⟨fs++gs,by rw[b1,a1];simp,by rw[b2,a2];simp,by rw[b3,a3];simp,fun p hp=>?_⟩,fun h=>h2.nd (h1.nd h)⟩
 rcases Ui.mp hp with h | h
 ·exact a4 p h
 ·exact b4 p h
def we{P:α->α->Prop}{c x:α}(s:Bk α)(h:P c x):Grown P s (fb c s x):=by
 unfold fb
 split
 ·exact Grown.refl s
 ·rename_i hx
  refine⟨⟨[(x,c)],rfl,rfl,rfl,fun p hp=>?_⟩,fun hn=>?_⟩
  ·have:p=(x,c):=by simpa using hp
   subst this;exact h
  ·refine VI.mpr ⟨hn,by simp,fun y hy z hz e=>?_⟩
   have hz:z=x:=by simpa using hz
   rw[e,hz] at hy
   exact hx hy
def AU{c x y:α}(s:Bk α):y∈(fb c s x).ks↔y∈s.ks\/y=x:=by
 unfold fb
 split
 ·rename_i hx
  exact⟨.inl,fun h=>h.elim id fun e=>by rw[e];exact hx⟩
 ·simp
def foldStep{P:α->α->Prop}{c:α}:∀(l:List α) (s:Bk α),(∀x∈l,P c x)->Grown P s (l.foldl (fb c) s)/\∀y,y∈(l.foldl (fb c) s).ks↔y∈s.ks\/y∈l
 |[],s,_=>⟨Grown.refl s,fun y=>by simp⟩
 |x::l,s,h=>by
  obtain⟨h1,h2⟩:=foldStep l (fb c s x) fun y hy=>h y (S9 _ hy)
  refine⟨(we s (h x (Ta ..))).trans h1,fun y=>?_⟩
  rw[WH,h2 y,AU]
  simp[or_assoc]
def wM{P:α->α->Prop}:∀(l:List α) (s:Bk α),(∀c∈l,∀x∈nb c,P c x)->Grown P s (cb nb s l)/\∀y,y∈(cb nb s l).ks↔y∈s.ks\/∃c∈l,y∈nb c
 |[],s,_=>⟨Grown.refl s,fun y=>by simp[cb]⟩
 |c::l,s,h=>by
  obtain⟨g1,m1⟩:=foldStep (P:=P) (c:=c) (nb c) s (h c (Ta ..))
  obtain⟨g2,m2⟩:=wM l (gR nb s c) fun c' hc=>h c' (S9 _ hc)
  refine⟨g1.trans g2,fun y=>?_⟩
  show y∈(cb nb (gR nb s c) l).ks↔_
  rw[m2 y]
  show (y∈((nb c).foldl (fb c) s).ks\/_)↔_
  rw[m1 y]
  simp[or_assoc]
structure Rng (nb:α->List α) (a:α) (k:Nat) (ks:List α) (ps:List (Option α)) (ring:List α):Prop where
 len:ks.length=ps.length
 nd:ks.Nodup
 mem:∀x,x∈ks↔Rb nb a k x
 rg:∀x,x∈ring↔Rb nb a k x/\∀j,Rb nb a j x->k<=j
 par:∀x p,(x,some p)∈ks.zip ps->x∈nb p/\p∈ks/\∀j,Rb nb a j x->∃i,j=i+1/\Rb nb a i p
 non:∀x,(x,none)∈ks.zip ps->x=a
 sz:k<=ks.length/\(ring≠[]->k+1<=ks.length)
def Rng.zero(nb:α->List α)(a:α):Rng nb a 0 [a] [none] [a] where
 len:=rfl
 nd:=by simp
 mem:=fun x=>by simp[Rb]
 rg:=fun x=>by simp[Rb]
 par:=fun x p h=>by simp at h
 non:=fun x h=>by simpa using h
 sz:=⟨by simp,fun _=>by simp⟩
def Rng.next{k:Nat}{ks:List α}{ps:List (Option α)}{ring:List α}(h:Rng nb a k ks ps ring)(hr:ring≠[]):Rng nb a (k+1) (cb nb ⟨ks,ps,[]⟩ ring).ks (cb nb ⟨ks,ps,[]⟩ ring).ps (cb nb ⟨ks,ps,[]⟩ ring).fu:=by
 obtain⟨g,m⟩:=wM (nb:=nb) (P:=fun c x=>c∈ring/\x∈nb c) ring ⟨ks,ps,[]⟩ fun c hc x hx=>⟨hc,hx⟩
 obtain⟨fs,e1,e2,e3,e4⟩:=g.ex
 have IL:=g.nd h.nd
 have hm:∀x,x∈(cb nb ⟨ks,ps,[]⟩ ring).ks↔Rb nb a (k+1) x:=fun x=>by
  rw[m x]
  show (x∈ks\/_)↔(Rb nb a k x\/_)
  constructor
  ·rintro(q | ⟨c,hc,hx⟩)
   ·exact .inl ((h.mem x).mp q)
   ·exact .inr ⟨c,((h.rg c).mp hc).1,hx⟩
  ·rintro(q | ⟨y,hy,hx⟩)
   ·exact .inl ((h.mem x).mpr q)
   ·by_cases hk:∀j,Rb nb a j y->k<=j
    ·exact .inr ⟨y,(h.rg y).mpr ⟨hy,hk⟩,hx⟩
    ·refine .inl ((h.mem x).mpr ?_)
     obtain⟨j,hj⟩:=Yd.mp hk
     obtain⟨Oa,Rx⟩:=YC.mp hj
     exact Rb.mono (i:=j+1) (by omega) (.inr ⟨y,Oa,hx⟩)
 have Cd:(cb nb ⟨ks,ps,[]⟩ ring).ks=ks++fs.map (·.1):=e1
 have Ky:(cb nb ⟨ks,ps,[]⟩ ring).ps=ps++fs.map (fun p=>some p.2):=e2
 have M8:(cb nb ⟨ks,ps,[]⟩ ring).fu=fs.map (·.1):=e3
 have new:∀x,x∈fs.map (·.1)->¬Rb nb a k x:=fun x hx hk=>by
  rw[Cd] at IL
  exact(VI.mp IL).2.2 x ((h.mem x).mpr hk) x hx rfl
 have L_:∀x,¬Rb nb a k x->∀j,Rb nb a j x->k+1<=j:=fun x hx j hj=>by
  by_cases PZ:k+1<=j
  ·exact PZ
  ·exact absurd (Rb.mono (by omega) hj) hx
 have LV:(cb nb ⟨ks,ps,[]⟩ ring).ks.zip (cb nb ⟨ks,ps,[]⟩ ring).ps=ks.zip ps++fs.map fun p=>(p.1,some p.2):=by
  rw[Cd,Ky,List.zip_append h.len]
  congr 1
  rw[List.zip_map']
 refine⟨?_,IL,hm,fun x=>?_,fun x p hp=>?_,fun x hx=>?_,?_⟩
 ·rw[Cd,Ky,Ti,Ti,S6,S6,h.len]
 ·rw[M8]
  constructor
  ·intro hx
   exact⟨(hm x).mp (by rw[Cd];exact T8 _ hx),L_ x (new x hx)⟩
  ·rintro⟨h1,h2⟩
   have h3:=(hm x).mpr h1
   rw[Cd] at h3
   rcases Ui.mp h3 with q | q
   ·have:=h2 k ((h.mem x).mp q)
    omega
   ·exact q
 ·rw[LV] at hp
  rcases Ui.mp hp with q | q
  ·obtain⟨q1,q2,q3⟩:=h.par x p q
   exact⟨q1,by rw[Cd];exact UW _ q2,q3⟩
  ·obtain⟨f,hf,e⟩:=TJ.mp q
   cases e
   obtain⟨f1,f2⟩:=e4 f hf
   have hc:=(h.rg f.2).mp f1
   refine⟨f2,by rw[Cd];exact UW _ ((h.mem _).mpr hc.1),fun j hj=>?_⟩
   have:=L_ f.1 (new f.1 (TJ.mpr ⟨f,hf,rfl⟩)) j hj
   exact⟨j - 1,by omega,Rb.mono (by omega) hc.1⟩
 ·rw[LV] at hx
  rcases Ui.mp hx with q | q
  ·exact h.non x q
  ·obtain⟨f,hf,e⟩:=TJ.mp q
   cases e
 ·have hs:=h.sz.2 hr
  rw[Cd,Ti,S6]
  refine⟨by omega,fun nK=>?_⟩
  have:fs≠[]:=fun z=>nK (by rw[M8,z];rfl)
  have:=WV.mpr this
  omega
def Rng.last{k:Nat}{ks:List α}{ps:List (Option α)}(h:Rng nb a k ks ps []):∀x,x∈ks↔∃j,Rb nb a j x:=by
 have none:∀x,¬(Rb nb a k x/\∀j,Rb nb a j x->k<=j):=fun x q=>by
  have:=(h.rg x).mpr q
  cases this
 have hk:∀x,Rb nb a k x->∃i,i<k/\Rb nb a i x:=fun x hx=>by
  by_cases q:∀j,Rb nb a j x->k<=j
  ·exact absurd ⟨hx,q⟩ (none x)
  ·obtain⟨j,hj⟩:=Yd.mp q
   obtain⟨Oa,Rx⟩:=YC.mp hj
   exact⟨j,by omega,Oa⟩
 have all:∀j x,Rb nb a j x->Rb nb a k x:=by
  intro j
  induction j with
  |zero=>intro x hx;exact Rb.mono (Ue _) hx
  |succ j ih=>
   rintro x (q | ⟨y,hy,hx⟩)
   ·exact ih x q
   ·obtain⟨i,hi,hr⟩:=hk y (ih y hy)
    exact Rb.mono (i:=i+1) (by omega) (.inr ⟨y,hr,hx⟩)
 exact fun x=>⟨fun q=>⟨k,(h.mem x).mp q⟩,fun⟨j,hj⟩=>(h.mem x).mpr (all j x hj)⟩
def jH{l U:List α}(hn:l.Nodup)(h:∀x∈l,x∈U):l.length<=U.length:=by
 induction l generalizing U with
 |nil=>simp
 |cons a l ih=>
  rw[Vc] at hn
  have hl:∀x∈l,x∈U.erase a:=fun x hx=>by
   have nK:x≠a:=fun z=>hn.1 (by rw[<-z];exact hx)
   exact(List.mem_erase_of_ne nK).mpr (h x (S9 _ hx))
  have h1:=ih hn.2 hl
  have h2:=Ym (h a (Ta ..))
  have h3:=Yz (h a (Ta ..))
  rw[Tj]
  omega
end
end K1
namespace K1
open PySem L2 L3
def keyOf(c:Cell):List Key:=[.inl (c.1:Int), .inl (c.2:Int)]
def gx{a b:Cell}(h:keyOf a=keyOf b):a=b:=by
 unfold keyOf at h
 injection h with h1 h2
 injection h1 with h1
 injection h2 with h2 _
 injection h2 with h2
 exact XA (WM h1) (WM h2)
def gc(c:Cell):eB (cD c)=some (keyOf c):=rfl
def iO{c:Cell}:∀{ks:List Cell}{ds:List D},c∉ks->e_ (ks.map keyOf) ds (keyOf c)=none
 |[],_,_=>by simp[e_]
 |k::ks,[],_=>by simp[e_]
 |k::ks,d::ds,h=>by
  rw[Tf]
  unfold e_
  rw[if_neg (fun z=>h (by rw[gx z];exact Ta ..))]
  exact iO fun z=>h (S9 _ z)
def kq{c:Cell}:∀{ks:List Cell}{ds:List D},ks.length=ds.length->c∈ks->∃d,e_ (ks.map keyOf) ds (keyOf c)=some d/\(c,d)∈ks.zip ds
 |[],_,_,h=>by cases h
 |k::ks,[],hl,_=>by simp at hl
 |k::ks,d::ds,hl,h=>by
  rw[Tf]
  unfold e_
  by_cases hk:k=c
  ·subst hk
   rw[if_pos rfl]
   exact⟨d,rfl,by simp⟩
  ·rw[if_neg (fun z=>hk (gx z))]
   have hc:c∈ks:=by
    rcases Th.mp h with q | q
    ·exact absurd q.symm hk
    ·exact q
   obtain⟨d',e1,e2⟩:=kq (ds:=ds) (by simpa using hl) hc
   exact⟨d',e1,by simp[e2]⟩
def kg{neg:Bool}{ks:List Cell}{ds:List D}{c:Cell}(hl:ks.length=ds.length):h9 neg (cD c) (.dct (ks.map keyOf) ds)=ae (.bl (if neg then !decide (c∈ks) else decide (c∈ks))):=by
 show (match (eB (cD c)).map (e_ (ks.map keyOf) ds) with | some o=>ae (D.bl (if neg then !o.isSome else o.isSome)) | none=>ah)=_
 rw[gc]
 show ae (D.bl (if neg then !(e_ (ks.map keyOf) ds (keyOf c)).isSome else(e_ (ks.map keyOf) ds (keyOf c)).isSome))=_
 by_cases h:c∈ks
 ·obtain⟨d,e,_⟩:=kq hl h
  rw[e,decide_eq_true h];rfl
 ·rw[iO h,decide_eq_false h];rfl
def xQ{ks:List Cell}{ds:List D}{c:Cell}{d:D}(h:c∉ks)(hl:ds.length<lim):m_ (.dct (ks.map keyOf) ds) (cD c) d=some (.dct ((ks++[c]).map keyOf) (ds++[d])):=by
 show (match eB (cD c) with | some kk=>if ds.length<lim then some (C.dct (gZ (ks.map keyOf) ds kk) (f9 (ks.map keyOf) ds kk d)) else none | none=>none)=_
 rw[gc]
 show (if ds.length<lim then some (C.dct (gZ (ks.map keyOf) ds (keyOf c)) (f9 (ks.map keyOf) ds (keyOf c) d)) else none)=_
 rw[if_pos hl]
 unfold gZ f9
 rw[iO h]
 simp
def oq{τ:DT}{ρ:bf}{b:Bool}(h:τ (qY ρ)=ae b):qN τ ρ=ae b:=by
 unfold qN
 rw[h]
 rfl
def Hn{δ:DE}{ρ:bf}{d:D}(h:δ (qY ρ)=ae d)(hf:wJ d=true):EZ δ ρ=ae d:=by
 unfold EZ
 rw[h]
 show pI d=_
 unfold pI
 rw[hf]
 rfl
def Af(c:Cell):wJ (cD c)=true:=rfl
def iP{c:DT}{body:DS}{n:Nat}{ρ ρ':bf}{m:M Out}(h1:c ρ=ae true)(h2:body ρ=ae (.nx ρ'))(h3:dO c body n ρ'=m):dO c body (n+1) ρ=m:=by
 show (c ρ>>=fun b=>if b then body ρ>>=fun o=>match o with | .nx ρ'=>dO c body n ρ' | .rt d=>ae (.rt d) else ae (.nx ρ))=_
 rw[h1,ay,if_pos rfl,h2]
 exact h3
def mG{c:DT}{body:DS}{n:Nat}{ρ:bf}(h1:c ρ=ae false):dO c body (n+1) ρ=ae (.nx ρ):=by
 show (c ρ>>=fun b=>if b then body ρ>>=fun o=>match o with | .nx ρ'=>dO c body n ρ' | .rt d=>ae (.rt d) else ae (.nx ρ))=_
 rw[h1]
 rfl
def u0:Option Cell->D
 |none=> .non
 |some c=>cD c
abbrev Cq(ks:List Cell)(ps:List (Option Cell)):C:= .dct (ks.map keyOf) (ps.map u0)
abbrev fL(ks:List Cell)(ps:List (Option Cell)):D:= .dct (ks.map keyOf) (ps.map u0)
abbrev sb(b s w:D)(ks:List Cell)(ps:List (Option Cell))(x4 x5 x6 x7:Option Sl):bf:=[fz b,fz s,fz w,some (.ow (Cq ks ps)),x4,x5,x6,x7]
structure Bok (R W:Nat) (s:Bk Cell):Prop where
 len:s.ks.length=s.ps.length
 nd:s.ks.Nodup
 on:∀x∈s.ks,On R W x
 fu:s.fu.length<=s.ks.length
def Bok.le{R W:Nat}{s:Bk Cell}(h:Bok R W s):s.ks.length<=R*W:=by
 rw[<-bg R W]
 exact jH h.nd fun x hx=>aJ.mpr (h.on x hx)
def Bok.step{R W:Nat}{s:Bk Cell}(h:Bok R W s){c x:Cell}(hx:On R W x):Bok R W (fb c s x):=by
 unfold fb
 split
 ·exact h
 ·rename_i hn
  refine⟨by simp[h.len],?_,fun y hy=>?_,by simp;exact h.fu⟩
  ·refine VI.mpr ⟨h.nd,by simp,fun y hy z hz e=>?_⟩
   have hz:z=x:=by simpa using hz
   rw[e,hz] at hy
   exact hn hy
  ·rcases Ui.mp hy with q | q
   ·exact h.on y q
   ·have:y=x:=by simpa using q
    rw[this];exact hx
def Ki:DS:=bW [7] (el (qN (bH (d2 (h9 true) (dV 7) (dV 3)))) (aA (g7 3 (dV 7) (dV 6)) (fQ 5 (dV 7))) bS)
def G7{bd:List Str}{W:Nat}(hg:Brd bd W){a c x:Cell}{w:D}{r:Option Sl}{s:Bk Cell}(h:Bok bd.length W s):
 Ki (sb (brd bd) (cD a) w s.ks s.ps r (some (.ow (.lst (s.fu.map cD)))) (fz (cD c)) (fz (cD x)))=ae (.nx (sb (brd bd) (cD a) w (fb c s x).ks (fb c s x).ps r (some (.ow (.lst ((fb c s x).fu.map cD)))) (fz (cD c)) none)):=by
 have hle:=h.le
 have hm:bd.length*W<=64:=Uv hg.r8 hg.w8
 have ht:qN (bH (d2 (h9 true) (dV 7) (dV 3))) (sb (brd bd) (cD a) w s.ks s.ps r (some (.ow (.lst (s.fu.map cD)))) (fz (cD c)) (fz (cD x)))=ae (!decide (x∈s.ks)):=
  oq (cI ((az (x:=cD x) (y:=fL s.ks s.ps) rfl rfl).trans (kg (neg:=true) (by rw[S6];exact h.len))))
 by_cases hx:x∈s.ks
 ·rw[decide_eq_true hx] at ht
  have e:fb c s x=s:=if_pos hx
  rw[e]
  exact(bt (bR ht rfl)).trans rfl
 ·rw[decide_eq_false hx] at ht
  have e:fb c s x=⟨s.ks++[x],s.ps++[some c],s.fu++[x]⟩:=if_neg hx
  rw[e]
  refine(bt (ρ':=sb (brd bd) (cD a) w (s.ks++[x]) (s.ps++[some c]) r (some (.ow (.lst ((s.fu++[x]).map cD)))) (fz (cD c)) (fz (cD x))) (bL ht (ak (ρ':=sb (brd bd) (cD a) w (s.ks++[x]) (s.ps++[some c]) r (some (.ow (.lst (s.fu.map cD)))) (fz (cD c)) (fz (cD x))) ?_ ?_))).trans rfl
  ·show (match m_ (Cq s.ks s.ps) (cD x) (cD c) with | some c'=>ae (Out.nx (List.set (sb (brd bd) (cD a) w s.ks s.ps r (some (.ow (.lst (s.fu.map cD)))) (fz (cD c)) (fz (cD x))) 3 (some (.ow c')))) | none=>ah)=_
   rw[xQ hx (by rw[S6,<-h.len,dz];omega)]
   rw[show s.ps.map u0++[cD c]=(s.ps++[some c]).map u0 by simp[u0]]
   rfl
  ·show (if (s.fu.map cD).length<lim then ae (Out.nx (sb (brd bd) (cD a) w (s.ks++[x]) (s.ps++[some c]) r (some (.ow (.lst (s.fu.map cD++[cD x])))) (fz (cD c)) (fz (cD x)))) else ah)=_
   have:=h.fu
   rw[if_pos (by rw[S6,dz];omega)]
   rw[show s.fu.map cD++[cD x]=(s.fu++[x]).map cD by simp]
def Kh:DS:=bW [6,7] (dj (putN 7) (cQ (aw 3 bp (aC (dV 0) (aC (dV 6) (aC (dV 2) aN))))) Ki)
def AL{bd:List Str}{W w:Nat}(hg:Brd bd W)(hw:Ways w){a c:Cell}(hc:On bd.length W c){r:Option Sl}{s:Bk Cell}(h:Bok bd.length W s):
 Bok bd.length W (gR (aU bd W w) s c)/\Kh (sb (brd bd) (cD a) (.int (w:Int)) s.ks s.ps r (some (.ow (.lst (s.fu.map cD)))) (fz (cD c)) none)=
  ae (.nx (sb (brd bd) (cD a) (.int (w:Int)) (gR (aU bd W w) s c).ks (gR (aU bd W w) s c).ps r (some (.ow (.lst ((gR (aU bd W w) s c).fu.map cD)))) none none)):=by
 obtain⟨h1,e⟩:=gu (put:=putN 7) (body:=Ki) cD (fun s:Bk Cell=>sb (brd bd) (cD a) (.int (w:Int)) s.ks s.ps r (some (.ow (.lst (s.fu.map cD)))) (fz (cD c)) none) (fb c) (Bok bd.length W) (aU bd W w c) s h fun s hs x hx=>
  ⟨hs.step ((cH hw).mp hx).1,_,rfl,G7 hg hs⟩
 refine⟨h1,(bt (dF ?_ e)).trans rfl⟩
 show (aw 3 bp (aC (dV 0) (aC (dV 6) (aC (dV 2) aN))) (sb (brd bd) (cD a) (.int (w:Int)) s.ks s.ps r (some (.ow (.lst (s.fu.map cD)))) (fz (cD c)) none)>>=lstM)=_
 have e2:aw 3 bp (aC (dV 0) (aC (dV 6) (aC (dV 2) aN))) (sb (brd bd) (cD a) (.int (w:Int)) s.ks s.ps r (some (.ow (.lst (s.fu.map cD)))) (fz (cD c)) none)=ae (.lst ((aU bd W w c).map cD)):=jD hg hw hc
 rw[e2]
 rfl
def MK:DS:=bW [5,6,7] (aA (x_ 5) (aA (dj (putN 6) (cQ (dV 4)) Kh) (vZ 5 (bD 4 (dV 5)))))
def G6{bd:List Str}{W w:Nat}(hg:Brd bd W)(hw:Ways w){a:Cell}{ring:List Cell}(hr:∀c∈ring,On bd.length W c){s:Bk Cell}(h:Bok bd.length W s)(hf:s.fu=[]):
 Bok bd.length W (cb (aU bd W w) s ring)/\MK (sb (brd bd) (cD a) (.int (w:Int)) s.ks s.ps (fz (.lst (ring.map cD))) none none none)=
  ae (.nx (sb (brd bd) (cD a) (.int (w:Int)) (cb (aU bd W w) s ring).ks (cb (aU bd W w) s ring).ps (fz (.lst ((cb (aU bd W w) s ring).fu.map cD))) none none none)):=by
 obtain⟨h1,e⟩:=gu (put:=putN 6) (body:=Kh) cD (fun s:Bk Cell=>sb (brd bd) (cD a) (.int (w:Int)) s.ks s.ps (fz (.lst (ring.map cD))) (some (.ow (.lst (s.fu.map cD)))) none none) (gR (aU bd W w)) (Bok bd.length W) ring s h fun s hs c hc=>
  ⟨(AL (a:=a) (r:=fz (.lst (ring.map cD))) hg hw (hr c hc) hs).1,_,rfl,(AL hg hw (hr c hc) hs).2⟩
 refine⟨h1,(bt (ρ':=sb (brd bd) (cD a) (.int (w:Int)) (cb (aU bd W w) s ring).ks (cb (aU bd W w) s ring).ps (fz (.lst ((cb (aU bd W w) s ring).fu.map cD))) (fz (.lst ((cb (aU bd W w) s ring).fu.map cD))) none none) ?_).trans rfl⟩
 refine ak (ρ':=sb (brd bd) (cD a) (.int (w:Int)) s.ks s.ps (fz (.lst (ring.map cD))) (some (.ow (.lst []))) none none) rfl (ak (ρ':=sb (brd bd) (cD a) (.int (w:Int)) (cb (aU bd W w) s ring).ks (cb (aU bd W w) s ring).ps (fz (.lst (ring.map cD))) (some (.ow (.lst ((cb (aU bd W w) s ring).fu.map cD)))) none none) ?_ rfl)
 rw[hf] at e
 exact dF rfl e
def yb{bd:List Str}{W w:Nat}(hg:Brd bd W)(hw:Ways w){a:Cell}(ha:On bd.length W a):∀(fuel k:Nat) (ks:List Cell) (ps:List (Option Cell)) (ring:List Cell),bd.length*W+2<=fuel+k->Rng (aU bd W w) a k ks ps ring->(∀x∈ks,On bd.length W x)->
 ∃k' KL Ny,Rng (aU bd W w) a k' KL Ny []/\(∀x∈KL,On bd.length W x)/\dO (bE (dV 4)) MK fuel (sb (brd bd) (cD a) (.int (w:Int)) ks ps (fz (.lst (ring.map cD))) none none none)=ae (.nx (sb (brd bd) (cD a) (.int (w:Int)) KL Ny (fz (.lst [])) none none none))
 |0,k,ks,ps,ring,hf,hR,uu=>by
  have h1:ks.length<=bd.length*W:=by
   rw[<-bg bd.length W]
   exact jH hR.nd fun x hx=>aJ.mpr (uu x hx)
  have:=hR.sz.1
  omega
 |fuel+1,k,ks,ps,[],hf,hR,uu=>⟨k,ks,ps,hR,uu,mG rfl⟩
 |fuel+1,k,ks,ps,c::ring,hf,hR,uu=>by
  have nK:c::ring≠[]:=by simp
  have hN:=hR.next nK
  have Nm:∀x∈c::ring,On bd.length W x:=fun x hx=>uu x ((hR.mem x).mpr ((hR.rg x).mp hx).1)
  obtain⟨hb,e⟩:=G6 (a:=a) hg hw Nm (s:=⟨ks,ps,[]⟩) ⟨hR.len,hR.nd,uu,Ue _⟩ rfl
  obtain⟨k',KL,Ny,q1,q2,q3⟩:=yb hg hw ha fuel (k+1) _ _ _ (by omega) hN hb.on
  exact⟨k',KL,Ny,q1,q2,iP rfl e q3⟩
def j4{bd:List Str}{W w:Nat}(hg:Brd bd W)(hw:Ways w){a:Cell}(ha:On bd.length W a):
 ∃k ks ps,Rng (aU bd W w) a k ks ps []/\(∀x∈ks,On bd.length W x)/\dW [brd bd,cD a, .int (w:Int)]=ae (fL ks ps):=by
 have hm:bd.length*W<=64:=Uv hg.r8 hg.w8
 obtain⟨k,ks,ps,h1,h2,h3⟩:=yb hg hw ha lim 0 [a] [none] [a] (by rw[dz];omega) (Rng.zero _ _) (fun x hx=>(show x=a by simpa using hx)▸ha)
 refine⟨k,ks,ps,h1,h2,aP (ak (ρ':=[fz (brd bd),fz (cD a),fz (.int (w:Int)),some (.ow (Cq [a] [none])),none,none,none,none]) rfl (ak (ρ':=sb (brd bd) (cD a) (.int (w:Int)) [a] [none] (fz (.lst [cD a])) none none none) rfl (ak (ρ':=sb (brd bd) (cD a) (.int (w:Int)) ks ps (fz (.lst [])) none none none) (cK h3) rfl)))⟩
def wa{α:Type}[DecidableEq α](n:Nat)(enc:α->D):Prop:=∀k x y,ju (n+k) (enc x) (enc y)=some (decide (x=y))
def Fu(n:Nat)(xs ys:List D):ju (n+1) (.tup xs) (.tup ys)=nH (ju n) xs ys:=rfl
def oV(n:Nat)(i j:Int):ju n (.int i) (.int j)=some (i==j):=by cases n<;>rfl
def z_{α:Type}[DecidableEq α]{enc:α->D}{f:D->D->Option Bool}(h:∀x y,f (enc x) (enc y)=some (decide (x=y))):∀(xs ys:List α),nH f (xs.map enc) (ys.map enc)=some (decide (xs=ys))
 |[],[]=>rfl
 |[],_::_=>by simp[nH]
 |_::_,[]=>by simp[nH]
 |x::xs,y::ys=>by
  rw[Tf,Tf]
  show (match f (enc x) (enc y),nH f (xs.map enc) (ys.map enc) with | some b,some r=>some (b&&r) | _,_=>none)=_
  rw[h,z_ h xs ys]
  show some (decide (x=y)&&decide (xs=ys))=_
  congr 1
  by_cases h1:x=y<;>by_cases h2:xs=ys<;>simp[h1,h2]
def uh:wa 1 cD:=fun k a b=>by
 rw[YO]
 show (match ju k (.int (a.1:Int)) (.int (b.1:Int)),nH (ju k) [.int (a.2:Int)] [.int (b.2:Int)] with | some b,some r=>some (b&&r) | _,_=>none)=_
 rw[oV]
 show (match some ((a.1:Int)==(b.1:Int)),(match ju k (.int (a.2:Int)) (.int (b.2:Int)),nH (ju k) [] [] with | some b,some r=>some (b&&r) | _,_=>none) with | some b,some r=>some (b&&r) | _,_=>none)=_
 rw[oV]
 show some (((a.1:Int)==(b.1:Int))&&(((a.2:Int)==(b.2:Int))&&true))=_
 rw[jF,jF,Xc]
 congr 1
 obtain⟨a1,a2⟩:=a
 obtain⟨b1,b2⟩:=b
 by_cases h1:a1=b1<;>by_cases h2:a2=b2<;>simp[h1,h2]
def z9{α:Type}[DecidableEq α]{enc:α->D}{n:Nat}(h:wa n enc):wa (n+1) (fun l:List α=> .lst (l.map enc)):=fun k x y=>by
 rw[show n+1+k=(n+k)+1 by omega]
 exact z_ (h k) x y
def Ir{α:Type}[DecidableEq α]{enc:α->D}{n:Nat}(h:wa n enc)(hn:n<=6)(x y:α):gE (enc x) (enc y)=ae (.bl (decide (x=y))):=by
 have:=h (6 - n) x y
 rw[show n+(6 - n)=6 by omega] at this
 unfold gE
 rw[this]
def CN{α:Type}[DecidableEq α]{enc:α->D}{n:Nat}(h:wa n enc)(hn:n<=6)(x y:α):gw (enc x) (enc y)=ae (.bl (!decide (x=y))):=by
 have:=h (6 - n) x y
 rw[show n+(6 - n)=6 by omega] at this
 unfold gw
 rw[this]
abbrev cL(l:List Cell):D:= .lst (l.map cD)
def qa(a b:Cell):gw (cD a) (cD b)=ae (.bl (!decide (a=b))):=CN uh (by decide) a b
def HN(a b:List Cell):gw (cL a) (cL b)=ae (.bl (!decide (a=b))):=CN (z9 uh) (by decide) a b
def Lj(a b:List Cell):gE (cL a) (cL b)=ae (.bl (decide (a=b))):=Ir (z9 uh) (by decide) a b
def ic(c:Cell):List Int:=[(c.1:Int),(c.2:Int)]
def rY(a b:Cell):Bool:=if a.1=b.1 then decide (a.2<b.2) else decide (a.1<b.1)
def FK(k:Cell):List Cell->List Cell
 |[]=>[k]
 |x::r=>if rY k x then k::x::r else x::FK k r
def qK:List Cell->List Cell
 |[]=>[]
 |k::r=>FK k (qK r)
def za(a b:Cell):fj (ic a) (ic b)=rY a b:=by
 show (if (a.1:Int)=(b.1:Int) then(if (a.2:Int)=(b.2:Int) then false else decide ((a.2:Int)<(b.2:Int))) else decide ((a.1:Int)<(b.1:Int)))=_
 unfold rY
 by_cases h:a.1=b.1
 ·rw[if_pos h,if_pos (by omega)]
  by_cases h2:a.2=b.2
  ·rw[if_pos (by omega),h2];simp
  ·rw[if_neg (by omega)]
   by_cases h3:a.2<b.2
   ·rw[decide_eq_true h3,decide_eq_true (by omega)]
   ·rw[decide_eq_false h3,decide_eq_false (by omega)]
 ·rw[if_neg h,if_neg (by omega)]
  by_cases h3:a.1<b.1
  ·rw[decide_eq_true h3,decide_eq_true (by omega)]
  ·rw[decide_eq_false h3,decide_eq_false (by omega)]
def Dm(k:Cell):∀l:List Cell,insI (ic k) (l.map ic)=(FK k l).map ic
 |[]=>rfl
 |x::r=>by
  rw[Tf]
  unfold insI FK
  rw[za]
  cases rY k x with
  |true=>rfl
  |false=>rw[if_neg (by decide),if_neg (by decide),Tf,Dm k r]
def o6:∀l:List Cell,sortI (l.map ic)=(qK l).map ic
 |[]=>rfl
 |k::r=>by
  rw[Tf]
  unfold sortI qK
  rw[o6 r,Dm]
def uw{a b:Cell}(h:ic a=ic b):a=b:=by
 unfold ic at h
 injection h with h1 h2
 injection h2 with h2 _
 exact XA (WM h1) (WM h2)
def sM{x:Cell}{l:List Cell}:x∈qK l↔x∈l:=by
 have h:=iM (x:=ic x) (l:=l.map ic)
 rw[o6] at h
 constructor
 ·intro hx
  obtain⟨y,hy,e⟩:=TJ.mp (h.mp (TJ.mpr ⟨x,hx,rfl⟩))
  rw[<-uw e];exact hy
 ·intro hx
  obtain⟨y,hy,e⟩:=TJ.mp (h.mpr (TJ.mpr ⟨x,hx,rfl⟩))
  rw[<-uw e];exact hy
def RiseC(l:List Cell):Prop:=l.Pairwise fun a b=>rY a b=true
def vk{l:List Cell}:yB (l.map ic)↔RiseC l:=by
 unfold yB RiseC
 rw[Xj]
 constructor<;>intro h<;>refine WD ?_ h<;>intro a b q
 ·rw[<-za];exact q
 ·rw[za];exact q
def xl{l:List Cell}(h:l.Nodup):(l.map ic).Nodup:=by
 unfold UC at h⊢
 rw[Xj]
 exact WD (fun h z=>h (uw z)) h
def zD{l:List Cell}(h:l.Nodup):RiseC (qK l):=by
 have:=lB (xl h)
 rw[o6] at this
 exact vk.mp this
def BZ{a b:List Cell}(ha:RiseC a)(hb:RiseC b)(h:∀x,x∈a↔x∈b):a=b:=by
 have e:=qG (vk.mpr ha) (vk.mpr hb) fun x=>by
  constructor
  ·intro hx
   obtain⟨y,hy,rfl⟩:=TJ.mp hx
   exact TJ.mpr ⟨y,(h y).mp hy,rfl⟩
  ·intro hx
   obtain⟨y,hy,rfl⟩:=TJ.mp hx
   exact TJ.mpr ⟨y,(h y).mpr hy,rfl⟩
 have inj:∀(a b:List Cell),a.map ic=b.map ic->a=b:=by
  intro a
  induction a with
  |nil=>intro b h;cases b with
   |nil=>rfl
   |cons=>simp at h
  |cons x a ih=>intro b h;cases b with
   |nil=>simp at h
   |cons y b=>
    rw[Tf,Tf] at h
    injection h with h1 h2
    rw[uw h1,ih b h2]
 exact inj a b e
def RiseC.nodup{l:List Cell}(h:RiseC l):l.Nodup:=by
 refine WD ?_ h
 intro a b q z
 subst z
 unfold rY at q
 rw[if_pos rfl] at q
 have:=of_decide_eq_true q
 omega
def sv:∀ks:List Cell,kY (ks.map keyOf)=some (ks.map ic)
 |[]=>rfl
 |k::r=>by
  show (match sr (keyOf k),kY (r.map keyOf) with | some x,some xs=>some (x::xs) | _,_=>none)=_
  rw[sv r]
  rfl
def Mh{ks:List Cell}(h:ks.Nodup)(hl:ks.length<64):jI (ks.map ic)=true:=by
 unfold jI
 rw[S6,decide_eq_true (xl h),decide_eq_true hl]
 simp
 intro a b _ z
 cases z
def EG{ks:List Cell}{ds:List D}(h:ks.Nodup)(hl:ks.length<64):AO [.dct (ks.map keyOf) ds]=ae (cL (qK ks)):=by
 show (match kY (ks.map keyOf) with | some ks=>if jI ks&&ks.all (fun k=>decide (k.length<=lim)) then ae (D.lst ((sortI ks).map tupI)) else ah | none=>ah)=_
 rw[sv]
 show (if jI (ks.map ic)&&(ks.map ic).all (fun k=>decide (k.length<=lim)) then ae (D.lst ((sortI (ks.map ic)).map tupI)) else ah)=_
 rw[Mh h hl]
 have:(ks.map ic).all (fun k=>decide (k.length<=lim))=true:=by
  simp
  intro a b _
  show 2<=lim
  decide
 rw[this,Xc,if_pos rfl,o6,UQ]
 rfl
def Cn(bd:List Str)(W w:Nat)(a b:Cell):Prop:=∃j,Rb (aU bd W w) a j b
def Cn.refl{bd:List Str}{W w:Nat}{a:Cell}:Cn bd W w a a:=⟨0,rfl⟩
def zb{bd:List Str}{W w:Nat}(hw:Ways w){a b:Cell}(ha:On bd.length W a)(h:b∈aU bd W w a):a∈aU bd W w b:=by
 obtain⟨h1,h2,h3⟩:=(cH hw).mp h
 exact(cH hw).mpr ⟨ha,by rw[l7];exact h2,h3.symm⟩
def tq{bd:List Str}{W w:Nat}(hw:Ways w){a b:Cell}(ha:On bd.length W a):∀{j:Nat},Rb (aU bd W w) a j b->On bd.length W b
 |0,h=>by rw[show b=a from h];exact ha
 |j+1, .inl h=>tq hw ha h
 |j+1, .inr ⟨y,_,hy⟩=>((cH hw).mp hy).1
def qD{bd:List Str}{W w:Nat}{a c b:Cell}(h:c∈aU bd W w a):∀{j:Nat},Rb (aU bd W w) c j b->Rb (aU bd W w) a (j+1) b
 |0,q=> .inr ⟨a,rfl,by rw[show b=c from q];exact h⟩
 |j+1, .inl q=> .inl (qD h q)
 |j+1, .inr ⟨y,q,hy⟩=> .inr ⟨y,qD h q,hy⟩
def o5{bd:List Str}{W w:Nat}(hw:Ways w){a b:Cell}(ha:On bd.length W a):∀{j:Nat},Rb (aU bd W w) a j b->Rb (aU bd W w) b j a
 |0,h=>show a=b from(show b=a from h).symm
 |j+1, .inl h=> .inl (o5 hw ha h)
 |j+1, .inr ⟨y,q,hy⟩=>qD (zb hw (tq hw ha q) hy) (o5 hw ha q)
def qE{bd:List Str}{W w:Nat}{a b c:Cell}{i:Nat}(h:Rb (aU bd W w) a i b):∀{j:Nat},Rb (aU bd W w) b j c->Rb (aU bd W w) a (i+j) c
 |0,q=>by rw[show c=b from q];exact h
 |j+1, .inl q=> .inl (qE h q)
 |j+1, .inr ⟨y,q,hy⟩=> .inr ⟨y,qE h q,hy⟩
def km{bd:List Str}{W w:Nat}(hw:Ways w){a b:Cell}:∀{j:Nat},Rb (aU bd W w) a j b->lt bd b=lt bd a
 |0,h=>by rw[show b=a from h]
 |j+1, .inl h=>km hw h
 |j+1, .inr ⟨y,q,hy⟩=>((cH hw).mp hy).2.2.trans (km hw q)
section
variable{bd:List Str}{W w:Nat}{a b c:Cell}
def Cn.on(hw:Ways w)(ha:On bd.length W a)(h:Cn bd W w a b):On bd.length W b:=let ⟨_,q⟩:=h;tq hw ha q
def Cn.symm(hw:Ways w)(ha:On bd.length W a)(h:Cn bd W w a b):Cn bd W w b a:=let ⟨j,q⟩:=h;⟨j,o5 hw ha q⟩
def Cn.trans(h:Cn bd W w a b)(h2:Cn bd W w b c):Cn bd W w a c:=let ⟨i,q⟩:=h;let ⟨j,r⟩:=h2;⟨i+j,qE q r⟩
def Cn.step(h:Cn bd W w a b)(h2:c∈aU bd W w b):Cn bd W w a c:=let ⟨j,q⟩:=h;⟨j+1, .inr ⟨b,q,h2⟩⟩
end
structure IsPatch (bd:List Str) (W w:Nat) (a:Cell) (P:List Cell):Prop where
 rise:RiseC P
 mem:∀x,x∈P↔Cn bd W w a x
def Fc{bd:List Str}{W:Nat}{ks:List Cell}(hn:ks.Nodup)(uu:∀x∈ks,On bd.length W x):ks.length<=bd.length*W:=by
 rw[<-bg bd.length W]
 exact jH hn fun x hx=>aJ.mpr (uu x hx)
def iN{bd:List Str}{W w:Nat}(hg:Brd bd W)(hw:Ways w){a b:Cell}(ha:On bd.length W a)(hb:On bd.length W b):aQ [brd bd, .int (w:Int),cD a,cD b]=ae .non:=
 vm (ρ:=[fz (brd bd),fz (.int (w:Int)),fz (cD a),fz (cD b)]) (ak (cx ((aj (ds:=[brd bd]) rfl rfl).trans hg.nb)) (ak (cx ((aj (ds:=[.int (w:Int)]) rfl rfl).trans hw.nw)) (ak (cx ((aj (ds:=[brd bd,cD a]) rfl rfl).trans (hg.nc ha))) (cx ((aj (ds:=[brd bd,cD b]) rfl rfl).trans (hg.nc hb))))))
def wc{bd:List Str}{W w:Nat}(hg:Brd bd W)(hw:Ways w){a b:Cell}(ha:On bd.length W a)(hb:On bd.length W b):∃r:Bool,(r=true↔Cn bd W w a b)/\dR [brd bd, .int (w:Int),cD a,cD b]=ae (.bl r):=by
 obtain⟨k,ks,ps,h1,h2,h3⟩:=j4 hg hw ha
 refine⟨decide (b∈ks),by rw[decide_eq_true_eq];exact h1.last b,aP (ak (cx ((aj (ds:=[brd bd, .int (w:Int),cD a,cD b]) rfl rfl).trans (iN hg hw ha hb))) (aD ?_))⟩
 exact(az (x:=cD b) (y:=fL ks ps) rfl ((aj (ds:=[brd bd,cD a, .int (w:Int)]) rfl rfl).trans h3)).trans (kg (neg:=false) (by rw[S6];exact h1.len))
def jm(w:Nat):List Cell->Bool
 |a::b::r=>ir w a b&&jm w (b::r)
 |_=>true
structure IsWay (bd:List Str) (W w:Nat) (a b:Cell) (p:List Cell):Prop where
 on:∀x∈p,On bd.length W x
 hd:p.head? =some a
 lst:p.getLast? =some b
 let':∀x∈p,lt bd x=lt bd a
 adj:jm w p=true
def vN(bd:List Str)(w:Nat)(a b:Cell)(p:List Cell):Bool:=(decide (p.head? =some a)&&decide (p.getLast? =some b))&&(p.all (fun x=>decide (lt bd x=lt bd a))&&jm w p)
def EW{bd:List Str}{W w:Nat}{a b:Cell}{p:List Cell}(uu:∀x∈p,On bd.length W x):vN bd w a b p=true↔IsWay bd W w a b p:=by
 unfold vN
 simp only[Ts,decide_eq_true_eq,T2]
 exact⟨fun ⟨⟨h1,h2⟩,h3,h4⟩=>⟨uu,h1,h2,h3,h4⟩,fun h=>⟨⟨h.hd,h.lst⟩,h.let',h.adj⟩⟩
def pj{α:Type}{l:List α}{x:α}:L2.atI (l++[x]) (-1)=some x:=by
 unfold L2.atI An
 rw[if_neg (by decide)]
 have: -((l++[x]).length:Int)<= -1:=by simp;omega
 rw[if_pos this]
 have e:((-1:Int)+((l++[x]).length:Int)).toNat=l.length:=by simp;omega
 show (l++[x])[((-1:Int)+((l++[x]).length:Int)).toNat]? =some x
 rw[e]
 simp
def jA{l:List Cell}{x:Cell}:bZ (cL (l++[x])) (.int (-1))=ae (cD x):=by
 show (match L2.atI ((l++[x]).map cD) (-1) with | some d=>ae d | none=>ah)=_
 rw[Vd,show [x].map cD=[cD x] from rfl,pj]
def y7{l:List Cell}{i:Nat}{x:Cell}(h:l[i]? =some x):bZ (cL l) (.int (i:Int))=ae (cD x):=by
 show (match L2.atI (l.map cD) (i:Int) with | some d=>ae d | none=>ah)=_
 rw[fK (x:=cD x) (by rw[Tu,h];rfl)]
structure Trail (nb:Cell->List Cell) (b:Cell) (p:List Cell) (x:Cell):Prop where
 hd:p.head? =some x
 lst:p.getLast? =some b
 ch:∀l r u v,p=l++u::v::r->u∈nb v
abbrev wr(bd w a b k t:D):bf:=[fz bd,fz w,fz a,fz b,fz k,fz t]
def zH{bd:List Str}{W:Nat}{w:D}{nb:Cell->List Cell}{a b:Cell}{k0:Nat}{ks:List Cell}{ps:List (Option Cell)}(h:Rng nb b k0 ks ps []):∀(j fuel:Nat) (x:Cell) (acc:List Cell),Rb nb b j x->j<fuel->acc.length+j+1<lim->
 ∃p,Trail nb b p x/\p.length<=j+1/\dO (qN (bH (d2 gw (d2 bZ (dV 5) (d1 d_ (dC (.int 1)))) (dV 3)))) (fQ 5 (EZ (d2 eA (dV 4) (d2 bZ (dV 5) (d1 d_ (dC (.int 1))))))) fuel [fz (brd bd),fz w,fz (cD a),fz (cD b),fz (fL ks ps),some (.ow (.lst ((acc++[x]).map cD)))]=
  ae (.nx [fz (brd bd),fz w,fz (cD a),fz (cD b),fz (fL ks ps),some (.ow (.lst ((acc++p).map cD)))]):=by
 intro j
 induction j with
 |zero=>
  intro fuel x acc hx hf hl
  obtain⟨f,rfl⟩:∃f,fuel=f+1:=⟨fuel - 1,by omega⟩
  have hx:x=b:=hx
  subst hx
  refine⟨[x],⟨rfl,rfl,fun l r u v e=>?_⟩,by simp,mG (oq (cI ((az (x:=cD x) (y:=cD x) ((az (x:=cL (acc++[x])) (y:= .int (-1)) rfl rfl).trans jA) rfl).trans ((qa x x).trans (by simp)))))⟩
  have:=congrArg YZ e
  simp at this
  omega
 |succ j ih=>
  intro fuel x acc hx hf hl
  obtain⟨f,rfl⟩:∃f,fuel=f+1:=⟨fuel - 1,by omega⟩
  by_cases OA:x=b
  ·subst OA
   obtain⟨p,h1,h2,h3⟩:=ih (f+1) x acc (Rb.mono (Ue _) rfl) (by omega) (by omega)
   exact⟨p,h1,by omega,h3⟩
  ·have hk:x∈ks:=(h.last x).mpr ⟨_,hx⟩
   obtain⟨d,e1,e2⟩:=kq (ds:=ps.map u0) (by rw[S6];exact h.len) hk
   obtain⟨o,ho,rfl⟩:∃o,(x,o)∈ks.zip ps/\d=u0 o:=by
    rw[List.zip_map_right] at e2
    obtain⟨⟨y,o⟩,hy,e⟩:=TJ.mp e2
    cases e
    exact⟨o,hy,rfl⟩
   cases o with
   |none=>exact absurd (h.non x ho) OA
   |some q=>
    obtain⟨q1,q2,q3⟩:=h.par x q ho
    obtain⟨i,hi,hq⟩:=q3 _ hx
    have hi:j=i:=by omega
    subst hi
    obtain⟨p,h1,h2,h3⟩:=ih f q (acc++[x]) hq (by omega) (by simp;omega)
    refine⟨x::p,⟨rfl,?_,fun l r u v e=>?_⟩,by simp;omega,iP (ρ':=[fz (brd bd),fz w,fz (cD a),fz (cD b),fz (fL ks ps),some (.ow (.lst ((acc++[x]++[q]).map cD)))]) (oq (cI ((az (x:=cD x) (y:=cD b) ((az (x:=cL (acc++[x])) (y:= .int (-1)) rfl rfl).trans jA) rfl).trans ((qa x b).trans (by rw[decide_eq_false OA];rfl))))) ?_ (by rw[h3];simp)⟩
    ·have:=h1.lst
     rw[List.getLast?_cons]
     rw[this];rfl
    ·cases l with
     |nil=>
      injection e with e1 e2
      subst e1
      have:=h1.hd
      rw[e2] at this
      cases this
      exact q1
     |cons y l=>
      injection e with _ e2
      exact h1.ch l r u v e2
    ·have ev:EZ (d2 eA (dV 4) (d2 bZ (dV 5) (d1 d_ (dC (.int 1))))) [fz (brd bd),fz w,fz (cD a),fz (cD b),fz (fL ks ps),some (.ow (.lst ((acc++[x]).map cD)))]=ae (cD q):=by
      refine Hn ((az (x:=fL ks ps) (y:=cD x) rfl ((az (x:=cL (acc++[x])) (y:= .int (-1)) rfl rfl).trans jA)).trans ?_) (Af q)
      show (match (eB (cD x)).map (e_ (ks.map keyOf) (ps.map u0)) with | some (some v)=>ae v | _=>ah)=_
      rw[gc]
      show (match some (e_ (ks.map keyOf) (ps.map u0) (keyOf x)) with | some (some v)=>ae v | _=>ah)=_
      rw[e1]
      rfl
     show (EZ (d2 eA (dV 4) (d2 bZ (dV 5) (d1 d_ (dC (.int 1))))) [fz (brd bd),fz w,fz (cD a),fz (cD b),fz (fL ks ps),some (.ow (.lst ((acc++[x]).map cD)))]>>=fun d=>if ((acc++[x]).map cD).length<lim then ae (Out.nx [fz (brd bd),fz w,fz (cD a),fz (cD b),fz (fL ks ps),some (.ow (.lst ((acc++[x]).map cD++[d])))]) else ah)=_
     rw[ev,ay,if_pos (by rw[S6];simp;omega)]
     rw[show (acc++[x]).map cD++[cD q]=(acc++[x]++[q]).map cD by simp]
def tK{bd:List Str}{W w:Nat}(hw:Ways w){b:Cell}(hb:On bd.length W b):∀{p:List Cell}{x:Cell},Trail (aU bd W w) b p x->IsWay bd W w x b p
 |[],x,h=>by have:=h.hd;cases this
 |[y],x,h=>by
  have h1:y=x:=TF h.hd
  have h2:y=b:=TF h.lst
  subst h1
  subst h2
  exact⟨fun z hz=>(show z=y by simpa using hz)▸hb,rfl,rfl,fun z hz=>by rw[show z=y by simpa using hz],rfl⟩
 |y::z::r,x,h=>by
  have h1:y=x:=TF h.hd
  subst h1
  have hz:Trail (aU bd W w) b (z::r) z:=⟨rfl,by have:=h.lst;rw[Wo] at this;exact this,fun l r' u v e=>h.ch (y::l) r' u v (by rw[e];rfl)⟩
  have ih:=tK hw hb hz
  have hx:=h.ch [] r y z rfl
  obtain⟨x1,x2,x3⟩:=(cH hw).mp hx
  refine⟨fun u hu=>?_,rfl,h.lst,fun u hu=>?_,?_⟩
  ·rcases Th.mp hu with q | q
   ·rw[q];exact x1
   ·exact ih.on u q
  ·rcases Th.mp hu with q | q
   ·rw[q]
   ·exact(ih.let' u q).trans x3.symm
  ·unfold jm
   rw[l7,x2,ih.adj]
   rfl
def vO{bd:List Str}{W w:Nat}(hw:Ways w){a b:Cell}:∀{p:List Cell},IsWay bd W w a b p->Rb (aU bd W w) b (p.length - 1) a
 |[],h=>by have:=h.hd;cases this
 |[y],h=>by
  have h1:y=a:=TF h.hd
  have h2:y=b:=TF h.lst
  exact h1.symm.trans h2
 |y::z::r,h=>by
  have h1:y=a:=TF h.hd
  subst h1
  have ha:=h.adj
  unfold jm at ha
  rw[Ts] at ha
  have hz:IsWay bd W w z b (z::r):=⟨fun u hu=>h.on u (S9 _ hu),rfl,by have:=h.lst;rw[Wo] at this;exact this,
   fun u hu=>(h.let' u (S9 _ hu)).trans (h.let' z (by simp)).symm,ha.2⟩
  have ih:=vO hw hz
  refine .inr ⟨z,ih,(cH hw).mpr ⟨h.on _ (Ta ..),by rw[l7];exact ha.1,(h.let' z (by simp)).symm⟩⟩
def Hg{bd:List Str}{W w:Nat}(hg:Brd bd W)(hw:Ways w){a b:Cell}(ha:On bd.length W a)(hb:On bd.length W b):
 (∃p,IsWay bd W w a b p/\(∀q,IsWay bd W w a b q->p.length<=q.length)/\p.length<=64/\kB [brd bd, .int (w:Int),cD a,cD b]=ae (cL p))\/
 (¬Cn bd W w a b/\kB [brd bd, .int (w:Int),cD a,cD b]=ae .non):=by
 have hm:bd.length*W<=64:=Uv hg.r8 hg.w8
 obtain⟨k,ks,ps,h1,h2,h3⟩:=j4 hg hw hb
 have LI:=Fc h1.nd h2
 have st:∀{o:M Out},aA (el (bH (d2 (h9 true) (dV 2) (dV 4))) (a9 (dC .non)) bS) (aA (jP 5 (fun ρ=>(aC (dV 2) aN) ρ>>=Js)) (aA (fun ρ=>noex ((lr (qN (bH (d2 gw (d2 bZ (dV 5) (d1 d_ (dC (.int 1)))) (dV 3)))) (fQ 5 (EZ (d2 eA (dV 4) (d2 bZ (dV 5) (d1 d_ (dC (.int 1)))))))) ρ)) (vZ 5 (a9 (dV 5))))) [fz (brd bd),fz (.int (w:Int)),fz (cD a),fz (cD b),fz (fL ks ps),none]=o->
  Ic [fz (brd bd),fz (.int (w:Int)),fz (cD a),fz (cD b),none,none]=o:=fun {o} h=>
  ak (cx ((aj (ds:=[brd bd, .int (w:Int),cD a,cD b]) rfl rfl).trans (iN hg hw ha hb))) (ak (ρ':=[fz (brd bd),fz (.int (w:Int)),fz (cD a),fz (cD b),fz (fL ks ps),none]) ((aM (d:=fL ks ps) ((aj (ds:=[brd bd,cD b, .int (w:Int)]) rfl rfl).trans h3)).trans rfl) h)
 have ht:bH (d2 (h9 true) (dV 2) (dV 4)) [fz (brd bd),fz (.int (w:Int)),fz (cD a),fz (cD b),fz (fL ks ps),none]=ae (!decide (a∈ks)):=cI ((az (x:=cD a) (y:=fL ks ps) rfl rfl).trans (kg (neg:=true) (by rw[S6];exact h1.len)))
 by_cases Lr:a∈ks
 ·rw[decide_eq_true Lr] at ht
  have hex:=(h1.last a).mp Lr
  have IJ:∃j,Rb (aU bd W w) b j a/\j<=k/\∀i,Rb (aU bd W w) b i a->j<=i:=by
   have RA:=(h1.mem a).mp Lr
   have:∀n,(∃j,j<=n/\Rb (aU bd W w) b j a)->∃j,Rb (aU bd W w) b j a/\j<=n/\∀i,Rb (aU bd W w) b i a->j<=i:=by
    intro n
    induction n with
    |zero=>rintro⟨j,hj,hr⟩;exact⟨j,hr,hj,fun i _=>by omega⟩
    |succ n ih=>
     rintro⟨j,hj,hr⟩
     by_cases hn:∃j,j<=n/\Rb (aU bd W w) b j a
     ·obtain⟨i,i1,i2,i3⟩:=ih hn
      exact⟨i,i1,by omega,i3⟩
     ·refine⟨j,hr,hj,fun i hi=>?_⟩
      by_cases yy:i<=n
      ·exact absurd ⟨i,yy,hi⟩ hn
      ·omega
   exact this k ⟨k,Tg _,RA⟩
  obtain⟨j,hj,PZ,Di⟩:=IJ
  have Rz:k<=64:=Tw h1.sz.1 (Tw LI hm)
  obtain⟨p,p1,p2,p3⟩:=zH (bd:=bd) (W:=W) (w:= .int (w:Int)) (a:=a) h1 j lim a [] hj (by rw[dz];omega) (by rw[dz];simp;omega)
  have hp:=tK hw hb p1
  have Ry:∀q,IsWay bd W w a b q->j+1<=q.length:=fun q hq=>by
   have:=Di _ (vO hw hq)
   have:q≠[]:=fun z=>by have:=hq.hd;rw[z] at this;cases this
   have:=WV.mpr this
   omega
  refine .inl ⟨p,hp,fun q hq=>by have:=Ry q hq;omega,?_,aP (st (ak (bR ht rfl) (ak (ρ':=[fz (brd bd),fz (.int (w:Int)),fz (cD a),fz (cD b),fz (fL ks ps),some (.ow (.lst [cD a]))]) rfl (ak (ρ':=[fz (brd bd),fz (.int (w:Int)),fz (cD a),fz (cD b),fz (fL ks ps),some (.ow (.lst (p.map cD)))]) (cK p3) rfl))))⟩
  by_cases SM:k=0
  ·omega
  ·have:j+1<=k:=by
    by_cases Ob:j=k
    ·subst Ob
     have:=(h1.rg a).mpr ⟨hj,Di⟩
     cases this
    ·omega
   omega
 ·rw[decide_eq_false Lr] at ht
  refine .inr ⟨fun hc=>Lr ((h1.last a).mpr (hc.symm hw ha)),aP (st (a8 (bL ht (aD rfl))))⟩
def fg{α:Type}{f:D->M (Option D)}(enc:α->D)(g:α->D):∀(xs:List α),(∀x∈xs,f (enc x)=ae (some (g x)))->eh f (xs.map enc)=ae (xs.map g)
 |[],_=>rfl
 |x::xs,h=>by
  rw[Tf,fe,h x (Ta ..),ay,fg enc g xs fun y hy=>h y (S9 _ hy)]
  rfl
def jo{α:Type}{δi:DA}{δe:DE}{ρ:bf}{enc:α->D}{xs:List α}{g:α->Bool}(h:δi ρ=ae (xs.map enc))(h2:∀x∈xs,δe (fz (enc x)::ρ)=ae (.bl (g x)))(h3:xs.length<=4096):dA allM (aC (bA 0 δi cw δe) aN) ρ=ae (.bl (xs.all g)):=by
 have cm:bA 0 δi cw δe ρ=ae (.lst ((xs.map g).map D.bl)):=by
  refine cG h ?_ (by rw[S6,S6,dz];exact h3)
  rw[UQ]
  exact fg enc _ xs fun x hx=>by rw[kS,h2 x hx];rfl
 rw[cO (aS cm rfl),all_map,Vu]
 rfl
def FO{ρ:bf}{i:Nat}{ds:List D}(h:ρ[i]? =some (fz (.lst ds))):cQ (dV i) ρ=ae ds:=by
 unfold cQ
 rw[ug h]
 rfl
def jE{bd:List Str}{W:Nat}(hg:Brd bd W){p:List Cell}(hp:∀x∈p,On bd.length W x)(hl:p.length<=4096):bb [brd bd,cL p]=ae (.bl true):=by
 refine aP (aD ((uf (p:=true) (q:=true) rfl ?_).trans rfl))
 refine(jo (enc:=cD) (xs:=p) (g:=fun _=>true) (FO rfl) (fun x hx=>?_) hl).trans (by rw[show p.all (fun _=>true)=true from T2.mpr fun _ _=>rfl])
 exact(aj (ds:=[brd bd,cD x]) rfl rfl).trans (by rw[gS hg lG,z3 (hp x hx)])
def rQ{w:Nat}:∀(p:List Cell) (c:Cell),(T_ 1 (p.length - 1)).all (fun i=>ir w (p.getD (i - 1) c) (p.getD i c))=jm w p
 |[],_=>rfl
 |[_],_=>rfl
 |a::b::r,c=>by
  have ih:=rQ (w:=w) (b::r) c
  unfold jm
  rw[<-ih]
  show (T_ 1 (r.length+1)).all _=(_&&(T_ 1 r.length).all _)
  rw[Xs,UR]
  congr 1
  rw[show T_ (1+1) r.length=(T_ 1 r.length).map (1+ ·) from(List.map_add_range' (a:=1) 1 r.length 1).symm,Vu]
  refine Vg.mpr ?_
  simp only[T2,Xk,XI]
  constructor
  ·intro h i hi
   have:=h i hi
   rw[show 1+i - 1=(i - 1)+1 by omega,YO 1 i] at this
   exact this
  ·intro h i hi
   have:=h i hi
   rw[show 1+i - 1=(i - 1)+1 by omega,YO 1 i]
   exact this
def wV{p:List Cell}{x:Cell}{r:List Cell}(h:p=x::r):bZ (cL p) (.int 0)=ae (cD x):=by
 subst h
 exact y7 (i:=0) rfl
def y6{bd:List Str}{W w:Nat}(hg:Brd bd W)(hw:Ways w){a b:Cell}(ha:On bd.length W a)(hb:On bd.length W b){p:List Cell}(hp:∀x∈p,On bd.length W x)(hl:p.length<=4096):
 eM [brd bd, .int (w:Int),cD a,cD b,cL p]=ae (.bl (vN bd w a b p)):=by
 have hlen:dA bB (aC (dV 4) aN) [fz (brd bd),fz (.int (w:Int)),fz (cD a),fz (cD b),fz (cL p),none]=ae (.int (p.length:Int)):=by
  show ae (D.int ((p.map cD).length:Int))=_
  rw[S6]
 have t1:fS (bV (bE (aw 2 bb (aC (dV 0) (aC (dV 4) aN))))) (bH (d2 gE (dA bB (aC (dV 4) aN)) (dC (.int 0)))) [fz (brd bd),fz (.int (w:Int)),fz (cD a),fz (cD b),fz (cL p),none]=ae (p.length==0):=by
  refine(fZ (cf (bF ((aj (ds:=[brd bd,cL p]) rfl rfl).trans (jE hg hp hl)))) (cI ((az (y:= .int 0) hlen rfl).trans ((eq_int _ _).trans (by rw[show ((p.length:Int)==0)=(p.length==0) from jF p.length 0]))))).trans rfl
 refine aP (ak (cx ((aj (ds:=[brd bd, .int (w:Int),cD a,cD b]) rfl rfl).trans (iN hg hw ha hb))) ?_)
 cases p with
 |nil=>exact a8 (bL t1 (aD rfl))
 |cons x r=>
  refine ak (bR t1 rfl) ?_
  obtain⟨l,y,e⟩:∃l y,x::r=l++[y]:=⟨(x::r).dropLast,(x::r).getLast (by simp),(XC (by simp)).symm⟩
  have hy:(x::r).getLast? =some y:=by rw[e];simp
  have hh:(x::r).head? =some x:=rfl
  have t2:fS (bH (d2 gw (d2 bZ (dV 4) (dC (.int 0))) (dV 2))) (bH (d2 gw (d2 bZ (dV 4) (d1 d_ (dC (.int 1)))) (dV 3))) [fz (brd bd),fz (.int (w:Int)),fz (cD a),fz (cD b),fz (cL (x::r)),none]=ae ((!decide (x=a))||(!decide (y=b))):=by
   refine fZ (cI ((az (x:=cD x) (y:=cD a) ((az (x:=cL (x::r)) (y:= .int 0) rfl rfl).trans (wV rfl)) rfl).trans (qa _ _))) (cI ((az (x:=cD y) (y:=cD b) ((az (x:=cL (x::r)) (y:= .int (-1)) rfl rfl).trans ?_) rfl).trans (qa _ _)))
   rw[e]
   exact jA
  have Ox:vN bd w a b (x::r)=((decide (x=a)&&decide (y=b))&&((x::r).all (fun z=>decide (lt bd z=lt bd a))&&jm w (x::r))):=by
   unfold vN
   rw[hh,hy]
   simp only[Yl]
  rw[Ox]
  by_cases hc:x=a/\y=b
  ·rw[decide_eq_true hc.1,decide_eq_true hc.2] at t2⊢
   refine ak (bR t2 rfl) (ak (ρ':=[fz (brd bd),fz (.int (w:Int)),fz (cD a),fz (cD b),fz (cL (x::r)),fz (sg (lt bd a))]) ((aM (d:=sg (lt bd a)) ((aj (ds:=[brd bd,cD a]) rfl rfl).trans (fC hg ha))).trans rfl) ?_)
   have t3:bV (bE (dA allM (aC (bA 0 (cQ (dV 4)) cw (d2 gE (aw 2 cE (aC (dV 1) (aC (dV 0) aN))) (dV 6))) aN))) [fz (brd bd),fz (.int (w:Int)),fz (cD a),fz (cD b),fz (cL (x::r)),fz (sg (lt bd a))]=ae (!(x::r).all fun z=>decide (lt bd z=lt bd a)):=
    cf (bF (jo (enc:=cD) (FO rfl) (fun z hz=>(az (x:=sg (lt bd z)) (y:=sg (lt bd a)) ((aj (ds:=[brd bd,cD z]) rfl rfl).trans (fC hg (hp z hz))) rfl).trans (wI _ _)) hl))
   have LK:dA bB (aC (dV 4) aN) [fz (brd bd),fz (.int (w:Int)),fz (cD a),fz (cD b),fz (cL (x::r)),fz (sg (lt bd a))]=ae (.int ((x::r).length:Int)):=hlen
   cases hq:(x::r).all (fun z=>decide (lt bd z=lt bd a)) with
   |false=>
    rw[hq] at t3
    exact a8 (bL t3 (aD rfl))
   |true=>
    rw[hq] at t3
    refine ak (bR t3 rfl) (aD ?_)
    rw[US,US,US,<-rQ (x::r) x]
    refine jo (enc:=fun(k:Nat)=>D.int (k:Int)) (Kg (i:=1) (j:=(x::r).length) rfl LK (by decide) hl) (fun i hi=>?_) (by rw[V8];omega)
    rw[Xk] at hi
    have g:∀k:Nat,k<(x::r).length->bZ (cL (x::r)) (.int (k:Int))=ae (cD ((x::r).getD k x)):=fun k hk=>y7 (by rw[TU,Tb hk];rfl)
    have e1:d2 bZ (dV 5) (d2 q_ (dV 0) (dC (.int 1))) (fz (.int (i:Int))::[fz (brd bd),fz (.int (w:Int)),fz (cD a),fz (cD b),fz (cL (x::r)),fz (sg (lt bd a))])=ae (cD ((x::r).getD (i - 1) x)):=by
     refine(az (x:=cL (x::r)) (y:= .int ((i - 1:Nat):Int)) rfl ?_).trans (g (i - 1) (by omega))
     show ae (D.int ((i:Int) - 1))=_
     congr 2
     omega
    have e2:d2 bZ (dV 5) (dV 0) (fz (.int (i:Int))::[fz (brd bd),fz (.int (w:Int)),fz (cD a),fz (cD b),fz (cL (x::r)),fz (sg (lt bd a))])=ae (cD ((x::r).getD i x)):=(az (x:=cL (x::r)) (y:= .int (i:Int)) rfl rfl).trans (g i (by omega))
    exact(aj (aS e1 (aS e2 (aS (x:= .int (w:Int)) rfl rfl))) rfl).trans (lF hw _ _)
  ·have:((!decide (x=a))||(!decide (y=b)))=true:=by
    by_cases h1:x=a
    ·by_cases h2:y=b
     ·exact absurd ⟨h1,h2⟩ hc
     ·simp[h2]
    ·simp[h1]
   rw[this] at t2
   have hz:(decide (x=a)&&decide (y=b))=false:=by
    by_cases h1:x=a
    ·by_cases h2:y=b
     ·exact absurd ⟨h1,h2⟩ hc
     ·simp[h2]
    ·simp[h1]
   rw[hz]
   exact a8 (bL t2 (aD rfl))
def eG(ks:List Cell)(c:Cell):List Cell:=if c∈ks then ks else ks++[c]
def b5(l:List Cell):List Cell:=l.foldl eG []
def cZ(ks:List Cell):List D:=ks.map fun _=> .bl true
def Co{ks:List Cell}{c x:Cell}:x∈eG ks c↔x∈ks\/x=c:=by
 unfold eG
 split
 ·rename_i h
  exact⟨.inl,fun q=>q.elim id fun e=>by rw[e];exact h⟩
 ·simp
def Ag:∀(l ks:List Cell),(ks.Nodup->(l.foldl eG ks).Nodup)/\(∀x,x∈l.foldl eG ks↔x∈ks\/x∈l)/\(l.foldl eG ks).length<=ks.length+l.length
 |[],ks=>⟨id,fun x=>by simp,by simp⟩
 |c::l,ks=>by
  obtain⟨h1,h2,h3⟩:=Ag l (eG ks c)
  refine⟨fun hn=>h1 ?_,fun x=>?_,?_⟩
  ·unfold eG
   split
   ·exact hn
   ·rename_i hc
    refine VI.mpr ⟨hn,by simp,fun y hy z hz e=>?_⟩
    have hz:z=c:=by simpa using hz
    rw[e,hz] at hy
    exact hc hy
  ·rw[WH,h2 x,Co]
   simp[or_assoc]
  ·rw[WH,Tj]
   have:(eG ks c).length<=ks.length+1:=by unfold eG;split<;>simp
   omega
def fm{l:List Cell}{x:Cell}:x∈b5 l↔x∈l:=by
 unfold b5
 rw[(Ag l []).2.1 x]
 simp
def xj(l:List Cell):(b5 l).Nodup:=(Ag l []).1 X9
def sG(l:List Cell):(b5 l).length<=l.length:=by have:=(Ag l []).2.2;simpa[b5] using this
def tF{k:List Key}:∀{ks:List (List Key)}{l:List Cell},ks.length=l.length->ni ks (cZ l) k (.bl true)=cZ l
 |[],[],_=>rfl
 |k'::ks,c::l,h=>by
  show (if k'=k then D.bl true else D.bl true)::ni ks (cZ l) k (.bl true)=_
  rw[tF (by simpa using h)]
  split<;>rfl
 |[],_::_,h=>by simp at h
 |_::_,[],h=>by simp at h
def Eo{ks:List Cell}{c:Cell}(hl:ks.length<lim):m_ (.dct (ks.map keyOf) (cZ ks)) (cD c) (.bl true)=some (.dct ((eG ks c).map keyOf) (cZ (eG ks c))):=by
 have hlen:(cZ ks).length=ks.length:=by simp[cZ]
 unfold eG
 by_cases h:c∈ks
 ·rw[if_pos h]
  show (match eB (cD c) with | some kk=>if (cZ ks).length<lim then some (C.dct (gZ (ks.map keyOf) (cZ ks) kk) (f9 (ks.map keyOf) (cZ ks) kk (.bl true))) else none | none=>none)=_
  rw[gc]
  show (if (cZ ks).length<lim then some (C.dct (gZ (ks.map keyOf) (cZ ks) (keyOf c)) (f9 (ks.map keyOf) (cZ ks) (keyOf c) (.bl true))) else none)=_
  rw[if_pos (by rw[hlen];exact hl)]
  obtain⟨d,e,_⟩:=kq (ds:=cZ ks) hlen.symm h
  unfold gZ f9
  rw[e]
  show some (C.dct (ks.map keyOf) (ni (ks.map keyOf) (cZ ks) (keyOf c) (.bl true)))=_
  rw[tF (by simp)]
 ·rw[if_neg h,xQ h (by rw[hlen];exact hl)]
  simp[cZ]
abbrev d9(l:List Cell):D:= .dct ((b5 l).map keyOf) (cZ (b5 l))
def Bu{l:List Cell}(hl:l.length<4000):oW [cL l]=ae (d9 l):=by
 have e:∀(xs ks:List Cell),ks.length+xs.length<4000->forL (putN 2) (bW [2] (g7 1 (dV 2) (dC (.bl true)))) (xs.map cD) [fz (cL l),some (.ow (.dct (ks.map keyOf) (cZ ks))),none]=ae (.nx [fz (cL l),some (.ow (.dct ((xs.foldl eG ks).map keyOf) (cZ (xs.foldl eG ks)))),none]):=by
  intro xs
  induction xs with
  |nil=>intro ks _;rfl
  |cons x xs ih=>
   intro ks hk
   rw[Tj] at hk
   have hle:(eG ks x).length<=ks.length+1:=by unfold eG;split<;>simp
   refine(dX (ρ1:=[fz (cL l),some (.ow (.dct (ks.map keyOf) (cZ ks))),fz (cD x)]) (ρ2:=[fz (cL l),some (.ow (.dct ((eG ks x).map keyOf) (cZ (eG ks x)))),none]) rfl ?_).trans (ih (eG ks x) (by omega))
   refine(bt (ρ':=[fz (cL l),some (.ow (.dct ((eG ks x).map keyOf) (cZ (eG ks x)))),fz (cD x)]) ?_).trans rfl
   show (match m_ (.dct (ks.map keyOf) (cZ ks)) (cD x) (.bl true) with | some c'=>ae (Out.nx [fz (cL l),some (.ow c'),fz (cD x)]) | none=>ah)=_
   rw[Eo (by rw[dz];omega)]
 refine aP (ak (ρ':=[fz (cL l),some (.ow (.dct [] [])),none]) rfl (ak (ρ':=[fz (cL l),some (.ow (.dct ((b5 l).map keyOf) (cZ (b5 l)))),none]) (cK (dF (ds:=l.map cD) rfl (e l [] (by simpa using hl)))) rfl))
def Bv{ks:List Cell}{ds:List D}:jB (.dct (ks.map keyOf) ds)=ae (ks.map cD):=by
 show (if (ks.map keyOf).all (fun k=>decide (k.length<=lim)&&k.all sT) then ae ((ks.map keyOf).map tupK) else ah)=_
 have:(ks.map keyOf).all (fun k=>decide (k.length<=lim)&&k.all sT)=true:=by
  simp only[T2,TJ]
  rintro k ⟨c,_,rfl⟩
  rfl
 rw[if_pos this,UQ]
 rfl
def hJ(bd:List Str)(W w:Nat)(a b:Cell)(l:List Cell):Bool:=(decide (a∈l)&& !decide (b∈l))&&(b5 l).all fun c=>(aU bd W w c).all fun x=>decide (x∈l)
def kW{bd:List Str}{W w:Nat}{a b:Cell}{l:List Cell}:hJ bd W w a b l=true↔a∈l/\b∉l/\∀c∈l,∀x∈aU bd W w c,x∈l:=by
 unfold hJ
 simp only[Ts,decide_eq_true_eq,Vj,decide_eq_false_iff_not,T2,fm,and_assoc]
def uB{bd:List Str}{W w:Nat}(hg:Brd bd W)(hw:Ways w){a b:Cell}(ha:On bd.length W a)(hb:On bd.length W b){l:List Cell}(hp:∀x∈l,On bd.length W x)(hl:l.length<4000):
 da [brd bd, .int (w:Int),cD a,cD b,cL l]=ae (.bl (hJ bd W w a b l)):=by
 have LI:(b5 l).length=(cZ (b5 l)).length:=by simp[cZ]
 refine aP (ak (cx ((aj (ds:=[brd bd, .int (w:Int),cD a,cD b]) rfl rfl).trans (iN hg hw ha hb))) ?_)
 refine ak (bR (cf (bF ((aj (ds:=[brd bd,cL l]) rfl rfl).trans (jE hg hp (by omega))))) rfl) ?_
 refine ak (ρ':=[fz (brd bd),fz (.int (w:Int)),fz (cD a),fz (cD b),fz (cL l),fz (d9 l),none]) ((aM (d:=d9 l) ((aj (ds:=[cL l]) rfl rfl).trans (Bu hl))).trans rfl) ?_
 have t1:fS (bH (d2 (h9 true) (dV 2) (dV 5))) (bH (d2 (h9 false) (dV 3) (dV 5))) [fz (brd bd),fz (.int (w:Int)),fz (cD a),fz (cD b),fz (cL l),fz (d9 l),none]=ae ((!decide (a∈b5 l))||decide (b∈b5 l)):=
  fZ (cI ((az (x:=cD a) (y:=d9 l) rfl rfl).trans (kg (neg:=true) LI))) (cI ((az (x:=cD b) (y:=d9 l) rfl rfl).trans (kg (neg:=false) LI)))
 have Rf:decide (a∈b5 l)=decide (a∈l):=by rw[decide_eq_decide];exact fm
 have kX:decide (b∈b5 l)=decide (b∈l):=by rw[decide_eq_decide];exact fm
 rw[Rf,kX] at t1
 by_cases hc:a∈l/\b∉l
 ·rw[decide_eq_true hc.1,decide_eq_false hc.2] at t1
  refine ak (bR t1 rfl) ?_
  have N5:hJ bd W w a b l=(b5 l).all fun c=>(aU bd W w c).all fun x=>decide (x∈l):=by
   unfold hJ
   rw[decide_eq_true hc.1,decide_eq_false hc.2]
   rfl
  rw[N5]
  have loop:∀ks:List Cell,(∀c∈ks,On bd.length W c)->forL (putN 6) (bW [6] (el (bV (bE (dA allM (aC (bA 0 (cQ (aw 3 bp (aC (dV 0) (aC (dV 6) (aC (dV 1) aN))))) cw (d2 (h9 false) (dV 0) (dV 6))) aN)))) (a9 (dC (.bl false))) bS)) (ks.map cD) [fz (brd bd),fz (.int (w:Int)),fz (cD a),fz (cD b),fz (cL l),fz (d9 l),none]=
   ae (if ks.all (fun c=>(aU bd W w c).all fun x=>decide (x∈l)) then .nx [fz (brd bd),fz (.int (w:Int)),fz (cD a),fz (cD b),fz (cL l),fz (d9 l),none] else .rt (.bl false)):=by
   intro ks
   induction ks with
   |nil=>intro _;rfl
   |cons c ks ih=>
    intro KH
    have t2:bV (bE (dA allM (aC (bA 0 (cQ (aw 3 bp (aC (dV 0) (aC (dV 6) (aC (dV 1) aN))))) cw (d2 (h9 false) (dV 0) (dV 6))) aN))) [fz (brd bd),fz (.int (w:Int)),fz (cD a),fz (cD b),fz (cL l),fz (d9 l),fz (cD c)]=ae (!(aU bd W w c).all fun x=>decide (x∈l)):=by
     refine cf (bF (jo (enc:=cD) (xs:=aU bd W w c) ?_ (fun x hx=>?_) (Tw (sH ..) (by decide))))
     ·show (aw 3 bp (aC (dV 0) (aC (dV 6) (aC (dV 1) aN))) [fz (brd bd),fz (.int (w:Int)),fz (cD a),fz (cD b),fz (cL l),fz (d9 l),fz (cD c)]>>=lstM)=_
      have e2:aw 3 bp (aC (dV 0) (aC (dV 6) (aC (dV 1) aN))) [fz (brd bd),fz (.int (w:Int)),fz (cD a),fz (cD b),fz (cL l),fz (d9 l),fz (cD c)]=ae (.lst ((aU bd W w c).map cD)):=jD hg hw (KH c (Ta ..))
      rw[e2]
      rfl
     ·refine(az (x:=cD x) (y:=d9 l) rfl rfl).trans ((kg (neg:=false) LI).trans ?_)
      congr 2
      show decide (x∈b5 l)=_
      rw[decide_eq_decide]
      exact fm
    cases hq:(aU bd W w c).all (fun x=>decide (x∈l)) with
    |true=>
     rw[hq] at t2
     rw[Tf,dX (ρ1:=[fz (brd bd),fz (.int (w:Int)),fz (cD a),fz (cD b),fz (cL l),fz (d9 l),fz (cD c)]) (ρ2:=[fz (brd bd),fz (.int (w:Int)),fz (cD a),fz (cD b),fz (cL l),fz (d9 l),none]) rfl ((bt (bR t2 rfl)).trans rfl),ih fun c hc=>KH c (S9 _ hc),UR,hq,US]
    |false=>
     rw[hq] at t2
     rw[Tf,oX (ρ1:=[fz (brd bd),fz (.int (w:Int)),fz (cD a),fz (cD b),fz (cL l),fz (d9 l),fz (cD c)]) (v:= .bl false) rfl (mx (bL t2 (aD rfl))),UR,hq,WS]
     rfl
  have lp:=loop (b5 l) fun c hc=>hp c (fm.mp hc)
  have Nu:noex (dj (putN 6) (fun ρ=>(dV 5) ρ>>=jB) (bW [6] (el (bV (bE (dA allM (aC (bA 0 (cQ (aw 3 bp (aC (dV 0) (aC (dV 6) (aC (dV 1) aN))))) cw (d2 (h9 false) (dV 0) (dV 6))) aN)))) (a9 (dC (.bl false))) bS)) [fz (brd bd),fz (.int (w:Int)),fz (cD a),fz (cD b),fz (cL l),fz (d9 l),none])=_:=cK (τ:=dj _ _ _) (dF (Bv (ks:=b5 l) (ds:=cZ (b5 l))) lp)
  cases hq:(b5 l).all (fun c=>(aU bd W w c).all fun x=>decide (x∈l)) with
  |true=>
   rw[hq] at Nu
   exact ak Nu (aD rfl)
  |false=>
   rw[hq] at Nu
   exact a8 Nu
 ·have h1:((!decide (a∈l))||decide (b∈l))=true:=by
   by_cases q1:a∈l
   ·by_cases q2:b∈l
    ·simp[q2]
    ·exact absurd ⟨q1,q2⟩ hc
   ·simp[q1]
  rw[h1] at t1
  have N5:hJ bd W w a b l=false:=by
   unfold hJ
   have:(decide (a∈l)&& !decide (b∈l))=false:=by
    by_cases q1:a∈l
    ·by_cases q2:b∈l
     ·simp[q2]
     ·exact absurd ⟨q1,q2⟩ hc
    ·simp[q1]
   rw[this]
   rfl
  rw[N5]
  exact a8 (bL t1 (aD rfl))
def pd{w:Nat}:∀{p q:List Cell}{x y:Cell},p.getLast? =some x->q.head? =some y->jm w (p++q)=(jm w p&&(ir w x y&&jm w q))
 |[],_,_,_,h,_=>by cases h
 |[a],q,x,y,h,h2=>by
  have h:a=x:=TF h
  subst h
  cases q with
  |nil=>cases h2
  |cons b r=>
   have h2:b=y:=TF h2
   subst h2
   show jm w (a::b::r)=_
   unfold jm
   rw[US]
   cases r<;>rfl
 |a::b::r,q,x,y,h,h2=>by
  rw[Wo] at h
  have ih:=pd (w:=w) (p:=b::r) (q:=q) h h2
  show (ir w a b&&jm w ((b::r)++q))=((ir w a b&&jm w (b::r))&&_)
  rw[ih,Bool.and_assoc]
section
variable{bd:List Str}{W w:Nat}{a b:Cell}{p:List Cell}
def IsWay.ne(h:IsWay bd W w a b p):p≠[]:=fun z=>by have:=h.hd;rw[z] at this;cases this
def IsWay.pos(h:IsWay bd W w a b p):1<=p.length:=WV.mpr h.ne
def IsWay.cn(hw:Ways w)(hb:On bd.length W b)(h:IsWay bd W w a b p):Cn bd W w a b:=Cn.symm hw hb ⟨_,vO hw h⟩
def IsWay.one(ha:On bd.length W a):IsWay bd W w a a [a]:=⟨fun x hx=>(show x=a by simpa using hx)▸ha,rfl,rfl,fun x hx=>by rw[show x=a by simpa using hx],rfl⟩
end
def xf{x:Cell}:∀{l:List Cell},mU (keyOf x) (l.map keyOf)=decide (x∈l)
 |[]=>rfl
 |y::l=>by
  show (decide (keyOf y=keyOf x)||mU (keyOf x) (l.map keyOf))=_
  rw[xf]
  by_cases h:y=x
  ·subst h;simp
  ·have h2:¬keyOf y=keyOf x:=fun z=>h (gx z)
   rw[decide_eq_false h2,Bool.false_or,decide_eq_decide]
   constructor
   ·exact fun q=>S9 _ q
   ·intro q
    rcases Th.mp q with q | q
    ·exact absurd q.symm h
    ·exact q
def sE:∀{l:List Cell},lR (l.map cD)=some (l.map keyOf)
 |[]=>rfl
 |y::l=>by
  show (match eB (cD y),lR (l.map cD) with | some k,some ks=>some (k::ks) | _,_=>none)=_
  rw[sE]
  rfl
def iV{neg:Bool}{x:Cell}{l:List Cell}:gF neg (cD x) (cL l)=ae (.bl (if neg then !decide (x∈l) else decide (x∈l))):=by
 show (match eB (cD x),lR (l.map cD) with | some k,some ks=>ae (D.bl (if neg then !mU k ks else mU k ks)) | _,_=>ah)=_
 rw[sE,gc]
 show ae (D.bl (if neg then !mU (keyOf x) (l.map keyOf) else mU (keyOf x) (l.map keyOf)))=_
 rw[xf]
def uz(neg:Bool)(l:List Cell):mP neg (cL l) .non=ae (.bl neg):=rfl
def y_(l:List Cell):bB [cL l]=ae (.int (l.length:Int)):=by
 show ae (D.int ((l.map cD).length:Int))=_
 rw[S6]
def Hf{l:List Cell}(h:1<=l.length):O3 (cL l) (some 1) none=ae (cL l.tail):=by
 show ae (D.lst (cutD (l.map cD) (some 1) none))=_
 congr 2
 unfold cutD
 have e1:HT.sIx (l.map cD).length 0 (some 1)=1:=by
  rw[S6]
  show (if (1:Int)<0 then((1:Int)+(l.length:Int)).toNat else min (1:Int).toNat l.length)=1
  rw[if_neg (by decide)]
  show min 1 l.length=1
  omega
 have e2:HT.sIx (l.map cD).length (l.map cD).length none=(l.map cD).length:=rfl
 rw[e1,e2,List.map_tail,List.drop_one,List.take_of_length_le (by simp)]
def CB{a b:List Cell}(h:a.length+b.length<=4096):cY (cL a) (cL b)=ae (cL (a++b)):=by
 show (if (a.map cD).length+(b.map cD).length<=lim then ae (D.lst (a.map cD++b.map cD)) else ah)=_
 rw[if_pos (by rw[S6,S6,dz];exact h),<-Vd]
def Mb(a b:Nat):gw (.int (a:Int)) (.int (b:Int))=ae (.bl (!(a==b))):=by
 rw[ne_int,jF]
def CD{R W v:Nat}(h:v<R*W):∃c,On R W c/\(ax R W)[v]? =some c:=by
 have hv:v<(ax R W).length:=by rw[bg];exact h
 exact⟨(ax R W)[v],aJ.mp (Vr _),Tb hv⟩
def Eg(ns:List Int)(hl:ns.length<=63){R W:Nat}(h:0<R*W)(k:Nat):∃c,On R W c/\∃v:Nat,v<R*W/\aF [.scr ns, .int (k:Int), .int ((R*W:Nat):Int)]=ae (.int (v:Int))/\bZ (cL (ax R W)) (.int (v:Int))=ae (cD c):=by
 obtain⟨v,hv,e⟩:=dQ ns hl k (R*W) h
 obtain⟨c,hc,e2⟩:=CD hv
 exact⟨c,hc,v,hv,e,y7 e2⟩
def By{R W:Nat}{δ:DE}{ρ:bf}(h:δ ρ=ae (cL (ax R W))):dA bB (aC δ aN) ρ=ae (.int ((R*W:Nat):Int)):=by
 refine(cO (xs:=[cL (ax R W)]) (aS h rfl)).trans ?_
 rw[y_,bg]
def qz(ns:List Int)(hl:ns.length<=63){R W:Nat}(h:0<R*W){i s:Nat}{δk:DE}{ρ:bf}{k:Nat}(hi:dV i ρ=ae (cL (ax R W)))(hs:dV s ρ=ae (.scr ns))(hk:δk ρ=ae (.int (k:Int))):
 ∃c,On R W c/\d2 bZ (dV i) (aw 3 aF (aC (dV s) (aC δk (aC (dA bB (aC (dV i) aN)) aN)))) ρ=ae (cD c):=by
 obtain⟨c,hc,v,hv,e1,e2⟩:=Eg ns hl h k
 exact⟨c,hc,(az hi ((aj (ds:=[.scr ns, .int (k:Int), .int ((R*W:Nat):Int)]) (aS hs (aS hk (aS (By hi) rfl))) rfl).trans e1)).trans e2⟩
def z5{a c:DE}{ρ:bf}(h1:a ρ=ae (.bl false)):dH a c ρ=ae (.bl false):=by
 unfold dH
 rw[h1,ay]
 rfl
def Et{i:Nat}{ρ:bf}{l:List Cell}(h:dV i ρ=ae (cL l)):sd (dV i) (d1 d_ (dC (.int 1))) ρ=ae (cL l.reverse):=by
 unfold sd
 rw[h,ay]
 show ae (D.lst (l.map cD).reverse)=ae (D.lst (l.reverse.map cD))
 rw[List.map_reverse]
def z7(ks:List Cell)(f:Cell->D):C:= .dct (ks.map keyOf) (ks.map f)
def wD(ks:List Cell)(f:Cell->D):D:= .dct (ks.map keyOf) (ks.map f)
def j6(f:Cell->D)(x:Cell)(d:D):Cell->D:=fun y=>if y=x then d else f y
def o9{f:Cell->D}{x:Cell}:∀{ks:List Cell},x∈ks->e_ (ks.map keyOf) (ks.map f) (keyOf x)=some (f x)
 |y::ks,h=>by
  show (if keyOf y=keyOf x then some (f y) else e_ (ks.map keyOf) (ks.map f) (keyOf x))=_
  by_cases e:y=x
  ·subst e;rw[if_pos rfl]
  ·rw[if_neg (fun z=>e (gx z))]
   rcases Th.mp h with q | q
   ·exact absurd q.symm e
   ·exact o9 q
def uC{ks:List Cell}{f:Cell->D}{x:Cell}(h:x∈ks):eA (wD ks f) (cD x)=ae (f x):=by
 show (match ((eB (cD x)).map fun k=>e_ (ks.map keyOf) (ks.map f) k) with | some (some v)=>ae v | _=>ah)=_
 rw[gc]
 show (match some (e_ (ks.map keyOf) (ks.map f) (keyOf x)) with | some (some v)=>ae v | _=>ah)=_
 rw[o9 h]
def FE{ks:List Cell}{f:Cell->D}{x:Cell}{v:D}(h:x∈ks):getM (wD ks f) (cD x) v=ae (f x):=by
 show (match ((eB (cD x)).map fun k=>e_ (ks.map keyOf) (ks.map f) k) with | some (some x)=>ae x | some none=>ae v | none=>ah)=_
 rw[gc]
 show (match some (e_ (ks.map keyOf) (ks.map f) (keyOf x)) with | some (some x)=>ae x | some none=>ae v | none=>ah)=_
 rw[o9 h]
def C9{ks:List Cell}{f:Cell->D}{x:Cell}{v:D}(h:x∉ks):getM (wD ks f) (cD x) v=ae v:=by
 show (match ((eB (cD x)).map fun k=>e_ (ks.map keyOf) (ks.map f) k) with | some (some x)=>ae x | some none=>ae v | none=>ah)=_
 rw[gc]
 show (match some (e_ (ks.map keyOf) (ks.map f) (keyOf x)) with | some (some x)=>ae x | some none=>ae v | none=>ah)=_
 rw[iO h]
def AJ{f:Cell->D}{x:Cell}{d:D}:∀{ks:List Cell},ni (ks.map keyOf) (ks.map f) (keyOf x) d=ks.map (j6 f x d)
 |[]=>rfl
 |y::ks=>by
  show (if keyOf y=keyOf x then d else f y)::ni (ks.map keyOf) (ks.map f) (keyOf x) d=_
  rw[AJ,Tf]
  congr 1
  unfold j6
  by_cases e:y=x
  ·subst e;rw[if_pos rfl,if_pos rfl]
  ·rw[if_neg (fun z=>e (gx z)),if_neg e]
def GX{ks:List Cell}{f:Cell->D}{x:Cell}{d:D}(hl:ks.length<lim):m_ (z7 ks f) (cD x) d=some (z7 (eG ks x) (j6 f x d)):=by
 show (match eB (cD x) with | some kk=>if (ks.map f).length<lim then some (C.dct (gZ (ks.map keyOf) (ks.map f) kk) (f9 (ks.map keyOf) (ks.map f) kk d)) else none | none=>none)=_
 rw[gc]
 show (if (ks.map f).length<lim then some (C.dct (gZ (ks.map keyOf) (ks.map f) (keyOf x)) (f9 (ks.map keyOf) (ks.map f) (keyOf x) d)) else none)=_
 rw[if_pos (by rw[S6];exact hl)]
 unfold z7 eG gZ f9
 by_cases h:x∈ks
 ·rw[o9 h,if_pos h]
  show some (C.dct (ks.map keyOf) (ni (ks.map keyOf) (ks.map f) (keyOf x) d))=_
  rw[AJ]
 ·rw[iO h,if_neg h]
  show some (C.dct (ks.map keyOf++[keyOf x]) (ks.map f++[d]))=_
  have e1:ks.map f=ks.map (j6 f x d):=List.map_congr_left fun y hy=>by
   unfold j6;rw[if_neg (fun z:y=x=>h (z▸hy))]
  have e2:(ks++[x]).map (j6 f x d)=ks.map (j6 f x d)++[d]:=by
   rw[Vd]
   congr 1
   show [j6 f x d x]=[d]
   unfold j6;rw[if_pos rfl]
  rw[Vd,e1,e2]
  rfl
def vh{i:Nat}{δk δv:DE}{ρ:bf}{ks:List Cell}{f:Cell->D}{x:Cell}{d:D}(h0:ρ[i]? =some (some (.ow (z7 ks f))))(hv:δv ρ=ae d)(hk:δk ρ=ae (cD x))(hl:ks.length<lim):
 g7 i δk δv ρ=ae (.nx (ρ.set i (some (.ow (z7 (eG ks x) (j6 f x d)))))):=by
 unfold g7 DX
 rw[h0]
 show (δv ρ>>=fun v=>δk ρ>>=fun k=>match m_ (z7 ks f) k v with | some c'=>ae (Out.nx (ρ.set i (some (.ow c')))) | none=>ah)=_
 rw[hv,ay,hk,ay,GX hl]
def dw{bd:List Str}{W:Nat}(hg:Brd bd W):bM [brd bd]=ae (cL (ax bd.length W)):=by
 have h8:=hg.r8
 have w8:=hg.w8
 have hm:bd.length*W<=64:=Uv h8 w8
 have HA:(Um bd.length).flatMap (fun r=>(f_ W r).map cD)=(ax bd.length W).map cD:=by
  unfold ax;rw[Wv]
 have e:=fN (put:=putN 2) (body:=bW [2] (bD 1 (d2 cY (dV 1) (bA 0 (fun ρ=>(aC (dA bB (aC (d2 aZ (dV 0) (dC (.int 0))) aN)) aN) ρ>>=jl) cw (dA bc (aC (dV 3) (aC (dV 0) aN))))))) (fun (k:Nat)=>D.int (k:Int)) (fun acc=>[fz (brd bd),fz (.lst acc),none]) (fun r=>(f_ W r).map cD) (B:=64) (Um bd.length) []
  (by rw[T4,HA,S6,bg];exact hm) fun r hr acc hB=>by
   refine⟨[fz (brd bd),fz (.lst acc),fz (.int (r:Int))],rfl,?_⟩
   refine(bt (ρ':=[fz (brd bd),fz (.lst (acc++(f_ W r).map cD)),fz (.int (r:Int))]) ?_).trans rfl
   have hc:bA 0 (fun ρ=>(aC (dA bB (aC (d2 aZ (dV 0) (dC (.int 0))) aN)) aN) ρ>>=jl) cw (dA bc (aC (dV 3) (aC (dV 0) aN))) [fz (brd bd),fz (.lst acc),fz (.int (r:Int))]=ae (.lst ((f_ W r).map cD)):=by
    refine cG (Kf (n:=W) (hg.len0 rfl) (by omega)) ?_ (by simp[f_,dz];omega)
    rw[show (f_ W r).map cD=(Um W).map (fun k=>cD (r,k)) by simp[f_,UQ]]
    exact fg (fun (k:Nat)=>D.int (k:Int)) (fun k=>cD (r,k)) _ fun k _=>rfl
   refine(aM (d:= .lst (acc++(f_ W r).map cD)) ((az (x:= .lst acc) (y:= .lst ((f_ W r).map cD)) rfl hc).trans ?_)).trans rfl
   show (if acc.length+((f_ W r).map cD).length<=lim then ae (D.lst (acc++(f_ W r).map cD)) else ah)=_
   rw[if_pos (by rw[Ti] at hB;rw[dz];omega)]
 rw[T4,HA] at e
 refine aP (ak (ρ':=[fz (brd bd),fz (.lst []),none]) rfl (ak (ρ':=[fz (brd bd),fz (.lst ((ax bd.length W).map cD)),none]) (cK (dF (Kf (n:=bd.length) (F4 rfl) (by omega)) e)) ?_))
 rfl
def yD(R W w:Nat)(c:Cell)(d e:Int):Bool:=((decide (0<=(c.1:Int)+d)&&decide ((c.1:Int)+d<(R:Int)))&&(decide (0<=(c.2:Int)+e)&&decide ((c.2:Int)+e<(W:Int))))&&((!(d==0&&e==0))&&((w==8)||(d*e==0)))
def kM(R W w:Nat)(c:Cell)(d e:Int):List Cell:=if yD R W w c d e then [(((c.1:Int)+d).toNat,((c.2:Int)+e).toNat)] else []
def fU(R W w:Nat)(c:Cell):List Cell:=[-1,0,1].flatMap fun d=>[-1,0,1].flatMap fun e=>kM R W w c d e
def Cs(R W w:Nat)(c:Cell)(d e:Int):(kM R W w c d e).length<=1:=by unfold kM;split<;>simp
def wg(R W w:Nat)(c:Cell):(fU R W w c).length<=9:=by
 have h:=Cs R W w c
 simp only[fU,UX,List.flatMap_nil,Ti,T9]
 have:=h (-1) (-1);have:=h (-1) 0;have:=h (-1) 1
 have:=h 0 (-1);have:=h 0 0;have:=h 0 1
 have:=h 1 (-1);have:=h 1 0;have:=h 1 1
 omega
def eQ{R W w:Nat}(hw:Ways w){c x:Cell}(hc:On R W c):x∈fU R W w c↔On R W x/\ir w c x=true:=by
 obtain⟨c1,c2⟩:=c
 obtain⟨x1,x2⟩:=x
 have PV:c1<R:=hc.1
 have Dc:c2<W:=hc.2
 have key:(x1,x2)∈fU R W w (c1,c2)↔∃d∈[(-1:Int),0,1],∃e∈[(-1:Int),0,1],yD R W w (c1,c2) d e=true/\(x1:Int)=c1+d/\(x2:Int)=c2+e:=by
  unfold fU kM
  simp only[Wu]
  constructor
  ·rintro⟨d,hd,e,he,h⟩
   by_cases hb:yD R W w (c1,c2) d e=true
   ·rw[if_pos hb] at h
    have yx:=hb
    unfold yD at yx
    simp only[Ts,decide_eq_true_eq] at yx
    have h:=U8.mp h
    rw[X1] at h
    exact⟨d,hd,e,he,hb,by omega,by omega⟩
   ·rw[if_neg hb] at h;cases h
  ·rintro⟨d,hd,e,he,hb,h1,h2⟩
   refine⟨d,hd,e,he,?_⟩
   rw[if_pos hb]
   exact U8.mpr (by rw[X1];exact⟨by omega,by omega⟩)
 rw[key]
 unfold On yD ir iu
 constructor
 ·rintro⟨d,hd,e,he,hb,h1,h2⟩
  simp only[Ts,decide_eq_true_eq,XO,beq_iff_eq,Vj,YJ,beq_eq_false_iff_ne] at hb
  simp only[Th,TK,or_false] at hd he
  obtain⟨⟨⟨a1,a2⟩,a3,a4⟩,a5,a6⟩:=hb
  refine⟨⟨by simp only at*;omega,by simp only at*;omega⟩,?_⟩
  rcases hw with rfl | rfl
  ·rw[if_pos rfl,decide_eq_true_eq]
   rcases hd with rfl | rfl | rfl<;>rcases he with rfl | rfl | rfl<;>simp at a5 a6<;>simp only<;>omega
  ·rw[if_neg (by decide),decide_eq_true_eq]
   rcases hd with rfl | rfl | rfl<;>rcases he with rfl | rfl | rfl<;>simp at a5 a6<;>simp only<;>omega
 ·rintro⟨⟨h1,h2⟩,h3⟩
  simp only at h1 h2
  refine⟨(x1:Int) - c1,?_,(x2:Int) - c2,?_,?_,by omega,by omega⟩
  ·rcases hw with rfl | rfl
   ·rw[if_pos rfl,decide_eq_true_eq] at h3;simp only[Th,TK,or_false];simp only at h3;omega
   ·rw[if_neg (by decide),decide_eq_true_eq] at h3;simp only[Th,TK,or_false];simp only at h3;omega
  ·rcases hw with rfl | rfl
   ·rw[if_pos rfl,decide_eq_true_eq] at h3;simp only[Th,TK,or_false];simp only at h3;omega
   ·rw[if_neg (by decide),decide_eq_true_eq] at h3;simp only[Th,TK,or_false];simp only at h3;omega
  ·simp only[Ts,decide_eq_true_eq,XO,beq_iff_eq,Vj,YJ,beq_eq_false_iff_ne]
   refine⟨⟨⟨by omega,by omega⟩,by omega,by omega⟩,?_,?_⟩
   ·intro z
    rcases hw with rfl | rfl
    ·rw[if_pos rfl,decide_eq_true_eq] at h3;simp only at h3;omega
    ·rw[if_neg (by decide),decide_eq_true_eq] at h3;simp only at h3;omega
   ·rcases hw with rfl | rfl
    ·rw[if_pos rfl,decide_eq_true_eq] at h3
     refine .inr ?_
     simp only at h3
     have:(x1:Int) - c1=0\/(x2:Int) - c2=0:=by omega
     rcases this with z | z<;>rw[z]<;>simp
    ·exact .inl rfl
def Ff:DS:=(bW [5,6,7,8] (aA (bD 6 (d2 d8 (d2 aZ (dV 1) (dC (.int 0))) (dV 4))) (aA (bD 7 (d2 d8 (d2 aZ (dV 1) (dC (.int 1))) (dV 5))) (aA (bD 8 (dH (qX (fun i j=>decide (i<=j)) (fun i j=>decide (i<j)) (dC (.int 0)) (dV 6) (dA bB (aC (dV 0) aN))) (qX (fun i j=>decide (i<=j)) (fun i j=>decide (i<j)) (dC (.int 0)) (dV 7) (dA bB (aC (d2 aZ (dV 0) (dC (.int 0))) aN))))) (el (gA (bE (dV 8)) (gA (bH (d2 gw (dA bc (aC (dV 4) (aC (dV 5) aN))) (dA bc (aC (dC (.int 0)) (aC (dC (.int 0)) aN))))) (fS (bH (d2 gE (dV 2) (dC (.int 8)))) (bH (d2 gE (d2 ib (dV 4) (dV 5)) (dC (.int 0))))))) (fQ 3 (dA bc (aC (dV 6) (aC (dV 7) aN)))) bS)))))
def Ge(a b c d:Int):gw (.tup [.int a, .int b]) (.tup [.int c, .int d])=ae (.bl (!(a==c&&b==d))):=by
 show (match ju 6 (.tup [.int a, .int b]) (.tup [.int c, .int d]) with | some b=>ae (D.bl (!b)) | none=>ah)=_
 have:ju 6 (.tup [.int a, .int b]) (.tup [.int c, .int d])=some (a==c&&b==d):=by
  rw[show (6:Nat)=5+1 from rfl,Fu]
  unfold nH
  rw[oV]
  cases h:(a==c)
  ·rfl
  ·unfold nH
   rw[oV]
   cases h2:(b==d)
   ·rfl
   ·rfl
 rw[this]
def Fg{bd:List Str}{W w:Nat}(hg:Brd bd W){c:Cell}{d e:Int}(hd:d∈[(-1:Int),0,1])(he:e∈[(-1:Int),0,1]){acc:List D}(hl:(acc++(kM bd.length W w c d e).map cD).length<=64):
 Ff [fz (brd bd),fz (cD c),fz (.int (w:Int)),some (.ow (.lst acc)),fz (.int d),fz (.int e),none,none,none]=ae (.nx [fz (brd bd),fz (cD c),fz (.int (w:Int)),some (.ow (.lst (acc++(kM bd.length W w c d e).map cD))),fz (.int d),none,none,none,none]):=by
 have yy:dH (qX (fun i j=>decide (i<=j)) (fun i j=>decide (i<j)) (dC (.int 0)) (dV 6) (dA bB (aC (dV 0) aN))) (qX (fun i j=>decide (i<=j)) (fun i j=>decide (i<j)) (dC (.int 0)) (dV 7) (dA bB (aC (d2 aZ (dV 0) (dC (.int 0))) aN))) [fz (brd bd),fz (cD c),fz (.int (w:Int)),some (.ow (.lst acc)),fz (.int d),fz (.int e),fz (.int ((c.1:Int)+d)),fz (.int ((c.2:Int)+e)),none]=
  ae (.bl ((decide (0<=(c.1:Int)+d)&&decide ((c.1:Int)+d<(bd.length:Int)))&&(decide (0<=(c.2:Int)+e)&&decide ((c.2:Int)+e<(W:Int))))):=uf (Fm rfl (F4 rfl)) (Fm rfl (hg.len0 rfl))
 have RE: -(2:Int) ^ 64<d/\d<2 ^ 64:=by
  simp only[Th,TK,or_false] at hd
  rcases hd with rfl | rfl | rfl<;>decide
 have ht:∀{b8:Bool},gA (bE (dV 8)) (gA (bH (d2 gw (dA bc (aC (dV 4) (aC (dV 5) aN))) (dA bc (aC (dC (.int 0)) (aC (dC (.int 0)) aN))))) (fS (bH (d2 gE (dV 2) (dC (.int 8)))) (bH (d2 gE (d2 ib (dV 4) (dV 5)) (dC (.int 0)))))) [fz (brd bd),fz (cD c),fz (.int (w:Int)),some (.ow (.lst acc)),fz (.int d),fz (.int e),fz (.int ((c.1:Int)+d)),fz (.int ((c.2:Int)+e)),fz (.bl b8)]=
  ae (b8&&((!(d==0&&e==0))&&((w==8)||(d*e==0)))):=fun {b8}=>
  kT (bF rfl) (kT (cI ((az (x:= .tup [.int d, .int e]) (y:= .tup [.int 0, .int 0]) rfl rfl).trans (Ge ..))) (fZ (cI ((az (x:= .int (w:Int)) (y:= .int 8) rfl rfl).trans ((eq_int _ _).trans (by rw[show ((w:Int)==8)=(w==8) from jF w 8])))) (cI ((az (x:= .int (d*e)) (y:= .int 0) ((az (x:= .int d) (y:= .int e) rfl rfl).trans (gG (.inl RE))) rfl).trans (eq_int _ _)))))
 have pre:∀{ρ':bf},el (gA (bE (dV 8)) (gA (bH (d2 gw (dA bc (aC (dV 4) (aC (dV 5) aN))) (dA bc (aC (dC (.int 0)) (aC (dC (.int 0)) aN))))) (fS (bH (d2 gE (dV 2) (dC (.int 8)))) (bH (d2 gE (d2 ib (dV 4) (dV 5)) (dC (.int 0))))))) (fQ 3 (dA bc (aC (dV 6) (aC (dV 7) aN)))) bS [fz (brd bd),fz (cD c),fz (.int (w:Int)),some (.ow (.lst acc)),fz (.int d),fz (.int e),fz (.int ((c.1:Int)+d)),fz (.int ((c.2:Int)+e)),fz (.bl ((decide (0<=(c.1:Int)+d)&&decide ((c.1:Int)+d<(bd.length:Int)))&&(decide (0<=(c.2:Int)+e)&&decide ((c.2:Int)+e<(W:Int)))))]=ae (.nx ρ')->
  Ff [fz (brd bd),fz (cD c),fz (.int (w:Int)),some (.ow (.lst acc)),fz (.int d),fz (.int e),none,none,none]=ae (.nx (fgt [5,6,7,8] ρ')):=fun {ρ'} h=>
  bt (ak (ρ':=[fz (brd bd),fz (cD c),fz (.int (w:Int)),some (.ow (.lst acc)),fz (.int d),fz (.int e),fz (.int ((c.1:Int)+d)),none,none]) rfl
   (ak (ρ':=[fz (brd bd),fz (cD c),fz (.int (w:Int)),some (.ow (.lst acc)),fz (.int d),fz (.int e),fz (.int ((c.1:Int)+d)),fz (.int ((c.2:Int)+e)),none]) rfl (ak ((aM yy).trans rfl) h)))
 have E6:yD bd.length W w c d e=(((decide (0<=(c.1:Int)+d)&&decide ((c.1:Int)+d<(bd.length:Int)))&&(decide (0<=(c.2:Int)+e)&&decide ((c.2:Int)+e<(W:Int))))&&((!(d==0&&e==0))&&((w==8)||(d*e==0)))):=rfl
 have ht:=ht (b8:=(decide (0<=(c.1:Int)+d)&&decide ((c.1:Int)+d<(bd.length:Int)))&&(decide (0<=(c.2:Int)+e)&&decide ((c.2:Int)+e<(W:Int))))
 rw[<-E6] at ht
 by_cases hb:yD bd.length W w c d e=true
 ·have yx:=hb
  rw[E6] at yx
  simp only[Ts,decide_eq_true_eq] at yx
  have eg:(kM bd.length W w c d e).map cD=[.tup [.int ((c.1:Int)+d), .int ((c.2:Int)+e)]]:=by
   unfold kM
   rw[if_pos hb]
   show [D.tup [.int ((((c.1:Int)+d).toNat:Nat):Int), .int ((((c.2:Int)+e).toNat:Nat):Int)]]=_
   rw[W7 (by omega),W7 (by omega)]
  rw[eg] at hl⊢
  rw[hb] at ht
  refine(pre (ρ':=[fz (brd bd),fz (cD c),fz (.int (w:Int)),some (.ow (.lst (acc++[.tup [.int ((c.1:Int)+d), .int ((c.2:Int)+e)]]))),fz (.int d),fz (.int e),fz (.int ((c.1:Int)+d)),fz (.int ((c.2:Int)+e)),fz (.bl ((decide (0<=(c.1:Int)+d)&&decide ((c.1:Int)+d<(bd.length:Int)))&&(decide (0<=(c.2:Int)+e)&&decide ((c.2:Int)+e<(W:Int)))))]) (bL ht ?_)).trans rfl
  show (if acc.length<lim then ae (Out.nx [fz (brd bd),fz (cD c),fz (.int (w:Int)),some (.ow (.lst (acc++[.tup [.int ((c.1:Int)+d), .int ((c.2:Int)+e)]]))),fz (.int d),fz (.int e),fz (.int ((c.1:Int)+d)),fz (.int ((c.2:Int)+e)),_]) else ah)=_
  rw[if_pos (by rw[Ti] at hl;rw[dz];simp at hl;omega)]
 ·have eg:(kM bd.length W w c d e).map cD=[]:=by
   unfold kM
   rw[if_neg hb]
   rfl
  rw[eg,T9]
  rw[UY.mpr hb] at ht
  exact(pre (bR ht rfl)).trans rfl
def eN{bd:List Str}{W w:Nat}(hg:Brd bd W){c:Cell}:a7 [brd bd,cD c, .int (w:Int)]=ae (cL (fU bd.length W w c)):=by
 have yy:∀d∈[(-1:Int),0,1],∀acc:List D,(acc++([(-1:Int),0,1].flatMap fun e=>(kM bd.length W w c d e).map cD)).length<=64->
  forL (putN 5) Ff ([(-1:Int),0,1].map D.int) [fz (brd bd),fz (cD c),fz (.int (w:Int)),some (.ow (.lst acc)),fz (.int d),none,none,none,none]=
   ae (.nx [fz (brd bd),fz (cD c),fz (.int (w:Int)),some (.ow (.lst (acc++([(-1:Int),0,1].flatMap fun e=>(kM bd.length W w c d e).map cD)))),fz (.int d),none,none,none,none]):=fun d hd acc hl=>
  fN (B:=64) D.int (fun acc=>[fz (brd bd),fz (cD c),fz (.int (w:Int)),some (.ow (.lst acc)),fz (.int d),none,none,none,none]) (fun e=>(kM bd.length W w c d e).map cD) [(-1:Int),0,1] acc hl fun e he NO KI=>⟨_,rfl,Fg hg hd he KI⟩
 have HA:([(-1:Int),0,1].flatMap fun d=>[(-1:Int),0,1].flatMap fun e=>(kM bd.length W w c d e).map cD)=(fU bd.length W w c).map cD:=by
  unfold fU
  simp only[Wv]
 have LP:=fN (put:=putN 4) (body:=bW [4,5,6,7,8] (dj (putN 5) (oK (dA bc (aC (d1 d_ (dC (.int 1))) (aC (dC (.int 0)) (aC (dC (.int 1)) aN))))) Ff)) (B:=64) D.int (fun acc=>[fz (brd bd),fz (cD c),fz (.int (w:Int)),some (.ow (.lst acc)),none,none,none,none,none]) (fun d=>[(-1:Int),0,1].flatMap fun e=>(kM bd.length W w c d e).map cD) [(-1:Int),0,1] []
  (by rw[T4,HA,S6];have:=wg bd.length W w c;omega) fun d hd acc hl=>⟨_,rfl,(bt (dF (ds:=[(-1:Int),0,1].map D.int) rfl (yy d hd acc hl))).trans rfl⟩
 rw[T4,HA] at LP
 refine aP (ak (ρ':=[fz (brd bd),fz (cD c),fz (.int (w:Int)),some (.ow (.lst [])),none,none,none,none,none]) rfl (ak (cK (dF (ds:=[(-1:Int),0,1].map D.int) rfl LP)) ?_))
 rfl
def vw{bd:List Str}{W:Nat}(hg:Brd bd W){x:Cell}(hx:On bd.length W x){b i:Nat}{ρ:bf}(hb:dV b ρ=ae (brd bd))(hi:dV i ρ=ae (cD x)):d2 jw (d2 aZ (dV b) (d2 aZ (dV i) (dC (.int 0)))) (d2 aZ (dV i) (dC (.int 1))) ρ=ae (sg (lt bd x)):=by
 have h1:d2 aZ (dV i) (dC (.int 0)) ρ=ae (.int (x.1:Int)):=(az (y:= .int 0) hi rfl).trans L7.1
 have h2:d2 aZ (dV i) (dC (.int 1)) ρ=ae (.int (x.2:Int)):=(az (y:= .int 1) hi rfl).trans L7.2
 refine(az ((az hb h1).trans (Du hx.1)) h2).trans (AN ?_)
 rw[(hg.rows _ (getD_mem hx.1)).len]
 exact hx.2
def Dx(a b:Cell):HT.lexLt (ic a) (ic b)=rY a b:=by
 show (if (a.1:Int)=(b.1:Int) then(if (a.2:Int)=(b.2:Int) then false else decide ((a.2:Int)<(b.2:Int))) else decide ((a.1:Int)<(b.1:Int)))=_
 unfold rY
 by_cases h1:a.1=b.1
 ·rw[if_pos (by omega),if_pos h1]
  by_cases h2:a.2=b.2
  ·rw[if_pos (by omega),decide_eq_false (by omega)]
  ·rw[if_neg (by omega),decide_eq_decide];omega
 ·rw[if_neg (by omega),if_neg h1,decide_eq_decide];omega
def Dy(a b:Cell):KN (cD a) (cD b)=some (rY a b):=by
 show some (HT.lexLt (ic a) (ic b))=_
 rw[Dx]
def FC(a b:Cell):wQ (cD a) (cD b)=ae (.bl (rY a b)):=by
 unfold wQ;rw[Dy]
def cq(a b:Cell):Cell:=if rY b a then b else a
def Gb(a b:Cell):sN [cD a,cD b]=ae (cD (cq a b)):=by
 show (match KN (cD b) (cD a) with | some r=>ae (if r then cD b else cD a) | none=>ah)=_
 rw[Dy]
 unfold cq
 cases rY b a<;>rfl
def rank(W:Nat)(x:Cell):Nat:=x.1*W+x.2
def gz{R W:Nat}{a b:Cell}(ha:On R W a)(hb:On R W b):rY a b=true↔rank W a<rank W b:=by
 unfold rY rank
 have h1:=ha.2
 have h2:=hb.2
 by_cases h:a.1=b.1
 ·rw[if_pos h,decide_eq_true_eq,h];omega
 ·rw[if_neg h,decide_eq_true_eq]
  constructor
  ·intro q
   have:(a.1+1)*W<=b.1*W:=VZ _ q
   rw[Zc,Zb] at this
   omega
  ·intro q
   refine Classical.byContradiction fun z=>?_
   have:(b.1+1)*W<=a.1*W:=VZ _ (by omega)
   rw[Zc,Zb] at this
   omega
def qC{R W:Nat}{a b:Cell}(ha:On R W a)(hb:On R W b)(h:rank W a=rank W b):a=b:=by
 have n1:¬rY a b=true:=fun z=>by have:=(gz ha hb).mp z;omega
 have n2:¬rY b a=true:=fun z=>by have:=(gz hb ha).mp z;omega
 unfold rY at n1 n2
 obtain⟨a1,a2⟩:=a
 obtain⟨b1,b2⟩:=b
 simp only at n1 n2
 by_cases h1:a1=b1
 ·rw[if_pos h1,decide_eq_true_eq] at n1
  rw[if_pos h1.symm,decide_eq_true_eq] at n2
  rw[X1];exact⟨h1,by omega⟩
 ·rw[if_neg h1,decide_eq_true_eq] at n1
  rw[if_neg (Uq h1),decide_eq_true_eq] at n2
  omega
def G1{R W:Nat}{a:Cell}(ha:On R W a):rank W a<R*W:=by
 unfold rank
 have:(a.1+1)*W<=R*W:=VZ _ ha.1
 rw[Zc,Zb] at this
 have:=ha.2
 omega
def BA(a b:Cell):cq a b=a\/cq a b=b:=by unfold cq;split;exact .inr rfl;exact .inl rfl
def Bz{R W:Nat}{a b:Cell}(ha:On R W a)(hb:On R W b):rank W (cq a b)<=rank W a/\rank W (cq a b)<=rank W b:=by
 unfold cq
 by_cases h:rY b a=true
 ·rw[if_pos h];have:=(gz hb ha).mp h;omega
 ·rw[if_neg h]
  have:¬rank W b<rank W a:=fun z=>h ((gz hb ha).mpr z)
  omega
def zE{α:Type}{f g:α->Nat}:∀{l:List α},(∀x∈l,f x<=g x)->(l.map f).sum<=(l.map g).sum
 |[],_=>Tg _
 |a::l,h=>by
  rw[Tf,Tf,Vi,Vi]
  exact Nat.add_le_add (h a (Ta ..)) (zE fun x hx=>h x (S9 _ hx))
def EJ{α:Type}{f g:α->Nat}:∀{l:List α},(∀x∈l,f x<=g x)->(∃x∈l,f x<g x)->(l.map f).sum<(l.map g).sum
 |[],_,⟨x,hx,_⟩=>by cases hx
 |a::l,h,⟨x,hx,hl⟩=>by
  rw[Tf,Tf,Vi,Vi]
  have h1:=h a (Ta ..)
  have h2:=zE fun x hx=>h x (S9 _ hx)
  rcases Th.mp hx with rfl | hx
  ·omega
  ·have:=EJ (fun x hx=>h x (S9 _ hx)) ⟨x,hx,hl⟩
   omega
section
variable{bd:List Str}{W w:Nat}
def d7(s:(Cell->Cell)×Bool)(p:Cell×Cell):(Cell->Cell)×Bool:=
 if s.1 p.1=s.1 p.2 then s else(fun z=>if z=p.2 then cq (s.1 p.1) (s.1 p.2) else if z=p.1 then cq (s.1 p.1) (s.1 p.2) else s.1 z,true)
structure Lab (bd:List Str) (W w:Nat) (L:Cell->Cell):Prop where
 on:∀x,On bd.length W x->On bd.length W (L x)
 cn:∀x,On bd.length W x->Cn bd W w x (L x)
 le:∀x,On bd.length W x->rank W (L x)<=rank W x
def mu(R W:Nat)(L:Cell->Cell):Nat:=((ax R W).map fun x=>rank W (L x)).sum
def yA(bd:List Str)(W w:Nat)(p:Cell×Cell):Prop:=On bd.length W p.1/\On bd.length W p.2/\Cn bd W w p.1 p.2
def xc(hw:Ways w){s:(Cell->Cell)×Bool}{p:Cell×Cell}(hp:yA bd W w p)(h:Lab bd W w s.1):
 Lab bd W w (d7 s p).1/\mu bd.length W (d7 s p).1<=mu bd.length W s.1/\((d7 s p).2=s.2/\(d7 s p).1=s.1/\s.1 p.1=s.1 p.2\/(d7 s p).2=true/\mu bd.length W (d7 s p).1<mu bd.length W s.1):=by
 obtain⟨h1,h2,h3⟩:=hp
 unfold d7
 by_cases e:s.1 p.1=s.1 p.2
 ·rw[if_pos e];exact⟨h,Tg _, .inl ⟨rfl,rfl,e⟩⟩
 ·rw[if_neg e]
  have o1:=h.on _ h1
  have o2:=h.on _ h2
  have hle:=Bz o1 o2
  have P6:=BA (s.1 p.1) (s.1 p.2)
  have uu:On bd.length W (cq (s.1 p.1) (s.1 p.2)):=by rcases P6 with q | q<;>rw[q]<;>assumption
  have c1:Cn bd W w p.1 (cq (s.1 p.1) (s.1 p.2)):=by
   rcases P6 with q | q<;>rw[q]
   ·exact h.cn _ h1
   ·exact h3.trans (h.cn _ h2)
  have c2:Cn bd W w p.2 (cq (s.1 p.1) (s.1 p.2)):=(h3.symm hw h1).trans c1
  have Qj:∀z,On bd.length W z->rank W (if z=p.2 then cq (s.1 p.1) (s.1 p.2) else if z=p.1 then cq (s.1 p.1) (s.1 p.2) else s.1 z)<=rank W (s.1 z):=fun z hz=>by
   by_cases z1:z=p.2
   ·rw[if_pos z1,z1];exact hle.2
   ·rw[if_neg z1]
    by_cases z2:z=p.1
    ·rw[if_pos z2,z2];exact hle.1
    ·rw[if_neg z2];exact Tg _
  have lt':mu bd.length W (fun z=>if z=p.2 then cq (s.1 p.1) (s.1 p.2) else if z=p.1 then cq (s.1 p.1) (s.1 p.2) else s.1 z)<mu bd.length W s.1:=by
   refine EJ (fun x hx=>Qj x (aJ.mp hx)) ?_
   have nK:rank W (s.1 p.1)≠rank W (s.1 p.2):=fun z=>e (qC o1 o2 z)
   by_cases q:rank W (s.1 p.1)<rank W (s.1 p.2)
   ·refine⟨p.2,aJ.mpr h2,?_⟩
    show rank W (if p.2=p.2 then _ else _)<_
    rw[if_pos rfl];omega
   ·refine⟨p.1,aJ.mpr h1,?_⟩
    by_cases q2:p.1=p.2
    ·rw[q2] at nK;exact absurd rfl nK
    ·show rank W (if p.1=p.2 then _ else if p.1=p.1 then _ else _)<_
     rw[if_neg q2,if_pos rfl];omega
  refine⟨⟨fun x hx=>?_,fun x hx=>?_,fun x hx=>Tw (Qj x hx) (h.le x hx)⟩,UT lt', .inr ⟨rfl,lt'⟩⟩
  ·show On _ _ (if x=p.2 then _ else if x=p.1 then _ else s.1 x)
   split
   ·exact uu
   ·split
    ·exact uu
    ·exact h.on x hx
  ·show Cn _ _ _ _ (if x=p.2 then _ else if x=p.1 then _ else s.1 x)
   by_cases z1:x=p.2
   ·rw[if_pos z1,z1];exact c2
   ·rw[if_neg z1]
    by_cases z2:x=p.1
    ·rw[if_pos z2,z2];exact c1
    ·rw[if_neg z2];exact h.cn x hx
def HI(hw:Ways w):∀(ps:List (Cell×Cell)) (s:(Cell->Cell)×Bool),(∀p∈ps,yA bd W w p)->Lab bd W w s.1->
 Lab bd W w (ps.foldl d7 s).1/\mu bd.length W (ps.foldl d7 s).1<=mu bd.length W s.1/\((ps.foldl d7 s).2=s.2/\(ps.foldl d7 s).1=s.1/\(∀p∈ps,s.1 p.1=s.1 p.2)\/(ps.foldl d7 s).2=true/\mu bd.length W (ps.foldl d7 s).1<mu bd.length W s.1)
 |[],s,_,h=>⟨h,Tg _, .inl ⟨rfl,rfl,fun p hp=>by cases hp⟩⟩
 |p::ps,s,hp,h=>by
  obtain⟨a1,a2,a3⟩:=xc hw (hp p (Ta ..)) h
  obtain⟨b1,b2,b3⟩:=HI hw ps (d7 s p) (fun q hq=>hp q (S9 _ hq)) a1
  rw[WH]
  refine⟨b1,Tw b2 a2,?_⟩
  rcases b3 with⟨c1,c2,c3⟩ | ⟨c1,c2⟩
  ·rcases a3 with⟨d1,d2,d3⟩ | ⟨d1,d2⟩
   ·refine .inl ⟨c1.trans d1,c2.trans d2,fun q hq=>?_⟩
    rcases Th.mp hq with rfl | hq
    ·exact d3
    ·rw[<-d2];exact c3 q hq
   ·exact .inr ⟨c1.trans d1,by rw[c2];exact d2⟩
  ·exact .inr ⟨c1,TQ c2 a2⟩
def pD(p:Cell×Cell):D:= .tup [cD p.1,cD p.2]
def OJ:DS:=(bW [8,9,10] (el (qN (bH (d2 gw (d2 eA (dV 2) (dV 8)) (d2 eA (dV 2) (dV 9))))) (aA (bD 10 (EZ (dA sN (aC (d2 eA (dV 2) (dV 8)) (aC (d2 eA (dV 2) (dV 9)) aN))))) (aA (g7 2 (dV 8) (dV 10)) (aA (g7 2 (dV 9) (dV 10)) (bD 7 (dC (.bl true)))))) bS))
def FX(bd:List Str)(W w:Nat)(ps:List (Cell×Cell))(s:(Cell->Cell)×Bool)(x8 x9 Cj:Option Sl):bf:=[fz (brd bd),fz (.int (w:Int)),some (.ow (z7 (ax bd.length W) fun x=>cD (s.1 x))),fz (.lst (ps.map pD)),none,none,none,fz (.bl s.2),x8,x9,Cj]
def tT{ks:List Cell}{x:Cell}(h:x∈ks):eG ks x=ks:=if_pos h
def FZ(hg:Brd bd W){ps:List (Cell×Cell)}{s:(Cell->Cell)×Bool}{p:Cell×Cell}(h1:On bd.length W p.1)(h2:On bd.length W p.2):
 OJ (FX bd W w ps s (fz (cD p.1)) (fz (cD p.2)) none)=ae (.nx (FX bd W w ps (d7 s p) none none none)):=by
 have hm:bd.length*W<=64:=Uv hg.r8 hg.w8
 have Dd:(ax bd.length W).length<lim:=by rw[bg,dz];omega
 have m1:=aJ.mpr h1
 have m2:=aJ.mpr h2
 have i1:∀{Cj:Option Sl},d2 eA (dV 2) (dV 8) (qY (FX bd W w ps s (fz (cD p.1)) (fz (cD p.2)) Cj))=ae (cD (s.1 p.1)):=(az (x:=wD (ax bd.length W) fun x=>cD (s.1 x)) (y:=cD p.1) rfl rfl).trans (uC m1)
 have i2:∀{Cj:Option Sl},d2 eA (dV 2) (dV 9) (qY (FX bd W w ps s (fz (cD p.1)) (fz (cD p.2)) Cj))=ae (cD (s.1 p.2)):=(az (x:=wD (ax bd.length W) fun x=>cD (s.1 x)) (y:=cD p.2) rfl rfl).trans (uC m2)
 have ht:qN (bH (d2 gw (d2 eA (dV 2) (dV 8)) (d2 eA (dV 2) (dV 9)))) (FX bd W w ps s (fz (cD p.1)) (fz (cD p.2)) none)=ae (!decide (s.1 p.1=s.1 p.2)):=oq (cI ((az i1 i2).trans (qa _ _)))
 unfold d7
 by_cases e:s.1 p.1=s.1 p.2
 ·rw[decide_eq_true e] at ht
  rw[if_pos e]
  exact(bt (bR ht rfl)).trans rfl
 ·rw[decide_eq_false e] at ht
  rw[if_neg e]
  have Oe:EZ (dA sN (aC (d2 eA (dV 2) (dV 8)) (aC (d2 eA (dV 2) (dV 9)) aN))) (FX bd W w ps s (fz (cD p.1)) (fz (cD p.2)) none)=ae (cD (cq (s.1 p.1) (s.1 p.2))):=
   Hn ((cO (xs:=[cD (s.1 p.1),cD (s.1 p.2)]) (aS i1 (aS i2 rfl))).trans (Gb _ _)) (Af _)
  refine(bt (bL ht (ak ((aM Oe).trans rfl) (ak ((vh (x:=p.1) (d:=cD (cq (s.1 p.1) (s.1 p.2))) (ks:=ax bd.length W) (f:=fun x=>cD (s.1 x)) rfl rfl rfl Dd).trans rfl) (ak ((vh (x:=p.2) (d:=cD (cq (s.1 p.1) (s.1 p.2))) (ks:=eG (ax bd.length W) p.1) (f:=j6 (fun x=>cD (s.1 x)) p.1 (cD (cq (s.1 p.1) (s.1 p.2)))) rfl rfl rfl (by rw[tT m1];exact Dd)).trans rfl) rfl))))).trans ?_
  rw[tT m1,tT m2]
  unfold FX
  have ef:j6 (j6 (fun x=>cD (s.1 x)) p.1 (cD (cq (s.1 p.1) (s.1 p.2)))) p.2 (cD (cq (s.1 p.1) (s.1 p.2)))=fun x=>cD (if x=p.2 then cq (s.1 p.1) (s.1 p.2) else if x=p.1 then cq (s.1 p.1) (s.1 p.2) else s.1 x):=by
   funext x
   unfold j6
   by_cases z1:x=p.2
   ·rw[if_pos z1,if_pos z1]
   ·rw[if_neg z1,if_neg z1]
    by_cases z2:x=p.1
    ·rw[if_pos z2,if_pos z2]
    ·rw[if_neg z2,if_neg z2]
  rw[ef]
  rfl
end
def l6{i:Nat}{δ:DF}{ρ:bf}{c:C}(h:δ ρ=ae c):jP i δ ρ=ae (.nx (ρ.set i (some (.ow c)))):=by
 unfold jP
 rw[h]
 rfl
def wZ{δ:DE}{ρ:bf}{l:List Cell}(h:δ ρ=ae (cL l)):cQ δ ρ=ae (l.map cD):=by
 show (δ ρ>>=lstM)=_
 rw[h]
 rfl
def js(R W:Nat):RiseC (ax R W):=by
 unfold RiseC ax f_
 rw[List.pairwise_flatMap]
 constructor
 ·intro r _
  rw[Xj]
  exact List.pairwise_lt_range.imp fun h=>by show (if _ then _ else _)=true;rw[if_pos rfl,decide_eq_true_eq];exact h
 ·refine List.pairwise_lt_range.imp fun {a b} h x hx y hy=>?_
  obtain⟨i,_,rfl⟩:=TJ.mp hx
  obtain⟨j,_,rfl⟩:=TJ.mp hy
  show (if a=b then _ else decide (a<b))=true
  rw[if_neg (by omega),decide_eq_true_eq]
  exact h
section
variable{bd:List Str}{W w:Nat}
def wk(bd:List Str)(x y:Cell):Bool:=rY x y&&decide (lt bd x=lt bd y)
def Fe(bd:List Str)(x y:Cell):List D:=if wk bd x y then [pD (x,y)] else []
def bQ(bd:List Str)(W w:Nat):List (Cell×Cell):=(ax bd.length W).flatMap fun x=>((fU bd.length W w x).filter (wk bd x)).map fun y=>(x,y)
def k8(hw:Ways w){p:Cell×Cell}:p∈bQ bd W w↔On bd.length W p.1/\On bd.length W p.2/\ir w p.1 p.2=true/\lt bd p.1=lt bd p.2/\rY p.1 p.2=true:=by
 unfold bQ wk
 simp only[Wu,TJ,Uo,Ts,decide_eq_true_eq]
 constructor
 ·rintro⟨x,hx,y,⟨hy,h1,h2⟩,rfl⟩
  have hx:=aJ.mp hx
  have:=(eQ hw hx).mp hy
  exact⟨hx,this.1,this.2,h2,h1⟩
 ·rintro⟨h1,h2,h3,h4,h5⟩
  exact⟨p.1,aJ.mpr h1,p.2,⟨(eQ hw h1).mpr ⟨h2,h3⟩,h5,h4⟩,rfl⟩
def qr(hw:Ways w){p:Cell×Cell}(h:p∈bQ bd W w):yA bd W w p:=by
 obtain⟨h1,h2,h3,h4,_⟩:=(k8 hw).mp h
 exact⟨h1,h2,Cn.refl.step ((cH hw).mpr ⟨h2,h3,h4.symm⟩)⟩
def wj(x:Cell):∀l:List Cell,l.flatMap (Fe bd x)=((l.filter (wk bd x)).map fun y=>(x,y)).map pD
 |[]=>rfl
 |y::l=>by
  rw[UX,wj x l]
  unfold Fe
  by_cases h:wk bd x y=true
  ·rw[if_pos h,Wq h];rfl
  ·rw[if_neg h,Wr h];rfl
def OT:DS:=(bW [5,6] (aA (bD 6 (d2 jw (d2 aZ (dV 0) (d2 aZ (dV 4) (dC (.int 0)))) (d2 aZ (dV 4) (dC (.int 1))))) (el (gA (bH (d2 wQ (dV 4) (dV 5))) (bH (d2 gE (dV 6) (d2 jw (d2 aZ (dV 0) (d2 aZ (dV 5) (dC (.int 0)))) (d2 aZ (dV 5) (dC (.int 1))))))) (fQ 3 (dA bc (aC (dV 4) (aC (dV 5) aN)))) bS)))
def xN(bd:List Str)(w:Nat)(o:Option Sl)(acc:List D)(x4 x5 x6:Option Sl):bf:=[fz (brd bd),fz (.int (w:Int)),o,some (.ow (.lst acc)),x4,x5,x6,none,none,none,none]
def GQ(hg:Brd bd W){o:Option Sl}{x y:Cell}(hx:On bd.length W x)(hy:On bd.length W y){acc:List D}(hl:(acc++Fe bd x y).length<=600):
 OT (xN bd w o acc (fz (cD x)) (fz (cD y)) none)=ae (.nx (xN bd w o (acc++Fe bd x y) (fz (cD x)) none none)):=by
 have ht:gA (bH (d2 wQ (dV 4) (dV 5))) (bH (d2 gE (dV 6) (d2 jw (d2 aZ (dV 0) (d2 aZ (dV 5) (dC (.int 0)))) (d2 aZ (dV 5) (dC (.int 1)))))) (xN bd w o acc (fz (cD x)) (fz (cD y)) (fz (sg (lt bd x))))=ae (wk bd x y):=
  kT (cI ((az (x:=cD x) (y:=cD y) rfl rfl).trans (FC _ _))) (cI ((az (x:=sg (lt bd x)) rfl (vw hg hy rfl rfl)).trans (wI _ _)))
 have h6:d2 jw (d2 aZ (dV 0) (d2 aZ (dV 4) (dC (.int 0)))) (d2 aZ (dV 4) (dC (.int 1))) (xN bd w o acc (fz (cD x)) (fz (cD y)) none)=ae (sg (lt bd x)):=vw hg hx rfl rfl
 unfold Fe at hl⊢
 by_cases hb:wk bd x y=true
 ·rw[if_pos hb] at hl⊢
  rw[hb] at ht
  refine(bt (ρ':=xN bd w o (acc++[pD (x,y)]) (fz (cD x)) (fz (cD y)) (fz (sg (lt bd x)))) (ak (ρ':=xN bd w o acc (fz (cD x)) (fz (cD y)) (fz (sg (lt bd x)))) ((aM h6).trans rfl) (bL ht ?_))).trans rfl
  show (if acc.length<lim then ae (Out.nx (xN bd w o (acc++[pD (x,y)]) (fz (cD x)) (fz (cD y)) (fz (sg (lt bd x))))) else ah)=_
  rw[if_pos (by rw[Ti] at hl;rw[dz];simp at hl;omega)]
 ·rw[if_neg hb,T9]
  rw[UY.mpr hb] at ht
  exact(bt (ρ':=xN bd w o acc (fz (cD x)) (fz (cD y)) (fz (sg (lt bd x)))) (ak (ρ':=xN bd w o acc (fz (cD x)) (fz (cD y)) (fz (sg (lt bd x)))) ((aM h6).trans rfl) (bR ht rfl))).trans rfl
def xa{α β:Type}{n:Nat}(f:α->List β)(h:∀a,(f a).length<=n):∀l:List α,(l.flatMap f).length<=n*l.length
 |[]=>Ue _
 |a::l=>by
  rw[UX,Ti,Tj,Nat.mul_add,Nat.mul_one]
  have:=h a
  have:=xa f h l
  omega
def GP(hg:Brd bd W)(hw:Ways w){o:Option Sl}:forL (putN 4) (bW [4,5,6] (dj (putN 5) (cQ (aw 3 a7 (aC (dV 0) (aC (dV 4) (aC (dV 1) aN))))) OT)) ((ax bd.length W).map cD) (xN bd w o [] none none none)=ae (.nx (xN bd w o ((bQ bd W w).map pD) none none none)):=by
 have hm:bd.length*W<=64:=Uv hg.r8 hg.w8
 have HA:(ax bd.length W).flatMap (fun x=>(fU bd.length W w x).flatMap (Fe bd x))=(bQ bd W w).map pD:=by
  unfold bQ
  rw[Wv]
  congr 1
  funext x
  exact wj x _
 have SN:((bQ bd W w).map pD).length<=576:=by
  rw[S6]
  have:=xa (n:=9) (fun x=>((fU bd.length W w x).filter (wk bd x)).map fun y=>(x,y)) (fun x=>by rw[S6];exact Tw (Uh ..) (wg ..)) (ax bd.length W)
  rw[bg] at this
  exact Tw this (by omega)
 have:=fN (put:=putN 4) (body:=bW [4,5,6] (dj (putN 5) (cQ (aw 3 a7 (aC (dV 0) (aC (dV 4) (aC (dV 1) aN))))) OT)) (B:=600) cD (fun acc=>xN bd w o acc none none none) (fun x=>(fU bd.length W w x).flatMap (Fe bd x)) (ax bd.length W) [] (by rw[T4,HA];omega) fun x hx acc hl=>by
  have hx:=aJ.mp hx
  refine⟨xN bd w o acc (fz (cD x)) none none,rfl,(bt (ρ':=xN bd w o (acc++(fU bd.length W w x).flatMap (Fe bd x)) (fz (cD x)) none none) (dF (ds:=(fU bd.length W w x).map cD) ?_ ?_)).trans rfl⟩
  ·exact wZ ((aj (ds:=[brd bd,cD x, .int (w:Int)]) rfl rfl).trans (eN hg))
  ·exact fN (B:=600) cD (fun acc=>xN bd w o acc (fz (cD x)) none none) (Fe bd x) _ acc hl fun y hy NO KI=>⟨_,rfl,GQ hg hx ((eQ hw hx).mp hy).1 KI⟩
 rw[T4,HA] at this
 exact this
def Qi:DS:=(bW [8,9,10] (aA (bD 7 (dC (.bl false))) (vZ 3 (dj (xR [8,9]) (cQ (dV 3)) OJ))))
def Jr(bd:List Str)(W w:Nat)(s:(Cell->Cell)×Bool)(x3:Option Sl):bf:=[fz (brd bd),fz (.int (w:Int)),some (.ow (z7 (ax bd.length W) fun x=>cD (s.1 x))),x3,none,none,none,fz (.bl s.2),none,none,none]
def FY(hg:Brd bd W)(hw:Ways w){L:Cell->Cell}{b:Bool}{x3:Option Sl}(h3:x3=some (.ow (.lst ((bQ bd W w).map pD)))\/x3=fz (.lst ((bQ bd W w).map pD)))(h:Lab bd W w L):
 Qi (Jr bd W w (L,b) x3)=ae (.nx (Jr bd W w ((bQ bd W w).foldl d7 (L,false)) (fz (.lst ((bQ bd W w).map pD))))):=by
 have hf:=(gu (put:=xR [8,9]) (body:=OJ) pD (fun s=>FX bd W w (bQ bd W w) s none none none) d7 (fun s=>Lab bd W w s.1) (bQ bd W w) (L,false) h fun s hs p hp=>by
  obtain⟨q1,q2,q3⟩:=qr hw hp
  exact⟨(xc hw (qr hw hp) hs).1,_,rfl,FZ hg q1 q2⟩).2
 refine(bt (ρ':=FX bd W w (bQ bd W w) ((bQ bd W w).foldl d7 (L,false)) none none none) (ak (ρ':=Jr bd W w (L,false) x3) rfl ?_)).trans rfl
 rcases h3 with rfl | rfl
 ·exact dF (ds:=(bQ bd W w).map pD) rfl hf
 ·exact dF (ds:=(bQ bd W w).map pD) rfl hf
def w_(hg:Brd bd W)(hw:Ways w):∀(fuel:Nat) (L:Cell->Cell) (x3:Option Sl),x3=some (.ow (.lst ((bQ bd W w).map pD)))\/x3=fz (.lst ((bQ bd W w).map pD))->Lab bd W w L->mu bd.length W L+2<=fuel->
 ∃L',Lab bd W w L'/\(∀p∈bQ bd W w,L' p.1=L' p.2)/\dO (bE (dV 7)) Qi fuel (Jr bd W w (L,true) x3)=ae (.nx (Jr bd W w (L',false) (fz (.lst ((bQ bd W w).map pD)))))
 |0,_,_,_,_,hf=>by omega
 |1,_,_,_,_,hf=>by omega
 |fuel+2,L,x3,h3,h,hf=>by
  have hp:=FY (b:=true) hg hw h3 h
  obtain⟨a1,a2,a3⟩:=HI hw (bQ bd W w) (L,false) (fun p hp=>qr hw hp) h
  rcases a3 with⟨b1,b2,b3⟩ | ⟨b1,b2⟩
  ·have e:(bQ bd W w).foldl d7 (L,false)=(L,false):=XA b2 b1
   rw[e] at hp
   exact⟨L,h,b3,iP (bF rfl) hp (mG (bF rfl))⟩
  ·have e:(bQ bd W w).foldl d7 (L,false)=(((bQ bd W w).foldl d7 (L,false)).1,true):=XA rfl b1
   obtain⟨L',c1,c2,c3⟩:=w_ hg hw (fuel+1) _ _ (.inr rfl) a1 (by have b2:mu bd.length W _<mu bd.length W L:=b2;omega)
   rw[e] at hp
   exact⟨L',c1,c2,iP (bF rfl) hp c3⟩
def Least(bd:List Str)(W w:Nat)(x m:Cell):Prop:=Cn bd W w x m/\∀z,Cn bd W w x z->rank W m<=rank W z
def qM(hw:Ways w){L:Cell->Cell}(h:∀p∈bQ bd W w,L p.1=L p.2){x:Cell}(hx:On bd.length W x):∀{j:Nat}{y:Cell},Rb (aU bd W w) x j y->L x=L y
 |0,y,h0=>by rw[show y=x from h0]
 |j+1,y,h0=>by
  rcases h0 with q | ⟨z,q1,q2⟩
  ·exact qM hw h hx q
  ·rw[qM hw h hx q1]
   have hz:=tq hw hx q1
   obtain⟨y1,y2,y3⟩:=(cH hw).mp q2
   by_cases lD:rank W z<rank W y
   ·exact h (z,y) ((k8 hw).mpr ⟨hz,y1,y2,y3.symm,(gz hz y1).mpr lD⟩)
   ·have nK:rank W z≠rank W y:=fun e=>by
     have:=qC hz y1 e
     subst this
     rw[Jv hw] at y2
     cases y2
    exact(h (y,z) ((k8 hw).mpr ⟨y1,hz,by rw[l7];exact y2,y3,(gz y1 hz).mpr (by omega)⟩)).symm
def pX(hg:Brd bd W)(hw:Ways w):∃L:Cell->Cell,(∀x,On bd.length W x->Least bd W w x (L x))/\gb [brd bd, .int (w:Int)]=ae (wD (ax bd.length W) fun x=>cD (L x)):=by
 have hm:bd.length*W<=64:=Uv hg.r8 hg.w8
 have l0:Lab bd W w id:=⟨fun x hx=>hx,fun x hx=>Cn.refl,fun x hx=>Tg _⟩
 have SR:mu bd.length W id<=4032:=by
  unfold mu
  have:=zE (f:=fun x=>rank W (id x)) (g:=fun _=>63) (l:=ax bd.length W) fun x hx=>by
   have:=G1 (aJ.mp hx)
   show rank W x<=63
   omega
  refine Tw this ?_
  rw[List.map_const',List.sum_replicate_nat,bg]
  have:bd.length*W*63<=64*63:=VZ _ hm
  omega
 obtain⟨L,h1,h2,h3⟩:=w_ hg hw lim id (some (.ow (.lst ((bQ bd W w).map pD)))) (.inl rfl) l0 (by rw[dz];omega)
 refine⟨L,fun x hx=>⟨h1.cn x hx,fun z hz=>?_⟩,?_⟩
 ·obtain⟨j,q⟩:=hz
  rw[qM hw h2 hx q]
  exact h1.le z (tq hw hx q)
 ·have IL:((ax bd.length W).map keyOf).Nodup:=by
   exact(js _ _).nodup.map (f:=keyOf) fun a b h z=>h (gx z)
  have yV:(aC (bA 0 (cQ (aw 1 bM (aC (dV 0) aN))) cw (dA bc (aC (dV 0) (aC (dV 0) aN)))) aN) [fz (brd bd),fz (.int (w:Int)),none,none,none,none,none,none,none,none,none]=ae [.lst ((ax bd.length W).map fun x=>pD (x,x))]:=by
   refine aS (cG (ds:=(ax bd.length W).map cD) ?_ (fg cD (fun x=>pD (x,x)) _ fun x _=>rfl) (by rw[S6,bg,dz];omega)) rfl
   exact wZ ((aj (ds:=[brd bd]) rfl rfl).trans (dw hg))
  have Oq:∀l:List Cell,lh (l.map fun x=>pD (x,x))=some (l.map keyOf,l.map cD):=fun l=>by
   induction l with
   |nil=>rfl
   |cons a l ih=>
    show (match eB (cD a),lh (l.map fun x=>pD (x,x)) with | some kk,some q=>some (kk::q.1,cD a::q.2) | _,_=>none)=_
    rw[ih]
    rfl
  refine aP (ak (ρ':=[fz (brd bd),fz (.int (w:Int)),some (.ow (z7 (ax bd.length W) cD)),none,none,none,none,none,none,none,none]) ?_ (ak (ρ':=xN bd w (some (.ow (z7 (ax bd.length W) cD))) [] none none none) rfl (ak (ρ':=xN bd w (some (.ow (z7 (ax bd.length W) cD))) ((bQ bd W w).map pD) none none none) (cK (dF (ds:=(ax bd.length W).map cD) ?_ (GP hg hw))) (ak (ρ':=Jr bd W w (id,true) (some (.ow (.lst ((bQ bd W w).map pD))))) rfl (ak (ρ':=Jr bd W w (L,false) (fz (.lst ((bQ bd W w).map pD)))) ?_ rfl)))))
  ·refine l6 (ρ:=[fz (brd bd),fz (.int (w:Int)),none,none,none,none,none,none,none,none,none]) (c:=z7 (ax bd.length W) cD) ?_
   refine(congrArg (· >>=z8) yV).trans ?_
   show (match lh ((ax bd.length W).map fun x=>pD (x,x)) with | some q=>if q.1.Nodup/\q.2.length<=lim then ae (C.dct q.1 q.2) else ah | none=>ah)=_
   rw[Oq]
   show (if ((ax bd.length W).map keyOf).Nodup/\((ax bd.length W).map cD).length<=lim then ae (C.dct ((ax bd.length W).map keyOf) ((ax bd.length W).map cD)) else ah)=_
   rw[if_pos ⟨IL,by rw[S6,bg,dz];omega⟩]
   rfl
  ·exact wZ ((aj (ds:=[brd bd]) rfl rfl).trans (dw hg))
  ·exact cK h3
end
section
open Classical
variable{bd:List Str}{W w:Nat}
noncomputable def dB(bd:List Str)(W w:Nat)(m:Cell):List Cell:=(ax bd.length W).filter fun x=>decide (Cn bd W w m x)
noncomputable def fO(bd:List Str)(W w:Nat)(l:List Cell):List Cell:=l.filter fun x=>decide (Least bd W w x x)
def sZ(hw:Ways w){m:Cell}(hm:On bd.length W m):IsPatch bd W w m (dB bd W w m):=by
 refine⟨(js _ _).filter _,fun x=>?_⟩
 unfold dB
 rw[Uo,aJ,decide_eq_true_eq]
 exact⟨fun h=>h.2,fun h=>⟨h.on hw hm,h⟩⟩
def Least.on(hw:Ways w){x m:Cell}(hx:On bd.length W x)(h:Least bd W w x m):On bd.length W m:=h.1.on hw hx
def Least.move(hw:Ways w){x y m:Cell}(hx:On bd.length W x)(h:Least bd W w x m)(hy:Cn bd W w x y):Least bd W w y m:=
 ⟨(hy.symm hw hx).trans h.1,fun z hz=>h.2 z (hy.trans hz)⟩
def Least.one(hw:Ways w){x m n:Cell}(hx:On bd.length W x)(h:Least bd W w x m)(h2:Least bd W w x n):m=n:=
 qC (h.on hw hx) (h2.on hw hx) (X2 (h.2 n h2.1) (h2.2 m h.1))
def Least.self(hw:Ways w){x m:Cell}(hx:On bd.length W x)(h:Least bd W w x m):Least bd W w m m:=h.move hw hx h.1
variable(L:Cell->Cell)
def Bw(hw:Ways w):∃L:Cell->Cell,∀x,On bd.length W x->Least bd W w x (L x):=by
 have h:∀x,∃m,On bd.length W x->Least bd W w x m:=fun x=>by
  by_cases hx:On bd.length W x
  ·have hP:=sZ hw hx
   cases hp:dB bd W w x with
   |nil=>have:=(hP.mem x).mpr Cn.refl;rw[hp] at this;cases this
   |cons m r=>
    rw[hp] at hP
    have hm:=(hP.mem m).mp (Ta ..)
    refine⟨m,fun _=>⟨hm,fun z hz=>?_⟩⟩
    rcases Th.mp ((hP.mem z).mpr hz) with rfl | R4
    ·exact Tg _
    ·exact UT ((gz (hm.on hw hx) (hz.on hw hx)).mp ((UO.mp hP.rise).1 z R4))
  ·exact⟨x,fun z=>absurd z hx⟩
 exact⟨fun x=>Classical.choose (h x),fun x=>Classical.choose_spec (h x)⟩
noncomputable def oQ(L:Cell->Cell)(s:List Cell):Cell->D:=fun k=>cL (s.filter fun x=>decide (L x=k))
noncomputable def Ql(L:Cell->Cell)(s:List Cell):C:=z7 (b5 (s.map L)) (oQ L s)
noncomputable def E9(bd:List Str)(W w:Nat)(L:Cell->Cell)(s:List Cell)(x4:Option Sl):bf:=[fz (brd bd),fz (.int (w:Int)),fz (wD (ax bd.length W) fun x=>cD (L x)),some (.ow (Ql L s)),x4]
def z6:∀l:List Cell,pF (l.map cD)=true
 |[]=>rfl
 |x::l=>by
  show (se (cD x)&&pF (l.map cD))=true
  rw[z6 l]
  rfl
def Fq{δ:DE}{ρ:bf}{l:List Cell}(h1:md ρ=true)(h:δ (qY ρ)=ae (cL l)):Kx δ ρ=ae (cL l):=by
 unfold Kx
 rw[if_pos h1,h]
 show (if se (cL l) then ae (cL l) else ah)=_
 rw[if_pos (show se (cL l)=true from z6 l)]
def y9(l:List Cell)(x:Cell):b5 (l++[x])=eG (b5 l) x:=by
 unfold b5
 rw[Zj]
 rfl
def C8{i:Nat}{ρ:bf}{δk:DE}{ks:List Cell}{f:Cell->D}{k:Cell}(h1:dV i ρ=ae (wD ks f))(h2:δk ρ=ae (cD k)):pC (dV i) δk (dA aX aN) ρ=ae (if k∈ks then f k else .lst []):=by
 unfold pC
 rw[h1,ay]
 show (δk ρ>>=fun k=>dA aX aN ρ>>=fun v=>getM (wD ks f) k v)=_
 rw[h2,ay]
 show getM (wD ks f) (cD k) (.lst [])=_
 by_cases h:k∈ks
 ·rw[FE h,if_pos h]
 ·rw[C9 h,if_neg h]
def Qk:DS:=(bW [4] (g7 3 (d2 eA (dV 2) (dV 4)) (Kx (d2 cY (pC (dV 3) (d2 eA (dV 2) (dV 4)) (dA aX aN)) (dA aX (aC (dV 4) aN))))))
def F_(hg:Brd bd W){L:Cell->Cell}{s:List Cell}{x:Cell}(hx:On bd.length W x)(hs:s.length<64):Qk (E9 bd W w L s (fz (cD x)))=ae (.nx (E9 bd W w L (s++[x]) none)):=by
 have hl:(b5 (s.map L)).length<lim:=by
  have:=sG (s.map L)
  rw[S6] at this
  rw[dz];omega
 have i1:∀{o:Option Sl},d2 eA (dV 2) (dV 4) [fz (brd bd),fz (.int (w:Int)),fz (wD (ax bd.length W) fun x=>cD (L x)),o,fz (cD x)]=ae (cD (L x)):=(az (x:=wD (ax bd.length W) fun x=>cD (L x)) (y:=cD x) rfl rfl).trans (uC (aJ.mpr hx))
 have hv:Kx (d2 cY (pC (dV 3) (d2 eA (dV 2) (dV 4)) (dA aX aN)) (dA aX (aC (dV 4) aN))) (E9 bd W w L s (fz (cD x)))=ae (cL ((s.filter fun y=>decide (L y=L x))++[x])):=by
  refine Fq rfl ?_
  have g:pC (dV 3) (d2 eA (dV 2) (dV 4)) (dA aX aN) (qY (E9 bd W w L s (fz (cD x))))=ae (cL (s.filter fun y=>decide (L y=L x))):=by
   refine(C8 (i:=3) (ks:=b5 (s.map L)) (f:=oQ L s) (k:=L x) rfl i1).trans ?_
   by_cases h:L x∈b5 (s.map L)
   ·rw[if_pos h];rfl
   ·rw[if_neg h]
    have:s.filter (fun y=>decide (L y=L x))=[]:=YA.mpr fun y hy=>by
     rw[decide_eq_true_eq]
     exact fun z=>h (fm.mpr (TJ.mpr ⟨y,hy,z⟩))
    rw[this]
    rfl
  exact(az (y:=cL [x]) g rfl).trans (CB (by have:=Uh (fun y=>decide (L y=L x)) s;show _+1<=4096;omega))
 refine(bt ((vh (ks:=b5 (s.map L)) (f:=oQ L s) (x:=L x) rfl hv i1 hl).trans rfl)).trans ?_
 have ef:j6 (oQ L s) (L x) (cL ((s.filter fun y=>decide (L y=L x))++[x]))=oQ L (s++[x]):=by
  funext k
  unfold j6 oQ
  rw[List.filter_append]
  by_cases e:k=L x
  ·subst e
   rw[if_pos rfl,Wq (by simp),List.filter_nil]
  ·rw[if_neg e,Wr (by simp;exact fun z=>e z.symm),List.filter_nil,T9]
 show ae (Out.nx [fz (brd bd),fz (.int (w:Int)),fz (wD (ax bd.length W) fun x=>cD (L x)),some (.ow (z7 (eG (b5 (s.map L)) (L x)) (j6 (oQ L s) (L x) (cL ((s.filter fun y=>decide (L y=L x))++[x]))))),none])=_
 rw[ef,<-y9]
 unfold E9 Ql
 rw[Vd]
 rfl
def Aq(hg:Brd bd W){L:Cell->Cell}:∀(l s:List Cell),(∀x∈l,On bd.length W x)->s.length+l.length<=64->forL (putN 4) Qk (l.map cD) (E9 bd W w L s none)=ae (.nx (E9 bd W w L (s++l) none))
 |[],s,_,_=>by rw[T9];rfl
 |x::l,s,h,hl=>by
  rw[Tj] at hl
  have:=Aq hg (L:=L) l (s++[x]) (fun y hy=>h y (S9 _ hy)) (by rw[Ti];show _+1+_<=_;omega)
  rw[Xl] at this
  exact(dX rfl (F_ hg (h x (Ta ..)) (by omega))).trans this
noncomputable def xI(bd:List Str)(W w:Nat):D:= .lst ((fO bd W w (ax bd.length W)).map fun m=>cL (dB bd W w m))
def oO(hg:Brd bd W)(hs:bd.length*W<64)(hw:Ways w):cC [brd bd, .int (w:Int)]=ae (xI bd W w):=by
 have hm:bd.length*W<=64:=Uv hg.r8 hg.w8
 obtain⟨L,hL,eL⟩:=pX hg hw
 have hlen:(ax bd.length W).length<=64:=by rw[bg];omega
 have lp:=Aq (w:=w) (L:=L) hg (ax bd.length W) [] (fun x hx=>aJ.mp hx) (by simpa using hlen)
 rw[T4] at lp
 have KH:(b5 ((ax bd.length W).map L)).length<64:=by
  have:=sG ((ax bd.length W).map L)
  rw[S6,bg] at this
  omega
 have HF:qK (b5 ((ax bd.length W).map L))=fO bd W w (ax bd.length W):=by
  refine BZ (zD (xj _)) ((js _ _).filter _) fun k=>?_
  rw[sM,fm,TJ]
  unfold fO
  rw[Uo,decide_eq_true_eq]
  constructor
  ·rintro⟨x,hx,rfl⟩
   have hx:=aJ.mp hx
   exact⟨aJ.mpr ((hL x hx).on hw hx),(hL x hx).self hw hx⟩
  ·rintro⟨hk,h⟩
   exact⟨k,hk,(hL k (aJ.mp hk)).one hw (aJ.mp hk) h⟩
 have IU:∀k∈fO bd W w (ax bd.length W),oQ L (ax bd.length W) k=cL (dB bd W w k):=fun k hk=>by
  unfold fO at hk
  rw[Uo,decide_eq_true_eq] at hk
  have RC:=aJ.mp hk.1
  unfold oQ dB
  congr 1
  refine List.filter_congr fun x hx=>?_
  have hx:=aJ.mp hx
  rw[decide_eq_decide]
  constructor
  ·intro e
   have:=(hL x hx).1
   rw[e] at this
   exact this.symm hw hx
  ·intro e
   exact(hL x hx).one hw hx (hk.2.move hw RC e)
 refine aP (ak (ρ':=[fz (brd bd),fz (.int (w:Int)),fz (wD (ax bd.length W) fun x=>cD (L x)),none,none]) ((aM (d:=wD (ax bd.length W) fun x=>cD (L x)) ((aj (ds:=[brd bd, .int (w:Int)]) rfl rfl).trans eL)).trans rfl) (ak (ρ':=E9 bd W w L [] none) rfl (ak (ρ':=E9 bd W w L (ax bd.length W) none) (cK (dF (ds:=(ax bd.length W).map cD) (wZ ((aj (ds:=[brd bd]) rfl rfl).trans (dw hg))) lp)) ?_)))
 refine aD (cG (ds:=(fO bd W w (ax bd.length W)).map cD) (ys:=(fO bd W w (ax bd.length W)).map fun m=>cL (dB bd W w m)) (wZ ?_) (fg cD (fun m=>cL (dB bd W w m)) _ fun m hm=>?_) ?_)
 ·rw[<-HF]
  exact(cO (xs:=[wD (b5 ((ax bd.length W).map L)) (oQ L (ax bd.length W))]) rfl).trans (EG (xj _) KH)
 ·rw[kS,<-IU m hm]
  have RH:m∈b5 ((ax bd.length W).map L):=by rw[<-sM,HF];exact hm
  have:d2 eA (dV 4) (dV 0) (fz (cD m)::frz 3 (E9 bd W w L (ax bd.length W) none))=ae (oQ L (ax bd.length W) m):=(az (x:=wD (b5 ((ax bd.length W).map L)) (oQ L (ax bd.length W))) (y:=cD m) rfl rfl).trans (uC RH)
  rw[this]
  rfl
 ·rw[S6,dz]
  have:=Uh (fun x=>decide (Least bd W w x x)) (ax bd.length W)
  unfold fO
  omega
end
def g6{δ:DE}{ρ:bf}{n:Nat}(h:δ ρ=bz n):mw δ ρ=bz n:=by
 unfold mw
 rw[h]
 rfl
def i8{a b:DS}{ρ:bf}{n:Nat}(h:a ρ=bz n):aA a b ρ=bz n:=by
 unfold aA
 rw[h]
 rfl
def eC(n:Nat):D:= .tup [.str "refused", .int (n:Int)]
def ER(m:M D):M D:=match m with
 |some (.ex n)=>noex (Hy n)
 |r=>r
def AM{a b:DS}{ρ:bf}{m:M D}(h:a ρ=(m>>=fun d=>ae (Out.rt d))):aA a b ρ=(m>>=fun d=>ae (Out.rt d)):=by
 unfold aA
 rw[h]
 match m with
 |none=>rfl
 |some (.ok a)=>rfl
 |some (.ex n)=>rfl
def o8{n:Nat}{τ:DS}{ds:List D}{m:M D}(h:τ (ds.map (fun d=>some (Sl.fz d))++TB (n - ds.length) none)=(m>>=fun d=>ae (Out.rt d))):cj n (EA τ fun k=>noex (Hy k)) ds=ER m:=by
 unfold cj EA
 rw[h]
 match m with
 |none=>rfl
 |some (.ok a)=>rfl
 |some (.ex n)=>rfl
def rh{d:D}(h:Plain2 d)(hb:mJ d=false):dS [d]=bz 0:=by
 refine fG (bL (cf (b:=false) (bF ((aj (ds:=[d]) rfl rfl).trans ((lO h).trans (by rw[hb]))))) rfl)
def uK{bd:List Str}{W:Nat}(hg:Brd bd W){d:D}(h:Plain2 d)(hb:rX bd.length W d=false):eE [brd bd,d]=bz 2:=by
 refine fG (bL (cf (b:=false) (bF ((aj (ds:=[brd bd,d]) rfl rfl).trans ((gS hg h).trans (by rw[hb]))))) rfl)
section
variable{bd:List Str}{W w:Nat}{a b c:Cell}
def dY(hg:Brd bd W){x:Cell}(hx:On bd.length W x):aY [brd bd,cD x]=ae (sg (lt bd x)):=aP (aD (vw hg hx rfl rfl))
def nX(bd:List Str)(W w:Nat)(a c:Cell):List Cell:=(fU bd.length W w c).filter fun x=>decide (lt bd x=lt bd a)
def Ga(hw:Ways w)(hc:On bd.length W c)(hl:lt bd c=lt bd a){x:Cell}:x∈nX bd W w a c↔x∈aU bd W w c:=by
 rw[cH hw,hl]
 unfold nX
 rw[Uo,eQ hw hc,decide_eq_true_eq,and_assoc]
def MI(hw:Ways w)(ha:On bd.length W a):∀{j:Nat}{x:Cell},Rb (nX bd W w a) a j x↔Rb (aU bd W w) a j x
 |0,x=>Iff.rfl
 |j+1,x=>by
  show (_\/_)↔(_\/_)
  rw[MI hw ha (j:=j)]
  refine or_congr Iff.rfl (exists_congr fun c=>?_)
  rw[MI hw ha (j:=j)]
  exact and_congr_right fun h=>Ga hw (tq hw ha h) (km hw h)
def fR(bd:List Str)(w:Nat)(a b:Cell)(rows:List (List Cell))(ks:List Cell)(x6 x7 x8:Option Sl):bf:=[fz (brd bd),fz (.int (w:Int)),fz (cD a),fz (cD b),some (.ow (.lst (rows.map cL))),some (.ow (.lst (ks.map cD))),x6,x7,x8]
def lJ(bd:List Str)(a c:Cell)(s:Bk Cell)(x:Cell):Bk Cell:=if decide (lt bd x=lt bd a) then fb c s x else s
def NS:DS:=(bW [8] (el (qN (gA (bH (d2 (gF true) (dV 8) (dV 5))) (bH (d2 gE (aw 2 aY (aC (dV 0) (aC (dV 8) aN))) (aw 2 aY (aC (dV 0) (aC (dV 2) aN))))))) (aA (fQ 5 (dV 8)) (fQ 6 (dV 8))) bS))
def Ce(s:Bk Cell):Option Sl:=some (.ow (.lst (s.fu.map cD)))
def Iy(hg:Brd bd W){rows:List (List Cell)}{s:Bk Cell}{x:Cell}(ha:On bd.length W a)(hx:On bd.length W x)(h:Bok bd.length W s):
 NS (fR bd w a b rows s.ks (Ce s) (fz (cD c)) (fz (cD x)))=ae (.nx (fR bd w a b rows (lJ bd a c s x).ks (Ce (lJ bd a c s x)) (fz (cD c)) none)):=by
 have hle:=h.le
 have hm:bd.length*W<=64:=Uv hg.r8 hg.w8
 have ht:qN (gA (bH (d2 (gF true) (dV 8) (dV 5))) (bH (d2 gE (aw 2 aY (aC (dV 0) (aC (dV 8) aN))) (aw 2 aY (aC (dV 0) (aC (dV 2) aN)))))) (fR bd w a b rows s.ks (Ce s) (fz (cD c)) (fz (cD x)))=ae ((!decide (x∈s.ks))&&decide (lt bd x=lt bd a)):=
  oq (kT (cI ((az (x:=cD x) (y:=cL s.ks) rfl rfl).trans iV)) (cI ((az (x:=sg (lt bd x)) (y:=sg (lt bd a)) ((aj (ds:=[brd bd,cD x]) rfl rfl).trans (dY hg hx)) ((aj (ds:=[brd bd,cD a]) rfl rfl).trans (dY hg ha))).trans (wI _ _))))
 by_cases h2:x∉s.ks/\lt bd x=lt bd a
 ·rw[decide_eq_false h2.1,decide_eq_true h2.2] at ht
  have e:lJ bd a c s x=⟨s.ks++[x],s.ps++[some c],s.fu++[x]⟩:=by
   unfold lJ
   rw[decide_eq_true h2.2,if_pos rfl]
   exact if_neg h2.1
  rw[e]
  have hf:=h.fu
  refine(bt (ρ':=fR bd w a b rows (s.ks++[x]) (Ce ⟨s.ks++[x],s.ps++[some c],s.fu++[x]⟩) (fz (cD c)) (fz (cD x))) (bL ht (ak (ρ':=fR bd w a b rows (s.ks++[x]) (Ce s) (fz (cD c)) (fz (cD x))) ?_ ?_))).trans rfl
  ·show (if (s.ks.map cD).length<lim then ae (Out.nx [fz (brd bd),fz (.int (w:Int)),fz (cD a),fz (cD b),some (.ow (.lst (rows.map cL))),some (.ow (.lst (s.ks.map cD++[cD x]))),Ce s,fz (cD c),fz (cD x)]) else ah)=_
   rw[if_pos (by rw[S6,dz];omega),show s.ks.map cD++[cD x]=(s.ks++[x]).map cD by simp]
   rfl
  ·show (if (s.fu.map cD).length<lim then ae (Out.nx [fz (brd bd),fz (.int (w:Int)),fz (cD a),fz (cD b),some (.ow (.lst (rows.map cL))),some (.ow (.lst ((s.ks++[x]).map cD))),some (.ow (.lst (s.fu.map cD++[cD x]))),fz (cD c),fz (cD x)]) else ah)=_
   rw[if_pos (by rw[S6,dz];omega),show s.fu.map cD++[cD x]=(s.fu++[x]).map cD by simp]
   rfl
 ·have e:lJ bd a c s x=s:=by
   unfold lJ
   by_cases h3:lt bd x=lt bd a
   ·rw[decide_eq_true h3,if_pos rfl]
    exact if_pos (YB.mp fun q=>h2 ⟨q,h3⟩)
   ·rw[decide_eq_false h3]
    rfl
  have e2:((!decide (x∈s.ks))&&decide (lt bd x=lt bd a))=false:=by
   rw[UY]
   intro q
   simp only[Ts,Vj,decide_eq_false_iff_not,decide_eq_true_eq] at q
   exact h2 q
  rw[e2] at ht
  rw[e]
  exact(bt (bR ht rfl)).trans rfl
def NR:DS:=bW [7,8] (dj (putN 8) (cQ (aw 3 a7 (aC (dV 0) (aC (dV 7) (aC (dV 1) aN))))) NS)
def CT(hg:Brd bd W)(hw:Ways w){rows:List (List Cell)}{s:Bk Cell}(ha:On bd.length W a)(hc:On bd.length W c)(h:Bok bd.length W s):
 Bok bd.length W (gR (nX bd W w a) s c)/\NR (fR bd w a b rows s.ks (Ce s) (fz (cD c)) none)=ae (.nx (fR bd w a b rows (gR (nX bd W w a) s c).ks (Ce (gR (nX bd W w a) s c)) none none)):=by
 have ef:gR (nX bd W w a) s c=(fU bd.length W w c).foldl (lJ bd a c) s:=by
  unfold gR nX
  rw[List.foldl_filter]
  rfl
 obtain⟨h1,e⟩:=gu (put:=putN 8) (body:=NS) cD (fun s:Bk Cell=>fR bd w a b rows s.ks (Ce s) (fz (cD c)) none) (lJ bd a c) (Bok bd.length W) (fU bd.length W w c) s h fun s hs x hx=>by
  have hx:=((eQ hw hc).mp hx).1
  refine⟨?_,_,rfl,Iy hg ha hx hs⟩
  unfold lJ
  split
  ·exact hs.step hx
  ·exact hs
 rw[ef]
 refine⟨h1,(bt (dF (wZ ((aj (ds:=[brd bd,cD c, .int (w:Int)]) rfl rfl).trans (eN hg))) e)).trans rfl⟩
def KC:DS:=(bW [6,7,8] (aA (el (qN (bH (d2 (gF false) (dV 3) (d2 bZ (dV 4) (d1 d_ (dC (.int 1))))))) (vZ 4 (a9 (dA bB (aC (dV 4) aN)))) bS) (aA (x_ 6) (aA (dj (putN 7) (cQ (Fo 4 (d1 d_ (dC (.int 1))))) NR) (vZ 6 (fQ 4 (dV 6)))))))
def mR{l:List (List Cell)}{x:List Cell}:bZ (.lst ((l++[x]).map cL)) (.int (-1))=ae (cL x):=by
 show (match L2.atI ((l++[x]).map cL) (-1) with | some d=>ae d | none=>ah)=_
 rw[Vd,List.map_singleton,pj]
def Ac(hg:Brd bd W)(hw:Ways w)(ha:On bd.length W a):∀(fuel k:Nat) (ks:List Cell) (ps:List (Option Cell)) (ring:List Cell) (rs:List (List Cell)),bd.length*W+2<=fuel+k->rs.length=k->Rng (nX bd W w a) a k ks ps ring->(∀x∈ks,On bd.length W x)->(∀j,Rb (nX bd W w a) a j b->k<=j)->
 (∃j,Rb (nX bd W w a) a j b/\(∀i,Rb (nX bd W w a) a i b->j<=i)/\dO (qN (bH (d2 gw (d2 bZ (dV 4) (d1 d_ (dC (.int 1)))) (dA aX aN)))) KC fuel (fR bd w a b (rs++[ring]) ks none none none)=ae (.rt (.int ((j+1:Nat):Int))))\/
 ((∀j,¬Rb (nX bd W w a) a j b)/\∃ρ',dO (qN (bH (d2 gw (d2 bZ (dV 4) (d1 d_ (dC (.int 1)))) (dA aX aN)))) KC fuel (fR bd w a b (rs++[ring]) ks none none none)=ae (.nx ρ'))
 |0,k,ks,ps,ring,rs,hf,hl,hR,uu,hb=>by
  have h1:ks.length<=bd.length*W:=by
   rw[<-bg bd.length W]
   exact jH hR.nd fun x hx=>aJ.mpr (uu x hx)
  have:=hR.sz.1
  omega
 |fuel+1,k,ks,ps,ring,rs,hf,hl,hR,uu,hb=>by
  have hm:bd.length*W<=64:=Uv hg.r8 hg.w8
  have h1:ks.length<=bd.length*W:=by
   rw[<-bg bd.length W]
   exact jH hR.nd fun x hx=>aJ.mpr (uu x hx)
  have hk:=hR.sz.1
  have ht:qN (bH (d2 gw (d2 bZ (dV 4) (d1 d_ (dC (.int 1)))) (dA aX aN))) (fR bd w a b (rs++[ring]) ks none none none)=ae (!decide (ring=[])):=
   oq (cI ((az (x:=cL ring) (y:=cL []) ((az (x:= .lst ((rs++[ring]).map cL)) (y:= .int (-1)) rfl rfl).trans mR) rfl).trans (HN _ _)))
  by_cases hn:ring=[]
  ·rw[decide_eq_true hn] at ht
   refine .inr ⟨fun j hj=>?_,_,mG ht⟩
   subst hn
   have q:=(hR.mem b).mp ((hR.last b).mpr ⟨j,hj⟩)
   exact TK ((hR.rg b).mpr ⟨q,hb⟩)
  ·rw[decide_eq_false hn] at ht
   have hN:=hR.next hn
   have Nm:∀x∈ring,On bd.length W x:=fun x hx=>uu x ((hR.mem x).mpr ((hR.rg x).mp hx).1)
   have t2:qN (bH (d2 (gF false) (dV 3) (d2 bZ (dV 4) (d1 d_ (dC (.int 1)))))) (fR bd w a b (rs++[ring]) ks none none none)=ae (decide (b∈ring)):=
    oq (cI ((az (x:=cD b) (y:=cL ring) rfl ((az (x:= .lst ((rs++[ring]).map cL)) (y:= .int (-1)) rfl rfl).trans mR)).trans iV))
   by_cases Nf:b∈ring
   ·rw[decide_eq_true Nf] at t2
    obtain⟨q1,q2⟩:=(hR.rg b).mp Nf
    refine .inl ⟨k,q1,q2,?_⟩
    have Nd:KC (fR bd w a b (rs++[ring]) ks none none none)=ae (.rt (.int ((k+1:Nat):Int))):=by
     refine mx (a8 (bL t2 (show a9 (dA bB (aC (dV 4) aN)) _=_ from aD ((cO (xs:=[.lst ((rs++[ring]).map cL)]) rfl).trans ?_))))
     show ae (D.int (((rs++[ring]).map cL).length:Int))=_
     rw[S6,Ti,hl]
     rfl
    unfold dO
    rw[ht]
    show (KC _>>=_)=_
    rw[Nd]
    rfl
   ·rw[decide_eq_false Nf] at t2
    have yx:∀j,Rb (nX bd W w a) a j b->k+1<=j:=fun j hj=>by
     have:=hb j hj
     by_cases h3:j=k
     ·subst h3
      exact absurd ((hR.rg b).mpr ⟨hj,hb⟩) Nf
     ·omega
    obtain⟨hB,e⟩:=gu (put:=putN 7) (body:=NR) cD (fun s:Bk Cell=>fR bd w a b (rs++[ring]) s.ks (Ce s) none none) (gR (nX bd W w a)) (Bok bd.length W) ring ⟨ks,ps,[]⟩ ⟨hR.len,hR.nd,uu,Ue _⟩ fun s hs c hc=>
     ⟨(CT (b:=b) (rows:=rs++[ring]) hg hw ha (Nm c hc) hs).1,_,rfl,(CT hg hw ha (Nm c hc) hs).2⟩
    have hB:Bok bd.length W (cb (nX bd W w a) ⟨ks,ps,[]⟩ ring):=hB
    have Nd:KC (fR bd w a b (rs++[ring]) ks none none none)=ae (.nx (fR bd w a b ((rs++[ring])++[(cb (nX bd W w a) ⟨ks,ps,[]⟩ ring).fu]) (cb (nX bd W w a) ⟨ks,ps,[]⟩ ring).ks none none none)):=by
     refine(bt (ρ':=fR bd w a b ((rs++[ring])++[(cb (nX bd W w a) ⟨ks,ps,[]⟩ ring).fu]) (cb (nX bd W w a) ⟨ks,ps,[]⟩ ring).ks (fz (cL (cb (nX bd W w a) ⟨ks,ps,[]⟩ ring).fu)) none none) ?_).trans rfl
     refine ak (bR t2 rfl) (ak (ρ':=fR bd w a b (rs++[ring]) ks (Ce ⟨ks,ps,[]⟩) none none) rfl (ak (ρ':=fR bd w a b (rs++[ring]) (cb (nX bd W w a) ⟨ks,ps,[]⟩ ring).ks (Ce (cb (nX bd W w a) ⟨ks,ps,[]⟩ ring)) none none) (dF (wZ ?_) e) ?_))
     ·show bZ (.lst ((rs++[ring]).map cL)) (.int (-1))=_
      exact mR
     ·show (if ((rs++[ring]).map cL).length<lim then ae (Out.nx [fz (brd bd),fz (.int (w:Int)),fz (cD a),fz (cD b),some (.ow (.lst ((rs++[ring]).map cL++[cL (cb (nX bd W w a) ⟨ks,ps,[]⟩ ring).fu]))),some (.ow (.lst ((cb (nX bd W w a) ⟨ks,ps,[]⟩ ring).ks.map cD))),fz (cL (cb (nX bd W w a) ⟨ks,ps,[]⟩ ring).fu),none,none]) else ah)=_
      rw[if_pos (by rw[S6,Ti,hl,dz];simp;omega),show∀l:List (List Cell),∀x,l.map cL++[cL x]=(l++[x]).map cL from fun l x=>by simp]
      rfl
    rcases Ac hg hw ha fuel (k+1) _ _ _ (rs++[ring]) (by omega) (by rw[Ti,hl];rfl) hN hB.on yx with⟨j,j1,j2,j3⟩ | ⟨j1,ρ',j2⟩
    ·exact .inl ⟨j,j1,j2,iP ht Nd j3⟩
    ·exact .inr ⟨j1,ρ',iP ht Nd j2⟩
def nO(hg:Brd bd W)(hw:Ways w)(ha:On bd.length W a):
 (∃j,Rb (aU bd W w) a j b/\(∀i,Rb (aU bd W w) a i b->j<=i)/\eD [brd bd, .int (w:Int),cD a,cD b]=ae (.int ((j+1:Nat):Int)))\/
 (¬Cn bd W w a b/\eD [brd bd, .int (w:Int),cD a,cD b]=ae .non):=by
 have hm:bd.length*W<=64:=Uv hg.r8 hg.w8
 have pre:∀{o:M Out},aA (fun ρ=>noex ((lr (qN (bH (d2 gw (d2 bZ (dV 4) (d1 d_ (dC (.int 1)))) (dA aX aN)))) KC) ρ)) (a9 (dC .non)) (fR bd w a b ([]++[[a]]) [a] none none none)=o->tQ [fz (brd bd),fz (.int (w:Int)),fz (cD a),fz (cD b),none,none,none,none,none]=o:=fun h=>
  ak (l6 rfl) (ak (l6 rfl) h)
 rcases Ac (b:=b) hg hw ha lim 0 [a] [none] [a] [] (by rw[dz];omega) rfl (Rng.zero _ a) (fun x hx=>(show x=a by simpa using hx)▸ha) (fun _ _=>Ue _) with⟨j,j1,j2,j3⟩ | ⟨j1,ρ',j2⟩
 ·exact .inl ⟨j,(MI hw ha).mp j1,fun i hi=>j2 i ((MI hw ha).mpr hi),aP (pre (a8 (cK j3)))⟩
 ·exact .inr ⟨fun ⟨j,hj⟩=>j1 j ((MI hw ha).mpr hj),aP (pre (ak (cK j2) rfl))⟩
def zw(hw:Ways w)(ha:On bd.length W a):∀{j:Nat}{x:Cell},Rb (aU bd W w) a j x->∃p,IsWay bd W w a x p/\p.length<=j+1
 |0,x,h=>by
  have h:x=a:=h
  subst h
  exact⟨[x],IsWay.one ha,Tg _⟩
 |j+1,x, .inl h=>by
  obtain⟨p,p1,p2⟩:=zw hw ha h
  exact⟨p,p1,by omega⟩
 |j+1,x, .inr ⟨c,h,h2⟩=>by
  obtain⟨p,p1,p2⟩:=zw hw ha h
  obtain⟨q1,q2,q3⟩:=(cH hw).mp h2
  refine⟨p++[x],⟨fun y hy=>?_,?_,by simp,fun y hy=>?_,?_⟩,by rw[Ti];simp;omega⟩
  ·rcases Ui.mp hy with q | q
   ·exact p1.on y q
   ·exact(show y=x by simpa using q)▸q1
  ·have:=p1.hd
   cases p with
   |nil=>cases this
   |cons z r=>exact this
  ·rcases Ui.mp hy with q | q
   ·exact p1.let' y q
   ·rw[show y=x by simpa using q,q3]
    exact km hw h
  ·rw[pd p1.lst (q:=[x]) rfl,p1.adj,q2]
   rfl
end
section
variable{bd:List Str}{W w:Nat}{a b:Cell}
def tU(x:Cell):∀l:List Cell,anyF (cD x) (l.map cD)=some (decide (x∈l))
 |[]=>by simp[anyF]
 |a::l=>by
  show (match ju 6 (cD a) (cD x),anyF (cD x) (l.map cD) with | some p,some q=>some (p||q) | _,_=>none)=_
  rw[tU x l,show ju 6 (cD a) (cD x)=some (decide (a=x)) from uh 5 a x]
  show some (decide (a=x)||decide (x∈l))=_
  congr 1
  rw[Vg,XO,decide_eq_true_eq,decide_eq_true_eq,decide_eq_true_eq,Th]
  exact or_congr ⟨Eq.symm,Eq.symm⟩ Iff.rfl
def zW:∀l:List Cell,∃r,anyF (.tup [.bl true, .int 0]) (l.map cD)=some r
 |[]=>⟨false,rfl⟩
 |a::l=>by
  obtain⟨r,e⟩:=zW l
  refine⟨(((a.1:Int)==1)&&(((a.2:Int)==0)&&true))||r,?_⟩
  show (match some (((a.1:Int)==1)&&(((a.2:Int)==0)&&true)),anyF (.tup [.bl true, .int 0]) (l.map cD) with | some p,some q=>some (p||q) | _,_=>none)=_
  rw[e]
def QR:DT:=(fS (bV (bE (dA fX (aC (dV 3) (aC (dC (.raw (.ty "tuple"))) aN))))) (fS (bH (d2 (Bd true) (dV 3) (dV 2))) (bE (dA fX (aC (d2 aZ (dV 3) (dC (.int 0))) (aC (dC (.raw (.ty "bool"))) aN))))))
def Na:DS:=bW [3] (el QR (a9 (dC (.bl false))) bS)
def E4(bd:List Str)(W:Nat)(t:D)(x3:Option Sl):bf:=[fz (brd bd),fz t,fz (cL (ax bd.length W)),x3]
def FD{t:D}{x:Cell}(hx:On bd.length W x):Na (E4 bd W t (fz (cD x)))=ae (.nx (E4 bd W t none)):=by
 refine(bt (bR (fZ (p:=false) (q:=false) (cf (b:=true) (bF rfl)) (fZ (p:=false) (q:=false) (cI ((az (x:=cD x) (y:=cL (ax bd.length W)) rfl rfl).trans ?_)) (bF rfl))) rfl)).trans rfl
 show (match anyF (cD x) ((ax bd.length W).map cD) with | some r=>ae (D.bl (if true then !r else r)) | none=>ah)=_
 rw[tU,decide_eq_true (aJ.mpr hx)]
 rfl
inductive Bad (R W:Nat):D->Prop where
 |non:Bad R W .non
 |int (i:Int):Bad R W (.int i)
 |lst (l:List D):Bad R W (.lst l)
 |tr:Bad R W (.tup [.bl true, .int 0])
 |far (x:Cell) (h:¬On R W x):Bad R W (cD x)
def IF{t d:D}(h:Bad bd.length W d):Na (E4 bd W t (fz d))=ae (.rt (.bl false)):=by
 refine mx (bL ?_ (aD rfl))
 cases h with
 |non=>exact jt (cf (b:=false) (bF rfl))
 |int i=>exact jt (cf (b:=false) (bF rfl))
 |lst l=>exact jt (cf (b:=false) (bF rfl))
 |tr=>
  obtain⟨r,e⟩:=zW (ax bd.length W)
  have t1:bH (d2 (Bd true) (dV 3) (dV 2)) (E4 bd W t (fz (.tup [.bl true, .int 0])))=ae (!r):=by
   refine cI ((az (x:= .tup [.bl true, .int 0]) (y:=cL (ax bd.length W)) rfl rfl).trans ?_)
   show (match anyF (.tup [.bl true, .int 0]) ((ax bd.length W).map cD) with | some r=>ae (D.bl (if true then !r else r)) | none=>ah)=_
   rw[e]
   rfl
  refine(fZ (p:=false) (cf (b:=true) (bF rfl)) (fZ (q:=true) t1 (bF rfl))).trans ?_
  cases r<;>rfl
 |far x h=>
  refine(fZ (p:=false) (q:=true) (cf (b:=true) (bF rfl)) (jt (cI ((az (x:=cD x) (y:=cL (ax bd.length W)) rfl rfl).trans ?_)))).trans rfl
  show (match anyF (cD x) ((ax bd.length W).map cD) with | some r=>ae (D.bl (if true then !r else r)) | none=>ah)=_
  rw[tU,decide_eq_false fun q=>h (aJ.mp q)]
  rfl
def Bad.cell{R W:Nat}{d:D}(h:Bad R W d):Plain2 d/\rX R W d=false:=by
 cases h with
 |non=>exact⟨UB,rfl⟩
 |int i=>exact⟨UB,rfl⟩
 |lst l=>exact⟨UB,rfl⟩
 |tr=>
  refine⟨fun d hd=>?_,rfl⟩
  simp only[Th,TK,or_false] at hd
  rcases hd with rfl | rfl<;>exact UB
 |far x h=>
  refine⟨lG,?_⟩
  show ((decide ((0:Int)<=(x.1:Int))&&decide ((x.1:Int)<(R:Int)))&&(decide ((0:Int)<=(x.2:Int))&&decide ((x.2:Int)<(W:Int))))=false
  rw[UY]
  intro q
  simp only[Ts,decide_eq_true_eq] at q
  exact h ⟨by omega,by omega⟩
def uo{t:D}{r:List D}{o:M Out}:∀(l:List Cell),(∀x∈l,On bd.length W x)->forL (putN 3) Na r (E4 bd W t none)=o->forL (putN 3) Na (l.map cD++r) (E4 bd W t none)=o
 |[],_,h=>h
 |x::l,hl,h=>(dX (ρ1:=E4 bd W t (fz (cD x))) rfl (FD (hl x (Ta ..)))).trans (uo l (fun y hy=>hl y (S9 _ hy)) h)
def uq{ds:List D}{x3 x4:Option Sl}{q:Bool}(h:gE (.lst ds) (.lst [])=ae (.bl q)):fS (bV (bE (dA fX (aC (dV 1) (aC (dC (.raw (.ty "list"))) aN))))) (bH (d2 gE (dV 1) (dA aX aN))) [fz (brd bd),fz (.lst ds),x3,x4]=ae q:=
 (fZ (p:=false) (cf (b:=true) (bF rfl)) (cI ((az (x:= .lst ds) (y:= .lst []) rfl rfl).trans h))).trans rfl
def lS:cp [brd bd, .lst []]=ae (.bl false):=aP (a8 (bL (uq rfl) (aD rfl)))
def pW(hg:Brd bd W){x:Cell}{l:List Cell}(hl:∀y∈x::l,On bd.length W y):cp [brd bd,cL (x::l)]=ae (.bl true):=by
 refine aP (ak (bR (uq (eq_nil _)) rfl) (ak (ρ':=E4 bd W (cL (x::l)) none) ((aM ((aj (ds:=[brd bd]) rfl rfl).trans (dw hg))).trans rfl) (ak (ρ':=E4 bd W (cL (x::l)) none) (cK (dF (FO rfl) ?_)) rfl)))
 have:=uo (bd:=bd) (W:=W) (t:=cL (x::l)) (r:=[]) (x::l) hl rfl
 rw[T9] at this
 exact this
def uF(hg:Brd bd W){l:List Cell}{d:D}(hl:∀y∈l,On bd.length W y)(hd:Bad bd.length W d):cp [brd bd, .lst (l.map cD++[d])]=ae (.bl false):=by
 have e:gE (.lst (l.map cD++[d])) (.lst [])=ae (.bl false):=by cases l<;>rfl
 refine aP (ak (bR (uq e) rfl) (ak (ρ':=E4 bd W (.lst (l.map cD++[d])) none) ((aM ((aj (ds:=[brd bd]) rfl rfl).trans (dw hg))).trans rfl) (a8 (cK (dF (FO rfl) (uo l hl ?_))))))
 exact oX rfl (IF hd)
def pZ(hg:Brd bd W){l:List Cell}{d:D}(hl:∀y∈l,On bd.length W y)(hn:l.length<=4000)(hd:Bad bd.length W d):bb [brd bd, .lst (l.map cD++[d])]=ae (.bl false):=by
 have ha:dA allM (aC (bA 0 (cQ (dV 1)) cw (aw 2 fi (aC (dV 1) (aC (dV 0) aN)))) aN) [fz (brd bd),fz (.lst (l.map cD++[d]))]=ae (.bl ((l.map cD++[d]).all (rX bd.length W))):=by
  refine jo (enc:=id) (by rw[List.map_id];exact FO rfl) (fun x hx=>(aj (ds:=[brd bd,x]) rfl rfl).trans (gS hg ?_)) (by rw[Ti,S6];simp;omega)
  rcases Ui.mp hx with q | q
  ·obtain⟨y,_,rfl⟩:=TJ.mp q
   exact lG
  ·exact(show x=d by simpa using q)▸hd.cell.1
 refine aP (aD ((uf (p:=true) rfl ha).trans ?_))
 rw[List.all_append,UR,hd.cell.2,WS,WT]
 rfl
inductive Odd (R W:Nat):D->Prop where
 |non:Odd R W .non
 |tup (l:List D):Odd R W (.tup l)
 |lst (l:List Cell) (d:D) (hl:∀y∈l,On R W y) (hn:l.length<=4000) (h:Bad R W d):Odd R W (.lst (l.map cD++[d]))
def Odd.vals(hg:Brd bd W){t:D}(h:Odd bd.length W t):cp [brd bd,t]=ae (.bl false)/\bb [brd bd,t]=ae (.bl false):=by
 cases h with
 |non=>exact⟨aP (a8 (bL (jt (cf (b:=false) (bF rfl))) (aD rfl))),aP (aD (z5 rfl))⟩
 |tup l=>exact⟨aP (a8 (bL (jt (cf (b:=false) (bF rfl))) (aD rfl))),aP (aD (z5 rfl))⟩
 |lst l d hl hn h=>exact⟨uF hg hl h,pZ hg hl hn h⟩
def DM(hg:Brd bd W)(hw:Ways w)(ha:On bd.length W a)(hb:On bd.length W b){t:D}(h:Odd bd.length W t):
 (b6 [brd bd, .int (w:Int),cD a,cD b,t]=ae (.bl false)/\c7 [brd bd, .int (w:Int),cD a,cD b,t]=ae (.bl false))/\
 eM [brd bd, .int (w:Int),cD a,cD b,t]=ae (.bl false)/\da [brd bd, .int (w:Int),cD a,cD b,t]=ae (.bl false):=by
 obtain⟨h1,h2⟩:=h.vals hg
 have two:=iN hg hw ha hb
 exact⟨⟨aP (a8 (bL (jt (cf (b:=false) (bF ((aj (ds:=[brd bd,t]) rfl rfl).trans h1)))) (aD rfl))),
  aP (a8 (bL (jt (cf (b:=false) (bF ((aj (ds:=[brd bd,t]) rfl rfl).trans h1)))) (aD rfl)))⟩,
  aP (ak (cx ((aj (ds:=[brd bd, .int (w:Int),cD a,cD b]) rfl rfl).trans two)) (a8 (bL (jt (cf (b:=false) (bF ((aj (ds:=[brd bd,t]) rfl rfl).trans h2)))) (aD rfl)))),
  aP (ak (cx ((aj (ds:=[brd bd, .int (w:Int),cD a,cD b]) rfl rfl).trans two)) (a8 (bL (cf (b:=false) (bF ((aj (ds:=[brd bd,t]) rfl rfl).trans h2))) (aD rfl))))⟩
end
section
variable{bd:List Str}{W w:Nat}{a b c:Cell}
def Md(a b:Nat):gw (sg a) (sg b)=ae (.bl (!decide (a=b))):=by
 show ae (D.bl (!decide ((⟨#[a]⟩:Str)=⟨#[b]⟩)))=_
 congr 3
 by_cases h:a=b
 ·subst h;simp
 ·rw[decide_eq_false h,decide_eq_false fun z=>h (by injection z with z;simpa using z)]
def pw(p:List Cell):List (Cell×Cell):=p.zip p.tail
def Nz(q:Cell×Cell):D:= .tup [cD q.1,cD q.2]
def Kw(p:List Cell)(h:1<=p.length):B_ [cL p,cL p.tail]=ae ((pw p).map Nz):=by
 show ae (((p.map cD).zip (p.tail.map cD)).map fun q=>D.tup [q.1,q.2])=_
 rw[List.zip_map,UQ]
 rfl
def J9{p:List Cell}{q:Cell×Cell}(h:q∈pw p):q.1∈p/\q.2∈p:=by
 obtain⟨x,y⟩:=q
 exact⟨(VB h).1,List.mem_of_mem_tail (VB h).2⟩
def Ep(w:Nat):∀p:List Cell,(pw p).all (fun q=>ir w q.1 q.2)=jm w p
 |[]=>rfl
 |[x]=>rfl
 |x::y::r=>by
  show (ir w x y&&(pw (y::r)).all fun q=>ir w q.1 q.2)=(ir w x y&&jm w (y::r))
  rw[Ep w (y::r)]
def wu{f:D->M (Option D)}(g:Cell×Cell->Bool):∀l:List (Cell×Cell),(∀q∈l,f (Nz q)=ae (if g q then none else some (cD q.1)))->eh f (l.map Nz)=ae (((l.filter fun q=>!g q).map (·.1)).map cD)
 |[],_=>rfl
 |q::l,h=>by
  rw[Tf,fe,h q (Ta ..),wu g l fun y hy=>h y (S9 _ hy)]
  cases e:g q
  ·rw[Wq (by rw[e];rfl)]
   rfl
  ·rw[Wr (by rw[e];simp)]
   rfl
def Ad{α:Type}(g:α->Bool)(l:List α):decide (l.filter (fun q=>!g q)=[])=l.all g:=by
 rw[Vg,decide_eq_true_eq,YA,T2]
 exact forall_congr' fun x=>forall_congr' fun _=>by simp
def jC(hg:Brd bd W)(hw:Ways w)(ha:On bd.length W a){p:List Cell}(hp:∀x∈p,On bd.length W x)(hl:p.length<=4000):
 b6 [brd bd, .int (w:Int),cD a,cD b,cL p]=ae (.bl (vN bd w a b p)):=by
 cases p with
 |nil=>exact aP (a8 (bL (jt (cf (b:=false) (bF ((aj (ds:=[brd bd, .lst []]) rfl rfl).trans lS)))) (aD rfl)))
 |cons x r=>
  obtain⟨l,y,e⟩:∃l y,x::r=l++[y]:=⟨(x::r).dropLast,(x::r).getLast (by simp),(XC (by simp)).symm⟩
  have hy:(x::r).getLast? =some y:=by rw[e];simp
  have t1:fS (bV (bE (aw 2 cp (aC (dV 0) (aC (dV 4) aN))))) (fS (bH (d2 gw (d2 bZ (dV 4) (dC (.int 0))) (dV 2))) (bH (d2 gw (d2 bZ (dV 4) (d1 d_ (dC (.int 1)))) (dV 3)))) [fz (brd bd),fz (.int (w:Int)),fz (cD a),fz (cD b),fz (cL (x::r))]=ae ((!decide (x=a))||(!decide (y=b))):=by
   refine(fZ (p:=false) (cf (b:=true) (bF ((aj (ds:=[brd bd,cL (x::r)]) rfl rfl).trans (pW hg hp)))) (fZ (cI ((az (x:=cD x) (y:=cD a) ((az (x:=cL (x::r)) (y:= .int 0) rfl rfl).trans (wV rfl)) rfl).trans (qa _ _))) (cI ((az (x:=cD y) (y:=cD b) ((az (x:=cL (x::r)) (y:= .int (-1)) rfl rfl).trans ?_) rfl).trans (qa _ _))))).trans rfl
   rw[e]
   exact jA
  have Ox:vN bd w a b (x::r)=((decide (x=a)&&decide (y=b))&&((x::r).all (fun z=>decide (lt bd z=lt bd a))&&jm w (x::r))):=by
   unfold vN
   rw[hy,show (x::r).head? =some x from rfl]
   simp only[Yl]
  rw[Ox]
  have t2:bH (d2 gw (bA 0 (cQ (dV 4)) (bH (d2 gw (aw 2 aY (aC (dV 1) (aC (dV 0) aN))) (aw 2 aY (aC (dV 1) (aC (dV 3) aN))))) (dV 0)) (dA aX aN)) [fz (brd bd),fz (.int (w:Int)),fz (cD a),fz (cD b),fz (cL (x::r))]=ae (!(x::r).all fun z=>decide (lt bd z=lt bd a)):=by
   rw[<-Ad]
   refine cI ((az (x:=cL ((x::r).filter fun z=>!decide (lt bd z=lt bd a))) (y:=cL []) ?_ rfl).trans (HN _ _))
   refine cG (FO rfl) (j_ cD _ (x::r) fun z hz=>?_) (by rw[S6];exact Tw (Uh ..) (by rw[dz];omega))
   rw[yM]
   have:bH (d2 gw (aw 2 aY (aC (dV 1) (aC (dV 0) aN))) (aw 2 aY (aC (dV 1) (aC (dV 3) aN)))) [fz (cD z),fz (brd bd),fz (.int (w:Int)),fz (cD a),fz (cD b),fz (cL (x::r))]=ae (!decide (lt bd z=lt bd a)):=
    cI ((az (x:=sg (lt bd z)) (y:=sg (lt bd a)) ((aj (ds:=[brd bd,cD z]) rfl rfl).trans (dY hg (hp z hz))) ((aj (ds:=[brd bd,cD a]) rfl rfl).trans (dY hg ha))).trans (Md _ _))
   rw[this]
   cases decide (lt bd z=lt bd a)<;>rfl
  cases h1:(decide (x=a)&&decide (y=b)) with
  |false=>
   have e1:((!decide (x=a))||(!decide (y=b)))=true:=by rw[<-Bool.not_and,h1];rfl
   rw[e1] at t1
   exact aP (a8 (bL t1 (aD rfl)))
  |true=>
   have e1:((!decide (x=a))||(!decide (y=b)))=false:=by rw[<-Bool.not_and,h1];rfl
   rw[e1] at t1
   refine aP (ak (bR t1 rfl) ?_)
   cases h2:(x::r).all (fun z=>decide (lt bd z=lt bd a)) with
   |false=>
    rw[h2] at t2
    exact a8 (bL t2 (aD rfl))
   |true=>
    rw[h2] at t2
    refine ak (bR t2 rfl) (aD ?_)
    rw[US,US,<-Ep,<-Ad]
    have hd:decide ((pw (x::r)).filter (fun q=>!ir w q.1 q.2)=[])=decide (((pw (x::r)).filter fun q=>!ir w q.1 q.2).map (·.1)=[]):=by
     rw[Vg,decide_eq_true_eq,decide_eq_true_eq,List.map_eq_nil_iff]
    rw[hd]
    refine(az (x:=cL (((pw (x::r)).filter fun q=>!ir w q.1 q.2).map (·.1))) (y:=cL []) ?_ rfl).trans (Lj _ _)
    refine cG (ds:=(pw (x::r)).map Nz) ?_ (wu (fun q=>ir w q.1 q.2) _ fun q hq=>?_) ?_
    ·show ((aC (dV 4) (aC (Fp (dV 4) (oS (dC (.int 1))) oN) aN)) _>>=B_)=_
     rw[aS (x:=cL (x::r)) rfl (aS (x:=cL (x::r).tail) (Hf (by simp)) rfl)]
     exact Kw _ (by simp)
    ·obtain⟨q1,q2⟩:=J9 hq
     have:bH (d2 (gF true) (dV 1) (aw 3 a7 (aC (dV 2) (aC (dV 0) (aC (dV 3) aN))))) [fz (cD q.1),fz (cD q.2),fz (brd bd),fz (.int (w:Int)),fz (cD a),fz (cD b),fz (cL (x::r))]=ae (!ir w q.1 q.2):=by
      refine cI ((az (x:=cD q.2) (y:=cL (fU bd.length W w q.1)) rfl ((aj (ds:=[brd bd,cD q.1, .int (w:Int)]) rfl rfl).trans (eN hg))).trans (iV.trans ?_))
      congr 2
      show (!decide (q.2∈fU bd.length W w q.1))=_
      congr 1
      rw[Vg,decide_eq_true_eq,eQ hw (hp _ q1)]
      exact and_iff_right (hp _ q2)
     show (bH _ [fz (cD q.1),fz (cD q.2),fz (brd bd),fz (.int (w:Int)),fz (cD a),fz (cD b),fz (cL (x::r))]>>=_)=_
     rw[this]
     cases ir w q.1 q.2<;>rfl
    ·rw[S6,S6]
     refine Tw (Uh ..) ?_
     unfold pw
     rw[XG,dz]
     omega
def Fy(bd:List Str)(l:List Cell)(c x:Cell):Bool:=(!decide (x∈l))&&decide (lt bd x=lt bd c)
def NT:DT:=(gA (bH (d2 (gF true) (dV 6) (dV 4))) (bH (d2 gE (aw 2 aY (aC (dV 0) (aC (dV 6) aN))) (aw 2 aY (aC (dV 0) (aC (dV 5) aN))))))
def Ba(bd:List Str)(w:Nat)(a b:Cell)(l:List Cell)(x5 x6:Option Sl):bf:=[fz (brd bd),fz (.int (w:Int)),fz (cD a),fz (cD b),fz (cL l),x5,x6]
def Hs(hg:Brd bd W)(hc:On bd.length W c){l:List Cell}:∀xs:List Cell,(∀x∈xs,On bd.length W x)->forL (putN 6) (bW [6] (el NT (a9 (dC (.bl false))) bS)) (xs.map cD) (Ba bd w a b l (fz (cD c)) none)=ae (if xs.any (Fy bd l c) then .rt (.bl false) else .nx (Ba bd w a b l (fz (cD c)) none))
 |[],_=>rfl
 |x::xs,h=>by
  have ht:NT (Ba bd w a b l (fz (cD c)) (fz (cD x)))=ae (Fy bd l c x):=
   kT (cI ((az (x:=cD x) (y:=cL l) rfl rfl).trans iV)) (cI ((az (x:=sg (lt bd x)) (y:=sg (lt bd c)) ((aj (ds:=[brd bd,cD x]) rfl rfl).trans (dY hg (h x (Ta ..)))) ((aj (ds:=[brd bd,cD c]) rfl rfl).trans (dY hg hc))).trans (wI _ _)))
  rw[U0]
  cases e:Fy bd l c x with
  |true=>
   rw[e] at ht
   exact oX (ρ1:=Ba bd w a b l (fz (cD c)) (fz (cD x))) rfl (mx (bL ht (aD rfl)))
  |false=>
   rw[e] at ht
   exact(dX (ρ1:=Ba bd w a b l (fz (cD c)) (fz (cD x))) (ρ2:=Ba bd w a b l (fz (cD c)) none) rfl ((bt (bR ht rfl)).trans rfl)).trans (Hs hg hc xs fun y hy=>h y (S9 _ hy))
def QO:DS:=(bW [5,6] (dj (putN 6) (cQ (aw 3 a7 (aC (dV 0) (aC (dV 5) (aC (dV 1) aN))))) (bW [6] (el NT (a9 (dC (.bl false))) bS))))
def CU(hg:Brd bd W)(hw:Ways w){l:List Cell}:∀cs:List Cell,(∀x∈cs,On bd.length W x)->forL (putN 5) QO (cs.map cD) (Ba bd w a b l none none)=ae (if cs.any (fun c=>(fU bd.length W w c).any (Fy bd l c)) then .rt (.bl false) else .nx (Ba bd w a b l none none))
 |[],_=>rfl
 |c::cs,h=>by
  have hc:=h c (Ta ..)
  have e1:=Hs (w:=w) (a:=a) (b:=b) (l:=l) hg hc (fU bd.length W w c) fun x hx=>((eQ hw hc).mp hx).1
  have e2:cQ (aw 3 a7 (aC (dV 0) (aC (dV 5) (aC (dV 1) aN)))) (Ba bd w a b l (fz (cD c)) none)=ae ((fU bd.length W w c).map cD):=wZ ((aj (ds:=[brd bd,cD c, .int (w:Int)]) rfl rfl).trans (eN hg))
  rw[U0]
  cases e:(fU bd.length W w c).any (Fy bd l c) with
  |true=>
   rw[e] at e1
   exact oX (ρ1:=Ba bd w a b l (fz (cD c)) none) rfl (mx (dF e2 e1))
  |false=>
   rw[e] at e1
   exact(dX (ρ1:=Ba bd w a b l (fz (cD c)) none) (ρ2:=Ba bd w a b l none none) rfl ((bt (dF e2 e1)).trans rfl)).trans (CU hg hw cs fun y hy=>h y (S9 _ hy))
def rb(hg:Brd bd W)(hw:Ways w){l:List Cell}(hp:∀x∈l,On bd.length W x):
 c7 [brd bd, .int (w:Int),cD a,cD b,cL l]=ae (.bl (hJ bd W w a b l)):=by
 cases l with
 |nil=>exact aP (a8 (bL (jt (cf (b:=false) (bF ((aj (ds:=[brd bd, .lst []]) rfl rfl).trans lS)))) (aD rfl)))
 |cons x r=>
  generalize hl:x::r=l at*
  have Rq:cp [brd bd,cL l]=ae (.bl true):=by subst hl;exact pW hg hp
  have t1:fS (bV (bE (aw 2 cp (aC (dV 0) (aC (dV 4) aN))))) (fS (bH (d2 (gF true) (dV 2) (dV 4))) (bH (d2 (gF false) (dV 3) (dV 4)))) (Ba bd w a b l none none)=ae ((!decide (a∈l))||decide (b∈l)):=
   (fZ (p:=false) (cf (b:=true) (bF ((aj (ds:=[brd bd,cL l]) rfl rfl).trans Rq))) (fZ (cI ((az (x:=cD a) (y:=cL l) rfl rfl).trans iV)) (cI ((az (x:=cD b) (y:=cL l) rfl rfl).trans iV)))).trans rfl
  by_cases hc:a∈l/\b∉l
  ·rw[decide_eq_true hc.1,decide_eq_false hc.2] at t1
   have hf:=CU (a:=a) (b:=b) (l:=l) hg hw l hp
   have hq:hJ bd W w a b l=!l.any (fun c=>(fU bd.length W w c).any (Fy bd l c)):=by
    rw[Vg,kW,Vj,Wh]
    refine⟨fun ⟨_,_,h⟩ c Dd=>?_,fun h=>⟨hc.1,hc.2,fun c Dd x hx=>?_⟩⟩
    ·rw[Xv,Wh]
     intro x hx hy
     unfold Fy at hy
     rw[Ts,Vj,decide_eq_false_iff_not,decide_eq_true_eq] at hy
     obtain⟨q1,q2⟩:=(eQ hw (hp c Dd)).mp hx
     exact hy.1 (h c Dd x ((cH hw).mpr ⟨q1,q2,hy.2⟩))
    ·obtain⟨q1,q2,q3⟩:=(cH hw).mp hx
     have h4:=h c Dd
     rw[Xv,Wh] at h4
     have h5:=h4 x ((eQ hw (hp c Dd)).mpr ⟨q1,q2⟩)
     unfold Fy at h5
     rw[decide_eq_true q3,Xc,Xv,Bool.not_eq_false',decide_eq_true_eq] at h5
     exact h5
   rw[hq]
   refine aP (ak (bR t1 rfl) ?_)
   cases e:l.any (fun c=>(fU bd.length W w c).any (Fy bd l c)) with
   |true=>
    rw[e] at hf
    exact a8 (cK (dF (FO rfl) hf))
   |false=>
    rw[e] at hf
    exact ak (cK (dF (FO rfl) hf)) rfl
  ·have e1:((!decide (a∈l))||decide (b∈l))=true:=by
    by_cases q:a∈l
    ·have:b∈l:=YB.mp fun z=>hc ⟨q,z⟩
     simp[q,this]
    ·simp[q]
   rw[e1] at t1
   have hq:hJ bd W w a b l=false:=by
    rw[UY]
    exact fun z=>hc ⟨(kW.mp z).1,(kW.mp z).2.1⟩
   rw[hq]
   exact aP (a8 (bL t1 (aD rfl)))
end
def K8{α β:Type}{m:M α}{x:α}{f:α->M β}{r:M β}(h:m=ae x)(h2:f x=r):(m>>=f)=r:=by
 rw[h]
 exact h2
def zX{i:Nat}{ρ:bf}{ds:List D}{δ:DE}{d:D}(h:zq ρ i=some ds)(h2:δ ρ=ae d)(hl:ds.length<lim):fQ i δ ρ=ae (.nx (ρ.set i (some (.ow (.lst (ds++[d])))))):=by
 unfold fQ
 rw[h]
 exact K8 h2 (if_pos hl)
def EN{x w p q t:D}:aG [.int 0,x,w,p,q,t]=ER (dR [x,w,p,q]):=o8 (m:=dR [x,w,p,q]) (AM (bL rfl rfl))
def EO{x w p q t:D}:aG [.int 1,x,w,p,q,t]=ER (kB [x,w,p,q]):=o8 (m:=kB [x,w,p,q]) (AM (bL rfl rfl))
def Ia{x w p q t:D}:aG [.int 2,x,w,p,q,t]=ER (eM [x,w,p,q,t]):=o8 (m:=eM [x,w,p,q,t]) (ak (bR rfl rfl) rfl)
def Ib{x w p q t:D}:aG [.int 3,x,w,p,q,t]=ER (da [x,w,p,q,t]):=o8 (m:=da [x,w,p,q,t]) (ak (bR rfl rfl) rfl)
def o7{x w p q t:D}{n:Nat}(h:aQ [x,w,p,q]=bz n)(k:Nat)(hk:k<4):aG [.int (k:Int),x,w,p,q,t]=noex (Hy n):=by
 have e0:dR [x,w,p,q]=bz n:=fG (i8 (g6 ((aj (ds:=[x,w,p,q]) rfl rfl).trans h)))
 have e1:kB [x,w,p,q]=bz n:=fG (i8 (g6 ((aj (ds:=[x,w,p,q]) rfl rfl).trans h)))
 have e2:eM [x,w,p,q,t]=bz n:=fG (i8 (g6 ((aj (ds:=[x,w,p,q]) rfl rfl).trans h)))
 have e3:da [x,w,p,q,t]=bz n:=fG (i8 (g6 ((aj (ds:=[x,w,p,q]) rfl rfl).trans h)))
 match k,hk with
 |0,_=>exact EN.trans (by rw[e0];rfl)
 |1,_=>exact EO.trans (by rw[e1];rfl)
 |2,_=>exact Ia.trans (by rw[e2];rfl)
 |3,_=>exact Ib.trans (by rw[e3];rfl)
def AV(R:Nat):List D:=[.tup [.int (R:Int), .int 0], .tup [.int 0, .int (-1)], .non, .tup [.bl true, .int 0], .lst [.int 0, .int 0]]
def Fd{R W:Nat}{b:D}(h:b∈AV R):Plain2 b/\rX R W b=false:=by
 unfold AV at h
 simp only[Th,TK,or_false] at h
 rcases h with rfl | rfl | rfl | rfl | rfl
 ·exact(Bad.far (R:=R) (W:=W) (R,0) fun q=>absurd q.1 (Uk _)).cell
 ·refine⟨fun d hd=>?_,?_⟩
  ·simp only[Th,TK,or_false] at hd
   rcases hd with rfl | rfl<;>exact UB
  ·show (_&&(decide ((0:Int)<= -1)&&_))=false
   rw[show decide ((0:Int)<= -1)=false from rfl,WS,WT]
 ·exact Bad.non.cell
 ·exact Bad.tr.cell
 ·exact(Bad.lst _).cell
section
variable{bd:List Str}{W w:Nat}{a b:Cell}
def G2(hg:Brd bd W)(hw:Ways w)(ha:On bd.length W a){y o:D}(hy:y∈AV bd.length)(ho:dN [o]=bz 1):
 cX [brd bd, .int (w:Int),cD a,y,o]=ae (.bl true):=by
 obtain⟨y1,y2⟩:=Fd (W:=W) hy
 have n0:dS [brd bd]=ae .non:=hg.nb
 have n1:dN [.int (w:Int)]=ae .non:=hw.nw
 have n2:=hg.nc ha
 have x2:=uK hg y1 y2
 have q1:aQ [brd bd, .int (w:Int),cD a,y]=bz 2:=fG (ak (cx ((aj (ds:=[brd bd]) rfl rfl).trans n0)) (ak (cx ((aj (ds:=[.int (w:Int)]) rfl rfl).trans n1)) (ak (cx ((aj (ds:=[brd bd,cD a]) rfl rfl).trans n2)) (g6 ((aj (ds:=[brd bd,y]) rfl rfl).trans x2)))))
 have q2:aQ [brd bd, .int (w:Int),y,cD a]=bz 2:=fG (ak (cx ((aj (ds:=[brd bd]) rfl rfl).trans n0)) (ak (cx ((aj (ds:=[.int (w:Int)]) rfl rfl).trans n1)) (i8 (g6 ((aj (ds:=[brd bd,y]) rfl rfl).trans x2)))))
 have q3:aQ [brd bd,o,y,cD a]=bz 1:=fG (ak (cx ((aj (ds:=[brd bd]) rfl rfl).trans n0)) (i8 (g6 ((aj (ds:=[o]) rfl rfl).trans ho))))
 have q4:aQ [.lst (bd.map D.str),o,y,cD a]=bz 0:=fG (i8 (g6 ((aj (ds:=[.lst (bd.map D.str)]) rfl rfl).trans (rh (d:= .lst (bd.map D.str)) UB rfl))))
 refine aP (ak (ρ':=[fz (brd bd),fz (.int (w:Int)),fz (cD a),fz y,fz o,none,none]) (cK (dF (Kf (n:=4) (δ:=dC (.int 4)) rfl (by decide)) (mO (fun (k:Nat)=>D.int (k:Int)) _ (Um 4) fun k hk=>?_))) rfl)
 have hk:=WR.mp hk
 refine⟨_,rfl,(bt (ρ':=[fz (brd bd),fz (.int (w:Int)),fz (cD a),fz y,fz o,fz (.int (k:Int)),some (.ow (.lst [eC 2,eC 2,eC 1,eC 0]))]) ?_).trans rfl⟩
 refine ak (ρ':=[fz (brd bd),fz (.int (w:Int)),fz (cD a),fz y,fz o,fz (.int (k:Int)),some (.ow (.lst [eC 2,eC 2]))]) (l6 ?_) ?_
 ·refine K8 (x:=[eC 2,eC 2]) (aS (x:=eC 2) (xs:=[eC 2]) ((aj (ds:=[.int (k:Int),brd bd, .int (w:Int),cD a,y, .non]) rfl rfl).trans (o7 q1 k hk)) (aS (x:=eC 2) (xs:=[]) ((aj (ds:=[.int (k:Int),brd bd, .int (w:Int),y,cD a, .non]) rfl rfl).trans (o7 q2 k hk)) rfl)) rfl
 refine ak (ρ':=[fz (brd bd),fz (.int (w:Int)),fz (cD a),fz y,fz o,fz (.int (k:Int)),some (.ow (.lst [eC 2,eC 2,eC 1]))]) (zX (ds:=[eC 2,eC 2]) rfl ((aj (ds:=[.int (k:Int),brd bd,o,y,cD a, .non]) rfl rfl).trans (o7 q3 k hk)) (by decide)) ?_
 refine ak (ρ':=[fz (brd bd),fz (.int (w:Int)),fz (cD a),fz y,fz o,fz (.int (k:Int)),some (.ow (.lst [eC 2,eC 2,eC 1,eC 0]))]) (zX (ds:=[eC 2,eC 2,eC 1]) rfl ((aj (ds:=[.int (k:Int), .lst (bd.map D.str),o,y,cD a, .non]) rfl rfl).trans (o7 q4 k hk)) (by decide)) ?_
 exact bR (oq (cI ((az (x:= .lst [eC 2,eC 2,eC 1,eC 0]) (y:= .lst [eC 2,eC 2,eC 1,eC 0]) rfl rfl).trans rfl))) rfl
def Cl(R W n:Nat)(d:D):Prop:=∃p,d=cL p/\(∀x∈p,On R W x)/\p.length<=n
def Thing(R W:Nat)(d:D):Prop:=Cl R W 3000 d\/Odd R W d
def Cl.cat{R n m:Nat}{x y:D}(h:Cl R W n x)(h2:Cl R W m y)(hn:n+m<=3000):∃d,cY x y=ae d/\Cl R W 3000 d/\Cl R W (n+m) d:=by
 obtain⟨p,rfl,p1,p2⟩:=h
 obtain⟨q,rfl,q1,q2⟩:=h2
 have hl:(p++q).length<=n+m:=by rw[Ti];omega
 have ho:∀x∈p++q,On R W x:=fun x hx=>(Ui.mp hx).elim (p1 x) (q1 x)
 exact⟨_,CB (by omega),⟨_,rfl,ho,by omega⟩,_,rfl,ho,hl⟩
def Cl.sl{R n:Nat}{x:D}(h:Cl R W n x)(lo hi:Option Int):∃d,O3 x lo hi=ae d/\Cl R W n d:=by
 obtain⟨p,rfl,p1,p2⟩:=h
 refine⟨cL ((p.drop (HT.sIx p.length 0 lo)).take (HT.sIx p.length p.length hi - HT.sIx p.length 0 lo)),?_,_,rfl,fun x hx=>p1 x (List.mem_of_mem_drop (YR hx)),?_⟩
 ·show ae (D.lst (cutD (p.map cD) lo hi))=_
  unfold cutD
  rw[S6,<-List.map_drop,<-List.map_take]
 ·rw[Vq,Ww]
  omega
def cl1{R:Nat}{x:Cell}(hx:On R W x):Cl R W 1 (.lst [cD x]):=⟨[x],rfl,fun y hy=>(show y=x by simpa using hy)▸hx,Tg _⟩
def B5(hg:Brd bd W)(hw:Ways w)(ha:On bd.length W a)(hb:On bd.length W b){t:D}(h:Thing bd.length W t):
 ∃r q,(b6 [brd bd, .int (w:Int),cD a,cD b,t]=ae (.bl r)/\c7 [brd bd, .int (w:Int),cD a,cD b,t]=ae (.bl q))/\
 eM [brd bd, .int (w:Int),cD a,cD b,t]=ae (.bl r)/\da [brd bd, .int (w:Int),cD a,cD b,t]=ae (.bl q):=by
 rcases h with⟨p,rfl,p1,p2⟩ | h
 ·exact⟨_,_,⟨jC hg hw ha p1 (by omega),rb hg hw p1⟩,y6 hg hw ha hb p1 (by omega),uB hg hw ha hb p1 (by omega)⟩
 ·exact⟨_,_,DM hg hw ha hb h⟩
def kR(s:D)(bd:List Str)(W w:Nat)(a b:Cell)(x6 x7 x8 x9 Cj KW KY SD SE SF:Option Sl):bf:=[fz s,fz (brd bd),fz (cL (ax bd.length W)),fz (cD a),fz (cD b),fz (.int (w:Int)),x6,x7,x8,x9,Cj,KW,KY,SD,SE,SF]
def K7:DS:=(bW [13,14] (aA (bD 14 (dA aX (aC (aw 5 b6 (aC (dV 1) (aC (dV 5) (aC (dV 3) (aC (dV 4) (aC (dV 13) aN)))))) (aC (aw 5 c7 (aC (dV 1) (aC (dV 5) (aC (dV 3) (aC (dV 4) (aC (dV 13) aN)))))) aN)))) (el (bH (d2 gw (bA 0 (oK (dA bc (aC (dC (.int 2)) (aC (dC (.int 3)) aN)))) cw (aw 6 aG (aC (dV 0) (aC (dV 2) (aC (dV 6) (aC (dV 4) (aC (dV 5) (aC (dV 14) aN)))))))) (dV 14))) (a9 (dC (.bl false))) bS)))
def Cr(hg:Brd bd W)(hw:Ways w)(ha:On bd.length W a)(hb:On bd.length W b){t s:D}(h:Thing bd.length W t){x6 x7 x8 x9 Cj KW KY:Option Sl}:
 K7 (kR s bd W w a b x6 x7 x8 x9 Cj KW KY (fz t) none none)=ae (.nx (kR s bd W w a b x6 x7 x8 x9 Cj KW KY none none none)):=by
 obtain⟨r,q,⟨h1,h2⟩,h3,h4⟩:=B5 hg hw ha hb h
 refine(bt (ρ':=kR s bd W w a b x6 x7 x8 x9 Cj KW KY (fz t) (fz (.lst [.bl r, .bl q])) none) ?_).trans rfl
 refine ak (ρ':=kR s bd W w a b x6 x7 x8 x9 Cj KW KY (fz t) (fz (.lst [.bl r, .bl q])) none) ((aM (d:= .lst [.bl r, .bl q]) ((cO (xs:=[.bl r, .bl q]) (aS ((aj (ds:=[brd bd, .int (w:Int),cD a,cD b,t]) rfl rfl).trans h1) (aS ((aj (ds:=[brd bd, .int (w:Int),cD a,cD b,t]) rfl rfl).trans h2) rfl))).trans rfl)).trans rfl) ?_
 refine bR (cI ((az (x:= .lst [.bl r, .bl q]) (y:= .lst [.bl r, .bl q]) ?_ rfl).trans ?_)) rfl
 ·refine cG (ds:=[2,3].map fun(k:Nat)=>D.int (k:Int)) (ys:=[2,3].map fun(k:Nat)=>if k=2 then D.bl r else .bl q) rfl (fg (fun (k:Nat)=>D.int (k:Int)) _ [2,3] fun k hk=>?_) (by simp[dz])
  rw[kS]
  have hk:k=2\/k=3:=by simpa using hk
  rcases hk with rfl | rfl
  ·exact K8 (x:= .bl r) ((aj (ds:=[.int 2,brd bd, .int (w:Int),cD a,cD b,t]) rfl rfl).trans (Ia.trans (by rw[h3];rfl))) rfl
  ·exact K8 (x:= .bl q) ((aj (ds:=[.int 3,brd bd, .int (w:Int),cD a,cD b,t]) rfl rfl).trans (Ib.trans (by rw[h4];rfl))) rfl
 ·cases r<;>cases q<;>rfl
end
section
open Classical
variable{bd:List Str}{W w:Nat}{a b:Cell}
def L6{d:D}{ds:List D}:bZ (.lst (d::ds)) (.int 0)=ae d:=by
 show (match L2.atI (d::ds) ((0:Nat):Int) with | some x=>ae x | none=>ah)=_
 rw[fK (x:=d) rfl]
def FT{l:List D}{i:Nat}{d:D}(h:l[i]? =some d):bZ (.lst l) (.int (i:Int))=ae d:=by
 show (match L2.atI l (i:Int) with | some x=>ae x | none=>ah)=_
 rw[fK h]
def BQ(hg:Brd bd W)(hs:bd.length*W<64)(hw:Ways w)(ha:On bd.length W a)(s:D){x6 x7:Option Sl}:∃P,(∀x∈P,On bd.length W x)/\P.length<=64/\0<P.length/\
 d2 bZ (bA 0 (cQ (aw 2 cC (aC (dV 1) (aC (dV 5) aN)))) (bH (d2 (gF false) (dV 4) (dV 0))) (dV 0)) (dC (.int 0)) (kR s bd W w a b x6 x7 none none none none none none none none)=ae (cL P):=by
 have e0:cC [brd bd, .int (w:Int)]=ae (.lst (((fO bd W w (ax bd.length W)).map (dB bd W w)).map cL)):=(oO hg hs hw).trans (by unfold xI;rw[UQ];rfl)
 obtain⟨L,hL⟩:=Bw (bd:=bd) (W:=W) hw
 have hm:=hL a ha
 have P2:=hm.on hw ha
 have hex:dB bd W w (L a)∈((fO bd W w (ax bd.length W)).map (dB bd W w)).filter fun P=>decide (a∈P):=by
  rw[Uo,decide_eq_true_eq]
  refine⟨TJ.mpr ⟨L a,?_,rfl⟩,((sZ hw P2).mem a).mpr (hm.1.symm hw ha)⟩
  unfold fO
  rw[Uo,decide_eq_true_eq]
  exact⟨aJ.mpr P2,hm.self hw ha⟩
 have hlen:(((fO bd W w (ax bd.length W)).map (dB bd W w)).filter fun P=>decide (a∈P)).length<=64:=by
  refine Tw (Uh ..) ?_
  rw[S6]
  unfold fO
  refine Tw (Uh ..) ?_
  rw[bg]
  omega
 have yy:∀P∈((fO bd W w (ax bd.length W)).map (dB bd W w)).filter (fun P=>decide (a∈P)),a∈P/\(∀x∈P,On bd.length W x)/\P.length<=64:=fun P hP=>by
  rw[Uo,decide_eq_true_eq] at hP
  obtain⟨m,h1,rfl⟩:=TJ.mp hP.1
  refine⟨hP.2,fun x hx=>?_,?_⟩
  ·unfold dB at hx
   exact aJ.mp (Uo.mp hx).1
  ·unfold dB
   refine Tw (Uh ..) ?_
   rw[bg]
   omega
 have hc:bA 0 (cQ (aw 2 cC (aC (dV 1) (aC (dV 5) aN)))) (bH (d2 (gF false) (dV 4) (dV 0))) (dV 0) (kR s bd W w a b x6 x7 none none none none none none none none)=ae (.lst ((((fO bd W w (ax bd.length W)).map (dB bd W w)).filter fun P=>decide (a∈P)).map cL)):=by
  refine cG (ds:=((fO bd W w (ax bd.length W)).map (dB bd W w)).map cL) ?_ (j_ cL (fun P=>decide (a∈P)) _ fun P hP=>?_) (by rw[S6,dz];omega)
  ·exact K8 ((aj (ds:=[brd bd, .int (w:Int)]) rfl rfl).trans e0) rfl
  ·rw[yM]
   have:bH (d2 (gF false) (dV 4) (dV 0)) (fz (cL P)::kR s bd W w a b x6 x7 none none none none none none none none)=ae (decide (a∈P)):=cI ((az (x:=cD a) (y:=cL P) rfl rfl).trans iV)
   rw[this]
   by_cases h:a∈P
   ·rw[decide_eq_true h];rfl
   ·rw[decide_eq_false h];rfl
 generalize ((fO bd W w (ax bd.length W)).map (dB bd W w)).filter (fun P=>decide (a∈P))=Fs at hex yy hc
 cases Fs with
 |nil=>cases hex
 |cons P r=>
  obtain⟨h1,h2,h3⟩:=yy P (Ta ..)
  exact⟨P,h2,h3,Yz h1,(az (y:= .int 0) hc rfl).trans L6⟩
end
section
variable{bd:List Str}{W w:Nat}{a b c:Cell}
def Fx(hg:Brd bd W)(hw:Ways w)(ha:On bd.length W a)(hb:On bd.length W b):
 (∃p,(∀x∈p,On bd.length W x)/\vN bd w a b p=true/\p.length<=64/\0<p.length/\eD [brd bd, .int (w:Int),cD a,cD b]=ae (.int (p.length:Int))/\kB [brd bd, .int (w:Int),cD a,cD b]=ae (cL p)/\dR [brd bd, .int (w:Int),cD a,cD b]=ae (.bl true))\/
 (eD [brd bd, .int (w:Int),cD a,cD b]=ae .non/\kB [brd bd, .int (w:Int),cD a,cD b]=ae .non/\dR [brd bd, .int (w:Int),cD a,cD b]=ae (.bl false)):=by
 obtain⟨r,hr,er⟩:=wc hg hw ha hb
 rcases Hg hg hw ha hb with⟨p,h1,h2,h3,e⟩ | ⟨h,e⟩
 ·have hc:Cn bd W w a b:=h1.cn hw hb
  rw[hr.mpr hc] at er
  refine .inl ⟨p,h1.on,(EW h1.on).mpr h1,h3,h1.pos,?_,e,er⟩
  rcases nO (b:=b) hg hw ha with⟨j,j1,j2,j3⟩ | ⟨h4,_⟩
  ·rw[j3]
   obtain⟨q,q1,q2⟩:=zw hw ha j1
   have k1:=h2 q q1
   have k2:=j2 _ (o5 hw hb (vO hw h1))
   have:=h1.pos
   congr 3
   omega
  ·exact absurd hc h4
 ·have RL:r=false:=UY.mpr fun q=>h (hr.mp q)
  rw[RL] at er
  refine .inr ⟨?_,e,er⟩
  rcases nO (b:=b) hg hw ha with⟨j,j1,j2,j3⟩ | ⟨h4,e4⟩
  ·exact absurd ⟨j,j1⟩ h
  ·exact e4
def Fj{x y:List D}(h:x.length+y.length<=4096):cY (.lst x) (.lst y)=ae (.lst (x++y)):=if_pos h
def Cl.rev{R n:Nat}{x:D}{i:Nat}{ρ:bf}(h:Cl R W n x)(hi:dV i ρ=ae x):∃d,sd (dV i) (d1 d_ (dC (.int 1))) ρ=ae d/\Cl R W n d:=by
 obtain⟨p,rfl,p1,p2⟩:=h
 exact⟨_,Et hi,_,rfl,fun x hx=>p1 x (List.mem_reverse.mp hx),by rw[WU];exact p2⟩
def Cl.th{R n:Nat}{x:D}(h:Cl R W n x)(hn:n<=3000):Thing R W x:=by
 obtain⟨p,rfl,p1,p2⟩:=h
 exact .inl ⟨p,rfl,p1,by omega⟩
def zG(hR:bd.length<=5)(hs:bd.length*W<64)(ha:On bd.length W a)(hb:On bd.length W b)(hc:On bd.length W c){s:D}{x6 x7:Option Sl}{P row:List Cell}{v:Nat}(h1:∀x∈P,On bd.length W x)(h2:P.length<=64)(h3:∀x∈row,On bd.length W x)(h4:row.length<=64){o:M Out}
 (k:∀T,(∀t∈T,Thing bd.length W t)->(aA eZ (aA e8 e9)) (kR s bd W w a b x6 x7 (fz (cL P)) (fz (cL row)) (fz (.int (v:Int))) (fz (cD c)) (fz (.lst T)) none none none)=o):
 (aA gp (aA gq (aA gr (aA eZ (aA e8 e9))))) (kR s bd W w a b x6 x7 (fz (cL P)) (fz (cL row)) (fz (.int (v:Int))) (fz (cD c)) none none none none)=o:=by
 have cP:Cl bd.length W 64 (cL P):=⟨P,rfl,h1,h2⟩
 have cr:Cl bd.length W 64 (cL row):=⟨row,rfl,h3,h4⟩
 have c1:=cl1 hc
 obtain⟨t1,u1,v1⟩:=cr.rev (i:=9) (ρ:=kR s bd W w a b x6 x7 (fz (cL P)) (fz (cL row)) (fz (.int (v:Int))) (fz (cD c)) none none none none) rfl
 obtain⟨s1,u2,v2⟩:=cr.sl none (some (v:Int))
 obtain⟨s2,u3,v3⟩:=cr.sl (some ((v:Int)+1)) none
 obtain⟨s3,u4,v4⟩:=cr.sl (some (v:Int)) none
 obtain⟨t2,u5,v5,_⟩:=v2.cat v3 (by decide)
 obtain⟨s4,u6,_,v6⟩:=v2.cat c1 (by decide)
 obtain⟨t3,u7,v7,_⟩:=v6.cat v3 (by decide)
 obtain⟨t4,u8,v8,_⟩:=v6.cat v4 (by decide)
 obtain⟨t5,u9,v9,_⟩:=cP.cat c1 (by decide)
 obtain⟨t6,Sv,v10,_⟩:=cr.cat cr (by decide)
 refine ak (ρ':=kR s bd W w a b x6 x7 (fz (cL P)) (fz (cL row)) (fz (.int (v:Int))) (fz (cD c)) (fz (.lst [cL row,t1,t2,t3,t4])) none none none) ((aM (d:= .lst [cL row,t1,t2,t3,t4]) ?_).trans rfl) ?_
 ·exact(cO (xs:=[cL row,t1,t2,t3,t4]) (aS rfl (aS u1 (aS ((az u2 u3).trans u5) (aS ((az ((az (y:= .lst [cD c]) u2 rfl).trans u6) u3).trans u7) (aS ((az ((az (y:= .lst [cD c]) u2 rfl).trans u6) u4).trans u8) rfl)))))).trans rfl
 refine ak (ρ':=kR s bd W w a b x6 x7 (fz (cL P)) (fz (cL row)) (fz (.int (v:Int))) (fz (cD c)) (fz (.lst ([cL row,t1,t2,t3,t4]++[cL P,t5,cL (ax bd.length W),cL [a,b],cL [a],cL [], .tup (row.map cD), .non, .lst [.non], .lst [cD a, .int 1]]))) none none none) ((aM ((az (x:= .lst [cL row,t1,t2,t3,t4]) (y:= .lst [cL P,t5,cL (ax bd.length W),cL [a,b],cL [a],cL [], .tup (row.map cD), .non, .lst [.non], .lst [cD a, .int 1]]) rfl ?_).trans (Fj (by simp)))).trans rfl) ?_
 ·exact(cO (xs:=[cL P,t5,cL (ax bd.length W),cL [a,b],cL [a],cL [], .tup (row.map cD), .non, .lst [.non], .lst [cD a, .int 1]]) (aS rfl (aS ((az (x:=cL P) (y:= .lst [cD c]) rfl rfl).trans u9) rfl))).trans rfl
 obtain⟨t8,Sx,SA⟩:=cr.rev (i:=9) (ρ:=kR s bd W w a b x6 x7 (fz (cL P)) (fz (cL row)) (fz (.int (v:Int))) (fz (cD c)) (fz (.lst ([cL row,t1,t2,t3,t4]++[cL P,t5,cL (ax bd.length W),cL [a,b],cL [a],cL [], .tup (row.map cD), .non, .lst [.non], .lst [cD a, .int 1]]))) none none none) rfl
 obtain⟨t7,Sw,v11,_⟩:=cr.cat SA (by decide)
 have lP:(P.map cD).length+1<=4096:=by rw[S6];omega
 refine ak (ρ':=kR s bd W w a b x6 x7 (fz (cL P)) (fz (cL row)) (fz (.int (v:Int))) (fz (cD c)) (fz (.lst (([cL row,t1,t2,t3,t4]++[cL P,t5,cL (ax bd.length W),cL [a,b],cL [a],cL [], .tup (row.map cD), .non, .lst [.non], .lst [cD a, .int 1]])++[.lst [.lst [.int (a.1:Int), .int (a.2:Int)]],t6,t7,cL [c,a], .lst (P.map cD++[.tup [.bl true, .int 0]]), .lst (P.map cD++[cD (9,9)])]))) none none none) ((aM ((az (x:= .lst ([cL row,t1,t2,t3,t4]++[cL P,t5,cL (ax bd.length W),cL [a,b],cL [a],cL [], .tup (row.map cD), .non, .lst [.non], .lst [cD a, .int 1]])) (y:= .lst [.lst [.lst [.int (a.1:Int), .int (a.2:Int)]],t6,t7,cL [c,a], .lst (P.map cD++[.tup [.bl true, .int 0]]), .lst (P.map cD++[cD (9,9)])]) rfl ?_).trans (Fj (by simp)))).trans rfl) (k _ ?_)
 ·exact(cO (xs:=[.lst [.lst [.int (a.1:Int), .int (a.2:Int)]],t6,t7,cL [c,a], .lst (P.map cD++[.tup [.bl true, .int 0]]), .lst (P.map cD++[cD (9,9)])]) (aS rfl (aS ((az (x:=cL row) (y:=cL row) rfl rfl).trans Sv) (aS ((az (x:=cL row) rfl Sx).trans Sw) (aS rfl (aS ((az (x:=cL P) (y:= .lst [.tup [.bl true, .int 0]]) rfl rfl).trans (Fj lP)) (aS ((az (x:=cL P) (y:= .lst [cD (9,9)]) rfl rfl).trans (Fj lP)) rfl))))))).trans rfl
 intro t ht
 have two:∀x y:Cell,On bd.length W x->On bd.length W y->Thing bd.length W (cL [x,y]):=fun x y hx hy=> .inl ⟨[x,y],rfl,fun z hz=>by
  rcases(show z=x\/z=y by simpa using hz) with rfl | rfl
  ·exact hx
  ·exact hy,by simp⟩
 simp only[Ui,Th,TK,or_false] at ht
 rcases ht with((rfl | rfl | rfl | rfl | rfl) | (rfl | rfl | rfl | rfl | rfl | rfl | rfl | rfl | rfl | rfl)) | (rfl | rfl | rfl | rfl | rfl | rfl)
 ·exact cr.th (by decide)
 ·exact v1.th (by decide)
 ·exact .inl v5
 ·exact .inl v7
 ·exact .inl v8
 ·exact cP.th (by decide)
 ·exact .inl v9
 ·exact .inl ⟨_,rfl,fun x hx=>aJ.mp hx,by rw[bg];omega⟩
 ·exact two _ _ ha hb
 ·exact(cl1 ha).th (by decide)
 ·exact .inl ⟨[],rfl,fun x hx=>(by cases hx),by simp⟩
 ·exact .inr (.tup _)
 ·exact .inr .non
 ·exact .inr (.lst [] _ (fun x hx=>by cases hx) (by simp) .non)
 ·exact .inr (.lst [a] _ (fun x hx=>(show x=a by simpa using hx)▸ha) (by simp) (.int 1))
 ·exact .inr (.lst [] _ (fun x hx=>by cases hx) (by simp) (.lst _))
 ·exact .inl v10
 ·exact .inl v11
 ·exact two _ _ hc ha
 ·exact .inr (.lst P _ h1 (by omega) .tr)
 ·exact .inr (.lst P _ h1 (by omega) (.far _ fun q=>by have:=q.1;simp at this;omega))
end
def Dw(ns:List Int)(hl:ns.length<=63):ke [.scr ns]=ae (.bl true):=by
 obtain⟨bd,W,hG,eb⟩:=AW ns hl 0 4 (by decide) (by decide)
 have hg:=hG.brd
 have hs:bd.length*W<64:=Zg (Uv hG.r5 hG.w5) (by decide)
 have h0:0<bd.length*W:=Nat.mul_pos hg.r1 hg.w1
 refine aP ?_
 refine ak (ρ':=[fz (.scr ns),fz (brd bd),none,none,none,none,none,none,none,none,none,none,none,none,none,none]) ((aM (d:=brd bd) ((aj (ds:=[.scr ns, .int 0, .int 4]) rfl rfl).trans eb)).trans rfl) ?_
 refine ak (ρ':=[fz (.scr ns),fz (brd bd),fz (cL (ax bd.length W)),none,none,none,none,none,none,none,none,none,none,none,none,none]) ((aM (d:=cL (ax bd.length W)) ((aj (ds:=[brd bd]) rfl rfl).trans (dw hg))).trans rfl) ?_
 obtain⟨a,ha,ea⟩:=qz ns hl h0 (i:=2) (s:=0) (k:=50) (δk:=dC (.int 50)) (ρ:=[fz (.scr ns),fz (brd bd),fz (cL (ax bd.length W)),none,none,none,none,none,none,none,none,none,none,none,none,none]) rfl rfl rfl
 refine ak (ρ':=[fz (.scr ns),fz (brd bd),fz (cL (ax bd.length W)),fz (cD a),none,none,none,none,none,none,none,none,none,none,none,none]) ((aM ea).trans rfl) ?_
 obtain⟨b,hb,QJ⟩:=qz ns hl h0 (i:=2) (s:=0) (k:=51) (δk:=dC (.int 51)) (ρ:=[fz (.scr ns),fz (brd bd),fz (cL (ax bd.length W)),fz (cD a),none,none,none,none,none,none,none,none,none,none,none,none]) rfl rfl rfl
 refine ak (ρ':=[fz (.scr ns),fz (brd bd),fz (cL (ax bd.length W)),fz (cD a),fz (cD b),none,none,none,none,none,none,none,none,none,none,none]) ((aM QJ).trans rfl) ?_
 obtain⟨i,hi,ei⟩:=dQ ns hl 52 2 (by decide)
 obtain⟨w,hw,ew⟩:∃w:Nat,Ways w/\bZ (.lst [.int 4, .int 8]) (.int (i:Int))=ae (.int (w:Int)):=by
  match i,hi with
  |0,_=>exact⟨4, .inl rfl,rfl⟩
  |1,_=>exact⟨8, .inr rfl,rfl⟩
 refine ak (ρ':=kR (.scr ns) bd W w a b none none none none none none none none none none) ((aM (d:= .int (w:Int)) ((az (x:= .lst [.int 4, .int 8]) (y:= .int (i:Int)) rfl ((aj (ds:=[.scr ns, .int 52, .int 2]) rfl rfl).trans ei)).trans ew)).trans rfl) ?_
 have rest:∀(x6 x7:D) (n:Bool),mP true x7 .non=ae (.bl n)->(n=true->Cl bd.length W 64 x7/\∀p,x7=cL p->0<p.length)->(aA jg (aA jh (aA ji (aA jj (aA gp (aA gq (aA gr (aA eZ (aA e8 e9))))))))) (kR (.scr ns) bd W w a b (fz x6) (fz x7) none none none none none none none none)=ae (.rt (.bl true)):=by
  intro x6 x7 n hn hx
  obtain⟨P,p1,p2,p3,eP⟩:=BQ (b:=b) (x6:=fz x6) (x7:=fz x7) hg hs hw ha (.scr ns)
  refine ak (ρ':=kR (.scr ns) bd W w a b (fz x6) (fz x7) (fz (cL P)) none none none none none none none) ((aM eP).trans rfl) ?_
  obtain⟨row,r1,r2,r3,er⟩:∃row,(∀x∈row,On bd.length W x)/\row.length<=64/\0<row.length/\(if n then x7 else cL P)=cL row:=by
   cases n with
   |true=>
    obtain⟨⟨p,rfl,q1,q2⟩,q3⟩:=hx rfl
    exact⟨p,q1,q2,q3 p rfl,rfl⟩
   |false=>exact⟨P,p1,p2,p3,rfl⟩
  refine ak (ρ':=kR (.scr ns) bd W w a b (fz x6) (fz x7) (fz (cL P)) (fz (cL row)) none none none none none none) ((aM (d:=cL row) ((Ld (p:=n) (cI ((az (x:=x7) (y:= .non) rfl rfl).trans hn))).trans ?_)).trans rfl) ?_
  ·rw[<-er]
   cases n<;>rfl
  obtain⟨v,hv,ev⟩:=dQ ns hl 53 row.length r3
  refine ak (ρ':=kR (.scr ns) bd W w a b (fz x6) (fz x7) (fz (cL P)) (fz (cL row)) (fz (.int (v:Int))) none none none none none) ((aM (d:= .int (v:Int)) ((aj (ds:=[.scr ns, .int 53, .int (row.length:Int)]) (aS rfl (aS rfl (aS ((cO (xs:=[cL row]) rfl).trans (y_ _)) rfl))) rfl).trans ev)).trans rfl) ?_
  obtain⟨c,hc,ec⟩:=qz ns hl h0 (i:=2) (s:=0) (k:=54) (δk:=dC (.int 54)) (ρ:=kR (.scr ns) bd W w a b (fz x6) (fz x7) (fz (cL P)) (fz (cL row)) (fz (.int (v:Int))) none none none none none) rfl rfl rfl
  refine ak (ρ':=kR (.scr ns) bd W w a b (fz x6) (fz x7) (fz (cL P)) (fz (cL row)) (fz (.int (v:Int))) (fz (cD c)) none none none none) ((aM ec).trans rfl) ?_
  refine zG hG.r5 hs ha hb hc p1 p2 r1 r2 fun T hT=>?_
  refine ak (ρ':=kR (.scr ns) bd W w a b (fz x6) (fz x7) (fz (cL P)) (fz (cL row)) (fz (.int (v:Int))) (fz (cD c)) (fz (.lst T)) none none none) (cK (dF (ds:=T.map id) (by rw[List.map_id];exact FO rfl) (mO (body:=K7) id _ T fun t ht=>⟨_,rfl,Cr hg hw ha hb (hT t ht)⟩))) ?_
  obtain⟨u,hu,eu⟩:=dQ ns hl 55 5 (by decide)
  obtain⟨y,hy⟩:∃y,(AV bd.length)[u]? =some y:=⟨_,Tb (show u<5 from hu)⟩
  have Q8:dA aX (aC (dA bc (aC (dA bB (aC (dV 1) aN)) (aC (dC (.int 0)) aN))) (aC (dA bc (aC (dC (.int 0)) (aC (d1 d_ (dC (.int 1))) aN))) (aC (dC .non) (aC (dA bc (aC (dC (.bl true)) (aC (dC (.int 0)) aN))) (aC (dA aX (aC (dC (.int 0)) (aC (dC (.int 0)) aN))) aN))))) (kR (.scr ns) bd W w a b (fz x6) (fz x7) (fz (cL P)) (fz (cL row)) (fz (.int (v:Int))) (fz (cD c)) (fz (.lst T)) none none none)=ae (.lst (AV bd.length)):=
   (cO (xs:=AV bd.length) (aS ((cO (xs:=[.int (bd.length:Int), .int 0]) (aS (F4 rfl) rfl)).trans rfl) rfl)).trans rfl
  refine ak (ρ':=kR (.scr ns) bd W w a b (fz x6) (fz x7) (fz (cL P)) (fz (cL row)) (fz (.int (v:Int))) (fz (cD c)) (fz (.lst T)) none none (fz y)) ((aM (d:=y) ((az (y:= .int (u:Int)) Q8 ((aj (ds:=[.scr ns, .int 55, .int 5]) rfl rfl).trans eu)).trans (FT hy))).trans rfl) ?_
  obtain⟨z,hz,ez⟩:=dQ ns hl 56 2 (by decide)
  obtain⟨o,ho,eo⟩:∃o,dN [o]=bz 1/\bZ (.lst [.int 5, .non]) (.int (z:Int))=ae o:=by
   match z,hz with
   |0,_=>exact⟨.int 5,rfl,rfl⟩
   |1,_=>exact⟨.non,rfl,rfl⟩
  exact aD ((aj (ds:=[brd bd, .int (w:Int),cD a,y,o]) (aS rfl (aS rfl (aS rfl (aS rfl (aS ((az (x:= .lst [.int 5, .non]) (y:= .int (z:Int)) rfl ((aj (ds:=[.scr ns, .int 56, .int 2]) rfl rfl).trans ez)).trans eo) rfl))))) rfl).trans (G2 hg hw ha (UU hy) ho))
 rcases Fx hg hw ha hb with⟨p,p1,p2,p3,p4,e6,e7,e0⟩ | ⟨e6,e7,e0⟩
 ·have t0:aG [.int 0,brd bd, .int (w:Int),cD a,cD b, .non]=ae (.bl true):=EN.trans (by rw[e0];rfl)
  have t1:aG [.int 1,brd bd, .int (w:Int),cD a,cD b, .non]=ae (cL p):=EO.trans (by rw[e7];rfl)
  refine ak (ρ':=kR (.scr ns) bd W w a b (fz (.int (p.length:Int))) none none none none none none none none none) ((aM ((aj (ds:=[brd bd, .int (w:Int),cD a,cD b]) rfl rfl).trans e6)).trans rfl) ?_
  refine ak (ρ':=kR (.scr ns) bd W w a b (fz (.int (p.length:Int))) (fz (cL p)) none none none none none none none none) ((aM ((aj (ds:=[.int 1,brd bd, .int (w:Int),cD a,cD b, .non]) rfl rfl).trans t1)).trans rfl) ?_
  refine ak (bR (fZ (p:=false) (q:=false) (cI ((az (x:= .bl true) (y:= .bl true) ((aj (ds:=[.int 0,brd bd, .int (w:Int),cD a,cD b, .non]) rfl rfl).trans t0) rfl).trans rfl)) (cI ((az (x:= .bl false) (y:= .bl false) ((az (x:=cL p) (y:= .non) rfl rfl).trans (uz false p)) rfl).trans rfl))) rfl) ?_
  refine ak (bR (kT (p:=true) (q:=false) (cI ((az (x:=cL p) (y:= .non) rfl rfl).trans (uz true p))) (cf (b:=true) (bF ((aj (ds:=[brd bd, .int (w:Int),cD a,cD b,cL p]) rfl rfl).trans ((jC hg hw ha p1 (by omega)).trans (by rw[p2])))))) rfl) ?_
  refine ak (bR (kT (p:=true) (q:=false) (cI ((az (x:=cL p) (y:= .non) rfl rfl).trans (uz true p))) (cI ((az (x:= .int (p.length:Int)) (y:= .int (p.length:Int)) ((cO (xs:=[cL p]) rfl).trans (y_ _)) rfl).trans ((Mb _ _).trans (by simp))))) rfl) ?_
  exact rest _ _ true (uz true p) fun _=>⟨⟨p,rfl,p1,p3⟩,fun q hq=>by
   have:(p.map cD).length=(q.map cD).length:=by injection hq with hq;rw[hq]
   rw[S6,S6] at this
   omega⟩
 ·have t0:aG [.int 0,brd bd, .int (w:Int),cD a,cD b, .non]=ae (.bl false):=EN.trans (by rw[e0];rfl)
  have t1:aG [.int 1,brd bd, .int (w:Int),cD a,cD b, .non]=ae .non:=EO.trans (by rw[e7];rfl)
  refine ak (ρ':=kR (.scr ns) bd W w a b (fz .non) none none none none none none none none none) ((aM ((aj (ds:=[brd bd, .int (w:Int),cD a,cD b]) rfl rfl).trans e6)).trans rfl) ?_
  refine ak (ρ':=kR (.scr ns) bd W w a b (fz .non) (fz .non) none none none none none none none none) ((aM ((aj (ds:=[.int 1,brd bd, .int (w:Int),cD a,cD b, .non]) rfl rfl).trans t1)).trans rfl) ?_
  refine ak (bR (fZ (p:=false) (q:=false) (cI ((az (x:= .bl false) (y:= .bl false) ((aj (ds:=[.int 0,brd bd, .int (w:Int),cD a,cD b, .non]) rfl rfl).trans t0) rfl).trans rfl)) (cI ((az (x:= .bl true) (y:= .bl true) rfl rfl).trans rfl))) rfl) ?_
  refine ak (bR (CG (cI rfl)) rfl) ?_
  refine ak (bR (CG (cI rfl)) rfl) ?_
  exact rest _ _ false rfl fun q=>by cases q
end K1
namespace K1
open PySem PySem.Spec L2 L3
open PyProof.Rows hiding St
def Ma(c0 c1 c2 c3 c4 c5 c6:Addr):Nat->Addr
 |0=>c0
 |1=>c1
 |2=>c2
 |3=>c3
 |4=>c4
 |5=>c5
 |_=>c6
def DF(K:Tc)(x:Str)(s:Stmt):Prop:=∃(f:Addr) (oc:Value) (od an:Option Addr) (sl:Array (Option Value)) (kV dc pm cd ct:Value),TL K Tx x=some (some (.ref f))/\K.lookup f=some ⟨oc,od, .func (Uu x x (eJ s) (aV s) (ai s) .none kV dc pm an cd ct),sl⟩/\Vl K cd x=true/\Ux K (.ref f)=true
def DF.mk{K:Tc}{x:Str}{s:Stmt}{f:Addr}{oc:Value}{od an:Option Addr}{sl:Array (Option Value)}{kV dc pm cd ct:Value}(a:TL K Tx x=some (some (.ref f)))(l:K.lookup f=some ⟨oc,od, .func (Uu x x (eJ s) (aV s) (ai s) .none kV dc pm an cd ct),sl⟩)(c:Vl K cd x=true)(k:Ux K (.ref f)=true):DF K x s:=⟨f,oc,od,an,sl,kV,dc,pm,cd,ct,a,l,c,k⟩
def DF.at{K:Tc}{x:Str}{s:Stmt}{h:Heap}{mg:Str->Option Value}(X:K.In h)(G:h.Ns Tx mg)(d:DF K x s):∃f,bU K mg x s f:=by
 obtain⟨f,oc,od,an,sl,kV,dc,pm,cd,ct,a,l,c,k⟩:=d
 exact⟨f,Ur X G a,_,CV (st:=s) l c k⟩
def all_mk{P:TM}{w:World}{K:Tc}{h:Heap}{mg:Str->Option Value}{fa:Addr}(X:K.In h)(G:h.Ns Tx mg)(Rk:mg "law"=some (.ref fa))
 {kU:Addr}{zi pe:Option Addr}{zC:Array (Option Value)}{zh pT pE qB kP pB:Value}
 {B4:Tok}
 {yi:Tok}
 {qO:Tok}
 {C0 C1 C2 C3 C4 C5 C6 Cp:Addr}{r0:ClassData}{r1:ClassData}{r2:ClassData}
 (d_is_whole:DF K "is_whole" lx)
 (d_is_letter:DF K "is_letter" jQ)
 (d_letter_of:DF K "letter_of" jU)
 (d_are_next:DF K "are_next" lu)
 (d_keyed:DF K "keyed" vn)
 (d_law_cell:DF K "_law_cell" ly)
 (d_law_cells:DF K "_law_cells" g9)
 (d_law_beside:DF K "_law_beside" i_)
 (d_law_refused:DF K "_law_refused" il)
 (d_law_sign:DF K "_law_sign" lA)
 (d_is_row:DF K "is_row" my)
 (d_is_cell:DF K "is_cell" nq)
 (d_need_ways:DF K "need_ways" jW)
 (d_next_cells:DF K "next_cells" jb)
 (d_law_drawn:DF K "_law_drawn" jS)
 (d_law_labels:DF K "_law_labels" gk)
 (d_law_far:DF K "_law_far" nr)
 (d_law_good:DF K "_law_good" lz)
 (d_is_board:DF K "is_board" gO)
 (d_is_list_of_cells:DF K "is_list_of_cells" dm)
 (d_need_cell:DF K "need_cell" jV)
 (d_like_cells:DF K "like_cells" gm)
 (d_law_board:DF K "_law_board" g8)
 (d_law_patches:DF K "_law_patches" fH)
 (d_law_is_way:DF K "_law_is_way" eV)
 (d_law_fence:DF K "_law_fence" jT)
 (d_need_board:DF K "need_board" ja)
 (d_steps_back:DF K "steps_back" jc)
 (d_need_two_cells:DF K "need_two_cells" fw)
 (d_are_one:DF K "are_one" nk)
 (d_way:DF K "way" EB)
 (d_is_way:DF K "is_way" jR)
 (d_is_fence:DF K "is_fence" i9)
 (d_law_told_v4:DF K "_law_told" ip)
 (d_law_refuses_v2:DF K "_law_refuses" ft)
 (a_law_k20:TL K Tx "law"=some (some (.ref kU)))(l_law_k20:K.lookup kU=some ⟨zh,zi, .func (Uu "law" "law" (eJ ar) (aV ar) (ai ar) .none pT pE qB pe kP pB),zC⟩)(c_law_k20:Vl K kP "law"=true)(k_law_k20:Ux K (.ref kU)=true)
 (z_len:TL K Tx "len"=some none)
 (z_isinstance:TL K Tx "isinstance"=some none)
 (z_all:TL K Tx "all"=some none)
 (z_abs:TL K Tx "abs"=some none)
 (z_max:TL K Tx "max"=some none)
 (z_min:TL K Tx "min"=some none)
 (z_range:TL K Tx "range"=some none)
 (z_str:TL K Tx "str"=some none)
 (z_int:TL K Tx "int"=some none)
 (z_bool:TL K Tx "bool"=some none)
 (z_tuple:TL K Tx "tuple"=some none)
 (z_list:TL K Tx "list"=some none)
 (z_dict:TL K Tx "dict"=some none)
 (z_sorted:TL K Tx "sorted"=some none)
 (z_zip:TL K Tx "zip"=some none)
 (z_ValueError:TL K Tx "ValueError"=some none)
 (y_LETTERS:TL K Tx "LETTERS"=some (some (.str "abcdef" B4)))
 (y_MOST_ROWS:TL K Tx "MOST_ROWS"=some (some (.int 8 yi)))
 (y_MOST_COLUMNS:TL K Tx "MOST_COLUMNS"=some (some (.int 8 qO)))
 (e0:TL K Tx "NoBoard"=some (some (.ref C0)))
 (e1:TL K Tx "NoWays"=some (some (.ref C1)))
 (e2:TL K Tx "NoCell"=some (some (.ref C2)))
 (e3:TL K Tx "NoLetter"=some (some (.ref C3)))
 (e4:TL K Tx "NoNumber"=some (some (.ref C4)))
 (e5:TL K Tx "NoFit"=some (some (.ref C5)))
 (e6:TL K Tx "Nothing"=some (some (.ref C6)))
 (ep:TL K Tx "PatchError"=some (some (.ref Cp)))
 (sp:PySem.W.subIn K (.ref Cp) (.type "BaseException")=some true)
 (q0:Wd K C0 [.type "ValueError", .type "Exception", .type "BaseException", .type "object"] "ValueError.__new__"=true)
 (ga0:Uy K (.ref C0) "__getattribute__"=some (some (.builtin "BaseException.__getattribute__")))(gt0:Uy K (.ref C0) "__getattr__"=some none)(ca0:Uy K (.ref C0) "__class__"=some (some (.builtin "object.__class__")))(mo0:Vt K C0 (.type "object")=some true)(mb0:Vt K C0 (.type "BaseException")=some true)(cl0:VR K C0=some r0)
 (kp0:Tp K (.ref C0) (.ref Cp)=some true)(kv0:Tp K (.ref C0) (.type "ValueError")=some true)(np0:((TV C0)==(TV Cp))=false)
 (k00:Tp K (.ref C0) (.ref C0)=some true)
 (k01:Tp K (.ref C0) (.ref C1)=some false)
 (k02:Tp K (.ref C0) (.ref C2)=some false)
 (k03:Tp K (.ref C0) (.ref C3)=some false)
 (k04:Tp K (.ref C0) (.ref C4)=some false)
 (k05:Tp K (.ref C0) (.ref C5)=some false)
 (k06:Tp K (.ref C0) (.ref C6)=some false)
 (q1:Wd K C1 [.type "ValueError", .type "Exception", .type "BaseException", .type "object"] "ValueError.__new__"=true)
 (ga1:Uy K (.ref C1) "__getattribute__"=some (some (.builtin "BaseException.__getattribute__")))(gt1:Uy K (.ref C1) "__getattr__"=some none)(ca1:Uy K (.ref C1) "__class__"=some (some (.builtin "object.__class__")))(mo1:Vt K C1 (.type "object")=some true)(mb1:Vt K C1 (.type "BaseException")=some true)(cl1:VR K C1=some r1)
 (kp1:Tp K (.ref C1) (.ref Cp)=some true)(kv1:Tp K (.ref C1) (.type "ValueError")=some true)(np1:((TV C1)==(TV Cp))=false)
 (k10:Tp K (.ref C1) (.ref C0)=some false)
 (k11:Tp K (.ref C1) (.ref C1)=some true)
 (k12:Tp K (.ref C1) (.ref C2)=some false)
 (k13:Tp K (.ref C1) (.ref C3)=some false)
 (k14:Tp K (.ref C1) (.ref C4)=some false)
 (k15:Tp K (.ref C1) (.ref C5)=some false)
 (k16:Tp K (.ref C1) (.ref C6)=some false)
 (q2:Wd K C2 [.type "ValueError", .type "Exception", .type "BaseException", .type "object"] "ValueError.__new__"=true)
 (ga2:Uy K (.ref C2) "__getattribute__"=some (some (.builtin "BaseException.__getattribute__")))(gt2:Uy K (.ref C2) "__getattr__"=some none)(ca2:Uy K (.ref C2) "__class__"=some (some (.builtin "object.__class__")))(mo2:Vt K C2 (.type "object")=some true)(mb2:Vt K C2 (.type "BaseException")=some true)(cl2:VR K C2=some r2)
 (kp2:Tp K (.ref C2) (.ref Cp)=some true)(kv2:Tp K (.ref C2) (.type "ValueError")=some true)(np2:((TV C2)==(TV Cp))=false)
 (k20:Tp K (.ref C2) (.ref C0)=some false)
 (k21:Tp K (.ref C2) (.ref C1)=some false)
 (k22:Tp K (.ref C2) (.ref C2)=some true)
 (k23:Tp K (.ref C2) (.ref C3)=some false)
 (k24:Tp K (.ref C2) (.ref C4)=some false)
 (k25:Tp K (.ref C2) (.ref C5)=some false)
 (k26:Tp K (.ref C2) (.ref C6)=some false):
 ∃(cv:Nat->Value) (fd:U1),(∀(s:S7) (u:Value),YD s fd ⟨[u],[]⟩ [("_law_script",u)])/\∀base:Heap,K.In base->base.Ns Tx mg->FnOk P w K mg base (cT P w cv) 9 fa fd ["_law_script"] (Ci K cv 1 ke):=by
 have ea:=Rk.symm.trans (Ur X G a_law_k20)
 cases ea
 refine⟨fun n=> .ref (cB (Ma C0 C1 C2 C3 C4 C5 C6) n),Uu "law" "law" (eJ ar) (aV ar) (ai ar) .none pT pE qB pe kP pB,fun s v=> .of_eq rfl,fun base KB GB=>?_⟩
 have B:Bl K mg base (fun n=> .ref (cB (Ma C0 C1 C2 C3 C4 C5 C6) n)) (Ma C0 C1 C2 C3 C4 C5 C6) Cp:=by
  refine⟨TX X G z_len,TX X G z_isinstance,TX X G z_all,TX X G z_abs,TX X G z_max,TX X G z_min,TX X G z_range,TX X G z_str,TX X G z_int,TX X G z_bool,TX X G z_tuple,TX X G z_list,TX X G z_dict,TX X G z_sorted,TX X G z_zip,TX X G z_ValueError,⟨_,Ur X G y_LETTERS⟩,⟨_,Ur X G y_MOST_ROWS⟩,⟨_,Ur X G y_MOST_COLUMNS⟩,?cls,zr KB GB e0 q0,zr KB GB e1 q1,zr KB GB e2 q2,fun _=>rfl,Ur X G ep,?exm,?exs,?kit,?kitV⟩
  case cls=>
   intro n x e
   match n,e with
   |0,e=>cases e;exact Ur X G e0
   |1,e=>cases e;exact Ur X G e1
   |2,e=>cases e;exact Ur X G e2
   |3,e=>cases e;exact Ur X G e3
   |4,e=>cases e;exact Ur X G e4
   |5,e=>cases e;exact Ur X G e5
   |6,e=>cases e;exact Ur X G e6
   |n+7,e=>cases e
  case exm=>
   intro n
   have h:∀m,m∈[0,1,2]->V3 K (.ref ((Ma C0 C1 C2 C3 C4 C5 C6) m)) (.ref Cp)=some true:=by
    intro m hm
    simp only[Th,TK,or_false] at hm
    rcases hm with rfl | rfl | rfl
    ·exact yQ sp kp0 np0
    ·exact yQ sp kp1 np1
    ·exact yQ sp kp2 np2
   exact h (KS n) (AK n)
  case exs=>
   intro C hC
   simp only[tZ,Ma,Th,TK,or_false] at hC
   rcases hC with e | e | e<;>subst e
   ·exact⟨ga0,gt0,ca0,mo0,mb0,by rw[cl0];rfl⟩
   ·exact⟨ga1,gt1,ca1,mo1,mb1,by rw[cl1];rfl⟩
   ·exact⟨ga2,gt2,ca2,mo2,mb2,by rw[cl2];rfl⟩
  case kit=>
   intro n m hn hm
   simp only[Th,TK,or_false] at hn
   rcases hn with rfl | rfl | rfl
   ·match m,hm with
    |0,_=>exact k00
    |1,_=>exact k01
    |2,_=>exact k02
    |3,_=>exact k03
    |4,_=>exact k04
    |5,_=>exact k05
    |6,_=>exact k06
    |m+7,hm=>exact absurd hm (by omega)
   ·match m,hm with
    |0,_=>exact k10
    |1,_=>exact k11
    |2,_=>exact k12
    |3,_=>exact k13
    |4,_=>exact k14
    |5,_=>exact k15
    |6,_=>exact k16
    |m+7,hm=>exact absurd hm (by omega)
   ·match m,hm with
    |0,_=>exact k20
    |1,_=>exact k21
    |2,_=>exact k22
    |3,_=>exact k23
    |4,_=>exact k24
    |5,_=>exact k25
    |6,_=>exact k26
    |m+7,hm=>exact absurd hm (by omega)
  case kitV=>
   intro n hn
   simp only[Th,TK,or_false] at hn
   rcases hn with rfl | rfl | rfl
   ·exact kv0
   ·exact kv1
   ·exact kv2
 have qd:=(DF.at X G d_is_whole).elim fun _ t=>xA (P:=P) (w:=w) B t
 have xn:=(DF.at X G d_is_letter).elim fun _ t=>uP (P:=P) (w:=w) B t
 have nZ:=(DF.at X G d_letter_of).elim fun _ t=>uU (P:=P) (w:=w) B t
 have qc:=(DF.at X G d_are_next).elim fun _ t=>xu (P:=P) (w:=w) B t
 have Gf:=(DF.at X G d_keyed).elim fun _ t=>DQ (P:=P) (w:=w) B t
 have zg:=(DF.at X G d_law_cell).elim fun _ t=>xB (P:=P) (w:=w) B t
 have gX:=(DF.at X G d_law_cells).elim fun _ t=>uR (P:=P) (w:=w) B t
 have gi:=(DF.at X G d_law_beside).elim fun _ t=>rk (P:=P) (w:=w) B t
 have rj:=(DF.at X G d_law_refused).elim fun _ t=>qg (P:=P) (w:=w) B t
 have k_:=(DF.at X G d_law_sign).elim fun _ t=>xD (P:=P) (w:=w) B t
 have DK:=(DF.at X G d_is_row).elim fun _ t=>BI (P:=P) (w:=w) B xn t
 have sS:=(DF.at X G d_is_cell).elim fun _ t=>zk (P:=P) (w:=w) B qd t
 have xr:=(DF.at X G d_need_ways).elim fun _ t=>uW (P:=P) (w:=w) B qd t
 have uO:=(DF.at X G d_next_cells).elim fun _ t=>rp (P:=P) (w:=w) B qc t
 have nY:=(DF.at X G d_law_drawn).elim fun _ t=>uS (P:=P) (w:=w) B zg t
 have uM:=(DF.at X G d_law_labels).elim fun _ t=>rm (P:=P) (w:=w) B gX gi t
 have BG:=(DF.at X G d_law_far).elim fun _ t=>zl (P:=P) (w:=w) B gi k_ t
 have qe:=(DF.at X G d_law_good).elim fun _ t=>xC (P:=P) (w:=w) B gX t
 have ze:=(DF.at X G d_is_board).elim fun _ t=>xx (P:=P) (w:=w) B DK t
 have gJ:=(DF.at X G d_is_list_of_cells).elim fun _ t=>kx (P:=P) (w:=w) B sS t
 have xq:=(DF.at X G d_need_cell).elim fun _ t=>uV (P:=P) (w:=w) B sS t
 have l8:=(DF.at X G d_like_cells).elim fun _ t=>rn (P:=P) (w:=w) B nZ uO t
 have xo:=(DF.at X G d_law_board).elim fun _ t=>uQ (P:=P) (w:=w) B nY t
 have ri:=(DF.at X G d_law_patches).elim fun _ t=>qf (P:=P) (w:=w) B uM gX t
 have uL:=(DF.at X G d_law_is_way).elim fun _ t=>rl (P:=P) (w:=w) B qe k_ gi t
 have xp:=(DF.at X G d_law_fence).elim fun _ t=>uT (P:=P) (w:=w) B gi qe k_ t
 have uN:=(DF.at X G d_need_board).elim fun _ t=>ro (P:=P) (w:=w) B ze t
 have l9:=(DF.at X G d_steps_back).elim fun _ t=>rq (P:=P) (w:=w) B l8 t
 have d6:=(DF.at X G d_need_two_cells).elim fun _ t=>ma (P:=P) (w:=w) B uN xr xq t
 have BF:=(DF.at X G d_are_one).elim fun _ t=>zj (P:=P) (w:=w) B d6 l9 t
 have Mg:=(DF.at X G d_way).elim fun _ t=>Jw (P:=P) (w:=w) B d6 l9 t
 have DL:=(DF.at X G d_is_way).elim fun _ t=>BJ (P:=P) (w:=w) B d6 nZ gJ qc t
 have zf:=(DF.at X G d_is_fence).elim fun _ t=>xy (P:=P) (w:=w) B d6 Gf gJ l8 t
 have kE:=(DF.at X G d_law_told_v4).elim fun _ t=>qh (P:=P) (w:=w) B rj DL zf BF Mg t
 have mV:=(DF.at X G d_law_refuses_v2).elim fun _ t=>l_ (P:=P) (w:=w) B kE t
 exact xt B xo gX BG kE nY mV uL xp ri (CV (st:=ar) l_law_k20 c_law_k20 k_law_k20)
end K1
open PySem PySem.W PyProof.Rows
theorem PySem.Challenge.cw_cellpatches_k20_ways_holds : PySem.Challenge.rw_cellpatches_k20_ways.Holds := by
 w_on;o_law
 refine holds_open (q:=K1.yl) (loose:=[]) (Xt:=fun s=>xlAt K1.yl [] s&&recOk (RowW.records (OpenRow.toRowW _)) s) (XP:=XL K1.yl []) (Yf:=Hook.obs (kHook K1.pL K1.pK (fun _=>by kernel_rfl))) (Ya:=Hook.val (kHook K1.pL K1.pK (fun _=>by kernel_rfl))) (YP:=Hook.says (kHook K1.pL K1.pK (fun _=>by kernel_rfl))) (N:=5772) ?hl (Hook.of (kHook K1.pL K1.pK (fun _=>by kernel_rfl))) (Hook.keeps (kHook K1.pL K1.pK (fun _=>by kernel_rfl))) (fun s e=>xl_of s (YT.mp e).1) XL.keeps (by rfl) (by rfl) (by rfl) (fun s e=>recFacts_of (YT.mp e).2) (by rfl) (by first | assumption | decide+kernel) (by decide+kernel) ⟨rfl,rfl,rfl,rfl,rfl,by decide+kernel⟩ ?hw ?hc
 case hl=>exact K1.LJ
 (case hw=>w_witness2)
 k_fill
 refine L3.MW (l:=PySem.Challenge.rw_cellpatches_k20_ways) (k:=9) (n:=63) (x:="_law_script") (g:=K1.ke) rfl (by decide) rfl ⟨rfl,by decide,by decide⟩ (fun w h Y=>PySem.W.kIn_of Y) K1.Dw ?F
 case F=>
  intro w mg fa h KX G IK
  refine' K1.all_mk KX G IK ?d_is_whole ?d_is_letter ?d_letter_of ?d_are_next ?d_keyed ?d_law_cell ?d_law_cells ?d_law_beside ?d_law_refused ?d_law_sign ?d_is_row ?d_is_cell ?d_need_ways ?d_next_cells ?d_law_drawn ?d_law_labels ?d_law_far ?d_law_good ?d_is_board ?d_is_list_of_cells ?d_need_cell ?d_like_cells ?d_law_board ?d_law_patches ?d_law_is_way ?d_law_fence ?d_need_board ?d_steps_back ?d_need_two_cells ?d_are_one ?d_way ?d_is_way ?d_is_fence ?d_law_told_v4 ?d_law_refuses_v2 ?a_law_k20 ?l_law_k20 ?c_law_k20 ?k_law_k20 ?z_len ?z_isinstance ?z_all ?z_abs ?z_max ?z_min ?z_range ?z_str ?z_int ?z_bool ?z_tuple ?z_list ?z_dict ?z_sorted ?z_zip ?z_ValueError ?y_LETTERS ?y_MOST_ROWS ?y_MOST_COLUMNS ?e0 ?e1 ?e2 ?e3 ?e4 ?e5 ?e6 ?ep ?sp ?q0 ?ga0 ?gt0 ?ca0 ?mo0 ?mb0 ?cl0 ?kp0 ?kv0 ?np0 ?k00 ?k01 ?k02 ?k03 ?k04 ?k05 ?k06 ?q1 ?ga1 ?gt1 ?ca1 ?mo1 ?mb1 ?cl1 ?kp1 ?kv1 ?np1 ?k10 ?k11 ?k12 ?k13 ?k14 ?k15 ?k16 ?q2 ?ga2 ?gt2 ?ca2 ?mo2 ?mb2 ?cl2 ?kp2 ?kv2 ?np2 ?k20 ?k21 ?k22 ?k23 ?k24 ?k25 ?k26
  (case d_is_whole=>(refine' K1.DF.mk ?a ?l ?c ?k;(case a=>k_is);(case l=>k_is);(case c=>k_is);(case k=>k_is)))
  (case d_is_letter=>(refine' K1.DF.mk ?a ?l ?c ?k;(case a=>k_is);(case l=>k_is);(case c=>k_is);(case k=>k_is)))
  (case d_letter_of=>(refine' K1.DF.mk ?a ?l ?c ?k;(case a=>k_is);(case l=>k_is);(case c=>k_is);(case k=>k_is)))
  (case d_are_next=>(refine' K1.DF.mk ?a ?l ?c ?k;(case a=>k_is);(case l=>k_is);(case c=>k_is);(case k=>k_is)))
  (case d_keyed=>(refine' K1.DF.mk ?a ?l ?c ?k;(case a=>k_is);(case l=>k_is);(case c=>k_is);(case k=>k_is)))
  (case d_law_cell=>(refine' K1.DF.mk ?a ?l ?c ?k;(case a=>k_is);(case l=>k_is);(case c=>k_is);(case k=>k_is)))
  (case d_law_cells=>(refine' K1.DF.mk ?a ?l ?c ?k;(case a=>k_is);(case l=>k_is);(case c=>k_is);(case k=>k_is)))
  (case d_law_beside=>(refine' K1.DF.mk ?a ?l ?c ?k;(case a=>k_is);(case l=>k_is);(case c=>k_is);(case k=>k_is)))
  (case d_law_refused=>(refine' K1.DF.mk ?a ?l ?c ?k;(case a=>k_is);(case l=>k_is);(case c=>k_is);(case k=>k_is)))
  (case d_law_sign=>(refine' K1.DF.mk ?a ?l ?c ?k;(case a=>k_is);(case l=>k_is);(case c=>k_is);(case k=>k_is)))
  (case d_is_row=>(refine' K1.DF.mk ?a ?l ?c ?k;(case a=>k_is);(case l=>k_is);(case c=>k_is);(case k=>k_is)))
  (case d_is_cell=>(refine' K1.DF.mk ?a ?l ?c ?k;(case a=>k_is);(case l=>k_is);(case c=>k_is);(case k=>k_is)))
  (case d_need_ways=>(refine' K1.DF.mk ?a ?l ?c ?k;(case a=>k_is);(case l=>k_is);(case c=>k_is);(case k=>k_is)))
  (case d_next_cells=>(refine' K1.DF.mk ?a ?l ?c ?k;(case a=>k_is);(case l=>k_is);(case c=>k_is);(case k=>k_is)))
  (case d_law_drawn=>(refine' K1.DF.mk ?a ?l ?c ?k;(case a=>k_is);(case l=>k_is);(case c=>k_is);(case k=>k_is)))
  (case d_law_labels=>(refine' K1.DF.mk ?a ?l ?c ?k;(case a=>k_is);(case l=>k_is);(case c=>k_is);(case k=>k_is)))
  (case d_law_far=>(refine' K1.DF.mk ?a ?l ?c ?k;(case a=>k_is);(case l=>k_is);(case c=>k_is);(case k=>k_is)))
  (case d_law_good=>(refine' K1.DF.mk ?a ?l ?c ?k;(case a=>k_is);(case l=>k_is);(case c=>k_is);(case k=>k_is)))
  (case d_is_board=>(refine' K1.DF.mk ?a ?l ?c ?k;(case a=>k_is);(case l=>k_is);(case c=>k_is);(case k=>k_is)))
  (case d_is_list_of_cells=>(refine' K1.DF.mk ?a ?l ?c ?k;(case a=>k_is);(case l=>k_is);(case c=>k_is);(case k=>k_is)))
  (case d_need_cell=>(refine' K1.DF.mk ?a ?l ?c ?k;(case a=>k_is);(case l=>k_is);(case c=>k_is);(case k=>k_is)))
  (case d_like_cells=>(refine' K1.DF.mk ?a ?l ?c ?k;(case a=>k_is);(case l=>k_is);(case c=>k_is);(case k=>k_is)))
  (case d_law_board=>(refine' K1.DF.mk ?a ?l ?c ?k;(case a=>k_is);(case l=>k_is);(case c=>k_is);(case k=>k_is)))
  (case d_law_patches=>(refine' K1.DF.mk ?a ?l ?c ?k;(case a=>k_is);(case l=>k_is);(case c=>k_is);(case k=>k_is)))
  (case d_law_is_way=>(refine' K1.DF.mk ?a ?l ?c ?k;(case a=>k_is);(case l=>k_is);(case c=>k_is);(case k=>k_is)))
  (case d_law_fence=>(refine' K1.DF.mk ?a ?l ?c ?k;(case a=>k_is);(case l=>k_is);(case c=>k_is);(case k=>k_is)))
  (case d_need_board=>(refine' K1.DF.mk ?a ?l ?c ?k;(case a=>k_is);(case l=>k_is);(case c=>k_is);(case k=>k_is)))
  (case d_steps_back=>(refine' K1.DF.mk ?a ?l ?c ?k;(case a=>k_is);(case l=>k_is);(case c=>k_is);(case k=>k_is)))
  (case d_need_two_cells=>(refine' K1.DF.mk ?a ?l ?c ?k;(case a=>k_is);(case l=>k_is);(case c=>k_is);(case k=>k_is)))
  (case d_are_one=>(refine' K1.DF.mk ?a ?l ?c ?k;(case a=>k_is);(case l=>k_is);(case c=>k_is);(case k=>k_is)))
  (case d_way=>(refine' K1.DF.mk ?a ?l ?c ?k;(case a=>k_is);(case l=>k_is);(case c=>k_is);(case k=>k_is)))
  (case d_is_way=>(refine' K1.DF.mk ?a ?l ?c ?k;(case a=>k_is);(case l=>k_is);(case c=>k_is);(case k=>k_is)))
  (case d_is_fence=>(refine' K1.DF.mk ?a ?l ?c ?k;(case a=>k_is);(case l=>k_is);(case c=>k_is);(case k=>k_is)))
  (case d_law_told_v4=>(refine' K1.DF.mk ?a ?l ?c ?k;(case a=>k_is);(case l=>k_is);(case c=>k_is);(case k=>k_is)))
  (case d_law_refuses_v2=>(refine' K1.DF.mk ?a ?l ?c ?k;(case a=>k_is);(case l=>k_is);(case c=>k_is);(case k=>k_is)))
  (case a_law_k20=>k_is)
  (case l_law_k20=>k_is)
  (case c_law_k20=>k_is)
  (case k_law_k20=>k_is)
  (case z_len=>k_is)
  (case z_isinstance=>k_is)
  (case z_all=>k_is)
  (case z_abs=>k_is)
  (case z_max=>k_is)
  (case z_min=>k_is)
  (case z_range=>k_is)
  (case z_str=>k_is)
  (case z_int=>k_is)
  (case z_bool=>k_is)
  (case z_tuple=>k_is)
  (case z_list=>k_is)
  (case z_dict=>k_is)
  (case z_sorted=>k_is)
  (case z_zip=>k_is)
  (case z_ValueError=>k_is)
  (case y_LETTERS=>k_is)
  (case y_MOST_ROWS=>k_is)
  (case y_MOST_COLUMNS=>k_is)
  (case e0=>k_is)
  (case e1=>k_is)
  (case e2=>k_is)
  (case e3=>k_is)
  (case e4=>k_is)
  (case e5=>k_is)
  (case e6=>k_is)
  (case ep=>k_is)
  (case sp=>k_is)
  (case q0=>k_exc)
  (case ga0=>k_is)
  (case gt0=>k_is)
  (case ca0=>k_is)
  (case mo0=>k_is)
  (case mb0=>k_is)
  (case cl0=>k_is)
  (case kp0=>kit_is)
  (case kv0=>kit_is)
  (case np0=>rfl)
  (case k00=>kit_is)
  (case k01=>kit_is)
  (case k02=>kit_is)
  (case k03=>kit_is)
  (case k04=>kit_is)
  (case k05=>kit_is)
  (case k06=>kit_is)
  (case q1=>k_exc)
  (case ga1=>k_is)
  (case gt1=>k_is)
  (case ca1=>k_is)
  (case mo1=>k_is)
  (case mb1=>k_is)
  (case cl1=>k_is)
  (case kp1=>kit_is)
  (case kv1=>kit_is)
  (case np1=>rfl)
  (case k10=>kit_is)
  (case k11=>kit_is)
  (case k12=>kit_is)
  (case k13=>kit_is)
  (case k14=>kit_is)
  (case k15=>kit_is)
  (case k16=>kit_is)
  (case q2=>k_exc)
  (case ga2=>k_is)
  (case gt2=>k_is)
  (case ca2=>k_is)
  (case mo2=>k_is)
  (case mb2=>k_is)
  (case cl2=>k_is)
  (case kp2=>kit_is)
  (case kv2=>kit_is)
  (case np2=>rfl)
  (case k20=>kit_is)
  (case k21=>kit_is)
  (case k22=>kit_is)
  (case k23=>kit_is)
  (case k24=>kit_is)
  (case k25=>kit_is)
  (case k26=>kit_is)
