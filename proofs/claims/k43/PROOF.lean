import PyProof.Rows.All
import KE.KDictSum
import KE.KSortTup
import KE.RegKIsAll
import Lean
import PySem.Challenge.RW_cellpatches_k43_whole_paints
open List renaming mem_cons_self->R1,mem_cons_of_mem->R4,length_map->R5,getElem?_eq_getElem->R6,map_cons->Sa,getElem?_eq_some_iff->Sb,length_cons->Sd,mem_cons->Sf,length_append->Sg,getElem?_set_ne->Sh,size_toArray->Si,getElem?_map->Sj,mem_map->Sm,range->Sn,getElem?_set_self->So,getD_eq_getElem?_getD->Ss,mem_singleton->Sw,mem_of_getElem?->Sz,all_eq_true->SA,mem_append->SD,map_append->SE,map_map->SF,pairwise_cons->SO,range'->SQ,getElem?_cons_zero->SR,mem_append_right->SV,getElem?_append_left->SW,nodup_cons->S2,replicate->S6,mem_range->S7,getElem?_append_right->S_,getElem?_cons_succ->Ta,nodup_append->Tb,mem_filter->Td,mem_append_left->Tq,nil_append->Tv,length_take->Tz,length_eq_zero_iff->TB,toArray->TC,map_congr_left->TJ,append_nil->TK,lookup_cons->TQ,Nodup->TR,zip_cons_cons->TV,length_range->T1,length_nil->T2,flatMap_cons->T3,getElem?_replicate->T6,getElem_mem->T8,range_succ_eq_map->Uc,length_filter_le->Uj,getElem?_concat_length->Uk,pairwise_iff_getElem->Ur,nodup_nil->Us,range'_succ->Ux,getElem_of_mem->Uz,getElem?_range->UA,map_nil->UB,all_map->UC,find?_cons->UG,all_cons->UH,pairwise_map->UM,getElem?_eq_none->UR,eq_nil_or_concat->US,concat_eq_append->UT,filter_cons->UX,cons_append->UY,mem_iff_getElem->U1,countP_eq_length_filter->U4,any_cons->U5,foldl_cons->U7,getElem?_eq_none_iff->Vc,drop_eq_getElem_cons->Vd,sum_cons->Vt,drop_length->Vu,take_of_length_le->Vx,length_pos_of_mem->Vy,zip_append->VD,length_zip->VE,length_replicate->VF,forIn_cons->VG,range_eq_range'->VS,pairwise_append->VT,mem_of_mem_take->VU,filterMap_cons->VY,set_cons_zero->We,set_cons_succ->Wf,length_range'->Wg,getElem?_inj->Wk,append_assoc->Wl,length_drop->Wt,ext_getElem->Wu,mem_zipIdx_iff_getElem?->WD,of_mem_zip->WG,filter_map->WH,drop_zero->WZ,length_erase_of_mem->W8,zip_map'->Xa,pairwise_singleton->Xb,map_take->Xc,filter_cons_of_pos->Xd,pairwise_lt_range->Xn,length_dropLast->XA,getElem?_mapIdx->XB,length_pos_iff->XI,length_flatMap->XJ,length->XM,mem_filterMap->X2,mem_range'_1->Yb,foldl_append->Yc,ext_getElem?->Yd
open PySem renaming wpAny_bind->R3,Shared->R8,wpAny_pure->R9,starEach->Su,sizeLine->Sv,mainGlobals->SG,Program->SJ,Around->S1,bootBuiltins->S5,compareOp->Te,behindInMarks->Th,wpAny_mono->Ti,wpAny_newObj_type->To,wpAny_truthy_bool->Tw,sysModules->Tx,mem_of_lookup->TH,wpAny_dictEntries->TL,wpAny_call_entry->TX,DictEntry->T7,wpAny_typeNameOfWhole_keyiter->Uh,tupleKind->Ui,wpAny_passesOwn->Up,backTo->Uq,wpAny_holding->Ut,foldedSetIterable->Uu,attributeBase->Uv,FuncData->Uy,wpAny_typeNameOf_keyiter->UI,wpAny_getItem_str_slice->UN,wpAny_callSpecial?_slot->UO,wpAny_Call_Name_kw->UP,Keyword->UQ,sizeLine_eq->UZ,keywordEach->U0,binaryOp->U9,wpAny_dictEpoch->Vf,swapsWith->Vg,sliceBounds->Vh,tupleKind_room_in1->Vr,NameKind->Vs,typeIs_str->Vz,assignEach->VA,storedH->VH,wpAny_typeOf->V1,wpAny_execs_nil->V2,post_val_or_str->V3,letOwnedTupleGo->V4,getItem->V5,backToKw->Wb,swapsWithSole->Wv,dictSetHashed->Ww,Paired->Wz,wpAny_assign_Name->WM,callerA->WN,codeAny_mono->WW,IsPart->W0,noFill_tuple_add->W4,wpAny_specialOf->Xf,valueAt->Xg,size_of_entries->Xh,codeAny->Xi,PassesOwn->Xm,recursionLimit->Xs,wpAny_comprehension_free->XD,pyNext->XE,entryOfKey->XF,wpAny_newList->XO,seq_tuple_add->XR,notedBy->XS,call->XW,Builtin->X3,BindsTo->X4
open PySem.Heap renaming get?_push_of_some->R7,lt_size->Sq,get?_push_size->Sx,SameBut->UD,get?_update_self->UU,get?_none_of_le->XC
open Nat renaming le_refl->R_,le_trans->Sy,ne_of_lt->SH,zero_le->SM,lt_of_lt_of_le->SN,lt_irrefl->Tf,le_of_lt->Tr,mul_le_mul->Ub,lt_of_le_of_lt->Ug,lt_trans->UE,min_eq_left->U8,zero_add->VJ,ne_of_gt->VL,le_total->VM,le_antisymm->VN,lt_succ_self->WA,lt_of_not_le->WB,le_max_right->WC,le_max_left->WS,mod_lt->W_,div_div_eq_div_mul->Xr,sub_zero->Xy,min_self->Xz,mul_le_mul_right->XH,le_zero->XZ,le_succ->X0,add_mul->X1,add_right_comm->X9
open PySem.W renaming Frag->Se,mg_none_of->SU,nsIn->S0,kia_one->Tn,fnOf->TM,keepIn->T5,codeIn->UJ,mg_of->Vj,methodObj->V7,instObj->Wq,lookIn->Wx,kitOne->Wy,cellsFrom_some->WX,kdu_collect->Xl,kitx_list->Xv,kitx_dict->Xx,plainGet->XG,OpenLaw->XX,findIn->X7
open Array renaming length_toList->Sr,getElem?_toList->TU,getElem?_eq_getElem->Vb,append_assoc->V_,isEmpty_iff->X5
open Bool renaming false_ne_true->SI,and_eq_true->SX,false_eq_true->S8,and_eq_true_iff->TY,not_false->VX,eq_iff_iff->WL,true_and->Xe,eq_false_iff->Ye
open PySem.PassesOwn renaming never->SK
open Option.some renaming inj->SS
open PySem.Value renaming ref->SY,none->Tt,bool->Vi,str->Xj,int->Xk,type->XT
open PySem.Heap.SameBut renaming update->S3,refl->W2
open Ne renaming symm->S9
open PySem.Builtin.Str renaming occurrences->Tc
open ForInStep renaming yield->Tg
open PyProof.Rows renaming callWith_type1->Tj,slot_tuple_getitem->TN,envOfC->T_,seqObj->Uo,IntsAre->U2,kindOf->VQ,slice_closes_toL->VR,AllBare->Wa,subscriptTail->XQ,subscriptTail_builtinR->X6
open PySem.Builtin.Tuple renaming tupleExact->Ts,tupleItemsOf->VZ,tupleHashOf->V9
open PySem.Builtin.Range renaming rangeSize->Tu,small->Vq
open PySem.Str renaming ofString->TF,length->Wo
open True renaming intro->TZ
open PySem.Paired renaming length->T4
open False renaming elim->T9
open PySem.Obj renaming mapSeq->Ua,data_mapDictKeys->U3,isFreed_of_dict->V8,data_mapFields->X8
open PySem.Calls renaming spliced_cons->Ud,spliced_nil->UL,callWith_builtin->Vv,evalArgs_plain->VP,Name_function_global->WK,call_function_entry->WV
open PySem.Builtin.Slice renaming slicePlaces->Ue,sliceAdjust->UW,sliceApplied->V0
open PySem.F renaming slot_dict_keyiterator_next->Ul,args_tuple_add_2->U_,entry_tuple_add->Vk,slot_tuple_add->Vn,slot_dict_setdefault->Wj,slot_dict_update->WE,args_dict_keyiterator_next_1->WJ,plainAttrs_list->WQ,plainAttrs_dict->WR,entry_dict_keyiterator_next->WU,plainAttrs_str->WY
open Classical renaming byContradiction->Um,not_forall->W3,not_imp->Xp
open Option renaming isSome_iff_exists->Uw,getD_some->Vo,isSome_map->Wc,map_eq_some_iff->W7,getD_none->XY
open PUnit renaming unit->UK
open PySem.Builtin.List renaming listTooLong->U6
open Int.ofNat renaming inj->Va
open PySem.Builtin.Dict renaming showsAll->Ve,entriesForEmpty->VW,updateFrom->Wm,mergeDict->Ws
open PySem.Data renaming dict->Vm,fields->XN
open Int renaming toNat_natCast->Vp,emod_lt_of_pos->Wi,emod_nonneg->WT
open PySem.Builtin.Dict_items renaming ownsTuple->Vw
open List.Pairwise renaming nil->VB,imp->VC
open PySem.Txt renaming slice_le->VI,slice->Wh
open Iff renaming rfl->VO
open PySem.StrLaws renaming sliceText->V6,found_one->Xu,occBody->XU
open Sum renaming inl->Wn,inr->WO
open List.Perm renaming refl->Wr
open Function renaming comp->WI
open PySem.SeqAt.EqAt renaming str_int->W5,int_str->W6
open Prod renaming ext->W9
open PyProof.Rows.IsTup renaming new->Xo
open PySem.Around renaming under_plainId->Xq
open PySem.NameKind renaming free->X_
set_option maxHeartbeats 0
set_option Elab.async false
set_option linter.all false
set_option maxRecDepth 100000
abbrev Yg:=@if_pos
abbrev Yh:=@if_neg
abbrev Yi:=@decide_eq_true
abbrev Yj:=@decide_eq_true_eq
abbrev Yk:=@of_decide_eq_true
abbrev Yl:=@decide_eq_false
abbrev Ym:=@absurd
abbrev Yn:=@beq_eq_false_iff_ne
abbrev Yo:=@congrArg
namespace L2
open PySem
def eI(s:Stmt):Arguments:=match s with
 | .FunctionDef _ a _ _ _ _ _ _ _ _=>a
 |_=>{posonlyargs:=[],args:=[],vararg:=none,kwonlyargs:=[],kw_defaults:=[],kwarg:=none,defaults:=[]}
def aY(s:Stmt):List Stmt:=match s with
 | .FunctionDef _ _ b _ _ _ _ _ _ _=>b
 |_=>[]
def ah(s:Stmt):Scope:=match s with
 | .FunctionDef _ _ _ _ _ _ sc _ _ _=>sc
 |_=>{kind:= .function,names:=[],isGenerator:=false,isCoroutine:=false}
end L2
namespace K1
open PySem PySem.Spec
def top(i:Nat):Stmt:=PySem.Challenge.pw_cellpatches_k43_whole_paints.main.body.getD i (.Pass ⟨0,0,0,0⟩)
abbrev hS(s:String)(t:Tok):Value:= .str (TF s) t
abbrev hE(P:Params)(s:String)(t:Tok)(v:Value):T7:={hash:=PyData.keyHash P (TF s),key:=hS s t,val:=v}
abbrev hT(xs:Array Value):Obj:={cls:= .type "tuple",data:=Data.seq xs}
abbrev hF(s:String)(t:Stmt)(m:Value)(c:Addr):Obj:={cls:= .type "function",data:=Data.func {name:=TF s,qualname:=TF s,params:=L2.eI t,body:=FuncBody.stmts (L2.aY t),scope:=L2.ah t,globals:=3,closure:=[],defaults:= .none,kwdefaults:= .none,pyModule:=m,code:= .ref c} }
abbrev jy(s:String)(t1 t2 t3:Tok)(l n f:Int)(a:Addr)(v:Int)(b:Addr)(x y:Value)(d:Addr)(p:Int)(t4:Tok):Obj:={cls:= .type "code",data:=XN #[hS s t1,hS s t2,hS "/claim/cut.py" t3, .int l 0, .int n 0, .int 0 0, .int 0 0, .int f 0, .ref a, .bool true, .int v 0, .ref b, .none,x,y, .ref d, .int p 0, .int l 0,hS "/claim/cut.py" t4]}
abbrev tH:Value:=hS "cellpatches.boards" 271
abbrev Jz:Value:=hS "cellpatches.patches" 423
abbrev J6:Value:=hS "law_cellpatches_k43_whole_paints" 542
abbrev J7:Value:=hS "cellpatches.errors" 187
abbrev J8:Value:=hS "cellpatches.painting" 490
abbrev L5(n:String)(b a ns r:Addr)(t1 t2:Tok):Obj:={cls:= .type "type",data:=Data.cls {name:=TF n,bases:=[.ref b],mro:=[.ref a, .ref b, .type "ValueError", .type "Exception", .type "BaseException", .type "object"],ns:=ns,qualname:=TF n},slots:= #[some (.ref r),none,some (hS n t1),some (hS n t2),some (.builtin "ValueError.__new__"),some (.bool true)]}
def pb:Params->Se:=λP=>(nat_lit 2,{cls:= .none,data:=Vm #[]})::
 (nat_lit 3,{cls:= .type "dict",data:=Vm #[hE P "__name__" 165 J6,hE P "__doc__" 166 .none,hE P "__package__" 167 .none,hE P "__loader__" 168 (.builtin "__main__.__loader__#opaque"),hE P "__spec__" 169 .none,hE P "__annotations__" 170 (.ref 6),hE P "__builtins__" 171 (.ref 4),hE P "__file__" 173 (hS "/claim/cut.py" 172),hE P "__cached__" 174 .none,hE P "PatchError" 206 (.ref 24),hE P "NoBoard" 222 (.ref 37),hE P "NoWays" 238 (.ref 49),hE P "NoCell" 254 (.ref 61),hE P "NoLetter" 270 (.ref 73),hE P "LETTERS" 274 (hS "abcdef" 273),hE P "MOST_ROWS" 276 (.int 8 275),hE P "MOST_COLUMNS" 278 (.int 8 277),hE P "is_whole" 285 (.ref 82),hE P "is_letter" 292 (.ref 89),hE P "is_row" 298 (.ref 94),hE P "is_board" 304 (.ref 99),hE P "is_cell" 312 (.ref 106),hE P "need_board" 319 (.ref 113),hE P "need_cell" 327 (.ref 120),hE P "need_letter" 334 (.ref 127),hE P "need_letters" 340 (.ref 132),hE P "need_ways" 347 (.ref 139),hE P "cells_of_row" 353 (.ref 144),hE P "all_cells" 362 (.ref 151),hE P "letter_of" 370 (.ref 158),hE P "are_next" 381 (.ref 165),hE P "next_cells" 393 (.ref 172),hE P "keyed" 402 (.ref 179),hE P "with_letters" 408 (.ref 184),hE P "letter_at" 416 (.ref 191),hE P "letters" 422 (.ref 196),hE P "like_cells" 430 (.ref 201),hE P "steps_back" 444 (.ref 208),hE P "all_patches" 456 (.ref 215),hE P "numbers_of" 467 (.ref 222),hE P "near_numbers" 481 (.ref 229),hE P "how_many" 489 (.ref 236),hE P "need_paint" 501 (.ref 243),hE P "drawn_in" 514 (.ref 250),hE P "painted" 524 (.ref 257),hE P "paints_over" 535 (.ref 264),hE P "fewest_paints" 541 (.ref 269),hE P "_law_cell" 551 (.ref 276),hE P "_law_drawn" 561 (.ref 283),hE P "_law_board" 567 (.ref 288),hE P "law" 573 (.ref 293)] 51})::
 (nat_lit 15,hT #[.type "ValueError"])::
 (nat_lit 22,hT #[])::
 (nat_lit 23,{cls:= .type "dict",data:=Vm #[hE P "__module__" 196 J7,hE P "__firstlineno__" 200 (.int 2 199),hE P "__static_attributes__" 201 (.ref 22),hE P "__weakref__" 203 (.ref 25),hE P "__doc__" 204 .none] 3})::
 (nat_lit 24,{cls:= .type "type",data:=Data.cls {name:=TF "PatchError",bases:=[.type "ValueError"],mro:=[.ref 24, .type "ValueError", .type "Exception", .type "BaseException", .type "object"],ns:=23,qualname:=TF "PatchError",subclasses:=[.ref 37, .ref 49, .ref 61, .ref 73]},slots:= #[some (.ref 15),none,some (hS "PatchError" 189),some (hS "PatchError" 197),some (.builtin "ValueError.__new__"),some (.bool true)]})::
 (nat_lit 25,{cls:= .type "getset_descriptor",data:=XN #[hS "__weakref__" 202, .ref 24, .builtin "ExceptionGroup.__weakref__", .none]})::
 (nat_lit 28,hT #[.ref 24])::
 (nat_lit 35,hT #[])::
 (nat_lit 36,{cls:= .type "dict",data:=Vm #[hE P "__module__" 214 J7,hE P "__firstlineno__" 218 (.int 4 217),hE P "__static_attributes__" 219 (.ref 35),hE P "__doc__" 220 .none] 2})::
 (nat_lit 37,L5 "NoBoard" 24 37 36 28 207 215)::
 (nat_lit 40,hT #[.ref 24])::
 (nat_lit 47,hT #[])::
 (nat_lit 48,{cls:= .type "dict",data:=Vm #[hE P "__module__" 230 J7,hE P "__firstlineno__" 234 (.int 6 233),hE P "__static_attributes__" 235 (.ref 47),hE P "__doc__" 236 .none] 2})::
 (nat_lit 49,L5 "NoWays" 24 49 48 40 223 231)::
 (nat_lit 52,hT #[.ref 24])::
 (nat_lit 59,hT #[])::
 (nat_lit 60,{cls:= .type "dict",data:=Vm #[hE P "__module__" 246 J7,hE P "__firstlineno__" 250 (.int 8 249),hE P "__static_attributes__" 251 (.ref 59),hE P "__doc__" 252 .none] 2})::
 (nat_lit 61,L5 "NoCell" 24 61 60 52 239 247)::
 (nat_lit 64,hT #[.ref 24])::
 (nat_lit 71,hT #[])::
 (nat_lit 72,{cls:= .type "dict",data:=Vm #[hE P "__module__" 262 J7,hE P "__firstlineno__" 266 (.int 10 265),hE P "__static_attributes__" 267 (.ref 71),hE P "__doc__" 268 .none] 2})::
 (nat_lit 73,L5 "NoLetter" 24 73 72 64 255 263)::
 (nat_lit 76,hT #[])::
 (nat_lit 78,hT #[hS "thing" 282])::
 (nat_lit 79,hT #[])::
 (nat_lit 81,jy "is_whole" 279 280 281 16 1 3 76 181 77 (.ref 78) (.ref 79) 80 283 284)::
 (nat_lit 82,hF "is_whole" (top 10) tH 81)::
 (nat_lit 83,hT #[])::
 (nat_lit 85,hT #[hS "thing" 289])::
 (nat_lit 86,hT #[])::
 (nat_lit 88,jy "is_letter" 286 287 288 18 1 3 83 181 84 (.ref 85) (.ref 86) 87 290 291)::
 (nat_lit 89,hF "is_letter" (top 11) tH 88)::
 (nat_lit 90,hT #[])::
 (nat_lit 93,jy "is_row" 293 294 295 20 1 3 90 181 91 .none .none 92 296 297)::
 (nat_lit 94,hF "is_row" (top 12) tH 93)::
 (nat_lit 95,hT #[])::
 (nat_lit 98,jy "is_board" 299 300 301 24 1 3 95 181 96 .none .none 97 302 303)::
 (nat_lit 99,hF "is_board" (top 13) tH 98)::
 (nat_lit 100,hT #[])::
 (nat_lit 102,hT #[hS "board" 308,hS "thing" 309])::
 (nat_lit 103,hT #[])::
 (nat_lit 105,jy "is_cell" 305 306 307 30 2 3 100 181 101 (.ref 102) (.ref 103) 104 310 311)::
 (nat_lit 106,hF "is_cell" (top 14) tH 105)::
 (nat_lit 107,hT #[])::
 (nat_lit 109,hT #[hS "thing" 316])::
 (nat_lit 110,hT #[])::
 (nat_lit 112,jy "need_board" 313 314 315 36 1 3 107 181 108 (.ref 109) (.ref 110) 111 317 318)::
 (nat_lit 113,hF "need_board" (top 15) tH 112)::
 (nat_lit 114,hT #[])::
 (nat_lit 116,hT #[hS "board" 323,hS "thing" 324])::
 (nat_lit 117,hT #[])::
 (nat_lit 119,jy "need_cell" 320 321 322 39 2 3 114 181 115 (.ref 116) (.ref 117) 118 325 326)::
 (nat_lit 120,hF "need_cell" (top 16) tH 119)::
 (nat_lit 121,hT #[])::
 (nat_lit 123,hT #[hS "thing" 331])::
 (nat_lit 124,hT #[])::
 (nat_lit 126,jy "need_letter" 328 329 330 42 1 3 121 181 122 (.ref 123) (.ref 124) 125 332 333)::
 (nat_lit 127,hF "need_letter" (top 17) tH 126)::
 (nat_lit 128,hT #[])::
 (nat_lit 131,jy "need_letters" 335 336 337 45 1 3 128 181 129 .none .none 130 338 339)::
 (nat_lit 132,hF "need_letters" (top 18) tH 131)::
 (nat_lit 133,hT #[])::
 (nat_lit 135,hT #[hS "thing" 344])::
 (nat_lit 136,hT #[])::
 (nat_lit 138,jy "need_ways" 341 342 343 48 1 3 133 181 134 (.ref 135) (.ref 136) 137 345 346)::
 (nat_lit 139,hF "need_ways" (top 19) tH 138)::
 (nat_lit 140,hT #[])::
 (nat_lit 143,jy "cells_of_row" 348 349 350 51 2 3 140 181 141 .none .none 142 351 352)::
 (nat_lit 144,hF "cells_of_row" (top 20) tH 143)::
 (nat_lit 145,hT #[])::
 (nat_lit 147,hT #[hS "board" 357,hS "found" 358,hS "row" 359])::
 (nat_lit 148,hT #[])::
 (nat_lit 150,jy "all_cells" 354 355 356 53 1 3 145 181 146 (.ref 147) (.ref 148) 149 360 361)::
 (nat_lit 151,hF "all_cells" (top 21) tH 150)::
 (nat_lit 152,hT #[])::
 (nat_lit 154,hT #[hS "board" 366,hS "cell" 367])::
 (nat_lit 155,hT #[])::
 (nat_lit 157,jy "letter_of" 363 364 365 58 2 3 152 181 153 (.ref 154) (.ref 155) 156 368 369)::
 (nat_lit 158,hF "letter_of" (top 22) tH 157)::
 (nat_lit 159,hT #[])::
 (nat_lit 161,hT #[hS "one" 374,hS "other" 375,hS "ways" 376,hS "down" 377,hS "along" 378])::
 (nat_lit 162,hT #[])::
 (nat_lit 164,jy "are_next" 371 372 373 60 3 3 159 181 160 (.ref 161) (.ref 162) 163 379 380)::
 (nat_lit 165,hF "are_next" (top 23) tH 164)::
 (nat_lit 166,hT #[])::
 (nat_lit 168,hT #[hS "board" 385,hS "cell" 386,hS "ways" 387,hS "found" 388,hS "row" 389,hS "column" 390])::
 (nat_lit 169,hT #[])::
 (nat_lit 171,jy "next_cells" 382 383 384 66 3 3 166 181 167 (.ref 168) (.ref 169) 170 391 392)::
 (nat_lit 172,hF "next_cells" (top 24) tH 171)::
 (nat_lit 173,hT #[])::
 (nat_lit 175,hT #[hS "things" 397,hS "found" 398,hS "thing" 399])::
 (nat_lit 176,hT #[])::
 (nat_lit 178,jy "keyed" 394 395 396 73 1 3 173 181 174 (.ref 175) (.ref 176) 177 400 401)::
 (nat_lit 179,hF "keyed" (top 25) tH 178)::
 (nat_lit 180,hT #[])::
 (nat_lit 183,jy "with_letters" 403 404 405 78 3 3 180 181 181 .none .none 182 406 407)::
 (nat_lit 184,hF "with_letters" (top 26) tH 183)::
 (nat_lit 185,hT #[])::
 (nat_lit 187,hT #[hS "board" 412,hS "cell" 413])::
 (nat_lit 188,hT #[])::
 (nat_lit 190,jy "letter_at" 409 410 411 85 2 3 185 181 186 (.ref 187) (.ref 188) 189 414 415)::
 (nat_lit 191,hF "letter_at" (top 27) tH 190)::
 (nat_lit 192,hT #[])::
 (nat_lit 195,jy "letters" 417 418 419 89 1 3 192 181 193 .none .none 194 420 421)::
 (nat_lit 196,hF "letters" (top 28) tH 195)::
 (nat_lit 197,hT #[])::
 (nat_lit 200,jy "like_cells" 425 426 427 94 3 3 197 181 198 .none .none 199 428 429)::
 (nat_lit 201,hF "like_cells" (top 30) Jz 200)::
 (nat_lit 202,hT #[])::
 (nat_lit 204,hT #[hS "board" 434,hS "start" 435,hS "ways" 436,hS "back" 437,hS "ring" 438,hS "further" 439,hS "cell" 440,hS "near" 441])::
 (nat_lit 205,hT #[])::
 (nat_lit 207,jy "steps_back" 431 432 433 97 3 3 202 181 203 (.ref 204) (.ref 205) 206 442 443)::
 (nat_lit 208,hF "steps_back" (top 31) Jz 207)::
 (nat_lit 209,hT #[])::
 (nat_lit 211,hT #[hS "board" 448,hS "ways" 449,hS "found" 450,hS "seen" 451,hS "cell" 452,hS "patch" 453])::
 (nat_lit 212,hT #[])::
 (nat_lit 214,jy "all_patches" 445 446 447 109 2 3 209 181 210 (.ref 211) (.ref 212) 213 454 455)::
 (nat_lit 215,hF "all_patches" (top 32) Jz 214)::
 (nat_lit 216,hT #[])::
 (nat_lit 218,hT #[hS "found" 460,hS "numbers" 461,hS "number" 462,hS "patch" 463,hS "cell" 464])::
 (nat_lit 219,hT #[])::
 (nat_lit 221,jy "numbers_of" 457 458 459 118 1 3 216 181 217 (.ref 218) (.ref 219) 220 465 466)::
 (nat_lit 222,hF "numbers_of" (top 33) Jz 221)::
 (nat_lit 223,hT #[])::
 (nat_lit 225,hT #[hS "board" 471,hS "ways" 472,hS "found" 473,hS "numbers" 474,hS "near" 475,hS "cell" 476,hS "mine" 477,hS "other" 478])::
 (nat_lit 226,hT #[])::
 (nat_lit 228,jy "near_numbers" 468 469 470 124 3 3 223 181 224 (.ref 225) (.ref 226) 227 479 480)::
 (nat_lit 229,hF "near_numbers" (top 34) Jz 228)::
 (nat_lit 230,hT #[])::
 (nat_lit 232,hT #[hS "board" 485,hS "ways" 486])::
 (nat_lit 233,hT #[])::
 (nat_lit 235,jy "how_many" 482 483 484 133 2 3 230 181 231 (.ref 232) (.ref 233) 234 487 488)::
 (nat_lit 236,hF "how_many" (top 35) Jz 235)::
 (nat_lit 237,hT #[])::
 (nat_lit 239,hT #[hS "board" 495,hS "cell" 496,hS "ways" 497,hS "letter" 498])::
 (nat_lit 240,hT #[])::
 (nat_lit 242,jy "need_paint" 492 493 494 138 4 3 237 181 238 (.ref 239) (.ref 240) 241 499 500)::
 (nat_lit 243,hF "need_paint" (top 37) J8 242)::
 (nat_lit 244,hT #[])::
 (nat_lit 246,hT #[hS "taken" 505,hS "near" 506,hS "signs" 507,hS "letter" 508,hS "more" 509,hS "number" 510,hS "other" 511])::
 (nat_lit 247,hT #[])::
 (nat_lit 249,jy "drawn_in" 502 503 504 143 4 3 244 181 245 (.ref 246) (.ref 247) 248 512 513)::
 (nat_lit 250,hF "drawn_in" (top 38) J8 249)::
 (nat_lit 251,hT #[])::
 (nat_lit 253,hT #[hS "board" 518,hS "cell" 519,hS "ways" 520,hS "letter" 521])::
 (nat_lit 254,hT #[])::
 (nat_lit 256,jy "painted" 515 516 517 151 4 3 251 181 252 (.ref 253) (.ref 254) 255 522 523)::
 (nat_lit 257,hF "painted" (top 39) J8 256)::
 (nat_lit 258,hT #[])::
 (nat_lit 260,hT #[hS "board" 528,hS "ways" 529,hS "letters" 530,hS "now" 531,hS "letter" 532])::
 (nat_lit 261,hT #[])::
 (nat_lit 263,jy "paints_over" 525 526 527 154 3 3 258 181 259 (.ref 260) (.ref 261) 262 533 534)::
 (nat_lit 264,hF "paints_over" (top 40) J8 263)::
 (nat_lit 265,hT #[])::
 (nat_lit 268,jy "fewest_paints" 536 537 538 162 2 3 265 181 266 .none .none 267 539 540)::
 (nat_lit 269,hF "fewest_paints" (top 41) J8 268)::
 (nat_lit 270,hT #[])::
 (nat_lit 272,hT #[hS "_law_script" 547,hS "_law_k" 548])::
 (nat_lit 273,hT #[])::
 (nat_lit 275,jy "_law_cell" 544 545 546 182 2 3 270 181 271 (.ref 272) (.ref 273) 274 549 550)::
 (nat_lit 276,hF "_law_cell" (top 43) J6 275)::
 (nat_lit 277,hT #[])::
 (nat_lit 279,hT #[hS "_law_script" 555,hS "_law_k" 556,hS "_law_many" 557,hS "_law_cell_here" 558])::
 (nat_lit 280,hT #[])::
 (nat_lit 282,jy "_law_drawn" 552 553 554 186 3 3 277 181 278 (.ref 279) (.ref 280) 281 559 560)::
 (nat_lit 283,hF "_law_drawn" (top 44) J6 282)::
 (nat_lit 284,hT #[])::
 (nat_lit 287,jy "_law_board" 562 563 564 190 3 3 284 181 285 .none .none 286 565 566)::
 (nat_lit 288,hF "_law_board" (top 45) J6 287)::
 (nat_lit 289,hT #[])::
 (nat_lit 292,jy "law" 568 569 570 199 1 3 289 181 290 .none .none 291 571 572)::
 (nat_lit 293,hF "law" (top 46) J6 292)::[]
def o_:List Nat:=[2,3,15,22,23,24,25,28,35,36,37,40,47,48,49,52,59,60,61,64,71,72,73,76,78,79,81,82,83,85,86,88,89,90,93,94,95,98,99,100,102,103,105,106,107,109,110,112,113,114,116,117,119,120,121,123,124,126,127,128,131,132,133,135,136,138,139,140,143,144,145,147,148,150,151,152,154,155,157,158,159,161,162,164,165,166,168,169,171,172,173,175,176,178,179,180,183,184,185,187,188,190,191,192,195,196,197,200,201,202,204,205,207,208,209,211,212,214,215,216,218,219,221,222,223,225,226,228,229,230,232,233,235,236,237,239,240,242,243,244,246,247,249,250,251,253,254,256,257,258,260,261,263,264,265,268,269,270,272,273,275,276,277,279,280,282,283,284,287,288,289,292,293]
def xf:SJ:={PySem.Challenge.pw_cellpatches_k43_whole_paints with main:={PySem.Challenge.pw_cellpatches_k43_whole_paints.main with body:=[top 1,top 2,top 3,top 4,top 5,top 7,top 8,top 9,top 10,top 11,top 12,top 13,top 14,top 15,top 16,top 17,top 18,top 19,top 20,top 21,top 22,top 23,top 24,top 25,top 26,top 27,top 28,top 30,top 31,top 32,top 33,top 34,top 35,top 37,top 38,top 39,top 40,top 41,top 43,top 44,top 45,top 46]} }
open PySem.W PyProof.Rows in
theorem Kn:LeftO PySem.Challenge.rw_cellpatches_k43_whole_paints.row.prog xf [] (λs=>xlAt xf [] s&&recOk PySem.Challenge.rw_cellpatches_k43_whole_paints.row.records s) (kHook pb o_ (λ_=>by kernel_rfl)).obs (kHook pb o_ (λ_=>by kernel_rfl)).val 4380:=λw=>by kernel_rfl
end K1
namespace L2
open PySem PySem.Spec PyProof.Rows
abbrev Key:=Sum Int Str
def mI:Key->Value->Bool
 | .inl k,v=>Value.isInt k v
 | .inr x,v=>Value.isStrOf x v
def KO(w:World):Key->Int
 | .inl k=>hashInt k
 | .inr x=>hashStr w x
theorem bC:∀{k:Key}{v:Value},mI k v=true->(∃i t,k=Wn i/\v=Xk i t)\/(∃x t,k=WO x/\v=Xj x t)
 | .inl i,v,h=>by
   obtain⟨t,e⟩:=Value.isInt_shape (k:=i) (v:=v) h;exact .inl ⟨i,t,rfl,e⟩
 | .inr x,v,h=>by
   obtain⟨t,e⟩:=Value.isStrOf_shape (x:=x) (v:=v) h;exact .inr ⟨x,t,rfl,e⟩
theorem AB(i:Int)(t:Tok):mI (.inl i) (.int i t)=true:=by simp[mI,Value.isInt]
theorem AD(x:Str)(t:Tok):mI (.inr x) (.str x t)=true:=by simp[mI,Value.isStrOf]
theorem Ih(a b:Int):decide ((Wn a:Key)=Wn b)=(a==b):=by
 by_cases e:a=b
 ·subst e;simp
 ·have h:¬(Wn a:Key)=Wn b:=λq=>e (Sum.inl.inj q);rw[Yl h];exact(Yn.mpr e).symm
theorem Ik(a b:Str):decide ((WO a:Key)=WO b)=decide (a=b):=by
 by_cases e:a=b
 ·subst e;simp
 ·have h:¬(WO a:Key)=WO b:=λq=>e (Sum.inr.inj q);rw[Yl h,Yl e]
theorem Ii(a:Int)(b:Str):decide ((Wn a:Key)=WO b)=false:=Yl (λq=>nomatch q)
theorem Ij(a:Str)(b:Int):decide ((WO a:Key)=Wn b)=false:=Yl (λq=>nomatch q)
def ba(prog:SJ)(w:World):PySem.KeyKind prog w Key where
 is:=mI
 hash:=KO w
 inj:=λv a b ha hb=>by
  rcases bC ha with⟨i,t,rfl,rfl⟩ | ⟨x,t,rfl,rfl⟩
  ·rcases bC hb with⟨j,u,rfl,e⟩ | ⟨y,u,rfl,e⟩
   ·injection e with e1 _;rw[e1]
   ·exact nomatch e
  ·rcases bC hb with⟨j,u,rfl,e⟩ | ⟨y,u,rfl,e⟩
   ·exact nomatch e
   ·injection e with e1 _;rw[e1]
 byValue:=λk v h=>by
  rcases bC h with⟨i,t,rfl,rfl⟩ | ⟨x,t,rfl,rfl⟩<;>rfl
 pyHash:=λhv h=>by
  rcases bC hv with⟨i,t,rfl,rfl⟩ | ⟨x,t,rfl,rfl⟩
  ·exact wpAny_pyHash_int h
  ·exact wpAny_pyHash_str h
 eqBool:=λhu hv h=>by
  rcases bC hu with⟨i,t,rfl,rfl⟩ | ⟨x,t,rfl,rfl⟩
  ·rcases bC hv with⟨j,u,rfl,rfl⟩ | ⟨y,u,rfl,rfl⟩
   ·rw[Ih] at h;exact wpAny_eqBool_int h
   ·rw[Ii] at h;exact W6 i t y u _ _ _ _ h
  ·rcases bC hv with⟨j,u,rfl,rfl⟩ | ⟨y,u,rfl,rfl⟩
   ·rw[Ij] at h;exact W5 x t j u _ _ _ _ h
   ·rw[Ik] at h;exact wpAny_eqBool_str h
 «strs» :=λk x t v h=>by
  rcases bC h with⟨i,u,rfl,e⟩ | ⟨y,u,rfl,e⟩
  ·exact nomatch e
  ·injection e with e1 _
   subst e1;cases v<;>rfl
theorem vW(prog:SJ)(w:World)(i:Int)(t:Tok):(ba prog w).is (.inl i) (.int i t)=true:=AB i t
theorem vX(prog:SJ)(w:World)(x:Str)(t:Tok):(ba prog w).is (.inr x) (.str x t)=true:=AD x t
inductive V where
 |non | bl (b:Bool) | int (i:Int) | str (x:Str) | byt (b:Array UInt8) | flt (b:UInt64) | ref (a:Addr) | ty (n:String)
 deriving DecidableEq
def RelV:V->Value->Prop
 | .non,u=>u=Tt
 | .bl b,u=>u=Vi b
 | .int i,u=>∃t,u=Xk i t
 | .str x,u=>∃t,u=Xj x t
 | .byt b,u=>∃t,u=Value.bytes b t
 | .flt b,u=>∃t,u=Value.float b t
 | .ref a,u=>u=SY a
 | .ty n,u=>u=XT n
abbrev Vals:List V->List Value->Prop:=Wz RelV
theorem Vals.length{xs:List V}{us:List Value}(r:Vals xs us):xs.length=us.length:=T4 r
theorem Vals.get:∀{xs:List V}{us:List Value}{i:Nat}{x:V},Vals xs us->xs[i]? =some x->∃u,us[i]? =some u/\RelV x u
 |_,_,_,_, .nil,e=>by simp at e
 |_,_,0,_, .cons r _,e=>by simp at e;subst e;exact⟨_,rfl,r⟩
 |_,_,i+1,x, .cons _ t,e=>by
  obtain⟨u,h1,h2⟩:=Vals.get (i:=i) (x:=x) t (by simpa using e);exact⟨u,by simpa using h1,h2⟩
theorem Vals.append:∀{xs ys:List V}{us ws:List Value},Vals xs us->Vals ys ws->Vals (xs++ys) (us++ws)
 |_,_,_,_, .nil,s=>s
 |_,_,_,_, .cons r t,s=> .cons r (Vals.append t s)
theorem Vals.take:∀{xs:List V}{us:List Value}(n:Nat),Vals xs us->Vals (xs.take n) (us.take n)
 |_,_,0,_=> .nil
 |_,_,_+1, .nil=> .nil
 |_,_,n+1, .cons r t=> .cons r (Vals.take n t)
theorem Vals.drop:∀{xs:List V}{us:List Value}(n:Nat),Vals xs us->Vals (xs.drop n) (us.drop n)
 |_,_,0,r=>r
 |_,_,_+1, .nil=> .nil
 |_,_,n+1, .cons _ t=>Vals.drop n t
def RelO:Option V->Option Value->Prop
 |some v,some u=>RelV v u
 |none,none=>True
 |_,_=>False
def KV{κ:Type}:List (κ×V)->List (κ×Value)->Prop:=Wz λ(p:κ×V) (q:κ×Value)=>p.1=q.1/\RelV p.2 q.2
def kV:Key->V
 | .inl i=> .int i
 | .inr x=> .str x
inductive HO where
 |lst (xs:List V)
 |tup (xs:List V)
 |dK (kvs:List (Key×V)) | dT (kvs:List (List Key×V))
 |set (S:Int->Bool) (n:Nat)
 |ins (C dx:Addr) (fs:List (Str×V))
 |own (x:Addr)
 |xd (fs:List (Str×V))
 |met (f x:Addr)
 |rng (lo hi:Int)
 |frz (o:Obj) (u:HO)
 |tbl (ps:Array Value)
 |ext (φ:Heap->Prop)
abbrev Hp:=Addr->Option HO
def upd(H:Hp)(a:Addr)(o:HO):Hp:=λb=>if b=a then some o else H b
theorem aH{H:Hp}{a:Addr}{o:HO}:upd H a o a=some o:=by unfold upd;rw[Yg rfl]
theorem ax{H:Hp}{a b:Addr}{o:HO}(h:b≠a):upd H a o b=H b:=by unfold upd;rw[Yh h]
theorem CP{H:Hp}{a b:Addr}{o u:HO}(h:H a=some o)(h':H b=some u)(d:o≠u):a≠b:=by
 intro e;subst e;rw[h] at h';exact d (SS h')
theorem bf{H:Hp}{a b:Addr}{o:HO}(h:H a=some o)(h':H b=none):a≠b:=by
 intro e;subst e;rw[h] at h';cases h'
section
variable(P:SJ)(w:World)
def ObjOk(H:Hp)(h:Heap)(a:Addr):HO->Prop
 | .lst xs=>xs.length<=Sv/\∃(aS:List Value) (n:Nat),Vals xs aS/\h.get? a=some {cls:= .type "list",data:= .seq aS.toArray n}
 | .tup xs=>xs.length<=Sv/\∃aS:List Value,Vals xs aS/\IsTup h a aS.toArray
 | .dK kvs=>kvs.length<=Sv/\(a==Tx)=false/\∃vs,KV kvs vs/\h.DictOf (ba P w) a vs
 | .dT kvs=>kvs.length<=Sv/\(a==Tx)=false/\∃xs:List (List Key×Addr×Value),
    Wz (λ(p:List Key×V) (q:List Key×Addr×Value)=>p.1=q.1/\H q.2.1=some (.tup (p.1.map kV))/\RelV p.2 q.2.2) kvs xs/\
    ∃o es ep,h.get? a=some o/\o.ExactDict/\o.data= .dict es ep/\es.toList=xs.map (XF (Ui (ba P w)))/\(xs.map (·.1)).Nodup
 | .set S n=>h.SetOf (intKind P w) a S n
 | .ins C dx fs=>H dx=some (.own a)/\fs.length<=1000/\dx≠a/\h.get? a=some (Wq C dx)/\
    ∃mA,h.Ns1 dx mA/\(∀f,RelO (fs.lookup f) (mA f))/\PySem.Within mA (fs.map (·.1))
 | .own _=>∃o,h.get? a=some o
 | .xd fs=>∃mA,h.Ns1 a mA/\∀f,RelO (fs.lookup f) (mA f)
 | .rng lo hi=>∃t u v,h.get? a=some {cls:= .type "range",data:= .fields #[.int lo t, .int hi u, .int 1 v]}
 | .frz o u=>h.get? a=some o/\ObjOk H h a u
 | .tbl ps=>h.get? a=some {cls:= .none,data:= .fields ps}
 | .met f x=>h.get? a=some (V7 (.ref f) (.ref x))
 | .ext φ=>φ h/\(∃o,h.get? a=some o)/\∀h1 h2:Heap,φ h1->(∀o,h1.get? a=some o->h2.get? a=some o)->φ h2
def HOk(H:Hp)(h:Heap):Prop:=∀a o,H a=some o->ObjOk P w H h a o
end
section
variable{P:SJ}{w:World}{H H':Hp}{h h':Heap}{a:Addr}{o:HO}
theorem ObjOk.lt(x:ObjOk P w H h a o):a<h.objs.size:=by
 cases o with
 |lst xs=>obtain⟨_,_,_,_,e⟩:=x;exact Sq e
 |tup xs=>obtain⟨_,_,_,p⟩:=x;exact p.lt
 |dK kvs=>obtain⟨_,_,_,_,o,_,_,e,_⟩:=x;exact Sq e
 |dT kvs=>obtain⟨_,_,_,_,o,_,_,e,_⟩:=x;exact Sq e
 |set S n=>obtain⟨o,_,_,_,e,_⟩:=x;exact Sq e
 |ins C dx fs=>obtain⟨_,_,_,e,_⟩:=x;exact Sq e
 |own y=>obtain⟨_,e⟩:=x;exact Sq e
 |xd fs=>obtain⟨_,⟨_,_,_,e,_⟩,_⟩:=x;exact Sq e
 |rng lo hi=>obtain⟨_,_,_,e⟩:=x;exact Sq e
 |frz ob u=>obtain⟨e,_⟩:=x;exact Sq e
 |tbl ps=>exact Sq (show h.get? a=some _ from x)
 |met f y=>exact Sq (show h.get? a=some _ from x)
 |ext φ=>obtain⟨_,⟨_,e⟩,_⟩:=x;exact Sq e
theorem Paired.mapP{α β:Type}{F G:α->β->Prop}:∀{Yx:List α}{Yy:List β},Wz F Yx Yy->(∀a b,F a b->G a b)->Wz G Yx Yy
 |_,_, .nil,_=> .nil
 |_,_, .cons r t,f=> .cons (f _ _ r) (Paired.mapP t f)
theorem ObjOk.stay(x:ObjOk P w H h a o)(k:∀b u,(b=a\/H b=some (.own a))->h.get? b=some u->h'.get? b=some u)
 (ho:∀b,H b=some (.own a)->H' b=some (.own a))(ht:∀b xs,H b=some (.tup xs)->H' b=some (.tup xs)):ObjOk P w H' h' a o:=by
 induction o with
 |lst xs=>obtain⟨z,aS,n,r,e⟩:=x;exact⟨z,aS,n,r,k _ _ (.inl rfl) e⟩
 |tup xs=>obtain⟨z,aS,r,ob,e,c⟩:=x;exact⟨z,aS,r,ob,k _ _ (.inl rfl) e,c⟩
 |dK kvs=>obtain⟨z,y,vs,r,ob,es,ep,e,c⟩:=x;exact⟨z,y,vs,r,ob,es,ep,k _ _ (.inl rfl) e,c⟩
 |dT kvs=>
  obtain⟨z,y,xs,r,ob,es,ep,e,c⟩:=x;exact⟨z,y,xs,Paired.mapP r λp q z=>⟨z.1,ht _ _ z.2.1,z.2.2⟩,ob,es,ep,k _ _ (.inl rfl) e,c⟩
 |set S n=>obtain⟨ob,es,ep,t,e,c⟩:=x;exact⟨ob,es,ep,t,k _ _ (.inl rfl) e,c⟩
 |ins C dx fs=>
  obtain⟨d,z,ne,e,mA,⟨od,es,ep,e2,c⟩,r⟩:=x;exact⟨ho _ d,z,ne,k _ _ (.inl rfl) e,mA,⟨od,es,ep,k _ _ (.inr d) e2,c⟩,r⟩
 |own y=>obtain⟨ob,e⟩:=x;exact⟨ob,k _ _ (.inl rfl) e⟩
 |xd fs=>obtain⟨mA,⟨od,es,ep,e,c⟩,r⟩:=x;exact⟨mA,⟨od,es,ep,k _ _ (.inl rfl) e,c⟩,r⟩
 |rng lo hi=>obtain⟨t,u,v,e⟩:=x;exact⟨t,u,v,k _ _ (.inl rfl) e⟩
 |frz ob u ih=>obtain⟨e,q⟩:=x;exact⟨k _ _ (.inl rfl) e,ih q⟩
 |tbl ps=>
  have e:h.get? a=some {cls:= .none,data:= .fields ps}:=x;show h'.get? a=some {cls:= .none,data:= .fields ps};exact k a _ (.inl rfl) e
 |met f y=>
  have e:h.get? a=some (V7 (.ref f) (.ref y)):=x;show h'.get? a=some (V7 (.ref f) (.ref y));exact k a _ (.inl rfl) e
 |ext φ=>obtain⟨p,⟨o,e⟩,st⟩:=x;exact⟨st _ _ p λo q=>k _ _ (.inl rfl) q,⟨o,k _ _ (.inl rfl) e⟩,st⟩
theorem HOk.lt(x:HOk P w H h)(e:H a=some o):a<h.objs.size:=(x a o e).lt
theorem HOk.fresh(x:HOk P w H h)(e:h.objs.size<=a):H a=none:=by
 cases q:H a with
 |none=>rfl
 |some u=>exact Ym (SN (x.lt q) e) (Tf _)
theorem HOk.kept(x:HOk P w H h)(k:∀b u,h.get? b=some u->h'.get? b=some u):HOk P w H h':=λa o e=>
 (x a o e).stay (λb u _ q=>k b u q) (λ_ q=>q) λ_ _ q=>q
theorem HOk.laid(x:HOk P w H h)(k:∀b u,h.get? b=some u->h'.get? b=some u)(hp:h.objs.size<=a)(new:ObjOk P w (upd H a o) h' a o):HOk P w (upd H a o) h':=λb u e=>by
 have hn:=x.fresh hp;by_cases hb:b=a
 ·subst hb;rw[aH] at e;cases e;exact new
 ·rw[ax hb] at e;exact(x b u e).stay (λc v _ q=>k c v q) (λc q=>by rw[ax (bf q hn)];exact q) λc xs q=>by rw[ax (bf q hn)];exact q
end
def Rd(H:Hp)(a:Addr)(u:HO):Prop:=H a=some u\/∃o,H a=some (.frz o u)
theorem Rd.ok{P:SJ}{w:World}{H:Hp}{h:Heap}{a:Addr}{u:HO}(r:Rd H a u)(x:HOk P w H h):ObjOk P w H h a u:=by
 rcases r with r | ⟨o,r⟩
 ·exact x a u r
 ·obtain⟨_,q⟩:=x a _ r;exact q
def JL:Option HO->Prop
 |some (.lst _)=>True
 |some (.dK _)=>True
 |some (.dT _)=>True
 |some (.set _ _)=>True
 |some (.ins _ _ _)=>True
 |some (.ext _)=>True
 |_=>False
section
variable{P:SJ}{w:World}{H:Hp}{h h':Heap}{x e:Addr}{o':HO}
theorem HOk.write(ok:HOk P w H h)(mu:JL (H x))(he:e=x\/H e=some (.own x))(k:∀b u,b≠e->h.get? b=some u->h'.get? b=some u)(Bv:∃u,h'.get? e=some u)
 (new:ObjOk P w (upd H x o') h' x o'):HOk P w (upd H x o') h':=λb u q=>by
 have K2:∀c y,H c=some (.own y)->c≠x:=λc y r z=>by subst z;rw[r] at mu;exact mu
 have NN:∀c xs,H c=some (.tup xs)->c≠x:=λc xs r z=>by subst z;rw[r] at mu;exact mu
 by_cases hb:b=x
 ·subst hb;rw[aH] at q;cases q;exact new
 ·rw[ax hb] at q;by_cases HD:b=e
  ·have q':H b=some (.own x):=by
    rcases he with z | z
    ·exact Ym (HD.trans z) hb
    ·rw[HD];exact z
   rw[q] at q';cases q';obtain⟨v,hv⟩:=Bv;exact⟨v,by rw[HD];exact hv⟩
  ·refine(ok b u q).stay (λc v hc r=>k c v ?_ r) (λc r=>by rw[ax (K2 c b r)];exact r) λc xs r=>by rw[ax (NN c xs r)];exact r
   rcases hc with rfl | hc
   ·exact HD
   ·rintro rfl;rcases he with z | z
    ·exact K2 c b hc z
    ·rw[hc] at z;cases z;exact hb rfl
end
structure Un (fs ex:List Addr) (H H':Hp) (h h':Heap):Prop where
 keep:∀b o,h.get? b=some o->H b=none->b∉fs->b∉ex->h'.get? b=some o
 slot:∀b o,h.get? b=some o->H b=none->b∈fs->b∉ex->∃sl,h'.get? b=some {o with slots:=sl}
 free:∀b o,h.get? b=some o->H b=none->b∉ex->H' b=none
 there:∀b o,h.get? b=some o->b∉ex->∃o',h'.get? b=some o'
 tups:∀b xs,H b=some (.tup xs)->H' b=some (.tup xs)
 frzs:∀b o u,H b=some (.frz o u)->H' b=some (.frz o u)
 tbls:∀b ps,H b=some (.tbl ps)->∃more,H' b=some (.tbl (ps++more))
section
variable{fs Ox ex xQ:List Addr}{H H1 H2:Hp}{h h1 h2 h':Heap}{a x e:Addr}{o:HO}
theorem Un.any(u:Un fs ex H H1 h h1){b:Addr}{ob:Obj}(q:h.get? b=some ob)(n:H b=none)(hx:b∉ex):∃sl,h1.get? b=some {ob with slots:=sl}:=by
 by_cases hb:b∈fs
 ·exact u.slot b ob q n hb hx
 ·exact⟨ob.slots,u.keep b ob q n hb hx⟩
theorem Un.trans(a:Un fs ex H H1 h h1)(b:Un fs ex H1 H2 h1 h2):Un fs ex H H2 h h2 where
 keep:=λc ob q n hc hx=>b.keep c ob (a.keep c ob q n hc hx) (a.free c ob q n hx) hc hx
 slot:=λc ob q n hc hx=>by
  obtain⟨sl,e1⟩:=a.slot c ob q n hc hx;obtain⟨Jk,e2⟩:=b.slot c _ e1 (a.free c ob q n hx) hc hx;exact⟨Jk,e2⟩
 free:=λc ob q n hx=>by
  obtain⟨o',e1⟩:=a.there c ob q hx;exact b.free c o' e1 (a.free c ob q n hx) hx
 there:=λc ob q hx=>by
  obtain⟨o',e1⟩:=a.there c ob q hx;exact b.there c o' e1 hx
 tups:=λc xs q=>b.tups c xs (a.tups c xs q)
 frzs:=λc ob xs q=>b.frzs c ob xs (a.frzs c ob xs q)
 tbls:=λc ps q=>by
  obtain⟨m1,e1⟩:=a.tbls c ps q;obtain⟨m2,e2⟩:=b.tbls c _ e1;exact⟨m1++m2,by rw[e2,V_]⟩
theorem Un.kept(k:∀b u,h.get? b=some u->h'.get? b=some u):Un fs ex H H h h':=
 ⟨λb ob q _ _ _=>k b ob q,λb ob q _ _ _=>⟨ob.slots,k b ob q⟩,λ_ _ _ n _=>n,λb ob q _=>⟨ob,k b ob q⟩,λ_ _ q=>q,λ_ _ _ q=>q,λ_ ps q=>⟨#[],by rw[q];simp⟩⟩
theorem Un.refl:Un fs ex H H h h:=Un.kept λ_ _ q=>q
theorem Un.laid(k:∀b u,h.get? b=some u->h'.get? b=some u)(hp:h.objs.size<=a)(hn:H a=none):Un fs ex H (upd H a o) h h' where
 keep:=λb u q _ _ _=>k b u q
 slot:=λb u q _ _ _=>⟨u.slots,k b u q⟩
 free:=λb u q n _=>by rw[ax (SH (SN (Sq q) hp))];exact n
 there:=λb u q _=>⟨u,k b u q⟩
 tups:=λb xs q=>by rw[ax (bf q hn)];exact q
 frzs:=λb u xs q=>by rw[ax (bf q hn)];exact q
 tbls:=λb ps q=>⟨#[],by rw[ax (bf q hn),q];simp⟩
theorem Un.write(mu:JL (H x))(he:e=x\/H e=some (.own x))(k:∀b u,b≠e->h.get? b=some u->h'.get? b=some u)(Bv:∃u,h'.get? e=some u):Un fs ex H (upd H x o) h h':=by
 have hx:∀b,H b=none->b≠x:=λb n z=>by subst z;rw[n] at mu;exact mu
 have hb:∀b,H b=none->b≠e:=λb n z=>by
  subst z;rcases he with r | r
  ·exact hx b n r
  ·rw[n] at r;cases r
 have hm:∀b u,H b=some u->¬JL (some u)->b≠x:=λb u q nm z=>by subst z;rw[q] at mu;exact nm mu
 refine⟨λb u q n _ _=>k b u (hb b n) q,λb u q n _ _=>⟨u.slots,k b u (hb b n) q⟩,λb u q n _=>by rw[ax (hx b n)];exact n,λb u q _=>?_,
  λb xs q=>by rw[ax (hm b _ q λz=>z)];exact q,λb u xs q=>by rw[ax (hm b _ q λz=>z)];exact q,λb ps q=>⟨#[],by rw[ax (hm b _ q λz=>z),q];simp⟩⟩
 by_cases HD:b=e
 ·subst HD;exact Bv
 ·exact⟨u,k b u HD q⟩
theorem Un.mono(u:Un fs ex H H1 h h1)(hs:∀b∈fs,b∈Ox)(hx:∀b∈ex,b∈xQ):Un Ox xQ H H1 h h1:=
 ⟨λb ob q n hb he=>u.keep b ob q n (λz=>hb (hs b z)) λz=>he (hx b z),λ_ _ q n _ he=>u.any q n λz=>he (hx _ z),λb ob q n he=>u.free b ob q n λz=>he (hx b z),λb ob q he=>u.there b ob q λz=>he (hx b z),u.tups,u.frzs,u.tbls⟩
end
def Mq(h:Heap)(H:Hp):List Addr:=(Sn h.objs.size).filter λa=>(H a).isSome
def tJ(h:Heap)(H:Hp):Heap:=PySem.W.hideAll h (Mq h H)
theorem Av(h:Heap)(H:Hp):(tJ h H).objs.size=h.objs.size:=PySem.W.hideAll_size _ _
theorem Ci{h:Heap}{H:Hp}{b:Addr}{o:Obj}(e:h.get? b=some o)(n:H b=none):(tJ h H).get? b=some o:=
 PySem.W.hideAll_get _ e λhm=>by
  have q:(H b).isSome=true:=(Td.mp hm).2;rw[n] at q;simp at q
theorem Fp{h:Heap}{H:Hp}{b:Addr}{o:Obj}(e:(tJ h H).get? b=some o):h.get? b=some o/\H b=none:=by
 have e':h.get? b=some o:=PySem.W.of_hideAll (Mq h H) e;refine⟨e',?_⟩;cases q:H b with
 |none=>rfl
 |some x=>
  have hm:b∈Mq h H:=Td.mpr ⟨S7.mpr (Sq e'),by simp[q]⟩;have z:(tJ h H).get? b=none:=PySem.W.hideAll_none (Mq h H) hm;rw[z] at e;cases e
def Eu(g h:Heap)(L:Addr):List (Addr×Obj):=(Sn h.objs.size).filterMap λa=>if a=L\/(g.get? a).isSome=true then none else(h.get? a).map λo=>(a,o)
def W1(g h:Heap)(L d:Addr):List (Addr×Obj):=(Eu g h L).filter λp=>decide (p.1≠d)
structure Mod (K:Se) (mg:Str->Option Value) (base:Heap):Prop where
 kin:K.In base
 glob:base.Ns SG mg
 blt:∃mb,base.Ns builtinsNs mb/\∀x:Str,x≠"__name__"->mb x=S5 x
 nolimit:base.NoLimit
structure Cx where
 prog:SJ
 w:World
 K:Se
 mg:Str->Option Value
 base:Heap
 A:S1
 N:List Str
 YD:R8
 YC:Hp
 env:Env
 outer:List Env
 stack:List Env
 ex:List Addr
 fn:Str->Bool
 calm:Bool
 pn:List (Addr×Obj)
 xe:Value->R8->Prop
def oq(l:List Env):List Addr:=l.filterMap (·.frame)
abbrev Cx.fs(X:Cx):List Addr:=oq X.outer
def MC(sc:Scope)(x:Str):Prop:=sc.names.lookup x=some .local\/sc.names.lookup x=some .cell\/sc.names.lookup x=some .free
def Loc(sc:Scope)(x:Str):Prop:=sc.names.lookup x=some .local\/sc.names.lookup x=some .cell
def Look(env:Env)(h:Heap)(m:Str->Option Value)(x:Str)(u:Value):Prop:=
 (env.kindOf x=some .local/\m x=some u)\/((env.kindOf x=some .cell\/env.kindOf x=some .free)/\∃c,env.cells.lookup x=some c/\h.IsCell c (some u))
structure Cx.Ok (X:Cx):Prop where
 mod:Mod X.K X.mg X.base
 kind:X.env.scope.kind= .function
 glob:X.env.globals=SG
 blt:X.env.builtins=builtinsNs
 above:X.YD.heap.objs.size<=X.env.locals
 inj:∀x y c,X.env.cells.lookup x=some c->X.env.cells.lookup y=some c->x=y
 has:∀x,(X.env.kindOf x=some .cell\/X.env.kindOf x=some .free)->∃c,X.env.cells.lookup x=some c
 cab:∀x c,X.fn x=true->X.env.cells.lookup x=some c->X.YD.heap.objs.size<=c
 hd:X.calm=true->X.A.handled=none
 frames:X.A.frames=some X.stack
 stk:X.stack=X.outer\/(X.stack=X.env::X.outer/\X.env.frame=some X.env.locals)
 exf:∀b∈X.ex,b≠X.env.locals/\∀x c,X.env.cells.lookup x=some c->c≠b
 bs:∀b o,X.base.get? b=some o->X.YD.heap.get? b=some o/\X.YC b=none
 bsz:X.base.objs.size<=X.YD.heap.objs.size
 noex:∀b o,X.base.get? b=some o->b∉X.ex
 exfs:∀b∈X.ex,b∉X.fs
 funs:X.YD.heap.FunFrames X.base X.outer
 frf:∀b∈X.fs,X.YC b=none
structure Inv (X:Cx) (f8:List (Addr×Obj)) (σ:List (Option V)) (H:Hp) (s:R8):Prop where
 ok:X.Ok
 os:s.os=X.YD.os
 bare:Wa s.gens
 base:Un X.fs X.ex X.YC H X.YD.heap s.heap
 loc:∃m,s.heap.Ns X.env.locals m/\∀(i:Nat) (x:Str) (v:V),X.N[i]? =some x->σ[i]? =some (some v)->MC X.env.scope x->∃u,RelV v u/\Look X.env s.heap m x u
 cell:∀x c,X.env.cells.lookup x=some c->∃v,s.heap.IsCell c v
 free:H X.env.locals=none
 freeC:∀x c,X.env.cells.lookup x=some c->H c=none
 pin:∀p∈X.pn++f8,s.heap.get? p.1=some p.2/\H p.1=none/\p.1≠X.env.locals/\p.1∉X.fs/\∀v,p.2.data≠ .cell v
 hok:HOk X.prog X.w H s.heap
 len:σ.length=X.N.length
section
variable{X:Cx}{f8:List (Addr×Obj)}{σ:List (Option V)}{H H':Hp}{s:R8}{h':Heap}
theorem Cx.Ok.nofr(ok:X.Ok){b:Addr}{o:Obj}(e:X.base.get? b=some o):b∉X.fs:=λhb=>by
 have:=(ok.funs.mem hb).1;rw[e] at this;cases this
theorem Inv.bs(I:Inv X f8 σ H s):∀b o,X.base.get? b=some o->s.heap.get? b=some o/\H b=none:=λb o e=>
 ⟨I.base.keep b o (I.ok.bs b o e).1 (I.ok.bs b o e).2 (I.ok.nofr e) (I.ok.noex b o e),I.base.free b o (I.ok.bs b o e).1 (I.ok.bs b o e).2 (I.ok.noex b o e)⟩
theorem Inv.bk(I:Inv X f8 σ H s):∀b o,X.base.get? b=some o->s.heap.get? b=some o:=λb o e=>(I.bs b o e).1
theorem Inv.mod(I:Inv X f8 σ H s):Mod X.K X.mg X.base:=I.ok.mod
theorem Inv.kIn(I:Inv X f8 σ H s):X.K.In s.heap:=I.ok.mod.kin.keeps I.bk
theorem Inv.nolimit(I:Inv X f8 σ H s):s.heap.NoLimit:=I.ok.mod.nolimit.keeps I.bk
theorem Inv.lt(I:Inv X f8 σ H s):X.env.locals<s.heap.objs.size:=let ⟨_,hn,_⟩:=I.loc;hn.lt
theorem Inv.sz(I:Inv X f8 σ H s):X.YD.heap.objs.size<=s.heap.objs.size:=Sy I.ok.above (Tr I.lt)
theorem Inv.nofs(I:Inv X f8 σ H s){a:Addr}(h:s.heap.objs.size<=a):a∉X.fs:=λhb=>by
 obtain⟨_,o,ho,_⟩:=I.ok.funs.mem hb;exact Ym (SN (Sq ho) (Sy I.sz h)) (Tf _)
theorem Inv.cne(I:Inv X f8 σ H s):∀x c,X.env.cells.lookup x=some c->c≠X.env.locals:=λx c e z=>by
 obtain⟨v,o,ho,hd⟩:=I.cell x c e;obtain⟨m,⟨o',es,ep,rO,xu,_⟩,_⟩:=I.loc;rw[z,rO] at ho;cases ho;rw[xu] at hd;cases hd
theorem Inv.funs(I:Inv X f8 σ H s):s.heap.FunFrames X.base X.outer:=by
 have all:∀(l:List Env),(∀b∈oq l,b∈X.fs)->X.YD.heap.FunFrames X.base l->s.heap.FunFrames X.base l:=by
  intro l;induction l with
  |nil=>intro _ _;trivial
  |cons env r ih=>
   intro hs hl;obtain⟨hk,⟨L,o,hf,hn,ho,hd⟩,hr⟩:=hl;have hL:L∈X.fs:=hs L (by unfold oq;rw[VY,hf];exact R1);obtain⟨sl,e⟩:=I.base.slot L o ho (I.ok.frf L hL) hL λz=>I.ok.exfs L z hL;exact⟨hk,⟨L,_,hf,hn,e,hd⟩,ih (λb hb=>hs b (by unfold oq;rw[VY,hf];exact R4 _ hb)) hr⟩
 exact all X.outer (λ_ hb=>hb) I.ok.funs
theorem Inv.stack(I:Inv X f8 σ H s):s.heap.FunFrames X.base X.stack:=by
 rcases I.ok.stk with e | ⟨e,hf⟩
 ·rw[e];exact I.funs
 ·rw[e];obtain⟨m,hn,_⟩:=I.loc;refine .cons (by rw[I.ok.kind];decide) hf hn ?_ I.funs;exact XC (Sy I.ok.bsz I.ok.above)
theorem Inv.stkSub(I:Inv X f8 σ H s):∀b∈oq X.stack,b∈X.env.locals::X.fs:=λb hb=>by
 rcases I.ok.stk with e | ⟨e,hf⟩
 ·rw[e] at hb;exact R4 _ hb
 ·rw[e] at hb;unfold oq at hb;rw[VY,hf] at hb;exact hb
theorem Inv.stkFree(I:Inv X f8 σ H s):∀b∈oq X.stack,H b=none:=λb hb=>by
 rcases Sf.mp (I.stkSub b hb) with e | hb
 ·rw[e];exact I.free
 ·obtain⟨_,o,ho,_⟩:=I.ok.funs.mem hb;exact I.base.free b o ho (I.ok.frf b hb) λz=>I.ok.exfs b z hb
theorem Inv.step{g':Array GenState}{t':Nat}{d':Drawn}{ch:List Addr}(I:Inv X f8 σ H s)
 (El:∀b∈ch,(b∈X.ex\/X.YD.heap.objs.size<=b)/\b≠X.env.locals/\(∀x c,X.env.cells.lookup x=some c->c≠b)/\∀p∈X.pn++f8,p.1≠b)
 (keep:∀b o,b≠X.env.locals->b∉X.fs->b∉ch->s.heap.get? b=some o->H b=none->h'.get? b=some o)
 (slot:∀b o,b≠X.env.locals->b∈X.fs->b∉ch->s.heap.get? b=some o->H b=none->∃sl,h'.get? b=some {o with slots:=sl})(free:∀b o,b∉ch->s.heap.get? b=some o->H b=none->H' b=none)
 (there:∀b o,b∉ch->s.heap.get? b=some o->∃o',h'.get? b=some o')
 (tups:∀b xs,H b=some (.tup xs)->H' b=some (.tup xs))(frzs:∀b o u,H b=some (.frz o u)->H' b=some (.frz o u))(tbls:∀b ps,H b=some (.tbl ps)->∃more,H' b=some (.tbl (ps++more)))
 (ns:∀m,s.heap.Ns X.env.locals m->h'.Ns X.env.locals m)(hok:HOk X.prog X.w H' h')(hg:Wa g'):
 Inv X f8 σ H' {s with heap:=h',gens:=g',drawn:=d',toks:=t'}:=by
 have Pj:∀b o,X.YD.heap.get? b=some o->b≠X.env.locals:=λb o e=>SH (SN (Sq e) I.ok.above);have Ml:∀b o,X.YD.heap.get? b=some o->b∉X.ex->b∉ch:=λb o e hx hb=>by
  rcases(El b hb).1 with z | z
  ·exact hx z
  ·exact Ym (SN (Sq e) z) (Tf _)
 have cellK:∀x c,X.env.cells.lookup x=some c->∀v,s.heap.IsCell c v->h'.IsCell c v:=λx c e v ⟨o,ho,hd⟩=>by
  have KW:c∉ch:=λz=>(El c z).2.2.1 x c e rfl;by_cases hc:c∈X.fs
  ·obtain⟨sl,q⟩:=slot c o (I.cne x c e) hc KW ho (I.freeC x c e);exact⟨_,q,hd⟩
  ·exact⟨o,keep c o (I.cne x c e) hc KW ho (I.freeC x c e),hd⟩
 refine⟨I.ok,I.os,hg,⟨λb o e n hb hx=>?_,λb o e n hb hx=>?_,λb o e n hx=>?_,λb o e hx=>?_,λb xs e=>tups b xs (I.base.tups b xs e),λb o xs e=>frzs b o xs (I.base.frzs b o xs e),λb ps e=>?_⟩,?_,λx c e=>?_,?_,λx c e=>?_,λp hp=>?_,hok,I.len⟩
 ·exact keep b o (Pj b o e) hb (Ml b o e hx) (I.base.keep b o e n hb hx) (I.base.free b o e n hx)
 ·obtain⟨sl,e1⟩:=I.base.slot b o e n hb hx;obtain⟨Jk,e2⟩:=slot b _ (Pj b o e) hb (Ml b o e hx) e1 (I.base.free b o e n hx);exact⟨Jk,e2⟩
 ·obtain⟨o',e1⟩:=I.base.there b o e hx;exact free b o' (Ml b o e hx) e1 (I.base.free b o e n hx)
 ·obtain⟨o',e1⟩:=I.base.there b o e hx;exact there b o' (Ml b o e hx) e1
 ·obtain⟨m1,e1⟩:=I.base.tbls b ps e;obtain⟨m2,e2⟩:=tbls b _ e1;exact⟨m1++m2,by rw[e2,V_]⟩
 ·obtain⟨m,hn,hl⟩:=I.loc;refine⟨m,ns m hn,λi x v e1 e2 e3=>?_⟩;obtain⟨u,r,l⟩:=hl i x v e1 e2 e3;refine⟨u,r,?_⟩;rcases l with l | ⟨k,c,e,z⟩
  ·exact .inl l
  ·exact .inr ⟨k,c,e,cellK x c e _ z⟩
 ·obtain⟨v,z⟩:=I.cell x c e;exact⟨v,cellK x c e v z⟩
 ·obtain⟨m,⟨o,_,_,ho,_⟩,_⟩:=I.loc;exact free _ o (λz=>(El _ z).2.1 rfl) ho I.free
 ·obtain⟨v,o,ho,hd⟩:=I.cell x c e;exact free c o (λz=>(El c z).2.2.1 x c e rfl) ho (I.freeC x c e)
 ·obtain⟨e,n,ne,nf,d⟩:=I.pin p hp;have KW:p.1∉ch:=λz=>(El p.1 z).2.2.2 p hp rfl;exact⟨keep p.1 p.2 ne nf KW e n,free p.1 p.2 KW e n,ne,nf,d⟩
theorem Inv.un{t':Nat}(I:Inv X f8 σ H s)(u:Un X.fs [] H H' s.heap h')(hok:HOk X.prog X.w H' h'):Inv X f8 σ H' {s with heap:=h',toks:=t'}:=by
 obtain⟨m,⟨o,es,ep,ho,r⟩,_⟩:=id I.loc;obtain⟨sl,hL⟩:=u.any ho I.free (by simp);exact I.step (g':=s.gens) (d':=s.drawn) (ch:=[]) (λ_ z=>nomatch z) (λb o _ hb _ e n=>u.keep b o e n hb (by simp)) (λb o _ hb _ e n=>u.slot b o e n hb (by simp)) (λb o _ e n=>u.free b o e n (by simp)) (λb o _ e=>u.there b o e (by simp)) u.tups u.frzs u.tbls (λm' hm=>by
  obtain⟨o',Jy,EJ,rO,r'⟩:=hm;rw[ho] at rO;cases rO;exact⟨_,Jy,EJ,hL,r'⟩) hok I.bare
theorem Inv.call{g':Array GenState}{t':Nat}{d':Drawn}{ch:List Addr}(I:Inv X f8 σ H s)(u:Un (oq X.stack) ch H H' s.heap h')(hok:HOk X.prog X.w H' h')(hg:Wa g')
 (El:∀b∈ch,(b∈X.ex\/X.YD.heap.objs.size<=b)/\b≠X.env.locals/\(∀x c,X.env.cells.lookup x=some c->c≠b)/\∀p∈X.pn++f8,p.1≠b):
 Inv X f8 σ H' {s with heap:=h',gens:=g',drawn:=d',toks:=t'}:=by
 obtain⟨m,⟨o,es,ep,ho,r⟩,_⟩:=id I.loc;obtain⟨sl,hL⟩:=u.any ho I.free λz=>(El _ z).2.1 rfl;exact I.step (ch:=ch) El (λb o hL hb hc e n=>u.keep b o e n (λz=>(Sf.mp (I.stkSub b z)).elim hL hb) hc) (λb o _ _ hc e n=>u.any e n hc) (λb o hc e n=>u.free b o e n hc) (λb o hc e=>u.there b o e hc) u.tups u.frzs u.tbls (λm' hm=>by
  obtain⟨o',Jy,EJ,rO,r'⟩:=hm;rw[ho] at rO;cases rO;exact⟨_,Jy,EJ,hL,r'⟩) hok hg
theorem Inv.turned{t':Nat}{it:Addr}(I:Inv X f8 σ H s)(k:∀b o,b≠it->s.heap.get? b=some o->h'.get? b=some o)(hn:H it=none)(hL:it≠X.env.locals)
 (h1:it∈X.ex\/X.YD.heap.objs.size<=it)(h2:∀x c,X.env.cells.lookup x=some c->c≠it)(h3:∀p∈X.pn++f8,p.1≠it):Inv X f8 σ H {s with heap:=h',toks:=t'}:=by
 have G3:∀b u,H b=some u->b≠it:=λb u e z=>by rw[z,hn] at e;cases e
 refine I.step (g':=s.gens) (d':=s.drawn) (ch:=[it]) (λb hb=>?_) (λb o _ _ hc e _=>k b o (λz=>hc (by simp[z])) e) (λb o _ _ hc e _=>⟨o.slots,k b o (λz=>hc (by simp[z])) e⟩) (λ_ _ _ _ n=>n)
  (λb o hc e=>⟨o,k b o (λz=>hc (by simp[z])) e⟩) (λ_ _ e=>e) (λ_ _ _ e=>e) (λb ps e=>⟨#[],by rw[e];simp⟩) (λm hm=>?_) (λb u e=>?_) I.bare
 ·have e:b=it:=by simpa using hb
  subst e;exact⟨h1,hL,h2,h3⟩
 ·obtain⟨o,es,ep,ho,r⟩:=hm;exact⟨o,es,ep,k _ o (S9 hL) ho,r⟩
 ·refine(I.hok b u e).stay (λc v hc q=>k c v ?_ q) (λ_ q=>q) λ_ _ q=>q;rcases hc with z | z
  ·rw[z];exact G3 b u e
  ·exact G3 c _ z
theorem Inv.tok(I:Inv X f8 σ H s)(t:Nat):Inv X f8 σ H {s with toks:=t}:=I.un (h':=s.heap) (t':=t) Un.refl I.hok
theorem Inv.kept{t':Nat}(I:Inv X f8 σ H s)(k:∀b u,s.heap.get? b=some u->h'.get? b=some u):Inv X f8 σ H {s with heap:=h',toks:=t'}:=I.un (Un.kept k) (I.hok.kept k)
theorem Inv.laid{a:Addr}{o:HO}{t':Nat}(I:Inv X f8 σ H s)(k:∀b u,s.heap.get? b=some u->h'.get? b=some u)(hp:s.heap.objs.size<=a)(new:ObjOk X.prog X.w (upd H a o) h' a o):
 Inv X f8 σ (upd H a o) {s with heap:=h',toks:=t'}:=I.un (Un.laid k hp (I.hok.fresh hp)) (I.hok.laid k hp new)
theorem Inv.write{x e:Addr}{o:HO}{t':Nat}(I:Inv X f8 σ H s)(mu:JL (H x))(he:e=x\/H e=some (.own x))(k:∀b u,b≠e->s.heap.get? b=some u->h'.get? b=some u)(Bv:∃u,h'.get? e=some u)
 (new:ObjOk X.prog X.w (upd H x o) h' x o):Inv X f8 σ (upd H x o) {s with heap:=h',toks:=t'}:=I.un (Un.write mu he k Bv) (I.hok.write mu he k Bv new)
theorem Inv.pins_of{G9:List (Addr×Obj)}(I:Inv X f8 σ H s)(h:∀p∈G9,s.heap.get? p.1=some p.2/\H p.1=none/\p.1≠X.env.locals/\p.1∉X.fs/\∀v,p.2.data≠ .cell v):Inv X G9 σ H s:=
 ⟨I.ok,I.os,I.bare,I.base,I.loc,I.cell,I.free,I.freeC,λp hp=>(SD.mp hp).elim (λz=>I.pin p (Tq _ z)) (h p),I.hok,I.len⟩
theorem v7{N:List Str}(hN:N.Nodup){i j:Nat}{x:Str}(a:N[i]? =some x)(b:N[j]? =some x):i=j:=by
 obtain⟨h1,e1⟩:=Sb.mp a;obtain⟨h2,e2⟩:=Sb.mp b;exact(List.getElem_inj hN).mp (e1.trans e2.symm)
theorem sM{M:Model}{A:S1}{E:Value->R8->Prop}{i:Nat}{x:Str}{v:V}{u:Value}{Q:Unit->R8->Prop}(I:Inv X f8 σ H s)(hN:X.N.Nodup)(hi:X.N[i]? =some x)(hx:Loc X.env.scope x)(r:RelV v u)
 (h:∀s',Inv X f8 (σ.set i (some v)) H s'->(∃a,UD a s.heap s'.heap/\(a=X.env.locals\/X.env.cells.lookup x=some a))->Q () s')(hf:X.fn x=true\/X.env.scope.names.lookup x=some .local:=by first | exact .inl rfl | exact .inr rfl | assumption):wpAny M A (storeName X.env x u) Q E s:=by
 obtain⟨m,hn,hl⟩:=id I.loc;have MT:(X.env.scope.kind== .class||(X.env.scope.kind== .module&&X.env.locals !=X.env.globals))=false:=by rw[I.ok.kind];rfl
 have OV:i<σ.length:=by rw[I.len];exact(Sb.mp hi).1
 have cne:=I.cne;have tracked:∀{a:Addr}{h':Heap},(∃o,s.heap.get? a=some o/\H a=none)->UD a s.heap h'->HOk X.prog X.w H h':=λ{a h'} ha hs b ob e=>by
  obtain⟨_,_,GX⟩:=ha;refine(I.hok b ob e).stay (λc w' hc q=>(hs.2 c ?_).trans q) (λ_ q=>q) λ_ _ q=>q;rintro rfl;rcases hc with rfl | hc
  ·rw[GX] at e;cases e
  ·rw[GX] at hc;cases hc
 rcases hx with hk | hk
 ·refine wpAny_storeName_local hk hn (λh' Ks hs=>?_) MT;obtain⟨oL,_,_,GZ,_⟩:=id hn;refine h _ ⟨I.ok,I.os,I.bare,⟨λb o e n hb hx=>?_,λb o e n hb hx=>?_,I.base.free,λb o e hx=>?_,I.base.tups,I.base.frzs,I.base.tbls⟩,⟨_,Ks,λj y v' e1 e2 e3=>?_⟩,λy c e=>?_,I.free,I.freeC,λp hp=>?_,tracked ⟨oL,GZ,I.free⟩ hs,by simpa using I.len⟩ ⟨_,hs, .inl rfl⟩
  ·exact(hs.2 b (SH (SN (Sq e) I.ok.above))).trans (I.base.keep b o e n hb hx)
  ·obtain⟨sl,e1⟩:=I.base.slot b o e n hb hx;exact⟨sl,(hs.2 b (SH (SN (Sq e) I.ok.above))).trans e1⟩
  ·obtain⟨o',e1⟩:=I.base.there b o e hx;exact⟨o',(hs.2 b (SH (SN (Sq e) I.ok.above))).trans e1⟩
  ·by_cases hj:j=i
   ·subst hj;rw[hi] at e1;cases e1;rw[So OV] at e2;cases e2;exact⟨u,r, .inl ⟨hk,by simp⟩⟩
   ·rw[Sh (S9 hj)] at e2;obtain⟨u',r',q⟩:=hl j y v' e1 e2 e3;refine⟨u',r',?_⟩;rcases q with⟨k,e⟩ | ⟨k,c,e,z⟩
    ·refine .inl ⟨k,?_⟩;have:y≠x:=λe=>hj (v7 hN e1 (e▸hi));simp[this,e]
    ·exact .inr ⟨k,c,e,z.sameBut hs (cne y c e)⟩
  ·obtain⟨w',z⟩:=I.cell y c e;exact⟨w',z.sameBut hs (cne y c e)⟩
  ·obtain⟨e,n,ne,nf,d⟩:=I.pin p hp;exact⟨(hs.2 p.1 ne).trans e,n,ne,nf,d⟩
 ·have MY:X.fn x=true:=by
   rcases hf with z | z
   ·exact z
   ·rw[z] at hk;cases hk
  obtain⟨c,hc⟩:=I.ok.has x (.inl hk);obtain⟨w',z⟩:=I.cell x c hc;refine wpAny_storeName_cell I.ok.kind hk hc z (λh' As hs=>?_);obtain⟨oc,HR,Nh⟩:=id z;refine h {s with heap:=h'} ⟨I.ok,I.os,I.bare,⟨λb o e n hb hx=>?_,λb o e n hb hx=>?_,I.base.free,λb o e hx=>?_,I.base.tups,I.base.frzs,I.base.tbls⟩,⟨m,hn.sameBut hs (S9 (cne x c hc)),λj y v' e1 e2 e3=>?_⟩,λy c' e=>?_,I.free,I.freeC,λp hp=>?_,tracked ⟨oc,HR,I.freeC x c hc⟩ hs,by simpa using I.len⟩ ⟨c,hs, .inr hc⟩
  ·exact(hs.2 b (SH (SN (Sq e) (I.ok.cab x c MY hc)))).trans (I.base.keep b o e n hb hx)
  ·obtain⟨sl,e1⟩:=I.base.slot b o e n hb hx;exact⟨sl,(hs.2 b (SH (SN (Sq e) (I.ok.cab x c MY hc)))).trans e1⟩
  ·obtain⟨o',e1⟩:=I.base.there b o e hx;exact⟨o',(hs.2 b (SH (SN (Sq e) (I.ok.cab x c MY hc)))).trans e1⟩
  ·by_cases hj:j=i
   ·subst hj;rw[hi] at e1;cases e1;rw[So OV] at e2;cases e2;exact⟨u,r, .inr ⟨.inl hk,c,hc,As⟩⟩
   ·rw[Sh (S9 hj)] at e2;obtain⟨u',r',q⟩:=hl j y v' e1 e2 e3;refine⟨u',r',?_⟩;rcases q with q | ⟨k,c',e,z'⟩
    ·exact .inl q
    ·refine .inr ⟨k,c',e,z'.sameBut hs ?_⟩;rintro rfl;exact hj (v7 hN e1 (I.ok.inj _ _ _ e hc▸hi))
  ·by_cases JB:c'=c
   ·subst JB;exact⟨_,As⟩
   ·obtain⟨w2,z2⟩:=I.cell y c' e;exact⟨w2,z2.sameBut hs JB⟩
  ·obtain⟨e,n,ne,nf,d⟩:=I.pin p hp;refine⟨(hs.2 p.1 ?_).trans e,n,ne,nf,d⟩;intro q;rw[q,HR] at e;have q':oc=p.2:=SS e;exact d w' (by rw[<-q'];exact Nh)
theorem wZ{M:Model}{A:S1}{E:Value->R8->Prop}{i:Nat}{x:Str}{v:V}{u:Value}{Q:Unit->R8->Prop}(I:Inv X f8 σ H s)(hN:X.N.Nodup)(hi:X.N[i]? =some x)(hx:Loc X.env.scope x)(r:RelV v u)
 (h:∀s',Inv X f8 (σ.set i (some v)) H s'->Q () s')(hf:X.fn x=true\/X.env.scope.names.lookup x=some .local:=by first | exact .inl rfl | exact .inr rfl | assumption):wpAny M A (storeName X.env x u) Q E s:=
 sM I hN hi hx r (λs' I' _=>h s' I') hf
theorem Inv.call'{s':R8}{ch:List Addr}(I:Inv X f8 σ H s)(ho:s'.os=s.os)(u:Un (oq X.stack) ch H H' s.heap s'.heap)(hok:HOk X.prog X.w H' s'.heap)(hg:Wa s'.gens)
 (El:∀b∈ch,(b∈X.ex\/X.YD.heap.objs.size<=b)/\b≠X.env.locals/\(∀x c,X.env.cells.lookup x=some c->c≠b)/\∀p∈X.pn++f8,p.1≠b):Inv X f8 σ H' s':=by
 obtain⟨h',g',d',t',o'⟩:=s';have e:o'=s.os:=ho;subst e;exact I.call (g':=g') (t':=t') (d':=d') u hok hg El
end
abbrev XK:=Value->Option Addr->Hp->Prop
abbrev St:=List (Option V)
abbrev VK:=V->Hp->Prop
abbrev TE:=St->Hp->VK->Prop
abbrev TT:=St->Hp->(Bool->Hp->Prop)->Prop
abbrev TA:=St->Hp->(List V->Hp->Prop)->Prop
structure Ends where
 nx:St->Hp->Prop
 rt:VK
 bk:St->Hp->Prop:=λ_ _=>False
 ct:St->Hp->Prop:=λ_ _=>False
abbrev TS:=Ends->St->Hp->Prop
def EP(X:Cx)(f8:List (Addr×Obj))(σ:St)(Q:VK)(u:Value)(s':R8):Prop:=∃v H',Inv X f8 σ H' s'/\RelV v u/\Q v H'
def TP(X:Cx)(f8:List (Addr×Obj))(σ:St)(Q:Bool->Hp->Prop)(b:Bool)(s':R8):Prop:=∃H',Inv X f8 σ H' s'/\Q b H'
def AP(X:Cx)(f8:List (Addr×Obj))(σ:St)(Q:List V->Hp->Prop)(us:List Value)(s':R8):Prop:=∃vs H',Inv X f8 σ H' s'/\Vals vs us/\Q vs H'
def SP(X:Cx)(f8:List (Addr×Obj))(D:Ends)(f:Flow)(s':R8):Prop:=
 match f with
 | .next=>∃σ' H',Inv X f8 σ' H' s'/\D.nx σ' H'
 | .brk=>∃σ' H',Inv X f8 σ' H' s'/\D.bk σ' H'
 | .cont=>∃σ' H',Inv X f8 σ' H' s'/\D.ct σ' H'
 | .ret u=>∃v σ' H',Inv X f8 σ' H' s'/\RelV v u/\D.rt v H'
def PE(X:Cx)(e:Expr)(t:TE):Prop:=
 ∀(f8:List (Addr×Obj)) (s:R8) (σ:St) (H:Hp) (Q:VK),Inv X f8 σ H s->t σ H Q->wpAny (model X.prog X.w) X.A (eval e X.env) (EP X f8 σ Q) X.xe s
def PT(X:Cx)(e:Expr)(t:TT):Prop:=
 ∀(f8:List (Addr×Obj)) (s:R8) (σ:St) (H:Hp) (Q:Bool->Hp->Prop),Inv X f8 σ H s->t σ H Q->wpAny (model X.prog X.w) X.A (isTrue e X.env (eval e X.env)) (TP X f8 σ Q) X.xe s
def PW(X:Cx)(e:Expr)(t:TT):Prop:=
 ∀(whole:Sem Value) (f8:List (Addr×Obj)) (s:R8) (σ:St) (H:Hp) (Q:Bool->Hp->Prop),Inv X f8 σ H s->t σ H Q->wpAny (model X.prog X.w) X.A (isTrue e X.env whole) (TP X f8 σ Q) X.xe s
theorem PW.pt{X:Cx}{e:Expr}{t:TT}(h:PW X e t):PT X e t:=h _
def PA(X:Cx)(es:List Expr)(t:TA):Prop:=
 ∀(pos:Pos) (f8:List (Addr×Obj)) (s:R8) (σ:St) (H:Hp) (Q:List V->Hp->Prop),Inv X f8 σ H s->t σ H Q->wpAny (model X.prog X.w) X.A (spliced (Uq pos (Su es X.env))) (AP X f8 σ Q) X.xe s
def PS(X:Cx)(st:Stmt)(t:TS):Prop:=
 ∀(f8:List (Addr×Obj)) (s:R8) (σ:St) (H:Hp) (D:Ends),Inv X f8 σ H s->t D σ H->wpAny (model X.prog X.w) X.A (exec st X.env) (SP X f8 D) X.xe s
def PSs(X:Cx)(st:List Stmt)(t:TS):Prop:=
 ∀(f8:List (Addr×Obj)) (s:R8) (σ:St) (H:Hp) (D:Ends),Inv X f8 σ H s->t D σ H->wpAny (model X.prog X.w) X.A (execs st X.env) (SP X f8 D) X.xe s
theorem bX{α:Type}{t:Sem α}{Q Q':α->R8->Prop}{M:Model}{A:S1}{E:Value->R8->Prop}{s:R8}(h:wpAny M A t Q E s)(hQ:∀a s,Q a s->Q' a s):wpAny M A t Q' E s:=Ti h hQ λ_ _ x=>x
section
variable{X:Cx}
theorem bin{a b:Expr}{ta tb:TE}(ha:PE X a ta)(hb:PE X b tb){f8:List (Addr×Obj)}{s:R8}{σ:St}{H:Hp}{R:V->V->Hp->Prop}(I:Inv X f8 σ H s)(h:ta σ H λx H1=>tb σ H1 λy H2=>R x y H2)
 {α:Type}{Q:α->R8->Prop}{f:Value->Value->Sem α}
 (hf:∀v u s2 x y H2,Inv X f8 σ H2 s2->RelV x v->RelV y u->R x y H2->wpAny (model X.prog X.w) X.A (f v u) Q X.xe s2):
 wpAny (model X.prog X.w) X.A (eval a X.env) (λv v4=>wpAny (model X.prog X.w) X.A (eval b X.env) (λu v1=>wpAny (model X.prog X.w) X.A (f v u) Q X.xe v1) X.xe v4) X.xe s:=by
 refine bX (ha f8 s σ H _ I h) λv s1 ⟨x,H1,I1,r1,q1⟩=>?_;refine bX (hb f8 s1 σ H1 _ I1 q1) λu s2 ⟨y,H2,I2,r2,q2⟩=>?_;exact hf v u s2 x y H2 I2 r1 r2 q2
def kr(i:Nat):TE:=λσ H Q=>∃v,σ[i]? =some (some v)/\Q v H
def tC(v:V):TE:=λ_ H Q=>Q v H
theorem IX{i:Nat}{x:Str}{pos:Pos}(hN:X.N[i]? =some x)(hv:MC X.env.scope x)(hd:(x==("__debug__":Str))=false:=by decide)(xt:(x==("__classdict__":Str))=false:=by decide):PE X (.Name x pos) (kr i):=by
 intro f8 s σ H Q I h;obtain⟨v,e,h⟩:=h;obtain⟨m,hn,hl⟩:=I.loc;obtain⟨u,r,l⟩:=hl i x v hN e hv;have fin:EP X f8 σ Q u s:=⟨v,H,I,r,h⟩
 rcases l with⟨hk,hm⟩ | ⟨hk,c,hc,GU⟩
 ·exact wpAny_Name (wpAny_loadName_local I.ok.kind hk hn hm fin) hd
 ·rcases hk with hk | hk
  ·exact wpAny_Name (wpAny_loadName_cell I.ok.kind hk hc GU fin) hd
  ·exact wpAny_Name (wpAny_loadName_free I.ok.kind hk hc GU fin xt) hd
theorem IP{i j pos}:PE X (.Constant (.int i) j pos) (tC (.int i)):=λ_ _ _ H _ I h=>wpAny_Constant_int ⟨.int i,H,I.tok _,⟨_,rfl⟩,h⟩
theorem G8{b j pos}:PE X (.Constant (.bool b) j pos) (tC (.bl b)):=λ_ _ _ H _ I h=>Constant_bool ⟨.bl b,H,I,rfl,h⟩
theorem IQ{j pos}:PE X (.Constant .none j pos) (tC .non):=λ_ _ _ H _ I h=>Constant_none ⟨.non,H,I,rfl,h⟩
theorem IU{x j pos}:PE X (.Constant (.str x) j pos) (tC (.str x)):=λ_ _ _ H _ I h=>Calls.Constant_str ⟨.str x,H,I.tok _,⟨_,rfl⟩,h⟩
def Gl(X:Cx)(x:Str):Prop:=X.env.kindOf x=some .globalImplicit
theorem zv{E:Value->R8->Prop}{f8:List (Addr×Obj)}{s:R8}{σ:St}{H:Hp}{x:Str}{u:Value}{pos:Pos}{Q:Value->R8->Prop}(I:Inv X f8 σ H s)(hg:Gl X x)(hm:X.mg x=some u)(h:Q u s)
 (hd:(x==("__debug__":Str))=false:=by decide):wpAny (model X.prog X.w) X.A (eval (.Name x pos) X.env) Q E s:=
 WK I.ok.kind hg (Calls.loadGlobal_global (by rw[I.ok.glob];exact I.mod.glob.keeps I.bk) hm h) hd
theorem iQ{E:Value->R8->Prop}{f8:List (Addr×Obj)}{s:R8}{σ:St}{H:Hp}{x:Str}{u:Value}{pos:Pos}{Q:Value->R8->Prop}(I:Inv X f8 σ H s)(hg:Gl X x)(hm:X.mg x=none)(hv:S5 x=some u)(h:Q u s)
 (hn:x≠"__name__":=by decide)(hd:(x==("__debug__":Str))=false:=by decide):wpAny (model X.prog X.w) X.A (eval (.Name x pos) X.env) Q E s:=by
 obtain⟨mb,h1,h2⟩:=I.mod.blt;exact WK I.ok.kind hg (Calls.loadGlobal_builtin (by rw[I.ok.glob];exact I.mod.glob.keeps I.bk) hm (by rw[I.ok.blt];exact h1.keeps I.bk) ((h2 x hn).trans hv) h) hd
theorem FQ{x:Str}{v:V}{u:Value}{pos:Pos}(hg:Gl X x)(hm:X.mg x=some u)(r:RelV v u)(hd:(x==("__debug__":Str))=false:=by decide):PE X (.Name x pos) (tC v):=
 λ_ _ _ H _ I h=>zv I hg hm ⟨v,H,I,r,h⟩ hd
theorem FK{x:Str}{v:V}{u:Value}{pos:Pos}(hg:Gl X x)(hm:X.mg x=none)(hv:S5 x=some u)(r:RelV v u)(hn:x≠"__name__":=by decide)(hd:(x==("__debug__":Str))=false:=by decide):PE X (.Name x pos) (tC v):=
 λ_ _ _ H _ I h=>iQ I hg hm hv ⟨v,H,I,r,h⟩ hn hd
variable{a b:Expr}{ta tb:TE}{pos:Pos}
def PC(X:Cx)(op:CmpOp)(a b:Expr)(t:TE):Prop:=
 ∀(f8:List (Addr×Obj)) (s:R8) (σ:St) (H:Hp) (Q:VK),Inv X f8 σ H s->t σ H Q->
  wpAny (model X.prog X.w) X.A (eval a X.env) (λv v4=>wpAny (model X.prog X.w) X.A (eval b X.env) (λu v1=>wpAny (model X.prog X.w) X.A (Te op v u) (EP X f8 σ Q) X.xe v1) X.xe v4) X.xe s
theorem CU(b:Expr){op:CmpOp}(h:op≠ .In)(h2:op≠ .NotIn):Th op b=false:=by
 have e1:(op==CmpOp.In)=false:=by cases op<;>first | rfl | exact Ym rfl h
 have e2:(op==CmpOp.NotIn)=false:=by cases op<;>first | rfl | exact Ym rfl h2
 cases b<;>simp[Th,e1,e2]
theorem IM{op:CmpOp}{t:TE}(h:PC X op a b t)(h1:Th op b=false:=by first | exact CU _ (by decide) (by decide) | rfl):PE X (.Compare a [op] [b] pos) t:=λf8 s σ H Q I hw=>wpAny_Compare1 (h f8 s σ H Q I hw) h1
variable{tA cP:TT}{W1:List Expr}
def NZ(t u:TT):TT:=λσ H Q=>t σ H λc H1=>if c=true then u σ H1 Q else Q false H1
def RF(t u:TT):TT:=λσ H Q=>t σ H λc H1=>if c=true then Q true H1 else u σ H1 Q
def N4(t:TT):TT:=λσ H Q=>t σ H λc H1=>Q (!c) H1
theorem F7(ha:PT X a tA):PW X (.BoolOp .And [a] pos) tA:=by
 intro wh f8 s σ H Q I h;refine isTrue_and (bX (ha f8 s σ H Q I h) λc s1 e=>?_);cases c with
 |true=>exact isTrue_and_nil e
 |false=>exact e
theorem Jd(ha:PT X a tA):PW X (.BoolOp .Or [a] pos) tA:=by
 intro wh f8 s σ H Q I h;refine isTrue_or (bX (ha f8 s σ H Q I h) λc s1 e=>?_);cases c with
 |false=>exact isTrue_or_nil e
 |true=>exact e
theorem Jc(ha:PT X a tA)(hb:PW X (.BoolOp .And (b::W1) pos) cP):PW X (.BoolOp .And (a::b::W1) pos) (NZ tA cP):=by
 intro wh f8 s σ H Q I h;refine isTrue_and (bX (ha f8 s σ H _ I h) λc s1 ⟨H1,I1,q1⟩=>?_);cases c with
 |true=>exact hb wh f8 s1 σ H1 Q I1 q1
 |false=>exact⟨H1,I1,q1⟩
theorem Lj(ha:PT X a tA)(hb:PW X (.BoolOp .Or (b::W1) pos) cP):PW X (.BoolOp .Or (a::b::W1) pos) (RF tA cP):=by
 intro wh f8 s σ H Q I h;refine isTrue_or (bX (ha f8 s σ H _ I h) λc s1 ⟨H1,I1,q1⟩=>?_);cases c with
 |true=>exact⟨H1,I1,q1⟩
 |false=>exact hb wh f8 s1 σ H1 Q I1 q1
theorem Ja(ha:PT X a tA):PT X (.UnaryOp .Not a pos) (N4 tA):=by
 intro f8 s σ H Q I h;exact isTrue_not (ha f8 s σ H (λc H1=>Q (!c) H1) I h)
def LA(ta tb:TE):TE:=λσ H Q=>ta σ H λx H1=>∃c,x= .bl c/\if c=true then tb σ H1 Q else Q (.bl false) H1
def N6(ta tb:TE):TE:=λσ H Q=>ta σ H λx H1=>∃c,x= .bl c/\if c=true then Q (.bl true) H1 else tb σ H1 Q
def LH(ta:TE):TE:=λσ H Q=>ta σ H λx H1=>∃c,x= .bl c/\Q (.bl (!c)) H1
theorem IT{op}{t:TE}(h:PE X a t):PE X (.BoolOp op [a] pos) t:=λf8 s σ H Q I hw=>BoolOp_one (h f8 s σ H Q I hw)
theorem IL(ha:PE X a ta)(hb:PE X (.BoolOp .And (b::W1) pos) tb):PE X (.BoolOp .And (a::b::W1) pos) (LA ta tb):=by
 intro f8 s σ H Q I h;refine BoolOp_and (bX (ha f8 s σ H _ I h) λv s1 ⟨x,H1,I1,r1,q1⟩=>?_);obtain⟨c,rfl,q1⟩:=q1;cases r1;refine Tw ?_;cases c with
 |true=>exact hb f8 s1 σ H1 Q I1 q1
 |false=>exact⟨.bl false,H1,I1,rfl,q1⟩
theorem Lf(ha:PE X a ta)(hb:PE X (.BoolOp .Or (b::W1) pos) tb):PE X (.BoolOp .Or (a::b::W1) pos) (N6 ta tb):=by
 intro f8 s σ H Q I h;refine BoolOp_or (bX (ha f8 s σ H _ I h) λv s1 ⟨x,H1,I1,r1,q1⟩=>?_);obtain⟨c,rfl,q1⟩:=q1;cases r1;refine Tw ?_;cases c with
 |false=>exact hb f8 s1 σ H1 Q I1 q1
 |true=>exact⟨.bl true,H1,I1,rfl,q1⟩
theorem IS(ha:PE X a ta):PE X (.UnaryOp .Not a pos) (LH ta):=by
 intro f8 s σ H Q I h;refine UnaryOp_ (bX (ha f8 s σ H _ I h) λv s1 ⟨x,H1,I1,r1,q1⟩=>?_);obtain⟨c,rfl,q1⟩:=q1;cases r1;exact not_of (Tw ⟨.bl (!c),H1,I1,rfl,q1⟩)
def RE(t:TT)(ta tb:TE):TE:=λσ H Q=>t σ H λc H1=>if c=true then ta σ H1 Q else tb σ H1 Q
theorem Dq{c:Expr}(hc:PT X c tA)(ha:PE X a ta)(hb:PE X b tb):PE X (.IfExp c a b pos) (RE tA ta tb):=by
 intro f8 s σ H Q I h;refine wpAny_IfExp (bX (hc f8 s σ H _ I h) λd s1 ⟨H1,I1,q1⟩=>?_);cases d with
 |true=>exact ha f8 s1 σ H1 Q I1 q1
 |false=>exact hb f8 s1 σ H1 Q I1 q1
end
def SqL(K:Se)(H:Hp)(a:Addr)(xs:List V):Prop:=
 Rd H a (.lst xs)\/
  ∃(o:Obj) (aS:Array Value) (n:Nat),K.lookup a=some o/\o.cls= .type "list"/\o.dict=none/\o.data= .seq aS n/\aS.size<=Sv/\Vals xs aS.toList
def SqT(K:Se)(H:Hp)(a:Addr)(xs:List V):Prop:=
 Rd H a (.tup xs)\/
  ∃(o:Obj) (aS:Array Value) (n:Nat),K.lookup a=some o/\o.cls= .type "tuple"/\o.data= .seq aS n/\aS.size<=Sv/\Vals xs aS.toList
def MD:Value->Option V
 | .none=>some .non
 | .bool b=>some (.bl b)
 | .int i _=>some (.int i)
 | .str x _=>some (.str x)
 | .bytes b _=>some (.byt b)
 | .float b _=>some (.flt b)
 | .ref a=>some (.ref a)
 | .type n=>some (.ty n)
 |_=>none
theorem RelV.abs{x:V}{u:Value}(r:RelV x u):MD u=some x:=by
 cases x with
 |non=>cases r;rfl
 |bl _=>cases r;rfl
 |int _=>obtain⟨t,rfl⟩:=r;rfl
 |str _=>obtain⟨t,rfl⟩:=r;rfl
 |byt _=>obtain⟨t,rfl⟩:=r;rfl
 |flt _=>obtain⟨t,rfl⟩:=r;rfl
 |ref _=>cases r;rfl
 |ty _=>cases r;rfl
theorem RelV.inj{x y:V}{u:Value}(r:RelV x u)(q:RelV y u):x=y:=SS (r.abs.symm.trans q.abs)
theorem Vals.inj:∀{xs ys:List V}{us:List Value},Vals xs us->Vals ys us->xs=ys
 |_,_,_, .nil, .nil=>rfl
 |_,_,_, .cons r t, .cons r' t'=>by rw[r.inj r',Vals.inj t t']
section
variable{X:Cx}{f8:List (Addr×Obj)}{σ:St}{H:Hp}{s:R8}{a:Addr}{xs ys:List V}
theorem SqL.of{K:Se}(h:H a=some (.lst xs)):SqL K H a xs:= .inl (.inl h)
theorem SqT.of{K:Se}(h:H a=some (.tup xs)):SqT K H a xs:= .inl (.inl h)
theorem Inv.list(I:Inv X f8 σ H s)(h:SqL X.K H a xs):∃aS:List Value,Vals xs aS/\PlainL s.heap a aS.toArray/\xs.length<=Sv:=by
 rcases h with h | ⟨o,aS,n,hk,hc,hd,hs,hz,r⟩
 ·obtain⟨z,aS,n,r,e⟩:=h.ok I.hok;exact⟨aS,r,⟨_,n,e,rfl,rfl,rfl⟩,z⟩
 ·refine⟨aS.toList,r,⟨o,n,I.kIn a o hk,hc,hd,by simpa using hs⟩,?_⟩;have e:=r.length;simp only[Sr] at e;omega
theorem Inv.tuple(I:Inv X f8 σ H s)(h:SqT X.K H a xs):∃aS:List Value,Vals xs aS/\IsTup s.heap a aS.toArray/\xs.length<=Sv:=by
 rcases h with h | ⟨o,aS,n,hk,hc,hs,hz,r⟩
 ·obtain⟨z,aS,r,p⟩:=h.ok I.hok;exact⟨aS,r,p,z⟩
 ·refine⟨aS.toList,r,⟨o,I.kIn a o hk,hc,n,by simpa using hs⟩,?_⟩;have e:=r.length;simp only[Sr] at e;omega
theorem Inv.list_inj(I:Inv X f8 σ H s)(h:SqL X.K H a xs)(h':SqL X.K H a ys):xs=ys:=by
 obtain⟨aS,r,⟨o,n,e,_,_,d⟩,_⟩:=I.list h;obtain⟨its',r',⟨o',n',e',_,_,d'⟩,_⟩:=I.list h';rw[e] at e';cases e';rw[d] at d';injection d' with d1 _
 have:aS=its':=by simpa using Yo Array.toList d1
 subst this;exact r.inj r'
theorem Inv.tuple_inj(I:Inv X f8 σ H s)(h:SqT X.K H a xs)(h':SqT X.K H a ys):xs=ys:=by
 obtain⟨aS,r,⟨o,e,_,n,d⟩,_⟩:=I.tuple h;obtain⟨its',r',⟨o',e',_,n',d'⟩,_⟩:=I.tuple h';rw[e] at e';cases e';rw[d] at d';injection d' with d1 _
 have:aS=its':=by simpa using Yo Array.toList d1
 subst this;exact r.inj r'
end
abbrev Cx.wish(X:Cx)(E:Value->R8->Prop):Cx:={X with xe:=E}
abbrev Cx.nox(X:Cx):Cx:=X.wish λ_ _=>False
theorem Cx.Ok.wish{X:Cx}(ok:X.Ok)(E:Value->R8->Prop):(X.wish E).Ok:=
 ⟨ok.mod,ok.kind,ok.glob,ok.blt,ok.above,ok.inj,ok.has,ok.cab,ok.hd,ok.frames,ok.stk,ok.exf,ok.bs,ok.bsz,ok.noex,ok.exfs,ok.funs,ok.frf⟩
theorem Cx.Ok.unwish{X:Cx}{E:Value->R8->Prop}(ok:(X.wish E).Ok):X.Ok:=
 ⟨ok.mod,ok.kind,ok.glob,ok.blt,ok.above,ok.inj,ok.has,ok.cab,ok.hd,ok.frames,ok.stk,ok.exf,ok.bs,ok.bsz,ok.noex,ok.exfs,ok.funs,ok.frf⟩
section
variable{X:Cx}{f8:List (Addr×Obj)}{σ:St}{H:Hp}{s:R8}{E:Value->R8->Prop}
theorem Inv.wish(I:Inv X f8 σ H s)(E:Value->R8->Prop):Inv (X.wish E) f8 σ H s:=⟨I.ok.wish E,I.os,I.bare,I.base,I.loc,I.cell,I.free,I.freeC,I.pin,I.hok,I.len⟩
theorem Inv.unwish(I:Inv (X.wish E) f8 σ H s):Inv X f8 σ H s:=⟨I.ok.unwish,I.os,I.bare,I.base,I.loc,I.cell,I.free,I.freeC,I.pin,I.hok,I.len⟩
theorem SP.unwish{D:Ends}{f:Flow}{s':R8}(h:SP (X.wish E) f8 D f s'):SP X f8 D f s':=by
 cases f with
 |next=>obtain⟨σ',H',I,q⟩:=h;exact⟨σ',H',I.unwish,q⟩
 |brk=>obtain⟨σ',H',I,q⟩:=h;exact⟨σ',H',I.unwish,q⟩
 |cont=>obtain⟨σ',H',I,q⟩:=h;exact⟨σ',H',I.unwish,q⟩
 |ret u=>obtain⟨v,σ',H',I,r,q⟩:=h;exact⟨v,σ',H',I.unwish,r,q⟩
theorem PE.nox{e:Expr}{t:TE}(h:PE X.nox e t):PE X e t:=λf8 s σ H Q I hw=>
 Ti (h f8 s σ H Q (I.wish _) hw) (λ_ _ ⟨v,H',I',r,q⟩=>⟨v,H',I'.unwish,r,q⟩) λ_ _ z=>T9 z
theorem PT.nox{e:Expr}{t:TT}(h:PT X.nox e t):PT X e t:=λf8 s σ H Q I hw=>
 Ti (h f8 s σ H Q (I.wish _) hw) (λ_ _ ⟨H',I',q⟩=>⟨H',I'.unwish,q⟩) λ_ _ z=>T9 z
theorem PSs.nox{st:List Stmt}{t:TS}(h:PSs X.nox st t):PSs X st t:=λf8 s σ H D I hw=>
 Ti (h f8 s σ H D (I.wish _) hw) (λ_ _ q=>q.unwish) λ_ _ z=>T9 z
end
section
variable{X:Cx}{st:Stmt}{W1:List Stmt}{t u:TS}{e:Expr}{te:TE}{pos:Pos}
def Hd:TS:=λD σ H=>D.nx σ H
def LL(t u:TS):TS:=λD σ H=>t {D with nx:=u D} σ H
theorem zO:PSs X [] Hd:=λ_ _ σ H _ I h=>V2 ⟨σ,H,I,h⟩
theorem wA(h1:PS X st t)(h2:PSs X W1 u):PSs X (st::W1) (LL t u):=by
 intro f8 s σ H D I h;refine wpAny_execs_cons (bX (h1 f8 s σ H {D with nx:=u D} I h) λf s1 q=>?_);cases f with
 |next=>
  obtain⟨σ',H',I',q⟩:=q;exact h2 f8 s1 σ' H' D I' q
 |ret v=>exact q
 |brk=>exact q
 |cont=>exact q
theorem oD(h1:PS X st t):PSs X [st] t:=by
 intro f8 s σ H D I h;refine wpAny_execs_cons (bX (h1 f8 s σ H D I h) λf s1 q=>?_);cases f with
 |next=>exact V2 q
 |ret v=>exact q
 |brk=>exact q
 |cont=>exact q
theorem Inv.quiet{f8:List (Addr×Obj)}{σ:St}{H:Hp}{s:R8}(I:Inv X f8 σ H s):interactive X.env=false:=by simp[interactive,I.ok.kind]
def D9(te:TE):TS:=λD σ H=>te σ H λ_ H1=>D.nx σ H1
theorem oC(he:PE X e te)(hs:Vg e none pos.line X.env=pure false:=by rfl):PS X (.Expr e pos) (D9 te):=by
 intro f8 s σ H D I h;exact wpAny_Expr_any (bX (he f8 s σ H _ I h) λv s1 ⟨x,H1,I1,r1,q1⟩=>⟨σ,H1,I1,q1⟩) I.quiet hs
def N7(te:TE):TS:=λD σ H=>te σ H D.rt
theorem I8(he:PE X e te):PS X (.Return (some e) pos) (N7 te):=by
 intro f8 s σ H D I h;exact wpAny_Return_some (bX (he f8 s σ H _ I h) λv s1 ⟨x,H1,I1,r1,q1⟩=>⟨x,σ,H1,I1,r1,q1⟩)
def LG(c:TT)(t u:TS):TS:=λD σ H=>c σ H λb H1=>if b=true then t D σ H1 else u D σ H1
theorem G_{c:Expr}{a b:List Stmt}{tc:TT}(hc:PT X c tc)(ha:PSs X a t)(hb:PSs X b u):PS X (.If c a b pos) (LG tc t u):=by
 intro f8 s σ H D I h;refine wpAny_If (bX (hc f8 s σ H _ I h) λd s1 ⟨H1,I1,q1⟩=>?_);cases d with
 |true=>exact ha f8 s1 σ H1 D I1 q1
 |false=>exact hb f8 s1 σ H1 D I1 q1
end
abbrev TG:=V->St->Hp->(St->Hp->Prop)->Prop
abbrev Gz:=List V->St->Hp->(St->Hp->Prop)->Prop
def PG(X:Cx)(target:Expr)(t:TG):Prop:=
 ∀(f8:List (Addr×Obj)) (s:R8) (σ:St) (H:Hp) (v:V) (u:Value) (Q:St->Hp->Prop),Inv X f8 σ H s->RelV v u->t v σ H Q->
  wpAny (model X.prog X.w) X.A (assign target X.env u) (λ_ s'=>∃σ' H',Inv X f8 σ' H' s'/\Q σ' H') X.xe s
def LU(X:Cx)(ts:List Expr)(t:Gz):Prop:=
 ∀(f8:List (Addr×Obj)) (s:R8) (σ:St) (H:Hp) (vs:List V) (us:List Value) (Q:St->Hp->Prop),Inv X f8 σ H s->Vals vs us->t vs σ H Q->
  wpAny (model X.prog X.w) X.A (assignInOrder ((VA ts X.env).map (·.2)) us) (λ_ s'=>∃σ' H',Inv X f8 σ' H' s'/\Q σ' H') X.xe s
abbrev Mz:=V->V->V->Hp->(Hp->Prop)->Prop
section
variable{X:Cx}{pos:Pos}
def jQ(i:Nat):TG:=λv σ H Q=>Q (σ.set i (some v)) H
theorem a8{i:Nat}{x:Str}(hN:X.N.Nodup)(hi:X.N[i]? =some x)(hx:Loc X.env.scope x)(hf:X.fn x=true\/X.env.scope.names.lookup x=some .local:=by first | exact .inl rfl | exact .inr rfl | assumption):PG X (.Name x pos) (jQ i):=by
 intro f8 s σ H v u Q I r h;exact WM (wZ I hN hi hx r (λs' I'=>⟨_,H,I',h⟩) hf)
def J4:Gz:=λvs σ H Q=>vs=[]/\Q σ H
def GN(t:TG)(u:Gz):Gz:=λvs σ H Q=>∃v r,vs=v::r/\t v σ H λσ' H'=>u r σ' H' Q
theorem zL:LU X [] J4:=by
 intro f8 s σ H vs us Q I r h;obtain⟨e,h⟩:=h;subst e;cases r;exact assignInOrder_nil ⟨σ,H,I,h⟩
theorem la{e:Expr}{es:List Expr}{t:TG}{u:Gz}(h1:PG X e t)(h2:LU X es u)
 (hs:(VA (e::es) X.env).map (·.2)=assign e X.env::(VA es X.env).map (·.2):=by rfl):LU X (e::es) (GN t u):=by
 intro f8 s σ H vs us Q I r h;obtain⟨v,vr,e1,h⟩:=h;subst e1;cases r with
 |cons r rr=>
  rw[hs];refine assignInOrder_cons (bX (h1 f8 s σ H _ _ _ I r h) λ_ s1 ⟨σ1,H1,I1,q1⟩=>?_);exact h2 f8 s1 σ1 H1 _ _ Q I1 rr q1
def J5(K:Se)(n:Nat)(t:Gz):TG:=λv σ H Q=>∃a xs,v= .ref a/\SqT K H a xs/\xs.length=n/\t xs σ H Q
theorem Dv{es:List Expr}{k:Nat}{t:Gz}{n:Nat}(hc:X.calm=true)(h:LU X es t)
 (hn:(VA es X.env).length=n:=by rfl)(Ct:(VA es X.env).findIdx? (·.1)=none:=by rfl):PG X (.Tuple es k pos) (J5 X.K n t):=by
 intro f8 s σ H v u Q I r hw;obtain⟨a,xs,e1,hq,hl,hw⟩:=hw;subst e1;cases r;obtain⟨aS,rv,ht,hz⟩:=I.tuple hq;refine assign_Tuple_tuple (I.ok.hd hc) ht (by simp[hn,<-hl,rv.length]) Ct λh' hx=>?_;have I1:Inv X f8 σ H {s with heap:=h'}:=I.kept (t':=s.toks) λb o e=>hx b o (SH (Sq e)) e;exact h f8 _ σ H xs _ Q I1 (by simpa using rv) hw
def tG(to ti:TE)(t:Mz):TG:=λv σ H Q=>to σ H λo H1=>ti σ H1 λi H2=>t o i v H2 λH3=>Q σ H3
def LB(te:TE)(g:TG):TS:=λD σ H=>te σ H λx H1=>g x σ H1 D.nx
theorem mj{tg e:Expr}{te:TE}{g:TG}(he:PE X e te)(hg:PG X tg g)(hs:Wv [tg] e pos.line X.env=pure false:=by rfl)(hw:swappedStores [tg] e X.env=pure none:=by rfl)
 (h1:(VA [tg] X.env).map (·.2)=[assign tg X.env]:=by rfl):PS X (.Assign [tg] e pos) (LB te g):=by
 intro f8 s σ H D I h;refine wpAny_Assign_stores (bX (he f8 s σ H _ I h) λv s1 ⟨x,H1,I1,r1,q1⟩=>?_) hs hw;rw[h1];exact bX (hg f8 s1 σ H1 x v _ I1 r1 q1) λ_ s2 q=>q
end
section
variable{X:Cx}{pos:Pos}
def Jq(c:TT)(tb:TS):TS:=λD σ H=>∃W:Nat->St->Hp->Prop,(∃m,W m σ H)/\∀m σ H,W m σ H->
 c σ H λb H1=>if b=true then∃N:St->Hp->Prop,(∀σ' H',N σ' H'->∃m',m'<m/\W m' σ' H')/\tb {D with nx:=N,ct:=N,bk:=D.nx} σ H1 else D.nx σ H1
theorem Dy{c:Expr}{body:List Stmt}{tc:TT}{tb:TS}(hp:Xm (model X.prog X.w) X.A X.env X.xe)(hc:PT X c tc)(hb:PSs X body tb):PS X (.While c body [] pos) (Jq tc tb):=by
 intro f8 s σ H D I h;obtain⟨W,⟨m0,w0⟩,turn⟩:=h;refine wpAny_While (codeAny_whileLoop (λn s'=>∃σ' H',Inv X f8 σ' H' s'/\W n σ' H') ?_ m0 ⟨σ,H,I,w0⟩);rintro n s1 ⟨σ1,H1,I1,w1⟩;refine Up hp (bX (hc f8 s1 σ1 H1 _ I1 (turn n σ1 H1 w1)) λb s2 ⟨H2,I2,q2⟩=>?_);cases b with
 |true=>
  obtain⟨N,hN,q2⟩:=q2;rw[Yg rfl];refine Up hp (bX (hb f8 s2 σ1 H2 _ I2 q2) λf s3 q3=>?_);cases f with
  |next=>
   obtain⟨σ3,H3,I3,n3⟩:=q3;obtain⟨m',hm,w3⟩:=hN σ3 H3 n3;exact⟨m',hm,σ3,H3,I3,w3⟩
  |cont=>
   obtain⟨σ3,H3,I3,n3⟩:=q3;obtain⟨m',hm,w3⟩:=hN σ3 H3 n3;exact⟨m',hm,σ3,H3,I3,w3⟩
  |brk=>exact q3
  |ret v=>exact q3
 |false=>
  rw[Yh SI];exact V2 ⟨σ1,H2,I2,q2⟩
end
structure It where
 go:Nat->Hp->Prop
 yld:Nat->Hp->V->Hp->Prop
 stop:Nat->Hp->Prop
def qM(X:Cx)(f8:List (Addr×Obj))(H:Hp)(b:Addr):Prop:=
 H b=none/\b≠X.env.locals/\b∉X.fs/\(b∈X.ex\/X.YD.heap.objs.size<=b)/\(∀x c,X.env.cells.lookup x=some c->c≠b)/\∀p∈X.pn++f8,p.1≠b
theorem Inv.fpOk{X:Cx}{f8:List (Addr×Obj)}{σ:St}{H H':Hp}{s:R8}{b:Addr}(I:Inv X f8 σ H s)(hb:s.heap.objs.size<=b)(hn:H' b=none):qM X f8 H' b:=by
 refine⟨hn,VL (SN I.lt hb),I.nofs hb, .inr (Sy I.sz hb),λx c e z=>?_,λp hp z=>?_⟩
 ·obtain⟨v,q⟩:=I.cell x c e;exact Ym (SN q.lt (by rw[z];exact hb)) (Tf _)
 ·exact Ym (SN (Sq (I.pin p hp).1) (by rw[z];exact hb)) (Tf _)
structure Turn (P:SJ) (w:World) (K:Se) (tg:Expr) (J:It) (fp:List Addr) (it:Addr) (tn:Nat->Heap->Prop):Prop where
 mem:it∈fp
 obj:∀i h,tn i h->∀b∈fp,∃o,h.get? b=some o/\∀v,o.data≠ .cell v
 keep:∀i h h',tn i h->(∀b∈fp,∀o,h.get? b=some o->h'.get? b=some o)->tn i h'
 item:∀(X:Cx),X.prog=P->X.w=w->X.K=K->X.calm=true->∀(i:Nat) (f8:List (Addr×Obj)) (s:R8) (σ:St) (H:Hp) (E:Value->R8->Prop),Inv X f8 σ H s->(∀b∈fp,qM X f8 H b)->tn i s.heap->J.go i H->
  wpAny (model P w) X.A (XE (.ref it)) (λr s1=>∃u,r=some u/\
   wpAny (model P w) X.A (V4 tg (.ref it) u) (λ_ s2=>∃x H',Inv X f8 σ H' s2/\RelV x u/\J.yld i H x H'/\tn (i+1) s2.heap/\∀b∈fp,H' b=none) E s1) E s
 done:∀(X:Cx),X.prog=P->X.w=w->X.K=K->X.calm=true->∀(i:Nat) (f8:List (Addr×Obj)) (s:R8) (σ:St) (H:Hp) (E:Value->R8->Prop),Inv X f8 σ H s->(∀b∈fp,qM X f8 H b)->tn i s.heap->J.stop i H->
  wpAny (model P w) X.A (XE (.ref it)) (λr s1=>r=none/\Inv X f8 σ H s1) E s
 self:∀(A:S1) (i:Nat) (s:R8) (Q:Value->R8->Prop) (E:Value->R8->Prop),tn i s.heap->Q (.ref it) s->wpAny (model P w) A (pyIter (.ref it)) Q E s
abbrev TI:=St->Hp->(It->Hp->Prop)->Prop
def Og(X:Cx)(f8:List (Addr×Obj))(σ:St)(tg:Expr)(R:It->Hp->Prop)(Pe:Value)(s2:R8):Prop:=
 ∃(it:Addr) (fp:List Addr) (tn:Nat->Heap->Prop) (J:It) (H':Hp),Pe= .ref it/\Inv X f8 σ H' s2/\Turn X.prog X.w X.K tg J fp it tn/\tn 0 s2.heap/\(∀b∈fp,qM X f8 H' b)/\R J H'
def PI(X:Cx)(tg iter:Expr)(wi:TI):Prop:=
 ∀(f8:List (Addr×Obj)) (s:R8) (σ:St) (H:Hp) (R:It->Hp->Prop),Inv X f8 σ H s->wi σ H R->
  wpAny (model X.prog X.w) X.A (eval iter X.env) (λv s1=>wpAny (model X.prog X.w) X.A (pyIter v) (Og X f8 σ tg R) X.xe s1) X.xe s
theorem rN{M:Model}{A:S1}{E:Value->R8->Prop}{s:R8}{tg:Expr}{it:Addr}{u:Value}{o:Obj}{n:String}{vs:Array Value}{Q:Unit->R8->Prop}(ho:s.heap.get? it=some o)(hc:o.cls= .type n)(hd:o.data= .fields vs)
 (hn:["enumerate","zip","dict_itemiterator","dict_reverseitemiterator","odict_iterator","itertools.zip_longest","itertools.pairwise"].contains n=false)(hQ:Q () s):wpAny M A (V4 tg (.ref it) u) Q E s:=by
 unfold V4;cases tg<;>first
  |exact R9 hQ
  |(cases u<;>first
    |exact R9 hQ
    |(refine R3 (wpAny_load ho ?_)
      rw[hc,hd];show wpAny M A (if (["enumerate","zip","dict_itemiterator","dict_reverseitemiterator","odict_iterator","itertools.zip_longest","itertools.pairwise"].contains n&&vs[0]? ==some (rawInt _))=true then _ else _) Q E s;rw[Yh (by intro h;rw[hn,Bool.false_and] at h;cases h)];exact R9 hQ))
def Mv(K:Se)(a:Addr):It:=
 ⟨λi H=>∃xs x,SqL K H a xs/\xs[i]? =some x,λi H x H'=>H'=H/\∀xs,SqL K H a xs->xs[i]? =some x,λi H=>∃xs,SqL K H a xs/\xs.length<=i⟩
def Mw(K:Se)(a:Addr):It:=
 ⟨λi H=>∃xs x,SqT K H a xs/\xs[i]? =some x,λi H x H'=>H'=H/\∀xs,SqT K H a xs->xs[i]? =some x,λi H=>∃xs,SqT K H a xs/\xs.length<=i⟩
def JJ(lo:Int)(n:Nat):It:=⟨λi _=>i<n,λi H x H'=>H'=H/\x= .int (lo+i),λi _=>n<=i⟩
theorem Bm{P:SJ}{w:World}{K:Se}{tg:Expr}(a it:Addr):Turn P w K tg (Mv K a) [it] it (λi h=>h.IsListIter it a i) where
 mem:=by simp
 obj:=λi h st b hb=>by
  have e:b=it:=by simpa using hb
  subst e;obtain⟨o,e,c,d⟩:=st;exact⟨o,e,λv z=>by rw[d] at z;cases z⟩
 keep:=λi h h' st k=>st.at λo e=>k it (by simp) o e
 item:=by
  intro X hP hw hK hc i f8 s σ H E I hf st hg;subst hP hw hK;obtain⟨xs,x,hq,hx⟩:=hg;obtain⟨aS,rv,p,hz⟩:=I.list hq;obtain⟨u,hu,ru⟩:=rv.get hx;obtain⟨f0,f1,f2,f3,f4,f5⟩:=hf it (by simp);refine wpAny_pyNext_list_item st p.isList (x:=u) (by simpa using hu) λh' qx sb=>?_;have I1:Inv X f8 σ H {s with heap:=h'}:=I.turned (t':=s.toks) (λb o hb e=>(sb.2 b hb).trans e) f0 f1 f3 f4 f5;obtain⟨o,e,c,d⟩:=id qx;exact⟨u,rfl,rN (s:={s with heap:=h'}) e c d (by decide) ⟨x,H,I1,ru,⟨rfl,λys hy=>by rw[I.list_inj hy hq];exact hx⟩,qx,λb hb=>(hf b hb).1⟩⟩
 done:=by
  intro X hP hw hK hc i f8 s σ H E I hf st hg;subst hP hw hK;obtain⟨xs,hq,hx⟩:=hg;obtain⟨aS,rv,p,hz⟩:=I.list hq;obtain⟨f0,f1,f2,f3,f4,f5⟩:=hf it (by simp);have hl:=rv.length;exact wpAny_pyNext_list_end (I.ok.hd hc) st p.isList (by simp;omega) λh' eb=>⟨rfl,I.turned (t':=s.toks) (λb o hb e=>eb b o hb e) f0 f1 f3 f4 f5⟩
 self:=λ_ _ _ _ _ st h=>wpAny_pyIter_listiter st h
theorem yP{P:SJ}{w:World}{K:Se}{tg:Expr}(a it:Addr):Turn P w K tg (Mw K a) [it] it (λi h=>h.IsTupleIter it a i) where
 mem:=by simp
 obj:=λi h st b hb=>by
  have e:b=it:=by simpa using hb
  subst e;obtain⟨o,e,c,d⟩:=st;exact⟨o,e,λv z=>by rw[d] at z;cases z⟩
 keep:=λi h h' st k=>st.at λo e=>k it (by simp) o e
 item:=by
  intro X hP hw hK hc i f8 s σ H E I hf st hg;subst hP hw hK;obtain⟨xs,x,hq,hx⟩:=hg;obtain⟨aS,rv,p,hz⟩:=I.tuple hq;obtain⟨u,hu,ru⟩:=rv.get hx;obtain⟨f0,f1,f2,f3,f4,f5⟩:=hf it (by simp);refine wpAny_pyNext_tuple_item st (show s.heap.IsTuple a aS.toArray from p) (x:=u) (by simpa using hu) λh' qx sb=>?_;have I1:Inv X f8 σ H {s with heap:=h'}:=I.turned (t':=s.toks) (λb o hb e=>(sb.2 b hb).trans e) f0 f1 f3 f4 f5;obtain⟨o,e,c,d⟩:=id qx;exact⟨u,rfl,rN (s:={s with heap:=h'}) e c d (by decide) ⟨x,H,I1,ru,⟨rfl,λys hy=>by rw[I.tuple_inj hy hq];exact hx⟩,qx,λb hb=>(hf b hb).1⟩⟩
 done:=by
  intro X hP hw hK hc i f8 s σ H E I hf st hg;subst hP hw hK;obtain⟨xs,hq,hx⟩:=hg;obtain⟨aS,rv,p,hz⟩:=I.tuple hq;obtain⟨f0,f1,f2,f3,f4,f5⟩:=hf it (by simp);have hl:=rv.length;exact wpAny_pyNext_tuple_end (I.ok.hd hc) st (show s.heap.IsTuple a aS.toArray from p) (by simp;omega) λh' eb=>⟨rfl,I.turned (t':=s.toks) (λb o hb e=>eb b o hb e) f0 f1 f3 f4 f5⟩
 self:=λ_ _ _ _ _ st h=>wpAny_pyIter_tupleiter st h
theorem yO{P:SJ}{w:World}{K:Se}{tg:Expr}(it:Addr)(lo:Int)(n:Nat):Turn P w K tg (JJ lo n) [it] it (λi h=>IsRangeIter h it (lo+(i:Nat)*1) ((n:Int) - (i:Nat)) 1) where
 mem:=by simp
 obj:=λi h st b hb=>by
  have e:b=it:=by simpa using hb
  subst e;exact⟨_,st,λv z=>by
   have z':XN _=Data.cell v:=z;cases z'⟩
 keep:=λi h h' st k=>k it (by simp) _ st
 item:=by
  intro X hP hw hK hc i f8 s σ H E I hf st hg;subst hP hw hK;obtain⟨f0,f1,f2,f3,f4,f5⟩:=hf it (by simp);have W:=Walks.range (prog:=X.prog) (w:=X.w) (I.ok.hd hc) it lo 1 n;refine W.item i s _ _ hg st λv h' tk hv qx kk=>?_;obtain⟨t,rfl⟩:=hv;have I1:Inv X f8 σ H {s with heap:=h',toks:=tk}:=I.turned (λb o hb e=>kk b o (by simpa using hb) e) f0 f1 f3 f4 f5;refine⟨_,rfl,rN (s:={s with heap:=h',toks:=tk}) (n:="range_iterator") qx rfl rfl (by decide) ⟨.int (lo+i),H,I1,⟨t,?_⟩,⟨rfl,rfl⟩,qx,λb hb=>(hf b hb).1⟩⟩;rw[Int.mul_one]
 done:=by
  intro X hP hw hK hc i f8 s σ H E I hf st hg;subst hP hw hK;obtain⟨f0,f1,f2,f3,f4,f5⟩:=hf it (by simp);exact wpAny_pyNext_range_end (I.ok.hd hc) st (by have:n<=i:=hg;omega) λh' eb=>⟨rfl,I.turned (t':=s.toks) (λb o hb e=>eb b o hb e) f0 f1 f3 f4 f5⟩
 self:=λ_ _ _ _ _ st h=>wpAny_pyIter_rangeiter st h
section
variable{X:Cx}{tg:Expr}
def KG(K:Se)(tl:TE):TI:=λσ H R=>tl σ H λx H1=>∃a,x= .ref a/\(∃xs,SqL K H1 a xs)/\R (Mv K a) H1
def NC(K:Se)(tl:TE):TI:=λσ H R=>tl σ H λx H1=>∃a,x= .ref a/\(∃xs,SqT K H1 a xs)/\R (Mw K a) H1
theorem FR{l:Expr}{tl:TE}(hl:PE X l tl):PI X tg l (KG X.K tl):=by
 intro f8 s σ H R I h;refine bX (hl f8 s σ H _ I h) λv s1 ⟨x,H1,I1,r1,q1⟩=>?_;obtain⟨a,e,⟨xs,hq⟩,q⟩:=q1;subst e;cases r1;obtain⟨aS,rv,p,hz⟩:=I1.list hq;refine wpAny_pyIter_list p.isList ?_;refine⟨s1.heap.objs.size,[s1.heap.objs.size],_,_,H1,rfl,I1.kept (t':=s1.toks) λb o e=>R7 _ e,Bm a _,⟨_,Sx _ rfl,rfl,rfl⟩,λb hb=>?_,q⟩;have e:b=s1.heap.objs.size:=by simpa using hb
 subst e;exact I1.fpOk (R_ _) (I1.hok.fresh (R_ _))
theorem IZ{l:Expr}{tl:TE}(hl:PE X l tl):PI X tg l (NC X.K tl):=by
 intro f8 s σ H R I h;refine bX (hl f8 s σ H _ I h) λv s1 ⟨x,H1,I1,r1,q1⟩=>?_;obtain⟨a,e,⟨xs,hq⟩,q⟩:=q1;subst e;cases r1;obtain⟨aS,rv,p,hz⟩:=I1.tuple hq;refine wpAny_pyIter_tuple (show s1.heap.IsTuple a aS.toArray from p) ?_;refine⟨s1.heap.objs.size,[s1.heap.objs.size],_,_,H1,rfl,I1.kept (t':=s1.toks) λb o e=>R7 _ e,yP a _,⟨_,Sx _ rfl,rfl,rfl⟩,λb hb=>?_,q⟩;have e:b=s1.heap.objs.size:=by simpa using hb
 subst e;exact I1.fpOk (R_ _) (I1.hok.fresh (R_ _))
theorem wG{f8:List (Addr×Obj)}{σ:St}{H:Hp}{s:R8}{R:It->Hp->Prop}{E:Value->R8->Prop}{lo hi:Int}{t u v:Tok}{tk:Nat}(I:Inv X f8 σ H s)(h1: -(2 ^ 62)<=lo)(h2:lo<2 ^ 62)(h3: -(2 ^ 62)<=hi)(h4:hi<2 ^ 62)
 (q:R (JJ lo (hi - lo).toNat) H):wpAny (model X.prog X.w) X.A (pyIter (.ref s.heap.objs.size)) (Og X f8 σ tg R) E {s with heap:=s.heap.push {cls:= .type "range",data:= .fields #[.int lo t, .int hi u, .int 1 v]},toks:=tk}:=by
 refine wpAny_pyIter_range (IsRange.new ..) (small_one h1 h2 h3 h4) ?_;have I1:Inv X f8 σ H {s with heap:=s.heap.push {cls:= .type "range",data:= .fields #[.int lo t, .int hi u, .int 1 v]},toks:=tk}:=I.kept λb o e=>R7 _ e;refine⟨(s.heap.push {cls:= .type "range",data:= .fields #[.int lo t, .int hi u, .int 1 v]}).objs.size,[(s.heap.push {cls:= .type "range",data:= .fields #[.int lo t, .int hi u, .int 1 v]}).objs.size],_,_,H,rfl,
  I1.kept (t':=tk) λb o e=>R7 _ e,yO _ lo (hi - lo).toNat,?_,λb hb=>?_,q⟩
 ·have e1:lo+((0:Nat):Int)*1=lo:=by simp
  have e2:(((hi - lo).toNat:Nat):Int) - ((0:Nat):Int)=Tu lo hi 1:=by rw[rangeSize_one];split<;>omega
  show IsRangeIter _ _ (lo+((0:Nat):Int)*1) ((((hi - lo).toNat:Nat):Int) - ((0:Nat):Int)) 1;rw[e1,e2];exact Sx _ rfl
 ·have e:b=(s.heap.push {cls:= .type "range",data:= .fields #[.int lo t, .int hi u, .int 1 v]}).objs.size:=by simpa using hb
  subst e;exact I1.fpOk (R_ _) (I1.hok.fresh (R_ _))
def KH(ta:TA):TI:=λσ H R=>ta σ H λvs H1=>∃j:Int,vs=[.int j]/\ -(2 ^ 62)<=j/\j<2 ^ 62/\R (JJ 0 j.toNat) H1
def KI(ta:TA):TI:=λσ H R=>ta σ H λvs H1=>∃i j:Int,vs=[.int i, .int j]/\(-(2 ^ 62)<=i/\i<2 ^ 62/\ -(2 ^ 62)<=j/\j<2 ^ 62)/\R (JJ i (j - i).toNat) H1
theorem A5{a:Expr}{ta:TA}{p pos:Pos}(hg:Gl X "range")(hm:X.mg "range"=none)(ha:PA X [a] ta)(hs:Su [a] X.env=[(false,eval a X.env)]:=by rfl):PI X tg (.Call (.Name "range" p) [a] [] pos) (KH ta):=by
 intro f8 s σ H R I h;refine Call_ (iQ I hg hm boot_range (Tj (bX (ha pos f8 s σ H _ I h) λus s1 ⟨vs,H1,I1,r1,q1⟩=>?_) hs rfl));obtain⟨j,e,q1,q2,q⟩:=q1;subst e;cases r1 with
 |cons r rr=>
  cases rr;obtain⟨t,rfl⟩:=r;exact call_range_1 (wG I1 (by omega) (by omega) q1 q2 (by simpa using q))
theorem A6{a b:Expr}{ta:TA}{p pos:Pos}(hg:Gl X "range")(hm:X.mg "range"=none)(ha:PA X [a,b] ta)(hs:Su [a,b] X.env=[(false,eval a X.env),(false,eval b X.env)]:=by rfl)(JD:Su [b] X.env=[(false,eval b X.env)]:=by rfl):
 PI X tg (.Call (.Name "range" p) [a,b] [] pos) (KI ta):=by
 intro f8 s σ H R I h;refine Call_ (iQ I hg hm boot_range (Tj (bX (ha pos f8 s σ H _ I h) λus s1 ⟨vs,H1,I1,r1,q1⟩=>?_) (by rw[hs,JD]) (by rw[JD];rfl)));obtain⟨i,j,e,⟨q1,q2,q3,q4⟩,q⟩:=q1;subst e;cases r1 with
 |cons r rr=>
  cases rr with
  |cons r' rr=>
   cases rr;obtain⟨t,rfl⟩:=r;obtain⟨t',rfl⟩:=r';exact call_range_2 (wG I1 q1 q2 q3 q4 q)
def LF(wi:TI)(g:TG)(tb:TS):TS:=λD σ H=>wi σ H λJ H1=>∃W:Nat->Nat->St->Hp->Prop,(∃m,W 0 m σ H1)/\∀i m σ H,W i m σ H->
 (J.stop i H/\D.nx σ H)\/(J.go i H/\∃N:St->Hp->Prop,(∀σ' H',N σ' H'->∃m',m'<m/\W (i+1) m' σ' H')/\∀x H',J.yld i H x H'->g x σ H' λσ2 H2=>tb {D with nx:=N,ct:=N,bk:=D.nx} σ2 H2)
def qj(fp:List Addr)(h:Heap):List (Addr×Obj):=fp.filterMap λb=>(h.get? b).map λo=>(b,o)
theorem g6{fp:List Addr}{h:Heap}{b:Addr}{o:Obj}(hb:b∈fp)(e:h.get? b=some o):(b,o)∈qj fp h:=X2.mpr ⟨b,hb,by rw[e];rfl⟩
theorem AV{fp:List Addr}{h:Heap}{p:Addr×Obj}(hp:p∈qj fp h):p.1∈fp/\h.get? p.1=some p.2:=by
 obtain⟨b,hb,e⟩:=X2.mp hp;cases q:h.get? b with
 |none=>rw[q] at e;cases e
 |some o=>
  rw[q] at e;have e':(b,o)=p:=SS e;subst e';exact⟨hb,q⟩
theorem Inv.pinned{f8:List (Addr×Obj)}{σ:St}{H:Hp}{s:R8}{fp:List Addr}(I:Inv X f8 σ H s)(hf:∀b∈fp,qM X f8 H b)(ho:∀b∈fp,∃o,s.heap.get? b=some o/\∀v,o.data≠ .cell v):Inv X (f8++qj fp s.heap) σ H s:=
 I.pins_of λp hp=>(SD.mp hp).elim (λz=>I.pin p (SV _ z)) λz=>by
  obtain⟨hb,e⟩:=AV z;obtain⟨f0,f1,f2,_⟩:=hf p.1 hb;obtain⟨o,e',d⟩:=ho p.1 hb;rw[e] at e';cases e';exact⟨e,f0,f1,f2,d⟩
theorem Inv.unpinned{f8 pl:List (Addr×Obj)}{σ:St}{H:Hp}{s:R8}(I:Inv X (f8++pl) σ H s):Inv X f8 σ H s:=I.pins_of λp hp=>I.pin p (SV _ (Tq _ hp))
theorem yA{iter:Expr}{body:List Stmt}{wi:TI}{g:TG}{tb:TS}{pos:Pos}(hp:Xm (model X.prog X.w) X.A X.env X.xe)(hc:X.calm=true)(hi:PI X tg iter wi)(hg:PG X tg g)(hb:PSs X body tb)
 (hs:∀x,Uu iter X.env x=pure x:=by intro _;rfl):PS X (.For tg iter body [] pos) (LF wi g tb):=by
 intro f8 s σ H D I h;refine wpAny_For (bX (hi f8 s σ H _ I h) λv s1 h1=>bX h1 λPe s2 h2=>?_) hs;obtain⟨it,fp,tn,J,H2,e,I2,T,rf,f2,W,⟨m0,w0⟩,turn⟩:=h2;subst e;have Jn:∀{H':Hp},(∀b∈fp,H' b=none)->∀b∈fp,qM X f8 H' b:=λhn b hb=>⟨hn b hb,(f2 b hb).2⟩
 refine codeAny_forLoop_any (λn s'=>∃i σ' H',Inv X f8 σ' H' s'/\tn i s'.heap/\(∀b∈fp,H' b=none)/\W i n σ' H') ?_ m0 ⟨0,σ,H2,I2,rf,λb hb=>(f2 b hb).1,w0⟩;rintro n s3 ⟨i,σ3,H3,I3,JF,L0,w3⟩;rcases turn i n σ3 H3 w3 with⟨stop,qn⟩ | ⟨go,N,hN,step⟩
 ·refine Up hp (bX (T.done X rfl rfl rfl hc i f8 s3 σ3 H3 X.xe I3 (Jn L0) JF stop) λr s4 ⟨hr,I4⟩=>?_);subst hr;exact V2 ⟨σ3,H3,I4,qn⟩
 ·refine Up hp (bX (T.item X rfl rfl rfl hc i f8 s3 σ3 H3 X.xe I3 (Jn L0) JF go) λr s4 ⟨u,hr,h4⟩=>?_);subst hr;refine Up hp (bX h4 λ_ s5 ⟨x,H5,I5,r5,y5,NY,P4⟩=>?_);have I5':=I5.pinned (Jn P4) (T.obj _ _ NY);refine Up hp (bX (hg _ s5 σ3 H5 x u _ I5' r5 (step x H5 y5)) λ_ s6 ⟨σ6,H6,I6,q6⟩=>?_);refine Up hp (bX (hb _ s6 σ6 H6 _ I6 q6) λf s7 q7=>?_);have again:∀{σ7:St}{H7:Hp},Inv X (f8++qj fp s5.heap) σ7 H7 s7->N σ7 H7->∃m,m<n/\∃i σ' H',Inv X f8 σ' H' s7/\tn i s7.heap/\(∀b∈fp,H' b=none)/\W i m σ' H':=λ{σ7 H7} I7 n7=>by
   obtain⟨m',hm,w7⟩:=hN σ7 H7 n7;refine⟨m',hm,i+1,σ7,H7,I7.unpinned,T.keep _ _ _ NY λb hb o e=>(I7.pin (b,o) (SV _ (SV _ (g6 hb e)))).1,λb hb=>?_,w7⟩;obtain⟨o,e,d⟩:=T.obj _ _ NY b hb;exact(I7.pin (b,o) (SV _ (SV _ (g6 hb e)))).2.1
  cases f with
  |next=>obtain⟨σ7,H7,I7,n7⟩:=q7;exact again I7 n7
  |cont=>obtain⟨σ7,H7,I7,n7⟩:=q7;exact again I7 n7
  |brk=>obtain⟨σ7,H7,I7,q7⟩:=q7;exact⟨σ7,H7,I7.unpinned,q7⟩
  |ret v=>obtain⟨x7,σ7,H7,I7,r7,q7⟩:=q7;exact⟨x7,σ7,H7,I7.unpinned,r7,q7⟩
end
abbrev R2:=V->V->Hp->VK->Prop
def OpR(X:Cx)(f:Value->Value->Sem Value)(r:R2):Prop:=
 ∀(f8:List (Addr×Obj)) (s:R8) (σ:St) (H:Hp) (x y:V) (v u:Value) (Q:VK),Inv X f8 σ H s->RelV x v->RelV y u->r x y H Q->
  wpAny (model X.prog X.w) X.A (f v u) (EP X f8 σ Q) X.xe s
def MB(X:Cx)(f:Value->Sem Value)(r:V->Hp->VK->Prop):Prop:=
 ∀(f8:List (Addr×Obj)) (s:R8) (σ:St) (H:Hp) (x:V) (v:Value) (Q:VK),Inv X f8 σ H s->RelV x v->r x H Q->
  wpAny (model X.prog X.w) X.A (f v) (EP X f8 σ Q) X.xe s
def CallR(X:Cx)(f:Value)(r:List V->Hp->VK->Prop):Prop:=
 ∀(f8:List (Addr×Obj)) (s:R8) (σ:St) (H:Hp) (xs:List V) (us:List Value) (Q:VK),Inv X f8 σ H s->Vals xs us->r xs H Q->
  wpAny (model X.prog X.w) X.A (call f us) (EP X f8 σ Q) X.xe s
def MA(X:Cx)(r:V->Hp->(Bool->Hp->Prop)->Prop):Prop:=
 ∀(f8:List (Addr×Obj)) (s:R8) (σ:St) (H:Hp) (x:V) (v:Value) (Q:Bool->Hp->Prop),Inv X f8 σ H s->RelV x v->r x H Q->
  wpAny (model X.prog X.w) X.A (truthy v) (TP X f8 σ Q) X.xe s
def LJ(r:R2)(ta tb:TE):TE:=λσ H Q=>ta σ H λx H1=>tb σ H1 λy H2=>r x y H2 Q
def RI(r:V->Hp->VK->Prop)(ta:TE):TE:=λσ H Q=>ta σ H λx H1=>r x H1 Q
def rI(C:Int->Int->Prop)(g:Int->Int->V):R2:=λx y H Q=>∃i j,x= .int i/\y= .int j/\C i j/\Q (g i j) H
def yC(g:Int->Int->V):R2:=λx y H Q=>∃i j,x= .int i/\y= .int j/\Q (g i j) H
def rU(g:Int->V):V->Hp->VK->Prop:=λx H Q=>∃i,x= .int i/\Q (g i) H
section
variable{X:Cx}{a b:Expr}{ta tb:TE}{pos:Pos}
theorem Hk(ha:PE X a ta)(hb:PE X b tb){f8:List (Addr×Obj)}{s:R8}{σ:St}{H:Hp}{R:V->V->Hp->Prop}(I:Inv X f8 σ H s)
 (h:ta σ H λx H1=>tb σ H1 λy H2=>R x y H2){Q:Value->R8->Prop}{f:Value->Value->Sem Value}
 (hf:∀v u s2 x y H2,Inv X f8 σ H2 s2->RelV x v->RelV y u->R x y H2->wpAny (model X.prog X.w) X.A (f v u) Q X.xe s2):
 wpAny (model X.prog X.w) X.A (eval a X.env) (λv v4=>wpAny (model X.prog X.w) X.A (eval b X.env) (λu v1=>wpAny (model X.prog X.w) X.A (f v u) Q X.xe v1) X.xe v4) X.xe s:=by
 refine bX (ha f8 s σ H _ I h) λv s1 ⟨x,H1,I1,r1,q1⟩=>?_;refine bX (hb f8 s1 σ H1 _ I1 q1) λu s2 ⟨y,H2,I2,r2,q2⟩=>?_;exact hf v u s2 x y H2 I2 r1 r2 q2
theorem Le{op:Operator}{r:R2}(ho:OpR X (U9 op) r)(ha:PE X a ta)(hb:PE X b tb):PE X (.BinOp a op b pos) (LJ r ta tb):=by
 intro f8 s σ H Q I h;exact wpAny_BinOp (Hk ha hb I h λv u s2 x y H2 I2 rx ry q=>ho f8 s2 σ H2 x y v u Q I2 rx ry q)
theorem Lg{op:UnaryOp}{r:V->Hp->VK->Prop}(ho:MB X (unaryOp op) r)(ha:PE X a ta):PE X (.UnaryOp op a pos) (RI r ta):=by
 intro f8 s σ H Q I h;exact UnaryOp_ (bX (ha f8 s σ H _ I h) λv s1 ⟨x,H1,I1,r1,q1⟩=>ho f8 s1 σ H1 x v Q I1 r1 q1)
theorem NO{f:Value->Value->Sem Value}{C:Int->Int->Prop}{g:Int->Int->Int}
 (rule:∀(i j:Int) (t u:Tok) (s:R8) (Q:Value->R8->Prop) (E:Value->R8->Prop),C i j->Q (.int (g i j) s.toks) {s with toks:=s.toks+1}->wpAny (model X.prog X.w) X.A (f (.int i t) (.int j u)) Q E s):
 OpR X f (rI C λi j=> .int (g i j)):=by
 intro f8 s σ H x y v u Q I rx ry h;obtain⟨i,j,rfl,rfl,hc,q⟩:=h;obtain⟨t,rfl⟩:=rx;obtain⟨t',rfl⟩:=ry;exact rule i j t t' s _ _ hc ⟨.int (g i j),H,I.tok _,⟨_,rfl⟩,q⟩
theorem K5{f:Value->Value->Sem Value}{g:Int->Int->Int}
 (rule:∀(i j:Int) (t u:Tok) (s:R8) (Q:Value->R8->Prop) (E:Value->R8->Prop),Q (.int (g i j) s.toks) {s with toks:=s.toks+1}->wpAny (model X.prog X.w) X.A (f (.int i t) (.int j u)) Q E s):
 OpR X f (yC λi j=> .int (g i j)):=by
 intro f8 s σ H x y v u Q I rx ry h;obtain⟨i,j,rfl,rfl,q⟩:=h;obtain⟨t,rfl⟩:=rx;obtain⟨t',rfl⟩:=ry;exact rule i j t t' s _ _ ⟨.int (g i j),H,I.tok _,⟨_,rfl⟩,q⟩
theorem Fs{f:Value->Value->Sem Value}{g:Int->Int->Bool}
 (rule:∀(i j:Int) (t u:Tok) (s:R8) (Q:Value->R8->Prop) (E:Value->R8->Prop),Q (.bool (g i j)) s->wpAny (model X.prog X.w) X.A (f (.int i t) (.int j u)) Q E s):
 OpR X f (yC λi j=> .bl (g i j)):=by
 intro f8 s σ H x y v u Q I rx ry h;obtain⟨i,j,rfl,rfl,q⟩:=h;obtain⟨t,rfl⟩:=rx;obtain⟨t',rfl⟩:=ry;exact rule i j t t' s _ _ ⟨.bl (g i j),H,I,rfl,q⟩
def JH(i j:Int):Prop:=0<j/\j<1073741824
def CMul(i j:Int):Prop:=(-(2 ^ 64)<i/\i<2 ^ 64)\/(-(2 ^ 64)<j/\j<2 ^ 64)
theorem CMul.ok{i j:Int}(h:CMul i j):IntMulOk i j:=by
 rcases h with⟨h1,h2⟩ | ⟨h1,h2⟩
 ·exact .of_left (intBits_le_64 h1 h2)
 ·exact .of_right (intBits_le_64 h1 h2)
theorem Iw:OpR X (U9 .Add) (yC λi j=> .int (i+j)):=K5 λ_ _ _ _ _ _ _ q=>add_int q
theorem ID:OpR X (U9 .Sub) (yC λi j=> .int (i - j)):=K5 λ_ _ _ _ _ _ _ q=>sub_int q
theorem IB:OpR X (U9 .Mult) (rI CMul λi j=> .int (i*j)):=NO λ_ _ _ _ _ _ _ hc q=>mul_int q hc.ok
theorem Fu:OpR X (U9 .FloorDiv) (rI JH λi j=> .int (i / j)):=NO λi j _ _ _ _ _ hc q=>by
 have h1:(0:Int)<j:=hc.1;have h2:j<1073741824:=hc.2;exact floordiv_int (by omega) (by rw[Int.fdiv_eq_ediv_of_nonneg i (by omega)];exact q) (.inl (PyProof.noPylong_small (by omega)))
theorem IA:OpR X (U9 .Mod) (rI (λ_ j=>0<j) λi j=> .int (i % j)):=NO λi j _ _ _ _ _ hc q=>by
 have h1:(0:Int)<j:=hc;exact mod_int' (by omega) (by rw[Int.fmod_eq_emod_of_nonneg i (by omega)];exact q)
theorem RK{f:Value->Sem Value}{g:Int->Int}
 (rule:∀(i:Int) (t:Tok) (s:R8) (Q:Value->R8->Prop) (E:Value->R8->Prop),Q (.int (g i) s.toks) {s with toks:=s.toks+1}->wpAny (model X.prog X.w) X.A (f (.int i t)) Q E s):
 MB X f (rU λi=> .int (g i)):=by
 intro f8 s σ H x v Q I rx h;obtain⟨i,rfl,q⟩:=h;obtain⟨t,rfl⟩:=rx;exact rule i t s _ _ ⟨.int (g i),H,I.tok _,⟨_,rfl⟩,q⟩
theorem Jt:MB X (unaryOp .USub) (rU λi=> .int (-i)):=RK λ_ _ _ _ _ q=>neg_int q
end
section
variable{X:Cx}{a b c:Expr}{ta tb tc:TE}{pos:Pos}
theorem Hx{f8:List (Addr×Obj)}{σ:St}{H:Hp}{s:R8}{Q:VK}{k k':Bool}(I:Inv X f8 σ H s)(q:Q (.bl k) H)(e:k=k'):EP X f8 σ Q (.bool k') s:=by
 subst e;exact⟨.bl k,H,I,rfl,q⟩
theorem C8:OpR X (Te .Lt) (yC λi j=> .bl (decide (i<j))):=Fs λ_ _ _ _ _ _ _ q=>lt_int q
theorem sf:OpR X (Te .LtE) (yC λi j=> .bl (decide (i<=j))):=Fs λ_ _ _ _ _ _ _ q=>le_int q
theorem G6:OpR X (Te .Gt) (yC λi j=> .bl (decide (j<i))):=Fs λ_ _ _ _ _ _ _ q=>gt_int q
theorem K6:OpR X (Te .GtE) (yC λi j=> .bl (decide (j<=i))):=Fs λ_ _ _ _ _ _ _ q=>ge_int q
theorem se:OpR X (Te .In) (λx y H Q=>∃i j,x= .str i/\y= .str j/\Q (.bl (!(Tc j i 0 j.length 1).isEmpty)) H):=by
 intro f8 s σ H x y v u Q I rx ry h;obtain⟨i,j,rfl,rfl,q⟩:=h;obtain⟨t,rfl⟩:=rx;obtain⟨t',rfl⟩:=ry;exact in_str (Hx I q rfl)
theorem OpR.or{f:Value->Value->Sem Value}{r r':R2}(h:OpR X f r)(h':OpR X f r'):OpR X f (λx y H Q=>r x y H Q\/r' x y H Q):=by
 intro f8 s σ H x y v u Q I rx ry q;rcases q with q | q
 ·exact h f8 s σ H x y v u Q I rx ry q
 ·exact h' f8 s σ H x y v u Q I rx ry q
theorem CY(b:Expr){op:CmpOp}(h:op≠ .In:=by decide)(h2:op≠ .NotIn:=by decide):Th op b=false:=by
 have e1:(op==CmpOp.In)=false:=by cases op<;>first | rfl | exact Ym rfl h
 have e2:(op==CmpOp.NotIn)=false:=by cases op<;>first | rfl | exact Ym rfl h2
 cases b<;>simp[Th,e1,e2]
theorem FN{op:CmpOp}{r:R2}(ho:OpR X (Te op) r)(ha:PE X a ta)(hb:PE X b tb)(hm:Th op b=false):PE X (.Compare a [op] [b] pos) (LJ r ta tb):=by
 intro f8 s σ H Q I h;exact wpAny_Compare1 (Hk ha hb I h λv u s2 x y H2 I2 rx ry q=>ho f8 s2 σ H2 x y v u Q I2 rx ry q) hm
def He(t:TE):TT:=λσ H Q=>t σ H λx H'=>∃k,x= .bl k/\Q k H'
theorem FY{op:CmpOp}{r:R2}(ho:OpR X (Te op) r)(ha:PE X a ta)(hb:PE X b tb)(hm:Th op b=false):PT X (.Compare a [op] [b] pos) (He (LJ r ta tb)):=by
 intro f8 s σ H Q I h;refine wpAny_isTrue_Compare1 (bX (ha f8 s σ H _ I h) λv s1 ⟨x,H1,I1,r1,q1⟩=>bX (hb f8 s1 σ H1 _ I1 q1) λu s2 ⟨y,H2,I2,r2,q2⟩=>
  bX (ho f8 s2 σ H2 x y v u _ I2 r1 r2 q2) λc s3 ⟨z,H3,I3,r3,k,e,q3⟩=>?_) hm
 subst e;cases r3;exact Tw ⟨H3,I3,q3⟩
def yM(r r':R2)(ta tb tc:TE):TE:=λσ H Q=>ta σ H λx H1=>tb σ H1 λy H2=>r x y H2 λz H3=>∃k,z= .bl k/\
 (if k=true then tc σ H3 λw' H4=>r' y w' H4 Q else Q (.bl false) H3)
theorem Dm{op yr:CmpOp}{r r':R2}(ho:OpR X (Te op) r)(rO:OpR X (Te yr) r')(ha:PE X a ta)(hb:PE X b tb)(hc:PE X c tc)
 (hm:lastMarks [op,yr] [b,c]=false:=by with_unfolding_all rfl):PE X (.Compare a [op,yr] [b,c] pos) (yM r r' ta tb tc):=by
 intro f8 s σ H Q I h;refine Compare_chain (bX (ha f8 s σ H _ I h) λv s1 ⟨x,H1,I1,r1,q1⟩=>chain_link (bX (hb f8 s1 σ H1 _ I1 q1) λu s2 ⟨y,H2,I2,r2,q2⟩=>
  bX (ho f8 s2 σ H2 x y v u _ I2 r1 r2 q2) λd s3 ⟨z,H3,I3,r3,k,e,q3⟩=>?_)) hm
 subst e;cases r3;refine Tw ?_;cases k with
 |false=>exact ite_ff ⟨.bl false,H3,I3,rfl,q3⟩
 |true=>exact ite_tt (chain_last (bX (hc f8 s3 σ H3 _ I3 q3) λw' s4 ⟨z',H4,I4,r4,q4⟩=>rO f8 s4 σ H4 y z' u w' Q I4 r2 r4 q4))
theorem DB{op yr:CmpOp}{r r':R2}(ho:OpR X (Te op) r)(rO:OpR X (Te yr) r')(ha:PE X a ta)(hb:PE X b tb)(hc:PE X c tc)
 (hm:lastMarks [op,yr] [b,c]=false:=by with_unfolding_all rfl):PT X (.Compare a [op,yr] [b,c] pos) (He (yM r r' ta tb tc)):=by
 intro f8 s σ H Q I h;refine isTrue_chain (bX (ha f8 s σ H _ I h) λv s1 ⟨x,H1,I1,r1,q1⟩=>test_link (bX (hb f8 s1 σ H1 _ I1 q1) λu s2 ⟨y,H2,I2,r2,q2⟩=>
  bX (ho f8 s2 σ H2 x y v u _ I2 r1 r2 q2) λd s3 ⟨z,H3,I3,r3,k,e,q3⟩=>?_)) hm
 subst e;cases r3;refine Tw ?_;cases k with
 |false=>
  obtain⟨k',e',q'⟩:=q3;cases e';exact ite_ff ⟨H3,I3,q'⟩
 |true=>
  refine ite_tt (test_last (bX (hc f8 s3 σ H3 _ I3 q3) λw' s4 ⟨z',H4,I4,r4,q4⟩=>bX (rO f8 s4 σ H4 y z' u w' _ I4 r2 r4 q4) λd' s5 ⟨z2,H5,I5,r5,k2,e2,q5⟩=>?_));subst e2;cases r5;exact Tw ⟨H5,I5,q5⟩
def JN(K:Se)(x:V)(H:Hp)(k:Bool):Prop:=
 match x with
 | .non=>k=false
 | .bl b=>k=b
 | .int i=>k=(i !=0)
 | .str y=>y.length<=Sv/\k=((y.length:Int) !=0)
 | .byt y=>y.size<=Sv/\k=((y.size:Int) !=0)
 | .ref p=>(∃xs,SqL K H p xs/\k=!xs.isEmpty)\/(∃xs,SqT K H p xs/\k=!xs.isEmpty)\/∃kvs,H p=some (.dK kvs)/\k=!kvs.isEmpty
 |_=>False
theorem xX{κ:Type}{kvs:List (κ×V)}{vs:List (κ×Value)}(r:KV kvs vs):(!vs.isEmpty)=!kvs.isEmpty:=by
 cases r<;>rfl
theorem pk{xs:List V}{aS:List Value}(r:Vals xs aS):(!aS.toArray.isEmpty)=!xs.isEmpty:=by
 cases r<;>simp
theorem lZ:(Sv:Nat)<2 ^ 63:=by rw[UZ];decide
theorem Jr:MA X (λx H Q=>∃k,JN X.K x H k/\Q k H):=by
 intro f8 s σ H x v Q I rx h;obtain⟨k,e,q⟩:=h;have hl:=lZ;have hs:Sv=16777216:=UZ;cases x with
 |non=>
  cases rx;have e':k=false:=e;subst e';exact truthy_none ⟨H,I,q⟩
 |bl b=>
  cases rx;have e':k=b:=e;subst e';exact Tw ⟨H,I,q⟩
 |int i=>
  obtain⟨t,rfl⟩:=rx;have e':k=(i !=0):=e;subst e';exact PySem.P.truthy_int ⟨H,I,q⟩
 |str y=>
  obtain⟨t,rfl⟩:=rx;obtain⟨hy,e'⟩:y.length<=Sv/\k=((y.length:Int) !=0):=e;subst e';exact PySem.P.truthy_str (by omega) ⟨H,I.tok _,q⟩
 |byt y=>
  obtain⟨t,rfl⟩:=rx;obtain⟨hy,e'⟩:y.size<=Sv/\k=((y.size:Int) !=0):=e;subst e';exact PySem.W.truthy_bytes (by omega) ⟨H,I.tok _,q⟩
 |ref p=>
  cases rx;have e':(∃xs,SqL X.K H p xs/\k=!xs.isEmpty)\/(∃xs,SqT X.K H p xs/\k=!xs.isEmpty)\/∃kvs,H p=some (.dK kvs)/\k=!kvs.isEmpty:=e;rcases e' with⟨xs,hx,e'⟩ | ⟨xs,hx,e'⟩ | ⟨kvs,hx,e'⟩
  ·subst e';obtain⟨aS,r,pl,hz⟩:=I.list hx;have v6:=r.length;exact wpAny_truthy_list pl.isList (by simp only[Si];omega) ⟨H,I.tok _,by rw[pk r];exact q⟩
  ·subst e';obtain⟨aS,r,pl,hz⟩:=I.tuple hx;have v6:=r.length;exact truthy_tuple pl (by simp only[Si];omega) ⟨H,I.tok _,by rw[pk r];exact q⟩
  ·subst e';obtain⟨hz,hS,vs,r,m⟩:kvs.length<=Sv/\(p==Tx)=false/\∃vs,KV kvs vs/\s.heap.DictOf (ba X.prog X.w) p vs:=I.hok p _ hx;have v6:kvs.length=vs.length:=T4 r;exact wpAny_truthy_dict hS m (by omega) ⟨H,I.tok _,by rw[xX r];exact q⟩
 |_=>exact(show False from e).elim
theorem DC(ha:PE X a ta)(he:∀whole,isTrue a X.env whole=(do let v<-whole;standAt a.pos;holding [v] (truthy v))):
 PT X a (λσ H Q=>ta σ H λx H'=>∃k,JN X.K x H' k/\Q k H'):=by
 intro f8 s σ H Q I h;exact isTrue_plain (bX (ha f8 s σ H _ I h) λv s1 ⟨x,H1,I1,r1,q1⟩=>Jr f8 s1 σ H1 x v Q I1 r1 q1) (he _)
theorem vals1{x:V}{us:List Value}(r:Vals [x] us):∃u,us=[u]/\RelV x u:=by
 cases r with
 |cons r1 r2=>cases r2;exact⟨_,rfl,r1⟩
theorem vals2{x y:V}{us:List Value}(r:Vals [x,y] us):∃u w',us=[u,w']/\RelV x u/\RelV y w':=by
 cases r with
 |cons r1 r2=>
  cases r2 with
  |cons r3 r4=>cases r4;exact⟨_,_,rfl,r1,r3⟩
theorem BK:CallR X (.builtin "abs") (λxs H Q=>∃i,xs=[.int i]/\Q (.int (if i<0 then -i else i)) H):=by
 intro f8 s σ H xs us Q I r h;obtain⟨i,rfl,q⟩:=h;obtain⟨u,rfl,t,rfl⟩:=vals1 r;exact call_abs_int λu tk=>⟨.int (if i<0 then -i else i),H,I.tok _,⟨_,rfl⟩,q⟩
theorem Af(hc:X.calm=true):CallR X (.builtin "max") (λxs H Q=>∃i j,xs=[.int i, .int j]/\Q (.int (if j>i then j else i)) H):=by
 intro f8 s σ H xs us Q I r h;obtain⟨i,j,rfl,q⟩:=h;obtain⟨u,w',rfl,⟨t,rfl⟩,⟨t',rfl⟩⟩:=vals2 r;refine max_two_ints (I.ok.hd hc) λh' tk k=>⟨_,H,I.kept k,?_,q⟩
 by_cases hj:j>i
 ·rw[Yg hj,Yg hj];exact⟨_,rfl⟩
 ·rw[Yh hj,Yh hj];exact⟨_,rfl⟩
theorem Ag(hc:X.calm=true):CallR X (.builtin "min") (λxs H Q=>∃i j,xs=[.int i, .int j]/\Q (.int (if j<i then j else i)) H):=by
 intro f8 s σ H xs us Q I r h;obtain⟨i,j,rfl,q⟩:=h;obtain⟨u,w',rfl,⟨t,rfl⟩,⟨t',rfl⟩⟩:=vals2 r;refine min_two_ints (I.ok.hd hc) λh' tk k=>⟨_,H,I.kept k,?_,q⟩
 by_cases hj:j<i
 ·rw[Yg hj,Yg hj];exact⟨_,rfl⟩
 ·rw[Yh hj,Yh hj];exact⟨_,rfl⟩
end
structure ObjM (h:Heap) (x dx C:Addr) (mA:Str->Option Value):Prop where
 obj:h.get? x=some (Wq C dx)
 ns:h.Ns1 dx mA
 ne:dx≠x
theorem AL{h:Heap}{dx:Addr}{mA:Str->Option Value}(n:h.Ns1 dx mA):∃od,h.get? dx=some od/\∀name,Wx name od=some (mA name):=by
 obtain⟨o,es,ep,ho,hd,hk,_,hm⟩:=n;refine⟨o,ho,λname=>?_⟩;have e:=hm name;unfold nsFind findBy at e;rw[<-Array.find?_toList] at e;unfold Wx;rw[hd]
 dsimp only
 split
 ·rename_i y q;rw[q] at e;exact Yo some e
 ·rename_i q;rw[q] at e;have a:es.toList.any (·.refKey)=false:=by
   rw[List.any_eq_false];intro y hy;obtain⟨z,t,E0⟩:=hk y (Array.mem_toList_iff.mp hy);simp[DictEntry.refKey,E0]
  have a':¬es.toList.any (·.refKey)=true:=by rw[a];exact SI
  rw[Yh a'];exact Yo some e
theorem ObjM.look{h:Heap}{x dx C:Addr}{mA:Str->Option Value}(I:ObjM h x dx C mA):∃od,PySem.W.InstAt h x (Wq C dx) C (some od)/\∀name,Wx name od=some (mA name):=
 let ⟨od,ho,hl⟩:=AL I.ns
 ⟨od,⟨I.obj,rfl,rfl,ho⟩,hl⟩
theorem RelO.some_of{v:V}{o:Option Value}(r:RelO (some v) o):∃u,o=some u/\RelV v u:=by
 cases o with
 |none=>exact(show False from r).elim
 |some u=>exact⟨u,rfl,r⟩
theorem RelO.none_of{o:Option Value}(r:RelO none o):o=none:=by
 cases o with
 |none=>rfl
 |some u=>exact(show False from r).elim
section
variable{P:SJ}{w:World}{H:Hp}{h:Heap}{a C dx:Addr}{fs:List (Str×V)}
theorem E8(hok:HOk P w H h)(e:H a=some (.ins C dx fs)):∃mA,ObjM h a dx C mA/\(∀f,RelO (fs.lookup f) (mA f))/\PySem.Within mA (fs.map (·.1))/\fs.length<=1000/\H dx=some (.own a):=by
 obtain⟨d,z,ne,ob,mA,n,r,q⟩:=(show ObjOk P w H h a (.ins C dx fs) from hok a _ e)
 exact⟨mA,⟨ob,n,ne⟩,r,q,z,d⟩
end
structure Cls (K:Se) (C:Addr):Prop where
 pg:XG K C Str.empty=true
 hd:PySem.W.hasDictIn K C=true
 po:PySem.W.plainOver K C=true
 sa:X7 K (.ref C) "__setattr__"=some (some (.builtin "object.__setattr__"))
theorem Cls.get{K:Se}{C:Addr}(c:Cls K C)(f:Str):XG K C f=true:=c.pg
section
variable{X:Cx}{f8:List (Addr×Obj)}{σ:St}{H:Hp}{s:R8}{A:S1}{E:Value->R8->Prop}{Q:Value->R8->Prop}{c:Value}{b:Bool}
inductive TyOf (K:Se) (H:Hp):V->Value->Prop where
 |non:TyOf K H .non (.type "NoneType")
 |bl (x:Bool):TyOf K H (.bl x) (.type "bool")
 |int (i:Int):TyOf K H (.int i) (.type "int")
 |str (x:Str):TyOf K H (.str x) (.type "str")
 |flt (x:UInt64):TyOf K H (.flt x) (.type "float")
 |lst {a:Addr}{xs:List V}(e:H a=some (.lst xs)):TyOf K H (.ref a) (.type "list")
 |frz {a:Addr}{o:Obj}{xs:List V}(e:H a=some (.frz o (.lst xs))):TyOf K H (.ref a) (.type "list")
 |tup {a:Addr}{xs:List V}(e:H a=some (.tup xs)):TyOf K H (.ref a) (.type "tuple")
 |dK {a:Addr}{kvs:List (Key×V)}(e:H a=some (.dK kvs)):TyOf K H (.ref a) (.type "dict")
 |dT {a:Addr}{kvs:List (List Key×V)}(e:H a=some (.dT kvs)):TyOf K H (.ref a) (.type "dict")
 |ins {a C dx:Addr}{fs:List (Str×V)}(e:H a=some (.ins C dx fs)) (cl:Cls K C) (ha:X7 K (.ref C) "__class__"=some (some (.builtin "object.__class__")))
   (hn:PySem.W.specialIn K (.builtin "object.__class__") "__get__"=some (some (.builtin "getset_descriptor.__get__"))) (O6:PySem.W.takesIn K (.builtin "object.__class__")=some true)
   (hm:PySem.W.mroIn K C (.type "object")=some true):TyOf K H (.ref a) (.ref C)
theorem Az{x:V}{u t:Value}(I:Inv X f8 σ H s)(rx:RelV x u)(ty:TyOf X.K H x t)(e:Wy X.K t c=some b)(h:∀tk,Q (.bool b) {s with toks:=tk}):
 wpAny (model X.prog X.w) A (call (.builtin "isinstance") [u,c]) Q E s:=by
 cases ty with
 |non=>cases (show u=Tt from rx);exact Tn PySem.W.kitx_none I.kIn TZ e (λz=>nomatch z) h
 |bl y=>cases (show u=Vi y from rx);exact Tn PySem.W.kitx_bool I.kIn TZ e (λz=>nomatch z) h
 |int i=>obtain⟨t,q⟩:=(show∃t,u=Xk i t from rx);cases q;exact Tn PySem.W.kitx_int I.kIn TZ e (λz=>nomatch z) h
 |str y=>obtain⟨t,q⟩:=(show∃t,u=Xj y t from rx);cases q;exact Tn PySem.W.kitx_str I.kIn TZ e (λz=>nomatch z) h
 |flt y=>obtain⟨t,q⟩:=(show∃t,u=Value.float y t from rx);cases q;exact Tn PySem.W.kitx_float I.kIn TZ e (λz=>nomatch z) h
 | @lst a xs ea=>
   cases (show u=SY a from rx);obtain⟨_,_,n,_,h1⟩:=(show ObjOk X.prog X.w H s.heap a (.lst xs) from I.hok a _ ea)
   exact Tn Xv I.kIn ⟨_,h1,rfl⟩ e (λz=>nomatch z) h
 | @frz a ob xs ea=>
   cases (show u=SY a from rx);obtain⟨_,_,_,n,_,h1⟩:=(show ObjOk X.prog X.w H s.heap a (.frz ob (.lst xs)) from I.hok a _ ea)
   exact Tn Xv I.kIn ⟨_,h1,rfl⟩ e (λz=>nomatch z) h
 | @tup a xs ea=>
   cases (show u=SY a from rx);obtain⟨_,_,_,p⟩:=(show ObjOk X.prog X.w H s.heap a (.tup xs) from I.hok a _ ea)
   obtain⟨o,h1,h2,_⟩:=p;exact Tn PySem.W.kitx_tuple I.kIn ⟨o,h1,h2⟩ e (λz=>nomatch z) h
 | @dK a kvs ea=>
   cases (show u=SY a from rx);obtain⟨_,_,vs,_,p⟩:=(show ObjOk X.prog X.w H s.heap a (.dK kvs) from I.hok a _ ea)
   obtain⟨o,es,ep,h1,h2,_⟩:=p;exact Tn Xx I.kIn ⟨o,h1,h2.1⟩ e (λz=>nomatch z) h
 | @dT a kvs ea=>
   cases (show u=SY a from rx);obtain⟨_,_,xs,_,o,es,ep,h1,h2,_⟩:=(show ObjOk X.prog X.w H s.heap a (.dT kvs) from I.hok a _ ea)
   exact Tn Xx I.kIn ⟨o,h1,h2.1⟩ e (λz=>nomatch z) h
 | @ins a C dx fs ea cl ha hn O6 hm=>
   cases (show u=SY a from rx);obtain⟨mA,O,_⟩:=E8 I.hok ea;obtain⟨od,J,_⟩:=O.look;exact Tn (PySem.W.kitx_own (cl.get _) cl.hd ha hn O6 hm) I.kIn J e (λz=>nomatch z) h
end
structure Room (k:Nat) (A:S1):Prop where
 hd:A.handled=none
 dp:A.depth+3*k+5<Xs
 un:A.units+16*k+200<cLine
theorem Room.mono{j k:Nat}{A:S1}(r:Room k A)(h:j<=k):Room j A:=⟨r.hd,by have:=r.dp;omega,by have:=r.un;omega⟩
theorem Room.deeper{k:Nat}{A:S1}(r:Room (k+1) A)(env:Env):Room k (A.deeper env):=
 ⟨r.hd,by have:=r.dp;show A.depth+1+3*k+5<_;omega,by have:=r.un;show A.units+3+16*k+200<_;omega⟩
theorem Room.depth{k:Nat}{A:S1}(r:Room k A):A.depth<Xs:=by have:=r.dp;omega
theorem Room.units{k:Nat}{A:S1}(r:Room k A):A.units+64<cLine:=by have:=r.un;omega
def Jp:TA:=λ_ H Q=>Q [] H
def D7(ta:TE)(tr:TA):TA:=λσ H Q=>ta σ H λx H1=>tr σ H1 λxs H2=>Q (x::xs) H2
section
variable{X:Cx}{e:Expr}{es:List Expr}{te:TE}{t:TA}{pos:Pos}
theorem ug:PA X [] Jp:=λ_ _ _ _ H Q I h=>UL ⟨[],H,I, .nil,h⟩
theorem uf(ha:PE X e te)(hr:PA X es t)(hs:Su (e::es) X.env=(false,eval e X.env)::Su es X.env:=by rfl):PA X (e::es) (D7 te t):=by
 intro pos f8 s σ H Q I h;rw[hs];show wpAny _ _ (spliced ((false,eval e X.env)::Uq pos (Su es X.env))) _ _ s;refine Ud (bX (ha f8 s σ H _ I h) λu s1 ⟨x,H1,I1,r1,q1⟩=>?_);exact bX (hr pos f8 s1 σ H1 _ I1 q1) λus s2 ⟨xs,H2,I2,r2,q2⟩=>⟨x::xs,H2,I2, .cons r1 r2,q2⟩
def N8(t:TA):TE:=λσ H Q=>t σ H λxs H1=>xs.length<=Sv/\∀p,H1 p=none->Q (.ref p) (upd H1 p (.tup xs))
def N3(t:TA):TE:=λσ H Q=>t σ H λxs H1=>xs.length<=Sv/\∀p,H1 p=none->Q (.ref p) (upd H1 p (.lst xs))
theorem IV{x1}(h:PA X es t):PE X (.Tuple es x1 pos) (N8 t):=by
 intro f8 s σ H Q I hq;refine wpAny_Tuple_spliced (bX (h pos f8 s σ H _ I hq) λus s1 ⟨xs,H1,I1,r,z,q⟩=>⟨by rw[<-r.length];exact z,?_⟩);have hf:H1 s1.heap.objs.size=none:=I1.hok.fresh (R_ _);refine⟨.ref s1.heap.objs.size,upd H1 s1.heap.objs.size (.tup xs),I1.laid (t':=s1.toks) (λb u e=>R7 _ e) (R_ _) ?_,rfl,q _ hf⟩;exact⟨z,us,r,⟨_,Sx _ rfl,rfl,_,rfl⟩⟩
theorem Dt(h:PA X es t):PE X (.List es pos) (N3 t):=by
 intro f8 s σ H Q I hq;refine wpAny_List_spliced (bX (h pos f8 s σ H _ I hq) λus s1 ⟨xs,H1,I1,r,z,q⟩=>⟨by rw[<-r.length];exact z,?_⟩);have hf:H1 s1.heap.objs.size=none:=I1.hok.fresh (R_ _);refine⟨.ref s1.heap.objs.size,upd H1 s1.heap.objs.size (.lst xs),I1.laid (t':=s1.toks) (λb u e=>R7 _ e) (R_ _) ?_,rfl,q _ hf⟩;exact⟨z,us,0,r,Sx _ rfl⟩
end
abbrev Sp:=List V->Hp->VK->XK->Prop
abbrev yV:=List Env->Hp->R8->XK->Value->R8->Prop
structure Env0 (P:SJ) (w:World) (K:Se) (mg:Str->Option Value) (base:Heap) (A:S1) (outer:List Env) (s:R8) (H:Hp):Prop where
 frames:A.frames=some outer
 mod:Mod K mg base
 bs:∀b o,base.get? b=some o->s.heap.get? b=some o/\H b=none
 bsz:base.objs.size<=s.heap.objs.size
 funs:s.heap.FunFrames base outer
 frf:∀b∈oq outer,H b=none
 hok:HOk P w H s.heap
 bare:Wa s.gens
def CE(outer:List Env)(P:SJ)(w:World)(H:Hp)(s:R8)(Q:VK)(u:Value)(s':R8):Prop:=
 ∃v H',s'.os=s.os/\Wa s'.gens/\Un (oq outer) [] H H' s.heap s'.heap/\HOk P w H' s'.heap/\RelV v u/\Q v H'
def CR(CX:yV)(outer:List Env)(P:SJ)(w:World)(H:Hp)(s:R8)(Q:VK)(E:XK)(r:Result)(s':R8):Prop:=
 match r with
 | .ok (.ret u)=>CE outer P w H s Q u s'
 | .ok _=>False
 | .error e=>CX outer H s E e s'
structure FnOk (P:SJ) (w:World) (K:Se) (mg:Str->Option Value) (base:Heap) (CX:yV) (k:Nat) (f:Addr) (fd:Uy) (ps:List Str) (sp:Sp):Prop where
 len:∀vs H Q E,sp vs H Q E->vs.length=ps.length
 run:∀(A:S1) (outer:List Env) (s:R8) (H:Hp) (args:Args) (us:List Value) (vs:List V) (Q:VK) (E:XK),Room k A->Env0 P w K mg base A outer s H->X4 s fd args (ps.zip us)->Vals vs us->sp vs H Q E->
  Xi (model P w) A (.call (.ref f) args) (CR CX outer P w H s Q E) s
theorem FnOk.mono{P:SJ}{w:World}{K:Se}{mg:Str->Option Value}{base:Heap}{CX:yV}{j k:Nat}{f:Addr}{fd:Uy}{ps:List Str}{sp:Sp}(F:FnOk P w K mg base CX j f fd ps sp)(h:j<=k):
 FnOk P w K mg base CX k f fd ps sp:=⟨F.len,λA outer s H args us vs Q E hr=>F.run A outer s H args us vs Q E (hr.mono h)⟩
section
variable{X:Cx}{f8:List (Addr×Obj)}{σ:St}{H:Hp}{s s':R8}
theorem Inv.env0(I:Inv X f8 σ H s):Env0 X.prog X.w X.K X.mg X.base X.A X.stack s H:=
 ⟨I.ok.frames,I.ok.mod,I.bs,Sy I.ok.bsz I.sz,I.stack,I.stkFree,I.hok,I.bare⟩
theorem Inv.after{Q:VK}{u:Value}(I:Inv X f8 σ H s)(h:CE X.stack X.prog X.w H s Q u s'):EP X f8 σ Q u s':=by
 obtain⟨v,H',os,bare,un,hok,r,q⟩:=h;obtain⟨hh,g,d,t,Rz⟩:=s';obtain rfl:Rz=s.os:=os;exact⟨v,H',I.call (h':=hh) (g':=g) (d':=d) (t':=t) (ch:=[]) un hok bare (λb z=>Ym z (by simp)),r,q⟩
end
def LC(sp:Sp)(GI:List V)(E:XK)(t:TA):TE:=λσ H Q=>t σ H λvs H1=>sp (vs++GI) H1 Q E
def Binds(K:Se)(fd:Uy)(ps:List Str)(ds:List Value):Prop:=
 ∀(s:R8) (us:List Value),K.In s.heap->(us++ds).length=ps.length->X4 s fd ⟨us,[]⟩ (ps.zip (us++ds))
theorem Binds.all{K:Se}{fd:Uy}{ps:List Str}(h:∀us:List Value,us.length=ps.length->bindArgs fd ⟨us,[]⟩=pure (ps.zip us)):Binds K fd ps []:=λs us _ hl=>by
 rw[TK] at hl⊢;exact .of_eq (h us hl)
def Passes(CX:yV)(X:Cx)(E:XK):Prop:=∀(f8:List (Addr×Obj)) (σ:St) (H:Hp) (s:R8) (e:Value) (s':R8),Inv X f8 σ H s->CX X.stack H s E e s'->X.xe e s'
section
variable{X:Cx}{CX:yV}{k:Nat}{f:Addr}{fd:Uy}{ps:List Str}{sp:Sp}{GI:List V}{ds:List Value}{E:XK}{x:Str}{p pos:Pos}{e:Expr}{es:List Expr}{t:TA}
theorem Jg{f8:List (Addr×Obj)}{σ:St}{H:Hp}{s:R8}{Q:VK}{us:List Value}{vs:List V}(F:FnOk X.prog X.w X.K X.mg X.base CX k f fd ps sp)(hr:Room k X.A)(hb:Binds X.K fd ps ds)(hd:Vals GI ds)(hx:Passes CX X E)
 (I:Inv X f8 σ H s)(r:Vals vs us)(h:sp (vs++GI) H Q E):wpAny (model X.prog X.w) X.A (call (.ref f) us) (EP X f8 σ Q) X.xe s:=by
 have r2:Vals (vs++GI) (us++ds):=r.append hd;have hl:(us++ds).length=ps.length:=by rw[<-r2.length];exact F.len _ _ _ _ h
 refine wpAny_call (WW (F.run X.A X.stack s H ⟨us,[]⟩ (us++ds) (vs++GI) Q E hr I.env0 (hb s us I.kIn hl) r2 h) λr s' hq=>?_);cases r with
 |error e=>exact hx f8 σ H s e s' I hq
 |ok fl=>
  cases fl with
  |ret u=>exact I.after hq
  |next=>exact T9 hq
  |brk=>exact T9 hq
  |cont=>exact T9 hq
theorem FL(F:FnOk X.prog X.w X.K X.mg X.base CX k f fd ps sp)(hr:Room k X.A)(hg:Gl X x)(hm:X.mg x=some (.ref f))(hk:T5 X.K (.ref f)=true)(hb:Binds X.K fd ps ds)(hd:Vals GI ds)(hx:Passes CX X E)
 (ha:PA X (e::es) t)(tI:(x==("__debug__":Str))=false:=by decide)(he:Su (e::es) X.env=(false,eval e X.env)::Su es X.env:=by rfl)(qK:(Uq pos (Su es X.env)).any (·.1)=false:=by rfl):
 PE X (.Call (.Name x p) (e::es) [] pos) (LC sp GI E t):=by
 intro f8 s σ H Q I h;refine UP (zv I hg hm ?_ tI);refine PySem.W.callWith_K (h₀:=X.base) I.ok.mod.kin hk (bX (ha pos f8 s σ H _ I h) λus s1 ⟨vs,H1,I1,r,q⟩=>⟨I1.kIn,?_⟩) he qK;exact Jg F hr hb hd hx I1 r q
end
section
variable{ks:List Str}
end
structure FnScope (N P:List Str) (sc:Scope):Prop where
 kind:sc.kind= .function
 co:sc.isCoroutine=false
 gen:sc.isGenerator=false
 nd:N.Nodup
 pre:N.take P.length=P
 par:∀x∈P,sc.names.lookup x=some .local\/sc.names.lookup x=some .cell
 nofree:∀y∈sc.names,y.2≠ .free
theorem rC{VQ:Str->Option Vs}{x:Str}:∀{binds:List (Str×Value)}{m:Str->Option Value},(∀v,(x,v)∉binds)->bindL VQ binds m x=m x
 |[],_,_=>rfl
 |(n,v)::r,m,h=>by
  unfold bindL;rw[rC λw hw=>h w (R4 _ hw)];split
  ·have:x≠n:=by rintro rfl;exact h v R1
   simp[this]
  ·rfl
theorem rA{VQ:Str->Option Vs}{x:Str}:∀{binds:List (Str×Value)}{m:Str->Option Value},(∀v,(x,v)∉binds)->bindC VQ binds m x=m x
 |[],_,_=>rfl
 |(n,v)::r,m,h=>by
  unfold bindC;rw[rA λw hw=>h w (R4 _ hw)];split
  ·rfl
  ·have:x≠n:=by rintro rfl;exact h v R1
   simp[this]
theorem rB{VQ:Str->Option Vs}{x:Str}{v:Value}:∀{P:List Str}{vs:List Value}{i:Nat}{m:Str->Option Value},P.Nodup->P[i]? =some x->vs[i]? =some v->VQ x=some .local->
 bindL VQ (P.zip vs) m x=some v
 |[],_,_,_,_,h,_,_=>by simp at h
 |_::_,[],_,_,_,_,h,_=>by simp at h
 |p::P,w::vs,0,m,nd,h1,h2,hk=>by
  simp at h1 h2;subst h1;subst h2;show bindL VQ ((p,w)::P.zip vs) m p=_;unfold bindL;rw[rC λv hv=>(S2.mp nd).1 (WG hv).1,Yg hk];simp
 |p::P,w::vs,i+1,m,nd,h1,h2,hk=>by
  show bindL VQ ((p,w)::P.zip vs) m x=_;unfold bindL;exact rB (i:=i) (S2.mp nd).2 (by simpa using h1) (by simpa using h2) hk
theorem rq{VQ:Str->Option Vs}{x:Str}{v:Value}:∀{P:List Str}{vs:List Value}{i:Nat}{m:Str->Option Value},P.Nodup->P[i]? =some x->vs[i]? =some v->VQ x≠some .local->
 bindC VQ (P.zip vs) m x=some v
 |[],_,_,_,_,h,_,_=>by simp at h
 |_::_,[],_,_,_,_,h,_=>by simp at h
 |p::P,w::vs,0,m,nd,h1,h2,hk=>by
  simp at h1 h2;subst h1;subst h2;show bindC VQ ((p,w)::P.zip vs) m p=_;unfold bindC;rw[rA λv hv=>(S2.mp nd).1 (WG hv).1,Yh hk];simp
 |p::P,w::vs,i+1,m,nd,h1,h2,hk=>by
  show bindC VQ ((p,w)::P.zip vs) m x=_;unfold bindC;exact rq (i:=i) (S2.mp nd).2 (by simpa using h1) (by simpa using h2) hk
def start(N:List Str)(vs:List V):St:=vs.map some++S6 (N.length - vs.length) none
def dF(CX:yV)(P:SJ)(w:World)(K:Se)(mg:Str->Option Value)(base:Heap)(N:List Str)(qual:Str)(scope:Scope)(f:Addr)(cd:Value)(A:S1)(outer:List Env)(s:R8)(H:Hp)(E:XK):Cx where
 prog:=P
 w:=w
 K:=K
 mg:=mg
 base:=base
 A:=A.deeper (T_ qual scope s.heap.objs.size f cd)
 N:=N
 YD:=s
 YC:=H
 env:=T_ qual scope s.heap.objs.size f cd
 outer:=outer
 stack:=T_ qual scope s.heap.objs.size f cd::outer
 ex:=[]
 calm:=true
 fn:=λ_=>true
 pn:=[]
 xe:=λe s'=>wpAny (model P w) (A.deeper (T_ qual scope s.heap.objs.size f cd)) (leaving (T_ qual scope s.heap.objs.size f cd) e) (λ_ Mn=>CX outer H s E e Mn) (λe' Mn=>CX outer H s E e' Mn) s'
theorem vj{sc:Scope}{n:Nat}{x:Str}(h:sc.names.lookup x=some .cell):∃c,(cellsFrom n sc.names []).lookup x=some c:=by
 have q:=WX sc.names n [] (.inl h);exact Uw.mp q
theorem Ax{CX:yV}{P:SJ}{w:World}{K:Se}{mg:Str->Option Value}{base:Heap}{N ps:List Str}{qual:Str}{scope:Scope}{f:Addr}{cd:Value}{A:S1}{outer:List Env}{s s1:R8}{H:Hp}{E:XK}{us:List Value}{vs:List V}
 (S:FnScope N ps scope)(hd:A.handled=none)(e0:Env0 P w K mg base A outer s H)(hl:vs.length=ps.length)(r:Vals vs us)
 (x:InCallC s s.heap.objs.size (bindL (T_ qual scope s.heap.objs.size f cd).kindOf (ps.zip us) λ_=>none) (cellsFrom (s.heap.objs.size+1) scope.names []) (bindC (T_ qual scope s.heap.objs.size f cd).kindOf (ps.zip us) λ_=>none) s1):
 Inv (dF CX P w K mg base N qual scope f cd A outer s H E) [] (start N vs) H s1:=by
 have qK:ps.length<=N.length:=by have:=Yo XM S.pre;rw[Tz] at this;omega
 obtain⟨h1,tk,rfl,hk⟩:=x.done;have KZ:∀b:Addr,b∉(dF CX P w K mg base N qual scope f cd A outer s H E).ex:=λb z=>Ym (show b∈([]:List Addr) from z) (by simp);refine⟨⟨e0.mod,S.kind,rfl,rfl,R_ _,λy z c h1 h2=>?_,λy hy=>?_,λy c _ h=>?_,λ_=>hd,Around.frames_deeper e0.frames, .inr ⟨rfl,rfl⟩,λb z=>Ym z (KZ b),e0.bs,e0.bsz,λb _ _=>KZ b,λb z=>Ym z (KZ b),e0.funs,e0.frf⟩,
  rfl,e0.bare,Un.kept hk,⟨_,x.toInCall.ns,λi y v h1 h2 h3=>?_⟩,λy c h=>⟨_,x.cell y c h⟩,e0.hok.fresh (R_ _),λy c h=>?_,λp hp=>Ym (show p∈([]:List (Addr×Obj)) from hp) (by simp),e0.hok.kept hk,?_⟩
 ·exact name_of_addr x.apart (TH h1) (TH h2)
 ·have hy:scope.names.lookup y=some .cell\/scope.names.lookup y=some .free:=hy;rcases hy with hy | hy
  ·exact vj hy
  ·exact Ym rfl (S.nofree _ (TH hy))
 ·exact Tr (x.above y c (TH h))
 ·have hi:i<vs.length:=by
   unfold start at h2;by_cases hi:i<vs.length
   ·exact hi
   ·rw[S_ (by simpa using hi)] at h2;rw[T6] at h2;split at h2<;>cases h2
  have ha:vs[i]? =some v:=by
   unfold start at h2;rw[SW (by simpa using hi),Sj] at h2;cases e:vs[i]? with
   |none=>rw[e] at h2;cases h2
   |some a=>rw[e] at h2;cases h2;rfl
  obtain⟨u,hu,rv⟩:=r.get ha;have hp:ps[i]? =some y:=by
   rw[<-S.pre,List.getElem?_take_of_lt (by omega)];exact h1
  have Ph:ps.Nodup:=by rw[<-S.pre];exact S.nd.sublist (List.take_sublist _ _)
  refine⟨u,rv,?_⟩;rcases S.par y (Sz hp) with k | k
  ·exact .inl ⟨k,rB Ph hp hu k⟩
  ·obtain⟨c,e⟩:=vj (n:=s.heap.objs.size+1) k;refine .inr ⟨.inl k,c,e,?_⟩;have q:=x.cell y c e;rw[rq Ph hp hu (by show scope.names.lookup y≠_;rw[k];decide)] at q;exact q
 ·exact e0.hok.fresh (Tr (x.above y c (TH h)))
 ·unfold start;show _=N.length;rw[Sg,R5,VF];omega
theorem GL{CX:yV}{P:SJ}{w:World}{K:Se}{mg:Str->Option Value}{base:Heap}{k:Nat}{f:Addr}{name qual:Str}{params:Arguments}{body:List Stmt}{scope:Scope}{dV kV doc pm cu ct oc:Value}{an od:Option Addr}
 {FA:Array (Option Value)}{N ps:List Str}{sp:Sp}(lk:K.lookup f=some ⟨oc,od, .func (TM name qual params body scope dV kV doc pm an cu ct),FA⟩)(xt:UJ K cu qual=true)(S:FnScope N ps scope)
 (len:∀vs H Q E,sp vs H Q E->vs.length=ps.length)
 (o9:∀(A:S1) (outer:List Env) (s:R8) (H:Hp) (vs:List V) (Q:VK) (E:XK),Room k (A.deeper (T_ qual scope s.heap.objs.size f cu))->sp vs H Q E->
  ∃t,PSs (dF CX P w K mg base N qual scope f cu A outer s H E) body t/\t {nx:=λ_ H'=>Q .non H',rt:=Q} (start N vs) H):
 FnOk P w K mg base CX (k+1) f (TM name qual params body scope dV kV doc pm an cu ct) ps sp:=by
 refine⟨len,λA outer s H args us vs Q E hr e0 hb r Er=>?_⟩;have hl:=len _ _ _ _ Er;have KX:K.In s.heap:=e0.mod.kin.keeps λb o e=>(e0.bs b o e).1;have lim:s.heap.NoLimit:=e0.mod.nolimit.keeps λb o e=>(e0.bs b o e).1;have Kl:∀y∈ps.zip us,scope.names.lookup y.1=some .local\/(scope.names.lookup y.1=some .cell/\((cellsFrom (s.heap.objs.size+1) scope.names []).lookup y.1).isSome=true):=λ⟨n,v⟩ hy=>by
  rcases S.par n (WG hy).1 with q | q
  ·exact .inl q
  ·exact .inr ⟨q,WX _ _ _ (.inl q)⟩
 refine codeAny_call_function hr.depth (KX _ _ lk) rfl S.co S.gen rfl (PySem.W.codeRec_of KX xt) (hb _ _ _ _ ?_);refine wpAny_newFunctionEnv_cells S.kind Kl λenv he s1 x=>?_;subst he;refine⟨lim.keeps x.toInCall.keep,codeAny_func ?_⟩;obtain⟨t,ht,hq⟩:=o9 A outer s H vs Q E (hr.deeper _) Er;have I:Inv (dF CX P w K mg base N qual scope f cu A outer s H E) [] (start N vs) H s1:=Ax S hr.hd e0 hl r x;refine Ti (ht [] s1 (start N vs) H _ I hq) (λfl s' hs=>?_) λe s' hs=>hs;have fin:∀{σ':St}{H':Hp}{v:V}{u:Value},Inv (dF CX P w K mg base N qual scope f cu A outer s H E) [] σ' H' s'->RelV v u->Q v H'->CE outer P w H s Q u s':=
  λ{σ' H' v u} J rv q=>⟨v,H',J.os,J.bare,J.base,J.hok,rv,q⟩
 cases fl with
 |ret u=>
  obtain⟨v,σ',H',J,rv,q⟩:=hs;exact fin J rv q
 |next=>
  obtain⟨σ',H',J,q⟩:=hs;exact fin (v:=V.non) (u:=Tt) J rfl q
 |brk=>
  obtain⟨_,_,_,q⟩:=hs;exact T9 q
 |cont=>
  obtain⟨_,_,_,q⟩:=hs;exact T9 q
section
variable{X:Cx}{x:Str}{p pos:Pos}{e:Expr}{es:List Expr}{t:TA}{id T:String}{r:List V->Hp->VK->Prop}
def N1(r:List V->Hp->VK->Prop)(t:TA):TE:=λσ H Q=>t σ H λvs H1=>r vs H1 Q
theorem Dl(hc:CallR X (.builtin id) r)(hg:Gl X x)(hm:X.mg x=none)(hv:S5 x=some (.builtin id))(ha:PA X (e::es) t)(hn:x≠"__name__":=by decide)(tI:(x==("__debug__":Str))=false:=by decide)
 (he:Su (e::es) X.env=(false,eval e X.env)::Su es X.env:=by rfl)(qK:(Uq pos (Su es X.env)).any (·.1)=false:=by rfl):PE X (.Call (.Name x p) (e::es) [] pos) (N1 r t):=by
 intro f8 s σ H Q I h;refine UP (iQ I hg hm hv ?_ hn tI);exact PyProof.Rows.callWith_builtin1 (bX (ha pos f8 s σ H _ I h) λus s1 ⟨vs,H1,I1,r1,q1⟩=>hc f8 s1 σ H1 vs us Q I1 r1 q1) he qK
theorem A4(hc:CallR X (.type T) r)(hg:Gl X x)(hm:X.mg x=none)(hv:S5 x=some (.type T))(ha:PA X (e::es) t)(hn:x≠"__name__":=by decide)(tI:(x==("__debug__":Str))=false:=by decide)
 (he:Su (e::es) X.env=(false,eval e X.env)::Su es X.env:=by rfl)(qK:(Uq pos (Su es X.env)).any (·.1)=false:=by rfl):PE X (.Call (.Name x p) (e::es) [] pos) (N1 r t):=by
 intro f8 s σ H Q I h;refine UP (iQ I hg hm hv ?_ hn tI);exact Tj (bX (ha pos f8 s σ H _ I h) λus s1 ⟨vs,H1,I1,r1,q1⟩=>hc f8 s1 σ H1 vs us Q I1 r1 q1) he qK
end
end L2
namespace HT
open PySem PyProof.Rows
section
variable{prog:SJ}{w:World}{A:S1}{E:Value->R8->Prop}{s:R8}
theorem cat_tup{t b:Addr}{vs ws:List Value}{Q:Value->R8->Prop}(ht:IsTup s.heap t vs.toArray)(hb:IsTup s.heap b ws.toArray)(hv:vs≠[])
 (h1:ws=[]->Q (.ref t) s)(h2:ws≠[]->Q (.ref s.heap.objs.size) {s with heap:=s.heap.push {cls:= .type "tuple",data:= .seq (vs++ws).toArray} })
 (hsz:vs.length+ws.length<=Sv):wpAny (model prog w) A (U9 .Add (.ref t) (.ref b)) Q E s:=by
 obtain⟨⟨cls,dd,data,sl⟩,ho,hc,n,hd⟩:=id ht;obtain⟨⟨ME,EF,data2,Mo⟩,HP,HE,n2,hd2⟩:=id hb;simp only at hc hd HE hd2;subst hc hd HE hd2;have e:vs.toArray++ws.toArray=(vs++ws).toArray:=by simp
 by_cases hw:ws=[]
 ·exact concat_meets ⟨_,ho,rfl⟩ ⟨_,HP,rfl⟩ W4 XR Vn Vk (U_ _ _)
   (tuple_addW1 t b vs.toArray ws.toArray n n2 dd EF sl Mo (by simpa using hv) (by simp[hw])) ⟨ho,HP,h1 hw⟩
 ·refine concat_meets ⟨_,ho,rfl⟩ ⟨_,HP,rfl⟩ W4 XR Vn Vk (U_ _ _)
   (tuple_addW2 t b vs.toArray ws.toArray n n2 dd EF sl Mo (by simpa using hv) (by simpa using hw) (by rw[Si,Si];exact hsz)) ⟨ho,HP,?_⟩
  rw[e];exact h2 hw
def sIx(n d:Nat):Option Int->Nat
 |none=>d
 |some v=>if v<0 then(v+(n:Int)).toNat else min v.toNat n
theorem sIx_none(n d:Nat):sIx n d none=d:=rfl
theorem sIx_le(n d:Nat)(hd:d<=n)(o:Option Int):sIx n d o<=n:=by
 cases o with
 |none=>exact hd
 |some v=>
  show (if v<0 then(v+(n:Int)).toNat else min v.toNat n)<=n;by_cases hv:v<0
  ·rw[Yg hv];omega
  ·rw[Yh hv];exact Nat.min_le_right _ _
theorem clip_eq(v:Int)(n d:Nat):(if v<0 then max (v+(n:Int)) 0 else min v (n:Int))=((sIx n d (some v):Nat):Int):=by
 show (if v<0 then max (v+(n:Int)) 0 else min v (n:Int))=(((if v<0 then(v+(n:Int)).toNat else min v.toNat n):Nat):Int)
 by_cases hv:v<0
 ·simp only[Yg hv];omega
 ·simp only[Yh hv];omega
theorem adjust_gen(lo hi:Option Int)(n:Nat):UW lo hi 1 (n:Int)=(((sIx n 0 lo:Nat):Int),((sIx n n hi:Nat):Int)):=by
 have h1:¬((1:Int)<0):=by omega
 unfold UW;simp only[h1,if_false];refine W9 ?_ ?_
 ·cases lo with
  |none=>rfl
  |some v=>exact clip_eq v n 0
 ·cases hi with
  |none=>rfl
  |some v=>exact clip_eq v n n
theorem places_gen(i j:Nat):Ue (i:Int) (j:Int) 1=j - i:=by
 unfold Ue;have h1:(1:Int)>0:=by omega
 simp only[h1,if_true,Int.ediv_one];split<;>omega
theorem slicePart_{v:Value}{o:Option Int}{Q:Option Int->R8->Prop}(p:W0 v o)(h:Q o s):wpAny (model prog w) A (Builtin.Slice.slicePartIndex v) Q E s:=by
 cases p with
 |none=>exact slicePart_none h
 |int i t=>exact slicePart_int h
theorem sliceApplied_gen{sl:Addr}{vl vu:Value}{lo hi:Option Int}{n:Nat}{Q:Int×Int×Nat->R8->Prop}(hs:s.heap.IsSliceOf sl vl vu .none)(pl:W0 vl lo)(pu:W0 vu hi)
 (h:Q (((sIx n 0 lo:Nat):Int),1,sIx n n hi - sIx n 0 lo) s):wpAny (model prog w) A (V0 (.ref sl) (pure (n:Int))) Q E s:=by
 obtain⟨os,Cq,HF,GV⟩:=id hs;unfold V0 Builtin.Slice.sliceFields;refine R3 (R3 (wpAny_field Cq GV (x:=vl) rfl (R3 (wpAny_field Cq GV (x:=vu) rfl (R3 (wpAny_field Cq GV (x:= .none) rfl (R9 ?_)))))));refine R3 (slicePart_none ?_);show wpAny _ _ (if ((1:Int)==0)=true then _ else _) _ _ s;rw[Yh (by decide)];refine R3 (slicePart_ pl (R3 (slicePart_ pu (R3 (R9 ?_)))));show wpAny _ _ (match UW lo hi 1 (n:Int) with | (lo,hi)=>pure (lo,(1:Int),Ue lo hi 1)) _ _ s;rw[adjust_gen lo hi n];show wpAny _ _ (pure (((sIx n 0 lo:Nat):Int),(1:Int),Ue ((sIx n 0 lo:Nat):Int) ((sIx n n hi:Nat):Int) 1)) _ _ s;rw[places_gen];exact R9 h
theorem pick_gen(xs:Array Value)(i k:Nat):((Sn k).filterMap λ(m:Nat)=>xs[((i:Int)+(m:Int)*1).toNat]?).toArray=((xs.toList.drop i).take k).toArray:=by
 have e:(λ(m:Nat)=>xs[((i:Int)+(m:Int)*1).toNat]?)=λm=>xs[i+m]? :=by
  funext m;have:((i:Int)+(m:Int)*1).toNat=i+m:=by omega
  rw[this]
 rw[e];have:=pick_run xs i k;rw[List.filterMap_map] at this;have e2:((λx=>xs[x]?)∘λx=>i+x)=λm=>xs[i+m]? :=rfl;rw[e2] at this;rw[this]
theorem getItem_tuple_cut{t sl:Addr}{items:Array Value}{vl vu:Value}{lo hi:Option Int}{Q:Value->R8->Prop}(ht:IsTup s.heap t items)(hs:s.heap.IsSliceOf sl vl vu .none)(pl:W0 vl lo)(pu:W0 vu hi)
 (hw:¬(sIx items.size 0 lo=0/\sIx items.size items.size hi=items.size))
 (h:Q (.ref s.heap.objs.size) {s with heap:=s.heap.push {cls:= .type "tuple",data:= .seq ((items.toList.drop (sIx items.size 0 lo)).take (sIx items.size items.size hi - sIx items.size 0 lo)).toArray} })
 (hsz:items.size<=Sv):wpAny (model prog w) A (V5 (.ref t) (.ref sl)) Q E s:=by
 have zo:sizeOk (.seq ((items.toList.drop (sIx items.size 0 lo)).take (sIx items.size items.size hi - sIx items.size 0 lo)).toArray):=by
  show ((items.toList.drop (sIx items.size 0 lo)).take (sIx items.size items.size hi - sIx items.size 0 lo)).toArray.size<=Sv;rw[Si,Tz,Wt,Sr];omega
 have hj:sIx items.size items.size hi<=items.size:=sIx_le _ _ (R_ _) hi;obtain⟨os,Cq,HF,GV⟩:=id hs;have JA:s.TypeIs (.ref sl) "slice":=⟨os,Cq,HF⟩
 unfold V5
 try with_reducible refine Ut ?_
 first | refine R3 (R9 ?_) | skip
 refine R3 (wpAny_sequenceKey ht.typeIs (by decide) ?_);refine R3 (UO (name:=TF "__getitem__") ht.typeIs TN
  (TX TN ht.typeIs entry_tuple_getitem ?_ (args_tuple_getitem _ _)))
 show wpAny _ _ (VZ (.ref t)>>=_) _ _ s;refine R3 (tupleItemsOf_ ht ?_);refine R3 (V1 JA ?_);rw[Yg (by decide)];refine R3 (sliceApplied_gen hs pl pu ?_);have xT:¬((((sIx items.size 0 lo:Nat):Int)==0&&(1:Int)==1&&(sIx items.size items.size hi - sIx items.size 0 lo)==items.size)=true):=by
  intro q;rw[SX,SX] at q;have q1:((sIx items.size 0 lo:Nat):Int)=0:=eq_of_beq q.1.1;have q2:sIx items.size items.size hi - sIx items.size 0 lo=items.size:=eq_of_beq q.2;exact hw ⟨by omega,by omega⟩
 show wpAny _ _ (if (((sIx items.size 0 lo:Nat):Int)==0&&(1:Int)==1&&(sIx items.size items.size hi - sIx items.size 0 lo)==items.size)=true then _ else _) _ _ s;rw[Yh xT,pick_gen]
 first
  |exact R3 (m:=Ts _) (To (R9 ⟨_,rfl,R9 h⟩) zo)
  |exact R3 (m:=Ts _) (To (R3 (R9 (R9 ⟨_,rfl,R9 h⟩))) zo)
  |exact R3 (R3 (m:=Ts _) (To (R9 (R9 ⟨_,rfl,R9 h⟩)) zo))
  |exact R3 (R3 (m:=Ts _) (To (R9 ⟨_,rfl,R9 h⟩) zo))
end
end HT
namespace L2
open PySem PySem.Spec PyProof.Rows
abbrev TO:=St->Hp->(Option Int->Hp->Prop)->Prop
def PO(X:Cx)(e:Option Expr)(t:TO):Prop:=
 ∀(f8:List (Addr×Obj)) (s:R8) (σ:St) (H:Hp) (Q:Option Int->Hp->Prop),Inv X f8 σ H s->t σ H Q->
  wpAny (model X.prog X.w) X.A (evalPart e X.env) (λu s'=>∃o H',Inv X f8 σ H' s'/\W0 u o/\Q o H') X.xe s
def Gs:TO:=λ_ H Q=>Q none H
def LK(t:TE):TO:=λσ H Q=>t σ H λx H1=>∃i,x= .int i/\Q (some i) H1
theorem intsAre_of{ns:List Int}:∀{us:List Value},Vals (ns.map V.int) us->U2 us ns:=by
 induction ns with
 |nil=>intro us r;rw[UB] at r;cases r;exact .nil
 |cons n ns ih=>
  intro us r;rw[Sa] at r;cases r with
  |cons r1 r2=>
   obtain⟨t,e⟩:=r1;subst e;exact .cons n t (ih r2)
section
variable{X:Cx}{e:Expr}{te:TE}{lo hi:Option Expr}{tl th:TO}{pos p2:Pos}
theorem FT:PO X none Gs:=by
 intro f8 s σ H Q I h;rw[evalPart_none];exact R9 ⟨none,H,I, .none,h⟩
theorem FU(h:PE X e te):PO X (some e) (LK te):=by
 intro f8 s σ H Q I hw;rw[evalPart_some];refine bX (h f8 s σ H _ I hw) λu s1 ⟨x,H1,I1,r1,q1⟩=>?_;obtain⟨i,rfl,q⟩:=q1;obtain⟨t,rfl⟩:=r1;exact⟨some i,H1,I1, .int i t,q⟩
def SlR(X:Cx)(r:V->Option Int->Option Int->Hp->VK->Prop):Prop:=
 ∀(f8:List (Addr×Obj)) (s:R8) (σ:St) (H:Hp) (x:V) (v vl vu:Value) (lo hi:Option Int) (sl:Addr) (Q:VK),Inv X f8 σ H s->RelV x v->s.heap.IsSliceOf sl vl vu .none->W0 vl lo->W0 vu hi->r x lo hi H Q->
  ∃T id,typeLookup (.type T) "__getitem__"=pure (some (.builtin id))/\s.TypeIs v T/\wpAny (model X.prog X.w) X.A (V5 v (.ref sl)) (EP X f8 σ Q) X.xe s
theorem SlR.or{r r':V->Option Int->Option Int->Hp->VK->Prop}(h:SlR X r)(h':SlR X r'):SlR X (λx lo hi H Q=>r x lo hi H Q\/r' x lo hi H Q):=by
 intro f8 s σ H x v vl vu lo hi sl Q I rx hs pl pu q;rcases q with q | q
 ·exact h f8 s σ H x v vl vu lo hi sl Q I rx hs pl pu q
 ·exact h' f8 s σ H x v vl vu lo hi sl Q I rx hs pl pu q
def RG(r:V->Option Int->Option Int->Hp->VK->Prop)(te:TE)(tl th:TO):TE:=λσ H Q=>te σ H λx H1=>tl σ H1 λl H2=>th σ H2 λu H3=>r x l u H3 Q
theorem Du{r:V->Option Int->Option Int->Hp->VK->Prop}(hr:SlR X r)(he:PE X e te)(hl:PO X lo tl)(hu:PO X hi th):PE X (.Subscript e (.Slice lo hi none p2) pos) (RG r te tl th):=by
 intro f8 s σ H Q I h;refine Subscript_ (bX (he f8 s σ H _ I h) λv s1 ⟨x,H1,I1,r1,q1⟩=>?_);refine wpAny_Slice (bX (hl f8 s1 σ H1 _ I1 q1) λvl s2 ⟨l,H2,I2,pl,q2⟩=>bX (hu f8 s2 σ H2 _ I2 q2) λvu s3 ⟨u,H3,I3,pu,q3⟩=>?_);rw[evalPart_none];refine R9 ?_;have I4:Inv X f8 σ H3 {s3 with heap:=s3.heap.push {cls:= .type "slice",data:= .fields #[vl,vu, .none]} }:=I3.kept (t':=s3.toks) λb ob q=>R7 _ q;obtain⟨T,id,hT,ht,hg⟩:=hr f8 {s3 with heap:=s3.heap.push {cls:= .type "slice",data:= .fields #[vl,vu, .none]} } σ H3 x v vl vu l u s3.heap.objs.size Q I4 r1 (Heap.IsSliceOf.new ..) pl pu q3;show wpAny (model X.prog X.w) X.A (XQ e (.Slice lo hi none p2) v (.ref s3.heap.objs.size)) (EP X f8 σ Q) X.xe {s3 with heap:=s3.heap.push {cls:= .type "slice",data:= .fields #[vl,vu, .none]} };exact tail_any (ops:=[.ref s3.heap.objs.size,v]) ht hT hg (by with_unfolding_all rfl)
def vp(xs:List V)(lo hi:Option Int):List V:=(xs.drop (HT.sIx xs.length 0 lo)).take (HT.sIx xs.length xs.length hi - HT.sIx xs.length 0 lo)
theorem mE(xs:List V)(lo hi:Option Int):(vp xs lo hi).length<=xs.length:=by
 unfold vp;rw[Tz,Wt];omega
def NV(K:Se):V->Option Int->Option Int->Hp->VK->Prop:=λx lo hi H Q=>∃a xs,x= .ref a/\SqT K H a xs/\
 ¬(HT.sIx xs.length 0 lo=0/\HT.sIx xs.length xs.length hi=xs.length)/\∀p,H p=none->Q (.ref p) (upd H p (.tup (vp xs lo hi)))
theorem Jm:SlR X (NV X.K):=by
 intro f8 s σ H x v vl vu lo hi sl Q I rx hs pl pu h;obtain⟨a,xs,rfl,hx,hw,q⟩:=h;cases rx;obtain⟨aS,r,ht,hz⟩:=I.tuple hx;have v6:aS.toArray.size=xs.length:=by rw[Si];exact r.length.symm
 refine⟨"tuple",_,PyProof.Rows.slot_tuple_getitem.lookup,ht.typeIs,?_⟩;refine HT.getItem_tuple_cut ht hs pl pu (by rw[v6];exact hw) ?_ (by rw[v6];exact hz);rw[v6];refine⟨.ref s.heap.objs.size,_,I.laid (t':=s.toks) (o:= .tup (vp xs lo hi)) (λb ob q=>R7 _ q) (R_ _) ?_,rfl,q _ (I.hok.fresh (R_ _))⟩;exact⟨Sy (mE xs lo hi) hz,_,(r.drop (HT.sIx xs.length 0 lo)).take (HT.sIx xs.length xs.length hi - HT.sIx xs.length 0 lo),Xo _ _⟩
def Ll(K:Se):R2:=λx y H Q=>∃a b xs ys,x= .ref a/\y= .ref b/\SqT K H a xs/\SqT K H b ys/\xs≠[]/\xs.length+ys.length<=Sv/\
 (ys=[]->Q (.ref a) H)/\(ys≠[]->∀p,H p=none->Q (.ref p) (upd H p (.tup (xs++ys))))
theorem Vals.nil_iff{xs:List V}{us:List Value}(r:Vals xs us):us=[]↔xs=[]:=by
 cases r with
 |nil=>simp
 |cons _ _=>simp
theorem Ft:OpR X (U9 .Add) (Ll X.K):=by
 intro f8 s σ H x y v u Q I rx ry h;obtain⟨a,b,xs,ys,rfl,rfl,ha,hb,hx,hz,q1,q2⟩:=h;cases rx;cases ry;obtain⟨aS,r1,p1,_⟩:=I.tuple ha;obtain⟨fL,r2,p2,_⟩:=I.tuple hb;refine HT.cat_tup p1 p2 (λz=>hx (r1.nil_iff.mp z)) (λz=>⟨.ref a,H,I,rfl,q1 (r2.nil_iff.mp z)⟩) (λz=>?_) (by rw[<-r1.length,<-r2.length];exact hz);refine⟨.ref s.heap.objs.size,_,I.laid (t':=s.toks) (o:= .tup (xs++ys)) (λb ob q=>R7 _ q) (R_ _) ?_,rfl,q2 (λw=>z (r2.nil_iff.mpr w)) _ (I.hok.fresh (R_ _))⟩;exact⟨by rw[Sg];exact hz,_,r1.append r2,Xo _ _⟩
end
def Et(n:Nat)(i:Int):Option Nat:=if 0<=i then(if i<n then some i.toNat else none) else if -(n:Int)<=i then some (i+n).toNat else none
def atI{α:Type}(xs:List α)(i:Int):Option α:=(Et xs.length i).bind λj=>xs[j]?
theorem Fb{n:Nat}{i:Int}{j:Nat}(h:Et n i=some j):seqIndex? i n=some j/\j<n/\ -(n:Int)<=i/\i<n:=by
 unfold Et at h;by_cases h0:0<=i
 ·rw[Yg h0] at h;by_cases h1:i<n
  ·rw[Yg h1] at h;have e:i.toNat=j:=SS h;exact⟨by rw[seqIndex_of h0 h1,e],by omega,by omega,h1⟩
  ·rw[Yh h1] at h;cases h
 ·rw[Yh h0] at h;by_cases h1: -(n:Int)<=i
  ·rw[Yg h1] at h;have e:(i+n).toNat=j:=SS h;exact⟨by rw[seqIndex_neg (by omega) h1,e],by omega,h1,by omega⟩
  ·rw[Yh h1] at h;cases h
theorem sZ{α:Type}{xs:List α}{i:Int}{v:α}(h:atI xs i=some v):∃j,seqIndex? i xs.length=some j/\xs[j]? =some v/\j<xs.length/\ -(xs.length:Int)<=i/\i<xs.length:=by
 unfold atI at h;cases e:Et xs.length i with
 |none=>rw[e] at h;cases h
 |some j=>
  rw[e] at h;obtain⟨h1,h2,h3,h4⟩:=Fb e;exact⟨j,h1,h,h2,h3,h4⟩
theorem vh{α:Type}(xs:List α)(v:α):atI (xs++[v]) (-1)=some v:=by
 have hl:(xs++[v]).length=xs.length+1:=by simp
 have e:Et (xs++[v]).length (-1)=some xs.length:=by
  unfold Et;rw[hl,Yh (by decide),Yg (by omega)];congr 1;omega
 unfold atI;rw[e];show (xs++[v])[xs.length]? =some v;simp
def js(b:Expr):Prop:=∀o i,subscripted b false o i=operate [o,i] (V5 o i)
def JK(X:Cx)(r:R2):Prop:=
 ∀(value slice:Expr) (f8:List (Addr×Obj)) (s:R8) (σ:St) (H:Hp) (x y:V) (v u:Value) (Q:VK),Inv X f8 σ H s->RelV x v->RelV y u->r x y H Q->
  subscripted slice false v u=operate [v,u] (V5 v u)->wpAny (model X.prog X.w) X.A (XQ value slice v u) (EP X f8 σ Q) X.xe s
def LP(X:Cx)(id:String)(r:V->List V->Hp->VK->Prop):Prop:=
 ∀(f8:List (Addr×Obj)) (s:R8) (σ:St) (H:Hp) (x:V) (xs:List V) (v:Value) (us:List Value) (Q:VK),Inv X f8 σ H s->RelV x v->Vals xs us->r x xs H Q->
  wpAny (model X.prog X.w) X.A (call (.builtin id) (v::us)) (EP X f8 σ Q) X.xe s
section
variable{X:Cx}{a b:Expr}{ta tb:TE}{pos:Pos}
theorem Ld{r:R2}(hr:JK X r)(ha:PE X a ta)(hb:PE X b tb)(hs:js b):PE X (.Subscript a b pos) (LJ r ta tb):=by
 intro f8 s σ H Q I h;exact Subscript_ (Hk ha hb I h λv u s2 x y H2 I2 rx ry q=>hr a b f8 s2 σ H2 x y v u Q I2 rx ry q (hs _ _))
def Jf(K:Se):R2:=λx y H Q=>∃p xs i v,x= .ref p/\y= .int i/\SqL K H p xs/\atI xs i=some v/\Q v H
def Lq(K:Se):R2:=λx y H Q=>∃p xs i v,x= .ref p/\y= .int i/\SqT K H p xs/\atI xs i=some v/\Q v H
def Lp:R2:=λx y H Q=>∃z i c,x= .str z/\y= .int i/\z.length<=Sv/\atI z.cps.toList i=some c/\Q (.str ⟨#[c]⟩) H
theorem zr:JK X (Jf X.K):=by
 intro value slice f8 s σ H x y v u Q I rx ry h hs;obtain⟨p,xs,i,z,rfl,rfl,hq,he,q⟩:=h;cases rx;obtain⟨t,rfl⟩:=ry;obtain⟨aS,r,pl,hz⟩:=I.list hq;obtain⟨j,h1,h2,h3,h4,h5⟩:=sZ he;obtain⟨w,ew,zT⟩:=r.get h2;have hl:=r.length;have hn:=lZ;have fin:EP X f8 σ Q w s:=⟨z,H,I,zT,q⟩
 by_cases h0:0<=i
 ·have hj:i.toNat=j:=by
   rw[seqIndex_of h0 h5] at h1;exact SS h1
  exact item_listR pl.isList h0 (by omega) (by rw[hj];simpa using ew) fin hs
 ·have hj:(i+(aS.toArray.size:Int)).toNat=j:=by
   rw[seqIndex_neg (by omega) h4] at h1;rw[Si,<-hl];exact SS h1
  exact X6 (x:=w) pl.isList.typeIs slot_list_getitem.lookup
   (wpAny_getItem_list_neg (Q:=λr s'=>r=w/\EP X f8 σ Q r s') pl.isList (by omega) (by rw[Si]<;>omega) (by omega) (by rw[hj];simpa using ew) ⟨rfl,fin⟩) hs
theorem Ie:JK X (Lq X.K):=by
 intro value slice f8 s σ H x y v u Q I rx ry h hs;obtain⟨p,xs,i,z,rfl,rfl,hq,he,q⟩:=h;cases rx;obtain⟨t,rfl⟩:=ry;obtain⟨aS,r,pl,hz⟩:=I.tuple hq;obtain⟨j,h1,h2,h3,h4,h5⟩:=sZ he;obtain⟨w,ew,zT⟩:=r.get h2;have hl:=r.length;have hn:=lZ;have fin:EP X f8 σ Q w s:=⟨z,H,I,zT,q⟩
 exact X6 (x:=w) pl.typeIs slot_tuple_getitem.lookup
  (getItem_tuple (j:=j) (Q:=λr s'=>r=w/\EP X f8 σ Q r s') pl (by omega) (by omega) (by rw[Si,<-hl];exact h1) (by simpa using ew) ⟨rfl,fin⟩) hs
theorem Ic:JK X Lp:=by
 intro value slice f8 s σ H x y v u Q I rx ry h hs;obtain⟨z,i,c,rfl,rfl,hz,he,q⟩:=h;obtain⟨t,rfl⟩:=rx;obtain⟨t',rfl⟩:=ry;obtain⟨j,h1,h2,h3,h4,h5⟩:=sZ he;have hl:z.cps.toList.length=z.length:=by simp[Wo]
 rw[hl] at h1 h4 h5;have hn:=lZ;exact tail_any (Vz s z t) slot_str_getitem.lookup (getItem_str (c:=c) (by
  have e1:decide (i< -(2 ^ 63:Int))=false:=Yl (by omega);have e2:decide (i>=2 ^ 63)=false:=Yl (by omega);rw[e1,e2,Bool.or_false]) (by rw[h1];simpa using h2) ⟨.str ⟨#[c]⟩,H,I.tok _,⟨_,rfl⟩,q⟩) hs
theorem uL(lo hi:Option Int)(n:Nat):(Vh lo hi none n).1=((HT.sIx n 0 lo:Nat):Int)/\(Vh lo hi none n).2.1=((HT.sIx n n hi:Nat):Int)/\(Vh lo hi none n).2.2=1:=by
 refine⟨?_,?_,rfl⟩
 ·cases lo with
  |none=>simp[Vh,HT.sIx]
  |some i=>
   simp only[Vh,HT.sIx,XY,show (1:Int)>0 by decide,if_true];by_cases h:i<0
   ·simp only[h,if_true]<;>omega
   ·simp only[h,if_false]<;>omega
 ·cases hi with
  |none=>simp[Vh,HT.sIx]
  |some i=>
   simp only[Vh,HT.sIx,XY,show (1:Int)>0 by decide,if_true];by_cases h:i<0
   ·simp only[h,if_true]<;>omega
   ·simp only[h,if_false]<;>omega
theorem rb(aS:List Value)(lo hi:Option Int):slicePick aS.toArray lo hi none=((aS.drop (HT.sIx aS.length 0 lo)).take (HT.sIx aS.length aS.length hi - HT.sIx aS.length 0 lo)).toArray:=by
 obtain⟨h1,h2,h3⟩:=uL lo hi aS.toArray.size;unfold slicePick;rw[h1,h2,h3];simp only[sliceRange_one,pick_run,Si]<;>rfl
def NU(K:Se):V->Option Int->Option Int->Hp->VK->Prop:=λx lo hi H Q=>∃a xs,x= .ref a/\SqL K H a xs/\∀p,H p=none->Q (.ref p) (upd H p (.lst (vp xs lo hi)))
theorem Gj:SlR X (NU X.K):=by
 intro f8 s σ H x v vl vu lo hi sl Q I rx hs pl pu h;obtain⟨a,xs,rfl,hx,q⟩:=h;cases rx;obtain⟨aS,r,ht,hz⟩:=I.list hx;have v6:=r.length;refine⟨"list",_,slot_list_getitem.lookup,ht.isList.typeIs,?_⟩;refine wpAny_getItem_list_slice ht.isList hs pl pu .none (by simp) ?_ (by rw[Si]<;>omega);rw[rb,<-v6];refine⟨.ref s.heap.objs.size,_,I.laid (t':=s.toks) (o:= .lst (vp xs lo hi)) (λb ob q=>R7 _ q) (R_ _) ?_,rfl,q _ (I.hok.fresh (R_ _))⟩;exact⟨Sy (mE xs lo hi) hz,_,0,(r.drop (HT.sIx xs.length 0 lo)).take (HT.sIx xs.length xs.length hi - HT.sIx xs.length 0 lo),Sx _ rfl⟩
def mF:V->Bool
 | .non=>true
 | .bl _=>true
 | .int _=>true
 | .str _=>true
 |_=>false
def Ei:V->V->Bool
 | .non, .non=>true
 | .bl a, .bl b=>a==b
 | .bl a, .int b=>(if a then 1 else 0)==b
 | .int a, .bl b=>a==(if b then 1 else 0)
 | .int a, .int b=>a==b
 | .str a, .str b=>a==b
 |_,_=>false
theorem Hv{A:S1}{s:R8}{y x:V}{u v:Value}(ry:RelV y u)(rx:RelV x v)(fy:mF y=true)(fx:mF x=true):SeqAt.EqAt A s u v (Ei y x):=by
 cases y with
 |non=>
  cases ry;cases x with
  |non=>cases rx;exact SeqAt.EqAt.same _
  |bl b=>cases rx;exact SeqAt.EqAt.none_bool b
  |int b=>obtain⟨t,rfl⟩:=rx;exact SeqAt.EqAt.none_int b t
  |str b=>obtain⟨t,rfl⟩:=rx;exact SeqAt.EqAt.none_str b t
  |_=>exact Ym (show false=true from fx) SI
 |bl a=>
  cases ry;cases x with
  |non=>cases rx;exact SeqAt.EqAt.bool_none a
  |bl b=>cases rx;exact SeqAt.EqAt.bool_bool a b
  |int b=>obtain⟨t,rfl⟩:=rx;exact SeqAt.EqAt.bool_int a b t
  |str b=>obtain⟨t,rfl⟩:=rx;exact SeqAt.EqAt.bool_str a b t
  |_=>exact Ym (show false=true from fx) SI
 |int a=>
  obtain⟨t',rfl⟩:=ry;cases x with
  |non=>cases rx;exact SeqAt.EqAt.int_none a t'
  |bl b=>cases rx;exact SeqAt.EqAt.int_bool a t' b
  |int b=>obtain⟨t,rfl⟩:=rx;exact SeqAt.EqAt.int_int a t' b t
  |str b=>obtain⟨t,rfl⟩:=rx;exact W6 a t' b t
  |_=>exact Ym (show false=true from fx) SI
 |str a=>
  obtain⟨t',rfl⟩:=ry;cases x with
  |non=>cases rx;exact SeqAt.EqAt.str_none a t'
  |bl b=>cases rx;exact SeqAt.EqAt.str_bool a t' b
  |int b=>obtain⟨t,rfl⟩:=rx;exact W5 a t' b t
  |str b=>obtain⟨t,rfl⟩:=rx;exact SeqAt.EqAt.str_str a t' b t
  |_=>exact Ym (show false=true from fx) SI
 |_=>exact Ym (show false=true from fy) SI
def EL(x:V)(u:Value):Bool:=match u with
 | .none=>Ei .non x
 | .bool b=>Ei (.bl b) x
 | .int i _=>Ei (.int i) x
 | .str z _=>Ei (.str z) x
 |_=>false
theorem B6{x y:V}{u:Value}(r:RelV y u)(f:mF y=true):EL x u=Ei y x:=by
 cases y with
 |non=>cases r;rfl
 |bl b=>cases r;rfl
 |int i=>obtain⟨t,rfl⟩:=r;rfl
 |str z=>obtain⟨t,rfl⟩:=r;rfl
 |_=>exact Ym (show false=true from f) SI
theorem sV{x:V}:∀{xs:List V}{us:List Value},Vals xs us->xs.all mF=true->us.any (EL x)=xs.any λy=>Ei y x
 |_,_, .nil,_=>rfl
 |y::xs,u::us, .cons r t,f=>by
  rw[UH,SX] at f;rw[U5,U5,B6 r f.1,sV t f.2]
theorem pI{A:S1}{s:R8}{x:V}{v:Value}(rx:RelV x v)(fx:mF x=true):∀{xs:List V}{us:List Value},Vals xs us->xs.all mF=true->∀u∈us,SeqAt.EqAt A s u v (EL x u)
 |_,_, .nil,_=>λu hu=>by cases hu
 |y::xs,u::us, .cons r t,f=>λu' hu=>by
  rw[UH,SX] at f;rcases Sf.mp hu with rfl | hu
  ·rw[B6 r f.1];exact Hv r rx f.1 fx
  ·exact pI rx fx t f.2 u' hu
def Mj(x:V)(xs:List V):Bool:=xs.any λy=>Ei y x
def Pp(K:Se)(neg:Bool):R2:=λx y H Q=>∃p xs,y= .ref p/\(SqL K H p xs\/SqT K H p xs)/\mF x=true/\xs.all mF=true/\Q (.bl (if neg then !Mj x xs else Mj x xs)) H
theorem ud:OpR X (Te .NotIn) (Pp X.K true):=by
 intro f8 s σ H x y v u Q I rx ry h;obtain⟨p,xs,rfl,hq,fx,fs,q⟩:=h;cases ry;rcases hq with hq | hq
 ·obtain⟨aS,r,pl,hz⟩:=I.list hq;refine SeqAt.notIn_listAt (EL x) pl.isList (λw hw=>pI rx fx r fs w (by simpa using hw)) ⟨.bl _,H,I,rfl,?_⟩;rw[show aS.toArray.any (EL x)=aS.any (EL x) by simp,sV r fs];exact q
 ·obtain⟨aS,r,pl,hz⟩:=I.tuple hq;refine SeqAt.notIn_tupleAt (EL x) pl (λw hw=>pI rx fx r fs w (by simpa using hw)) ⟨.bl _,H,I,rfl,?_⟩;rw[show aS.toArray.any (EL x)=aS.any (EL x) by simp,sV r fs];exact q
theorem tm:CallR X (.builtin "len") (λxs H Q=>∃p ys,xs=[.ref p]/\(SqL X.K H p ys\/SqT X.K H p ys)/\Q (.int ys.length) H):=by
 intro f8 s σ H xs us Q I r h;obtain⟨p,ys,rfl,hq,q⟩:=h;obtain⟨u,rfl,rx⟩:=vals1 r;cases rx;have hn:=lZ;rcases hq with hq | hq
 ·obtain⟨aS,r',pl,hz⟩:=I.list hq;have v6:=r'.length;exact Calls.call_len_list pl.isList (by simp only[Si]<;>omega) ⟨.int ys.length,H,I.tok _,⟨s.toks+1,by rw[Si,v6]⟩,q⟩
 ·obtain⟨aS,r',pl,hz⟩:=I.tuple hq;have v6:=r'.length;exact len_tuple pl (by simp only[Si]<;>omega) ⟨.int ys.length,H,I.tok _,⟨s.toks+1,by rw[Si,v6]⟩,q⟩
theorem tq:CallR X (.builtin "len") (λxs H Q=>∃z,xs=[.str z]/\z.length<=Sv/\Q (.int z.length) H):=by
 intro f8 s σ H xs us Q I r h;obtain⟨z,rfl,hz,q⟩:=h;obtain⟨u,rfl,t,rfl⟩:=vals1 r;have hn:=lZ;exact len_str (by omega) ⟨.int z.length,H,I.tok _,⟨_,rfl⟩,q⟩
theorem CallR.or{f:Value}{r r':List V->Hp->VK->Prop}(h:CallR X f r)(h':CallR X f r'):CallR X f (λxs H Q=>r xs H Q\/r' xs H Q):=by
 intro f8 s σ H xs us Q I rs q;rcases q with q | q
 ·exact h f8 s σ H xs us Q I rs q
 ·exact h' f8 s σ H xs us Q I rs q
theorem qO:CallR X (.type "tuple") (λxs H Q=>∃p ys,xs=[.ref p]/\((SqL X.K H p ys/\∀l,H l=none->Q (.ref l) (upd H l (.tup ys)))\/(SqT X.K H p ys/\Q (.ref p) H))):=by
 intro f8 s σ H xs us Q I r h;obtain⟨p,ys,rfl,h⟩:=h;obtain⟨u,rfl,rx⟩:=vals1 r;cases rx;rcases h with⟨hq,q⟩ | ⟨hq,q⟩
 ·obtain⟨aS,r',pl,hz⟩:=I.list hq;have v6:=r'.length;refine call_tuple_list pl.isList (λh' kp=>?_) (by simp only[Si]<;>omega);have I1:Inv X f8 σ H {s with heap:=h'}:=I.kept (t':=s.toks) kp;have I2:Inv X f8 σ (upd H h'.objs.size (.tup ys)) {s with heap:=h'.push {cls:= .type "tuple",data:= .seq aS.toArray} }:=
   I1.laid (t':=s.toks) (λb o e=>R7 _ e) (R_ _) (show ObjOk X.prog X.w _ _ _ (.tup ys) from⟨hz,aS,r',Xo _ _⟩)
  exact⟨.ref h'.objs.size,_,I2,rfl,q _ (I1.hok.fresh (R_ _))⟩
 ·obtain⟨aS,r',pl,hz⟩:=I.tuple hq;exact call_tuple_same pl ⟨.ref p,H,I,rfl,q⟩
def Ms(K:Se)(T:String)(x:V)(H:Hp):Prop:=match x with
 | .str _=>T="str"
 | .int _=>T="int"
 | .ref p=>(T="list"/\∃xs,SqL K H p xs)\/(T="tuple"/\∃o,K.lookup p=some o/\o.cls= .type "tuple"/\o.dict=none)\/
    (T="dict"/\((∃kvs,H p=some (.dK kvs))\/∃kvs,H p=some (.dT kvs)))\/(T="set"/\∃S n,H p=some (.set S n))
 |_=>False
theorem Js{f8:List (Addr×Obj)}{σ:St}{H:Hp}{s:R8}{T:String}{x:V}{v:Value}(I:Inv X f8 σ H s)(r:RelV x v)(ty:Ms X.K T x H):
 s.TypeIs v T/\∀a,v= .ref a->∃ob,s.heap.get? a=some ob/\ob.dict=none:=by
 cases x with
 |str z=>
  obtain⟨t,rfl⟩:=r;cases (show T="str" from ty);exact⟨Vz s z t,λ_ e=>nomatch e⟩
 |int i=>
  obtain⟨t,rfl⟩:=r;cases (show T="int" from ty);exact⟨typeIs_int s i t,λ_ e=>nomatch e⟩
 |ref p=>
  cases r;rcases ty with⟨rfl,xs,hq⟩ | ⟨rfl,o,hk,hc,hd⟩ | ⟨rfl,hk⟩ | ⟨rfl,S,n,hk⟩
  ·obtain⟨aS,_,pl,_⟩:=I.list hq;refine⟨pl.isList.typeIs,λa e=>?_⟩;cases e;obtain⟨o,n,e,c,hd,_⟩:=pl;exact⟨o,e,hd⟩
  ·refine⟨⟨o,I.kIn p o hk,hc⟩,λa e=>?_⟩;cases e;exact⟨o,I.kIn _ o hk,hd⟩
  ·have z:∃o,s.heap.get? p=some o/\o.ExactDict:=by
    rcases hk with⟨kvs,hk⟩ | ⟨kvs,hk⟩
    ·obtain⟨_,_,_,_,o,_,_,e,ex,_⟩:=I.hok p _ hk;exact⟨o,e,ex⟩
    ·obtain⟨_,_,_,_,o,_,_,e,ex,_⟩:=I.hok p _ hk;exact⟨o,e,ex⟩
   obtain⟨o,e,ex⟩:=z;refine⟨⟨o,e,ex.1⟩,λa e2=>?_⟩;cases e2;exact⟨o,e,ex.2.1⟩
  ·obtain⟨o,_,_,_,e,ex,_⟩:=I.hok p _ hk;refine⟨⟨o,e,ex.1⟩,λa e2=>?_⟩;cases e2;exact⟨o,e,ex.2.1⟩
 |_=>exact T9 ty
def N0(K:Se)(T:String)(r:V->List V->Hp->VK->Prop)(to:TE)(t:TA):TE:=λσ H Q=>to σ H λx H1=>Ms K T x H1/\t σ H1 λxs H2=>r x xs H2 Q
variable{o e:Expr}{es:List Expr}{to:TE}{t:TA}{name:Str}{T0 bh:Pos}{T id:String}{r:V->List V->Hp->VK->Prop}
theorem Dk(pa:PlainAttrs T)(slot:Slot T name id)(Nn:typeOf (.builtin id)=pure (.type "method_descriptor"))(hm:LP X id r)(ho:PE X o to)(ha:PA X (e::es) t)
 (iM:Uv o name X.env (eval o X.env)=eval o X.env:=by rfl)
 (pd:((Uq bh (Su (e::es) X.env)).all (λx=>!x.1)&&(Wb bh (U0 [] X.env)).all (λx=>x.1.isSome)
  &&decide ((e::es).length+([]:List UQ).length+(if ([]:List UQ).isEmpty then 0 else 1)<30))=true:=by rfl)
 (iN:(T0.endLine==bh.line)=true:=by rfl) (hs:Su (e::es) X.env=(false,eval e X.env)::Su es X.env:=by rfl) (xU:(Uq bh (Su es X.env)).any (·.1)=false:=by rfl):
 PE X (.Call (.Attribute o name T0) (e::es) [] bh) (N0 X.K T r to t):=by
 intro f8 s σ H Q I h;refine wpAny_Call_method_late iM pd iN rfl (bX (ho f8 s σ H _ I h) λv s1 ⟨x,H1,I1,r1,ty,q1⟩=>?_);obtain⟨h1,h2⟩:=Js I1 r1 ty;refine⟨T,id,pa,slot,Nn,h1,h2,?_⟩;have hA:=ha bh f8 s1 σ H1 _ I1 q1;rw[hs] at hA⊢;refine Vv (by show (false||(Uq bh (Su es X.env)).any (·.1))=false;rw[xU]<;>rfl) (VP ?_);exact bX hA λus s2 ⟨vs,H2,I2,r2,q2⟩=>hm f8 s2 σ H2 x vs v us Q I2 r1 r2 q2
end
def Oe(X:Cx)(id:String)(r:V->List V->Hp->VK->Prop):Prop:=
 ∀(f8:List (Addr×Obj)) (s:R8) (σ:St) (H:Hp) (x:V) (xs:List V) (v:Value) (us:List Value) (Q:VK),Inv X f8 σ H s->RelV x v->Vals xs us->r x xs H Q->
  wpAny (model X.prog X.w) X.A (call (.builtin id) (v::us)) (EP X f8 σ Q) X.xe s
theorem Vals.one:∀{x:V}{us:List Value},Vals [x] us->∃u,us=[u]/\RelV x u
 |_,_, .cons r .nil=>⟨_,rfl,r⟩
section
variable{X:Cx}{f8:List (Addr×Obj)}{σ:St}{H:Hp}{s:R8}{l:Addr}{xs ys:List V}
theorem Inv.lset{aS its':List Value}{n:Nat}{f:Array Value->Array Value}{t':Nat}(I:Inv X f8 σ H s)(hH:H l=some (.lst xs))
 (e:s.heap.get? l=some {cls:= .type "list",data:= .seq aS.toArray n})(hf:f aS.toArray=its'.toArray)(hv:Vals ys its')(hz:ys.length<=Sv):
 Inv X f8 σ (upd H l (.lst ys)) {s with heap:=s.heap.update l (Ua f),toks:=t'}:=by
 have q:=PySem.IsL.update e f;rw[hf] at q;refine I.write (x:=l) (e:=l) (by rw[hH];exact trivial) (.inl rfl) (λb' u hb hu=>(Heap.get?_update_other s.heap (Ua f) (S9 hb)).trans hu) ⟨_,q⟩ ?_;exact⟨hz,its',_,hv,q⟩
theorem Inv.lnew{aS:List Value}{t':Nat}(I:Inv X f8 σ H s)(hv:Vals ys aS)(hz:ys.length<=Sv):
 Inv X f8 σ (upd H s.heap.objs.size (.lst ys)) {s with heap:=s.heap.push {cls:= .type "list",data:= .seq aS.toArray},toks:=t'}:=
 I.laid (λ_ _ q=>R7 _ q) (R_ _) ⟨hz,aS,0,hv,Sx _ rfl⟩
theorem Inv.fresh(I:Inv X f8 σ H s):H s.heap.objs.size=none:=I.hok.fresh (R_ _)
theorem Inv.lstM(I:Inv X f8 σ H s)(hH:H l=some (.lst xs)):xs.length<=Sv/\∃(aS:List Value) (n:Nat),Vals xs aS/\xs.length=aS.length/\s.heap.get? l=some {cls:= .type "list",data:= .seq aS.toArray n}:=by
 obtain⟨z,aS,n,r,e⟩:=I.hok l _ hH;exact⟨z,aS,n,r,r.length,e⟩
theorem CZ{n:Nat}(h:n<=Sv):U6 n=false:=by
 unfold U6;exact Yl (by omega)
end
section
variable{X:Cx}
def zR:V->List V->Hp->VK->Prop:=λx vs H Q=>∃l xs y,x= .ref l/\vs=[y]/\H l=some (.lst xs)/\xs.length<Sv/\Q .non (upd H l (.lst (xs++[y])))
theorem r6:Oe X "list.append" zR:=by
 intro f8 s σ H x vs v us Q I rx rv h;obtain⟨l,xs,y,rfl,rfl,hH,hz,q⟩:=h;cases rx;obtain⟨u,rfl,ru⟩:=rv.one;obtain⟨z,aS,n,r,hl,e⟩:=I.lstM hH;refine call_meets F.slot_list_append ⟨_,e,rfl⟩ F.entry_list_append (F.args_list_append_2 _ _) (PySem.list_append l aS.toArray n u (by rw[Si];omega)) ⟨e,?_⟩;refine⟨.non,_,I.lset (its':=aS++[u]) hH e (by simp) (r.append (.cons ru .nil)) ?_,rfl,q⟩;rw[Sg,List.length_singleton];omega
def zS:V->List V->Hp->VK->Prop:=λx vs H Q=>∃l b xs zs,x= .ref l/\vs=[.ref b]/\H l=some (.lst xs)/\H b=some (.lst zs)/\xs.length+zs.length<=Sv/\Q .non (upd H l (.lst (xs++zs)))
theorem AR:Oe X "list.extend" zS:=by
 intro f8 s σ H x vs v us Q I rx rv h;obtain⟨l,b,xs,zs,rfl,rfl,hH,hB,hz,q⟩:=h;cases rx;obtain⟨u,rfl,ru⟩:=rv.one;cases ru;obtain⟨z,aS,n,r,hl,e⟩:=I.lstM hH;obtain⟨z2,fL,n2,r2,HI,e2⟩:=I.lstM hB;have hsz:aS.toArray.size+fL.toArray.size<=Sv:=by rw[Si,Si];omega
 have Kp:¬(!aS.toArray.isEmpty&&U6 (aS.toArray.size+fL.toArray.size))=true:=by
  rw[CZ hsz,Bool.and_false];exact SI
 refine call_meets F.slot_list_extend ⟨_,e,rfl⟩ F.entry_list_extend (F.args_list_extend_2 _ _)
  (AutoSeq1.list_extend_list_list_0 l aS.toArray n b fL.toArray n2 Kp (by rw[Si];omega) (by omega)) ⟨e,e2,?_⟩
 refine⟨.non,_,I.lset (its':=aS++fL) hH e (by simp) (r.append r2) ?_,rfl,q⟩;rw[Sg];omega
def NS:R2:=λx y H Q=>∃l b xs zs,x= .ref l/\y= .ref b/\H l=some (.lst xs)/\H b=some (.lst zs)/\xs.length+zs.length<=Sv/\∀p,H p=none->Q (.ref p) (upd H p (.lst (xs++zs)))
theorem Iy:OpR X (U9 .Add) NS:=by
 intro f8 s σ H x y v u Q I rx ry h;obtain⟨l,b,xs,zs,rfl,rfl,hH,hB,hz,q⟩:=h;cases rx;cases ry;obtain⟨z,aS,n,r,hl,e⟩:=I.lstM hH;obtain⟨z2,fL,n2,r2,HI,e2⟩:=I.lstM hB;refine PySem.P.add_list e e2 ?_ (by rw[Si,Si];omega);have ea:aS.toArray++fL.toArray=(aS++fL).toArray:=by simp
 rw[ea];exact⟨.ref _,_,I.lnew (t':=s.toks) (r.append r2) (by rw[Sg];omega),rfl,q _ I.fresh⟩
end
end L2
namespace Att
open PySem PySem.W PySem.Calls PyProof.Rows
theorem ints_of_wellAll{P:Params}{h:Heap}:∀(ns:List Int) (vs:List Value),WellAll P h vs (ns.map WData.int)->U2 vs ns:=by
 intro ns;induction ns with
 |nil=>
  intro vs w;rw[UB] at w;cases w;exact .nil
 |cons n ns ih=>
  intro vs w;rw[Sa] at w;cases w with
  |cons a b=>
   cases a;exact .cons _ _ (ih _ b)
theorem script_of{l:OpenLaw}{n:Nat}(hn:l.most=some n){P:Params}{h:Heap}{args:List WData}{vals:List Value}
 (E3:l.row.toRowW.claim.pre args=true)(Nu:WellAll P h vals args):
 ∃a vs ns,vals=[SY a]/\args=[WData.list (ns.map WData.int)]/\h.get? a=some {cls:= .type "list",data:= .seq vs.toArray}/\U2 vs ns/\ns.length<=n:=by
 have QV:WShape.hasAll [] args [.list .int]=true:=(pre_splitW E3).1;have hc:l.pre.holds [] {args:=args}=true:=(pre_splitW E3).2;obtain⟨d,r,rfl,h1,h2⟩:=hasAllW_cons QV;obtain rfl:=hasAllW_nil h2;obtain⟨xs,rfl,h3⟩:=hasW_list h1;obtain⟨ns,rfl⟩:=items_int h3;have v6:ns.length<=n:=by
  unfold OpenLaw.pre at hc;have h4:(WTm.not (.lt (.lit (.int (n:Int))) (.len (.arg 0)))).holds [] {args:=[.list (ns.map .int)]}=true:=by
   have h4:=(holds_andW hc).1;rw[hn] at h4;exact h4
  have h5:=condW_of h4 (w_not (w_lt w_lit (w_len_list (w_arg rfl))));rw[R5] at h5;refine Nat.le_of_not_lt λq=>?_;have q':(n:Int)<((ns.length:Nat):Int):=by omega
  first
   |(rw [Yi q'] at h5;exact Ym h5 (by decide))
   |(simp at h5;omega)
 cases Nu with
 |cons w1 w2=>
  cases w2;cases w1 with
  |list ho lT=>exact⟨_,_,ns,rfl,rfl,ho,ints_of_wellAll ns _ lT,v6⟩
theorem post_true(l:OpenLaw)(args:List WData):l.row.toRowW.claim.post args (.bool true) args=true:=
 postW_of (r:=l.row.toRowW) (X:=(true==true))
  (show WShape.has [] (.bool true) .bool=true by first | rfl | decide | simp[WShape.has,WShape.arms,WShape.armsAll])
  (show (WTm.eq .res (.lit (.bool true))).value [] {args:=args,res:=some (.bool true),after:=args}=some (.bool (true==true)) from w_eq_bool (w_res rfl) w_lit) rfl
theorem attach_call{l:OpenLaw}{n:Nat}{q:SJ}{loose:List Str}{XP:(Str->Option Value)->Heap->Prop}{YP:World->Heap->Prop}{d:DefRec}
 (hn:l.most=some n)(Ke:d.params.defaults=[])
 (call:∀(w:World) (YD v4:R8) (mg mb:Str->Option Value) (fa:Addr) (o:Obj) (pm cd doc:Value) (a:Addr) (vs:List Value) (ns:List Int),
  Ground q loose [] XP w YD mg mb v4.heap->YP w v4.heap->
  v4.heap.get? fa=some o->o.data= .func (docDef d.name d.params d.body d.scope pm cd doc)->v4.heap.CodeRec cd d.name->mg d.name=some (.ref fa)->
  v4.heap.get? a=some {cls:= .type "list",data:= .seq vs.toArray}->U2 vs ns->ns.length<=n->v4.gens= #[]->
  Xi (model l.prog w) WN (.call (.ref fa) ⟨[.ref a],[]⟩) (λr s'=>r= .ok (.ret (.bool true))/\OldK v4.heap s'.heap/\s'.os=v4.os/\Wa s'.gens) v4):
 WalkO q loose XP YP l.row.toRowW d [] (λf vs=>XW f vs):=by
 intro w YD v4 mg mb G Y fa o pm cd doc dV kV ho hd xt hD HK hg args vals as E3 QE RW Nu RU;obtain rfl:dV= .none:=Dflts.none hD Ke;obtain rfl:kV= .none:=Dflts.noKw hD;obtain⟨a,vs,ns,rfl,rfl,Cm,hints,v6⟩:=script_of hn E3 Nu;refine enter_call (WW (call w YD v4 mg mb fa o pm cd doc a vs ns G Y ho (fd_plain hd) xt HK Cm hints v6 hg) λr s' hq=>?_);obtain⟨rfl,h2,h3,h4⟩:=hq;exact⟨.inl ⟨.bool true, .bool true,[],rfl,λ_=>rfl, .bool true,post_true l _,λ_=>⟨VB,λ_ hm=>(nomatch hm)⟩⟩,h2,h3,h4⟩
section
def ledger(h:Heap)(L d:Addr):List (Addr×Obj):=(Sn h.objs.size).filterMap λa=>if a=L\/a=d then none else(h.get? a).map λo=>(a,o)
end
end Att
namespace L2
open PySem PySem.Spec PyProof.Rows
theorem sR:∀{vs:List Value}{ns:List Int},U2 vs ns->Vals (ns.map V.int) vs
 |_,_, .nil=> .nil
 |_,_, .cons n t h=> .cons ⟨t,rfl⟩ (sR h)
def Hh(H:Hp):Prop:=∀b,H b=none\/∃o xs,H b=some (.frz o (.lst xs))
theorem vQ{P:SJ}{w:World}{K:Se}{mg mb:Str->Option Value}{CX:yV}{k:Nat}{fa a:Addr}{fd:Uy}{x:Str}{sp:Sp}{v4:R8}{vs:List Value}{ns:List Int}
 (KX:K.In v4.heap)(O1:v4.heap.Ns SG mg)(hb:v4.heap.Ns builtinsNs mb)(EV:∀x:Str,x≠"__name__"->mb x=S5 x)(Cj:v4.heap.NoLimit)(hg:v4.gens= #[])
 (ha:v4.heap.get? a=some {cls:= .type "list",data:= .seq vs.toArray})(hi:U2 vs ns)(hl:ns.length<=Sv)(hr:Room k WN)
 (F:∀base:Heap,K.In base->base.Ns SG mg->FnOk P w K mg base CX k fa fd [x] sp)(Kb:∀(s:R8) (u:Value),X4 s fd ⟨[u],[]⟩ [(x,u)])
 (Er:∀H:Hp,Hh H->SqL K H a (ns.map V.int)->sp [.ref a] H (λv _=>v= .bl true) λ_ _ _=>False)
 (MN:∀H e s',CX [] H v4 (λ_ _ _=>False) e s'->False):
 Xi (model P w) WN (.call (.ref fa) ⟨[.ref a],[]⟩) (λr s'=>r= .ok (.ret (.bool true))/\OldK v4.heap s'.heap/\s'.os=v4.os/\Wa s'.gens) v4:=by
 have rv:=sR hi;have NJ:=hi.length;have core:∀H:Hp,Hh H->SqL K H a (ns.map V.int)->HOk P w H v4.heap->(∀b,H b≠none->b=a)->(H a≠none->K.lookup a=none)->
  Xi (model P w) WN (.call (.ref fa) ⟨[.ref a],[]⟩) (λr s'=>r= .ok (.ret (.bool true))/\OldK v4.heap s'.heap/\s'.os=v4.os/\Wa s'.gens) v4:=by
  intro H hO hS hok hA hK;have y8:∀{b:Addr}{o:Obj},v4.heap.get? b=some o->H b=none->(tJ v4.heap H).get? b=some o:=λe n=>Ci e n;have KZ:∀{b:Addr}{o:Obj}{es:Array T7}{ep:Nat},v4.heap.get? b=some o->o.data= .dict es ep->H b=none:=λ{b o es ep} e d=>by
   cases q:H b with
   |none=>rfl
   |some u=>
    have e':b=a:=hA b (by rw[q];simp);subst e';rw[ha] at e;cases e;have d':Data.seq vs.toArray _=Vm es ep:=d;cases d'
  have Mm:∀{b:Addr}{m:Str->Option Value},v4.heap.Ns b m->(tJ v4.heap H).Ns b m:=λ{b m} ⟨o,es,ep,e,d,r⟩=>⟨o,es,ep,y8 e (KZ e d),d,r⟩
  have OH:K.In (tJ v4.heap H):=λb o e=>y8 (KX b o e) (by
   cases q:H b with
   |none=>rfl
   |some u=>
    have e':b=a:=hA b (by rw[q];simp);subst e';rw[hK (by rw[q];simp)] at e;cases e)
  have hM:Mod K mg (tJ v4.heap H):=⟨OH,Mm O1,⟨mb,Mm hb,EV⟩,let ⟨mc,h1,h2⟩:=Cj;⟨mc,Mm h1,h2⟩⟩
  have e0:Env0 P w K mg (tJ v4.heap H) WN [] v4 H:=⟨rfl,hM,λb o e=>Fp e,Nat.le_of_eq (Av _ _),trivial,λb hb=>Ym (show b∈([]:List Addr) from hb) (by simp),hok, .of_eq hg⟩
  refine WW ((F _ OH (Mm O1)).run WN [] v4 H ⟨[.ref a],[]⟩ [.ref a] [.ref a] _ _ hr e0 (Kb v4 (.ref a)) (.cons rfl .nil) (Er H hO hS)) λr s' h=>?_;cases r with
  |error e=>exact(MN H e s' h).elim
  |ok fl=>
   cases fl with
   |next=>exact T9 h
   |brk=>exact T9 h
   |cont=>exact T9 h
   |ret u=>
    obtain⟨v,H',os,bare,un,Ni,r',q⟩:=h;have q':v= .bl true:=q;subst q';obtain rfl:u=Vi true:=r';refine⟨rfl,OldK.of_keep λb o e=>?_,os,bare⟩;cases q:H b with
    |none=>exact un.keep b o e q (by intro z;exact Ym (show b∈([]:List Addr) from z) (by simp)) (by simp)
    |some u=>
     rcases hO b with z | ⟨ob,xs,z⟩
     ·rw[q] at z;cases z
     ·have z2:=un.frzs b ob _ z;obtain⟨e1,_⟩:=hok b _ z;obtain⟨e2,_⟩:=Ni b _ z2;rw[e] at e1;cases e1;exact e2
 cases hk:K.lookup a with
 |some o=>
  have e:=KX a o hk;rw[ha] at e;cases e;refine core (λ_=>none) (λ_=> .inl rfl) (.inr ⟨_,vs.toArray,_,hk,rfl,rfl,rfl,by rw[Si,NJ];exact hl,by simpa using rv⟩) (λb u z=>by have z':(none:Option HO)=some u:=z;cases z') (λb z=>Ym rfl z) λz=>Ym rfl z
 |none=>
  refine core (λb=>if b=a then some (.frz {cls:= .type "list",data:= .seq vs.toArray} (.lst (ns.map V.int))) else none) (λb=>?_) (.inl (.inr ⟨{cls:= .type "list",data:= .seq vs.toArray},Yg rfl⟩)) (λb u z=>?_) (λb z=>?_) λ_=>hk
  ·by_cases hb:b=a
   ·exact .inr ⟨_,_,Yg hb⟩
   ·exact .inl (Yh hb)
  ·by_cases hb:b=a
   ·have z':=(Yg hb).symm.trans z;cases z';subst hb;exact⟨ha,by rw[R5];exact hl,vs,_,rv,ha⟩
   ·have z':=(Yh hb).symm.trans z;cases z'
  ·by_cases hb:b=a
   ·exact hb
   ·exact Ym (Yh hb) z
abbrev RO{K:Se}{h:Heap}(_:K.In h):Se:=K
theorem Mt{l:XX}{n k:Nat}{q:SJ}{loose:List Str}{XP:(Str->Option Value)->Heap->Prop}{YP:World->Heap->Prop}{d:DefRec}{K:Params->Se}{CX:World->yV}{sp:World->Sp}{x:Str}
 (hn:l.most=some n)(Md:n<=Sv)(Ke:d.params.defaults=[])(hr:Room k WN)
 (hY:∀(w:World) (h:Heap),YP w h->(K w.params).In h)
 (F:∀(w:World) (mg:Str->Option Value) (fa:Addr) (h:Heap),(K w.params).In h->h.Ns SG mg->mg d.name=some (.ref fa)->
  ∃fd:Uy,(∀(s:R8) (u:Value),X4 s fd ⟨[u],[]⟩ [(x,u)])/\
   ∀base:Heap,(K w.params).In base->base.Ns SG mg->FnOk l.prog w (K w.params) mg base (CX w) k fa fd [x] (sp w))
 (Er:∀(w:World) (H:Hp) (a:Addr) (ns:List Int),ns.length<=n->Hh H->SqL (K w.params) H a (ns.map V.int)->sp w [.ref a] H (λv _=>v= .bl true) λ_ _ _=>False)
 (MN:∀(w:World) (H:Hp) (s:R8) (e:Value) (s':R8),CX w [] H s (λ_ _ _=>False) e s'->False):
 PySem.W.WalkO q loose XP YP l.row.toRowW d [] (λf vs=>XW f vs):=by
 refine Att.attach_call hn Ke λw YD v4 mg mb fa o pm cd doc a vs ns G Y ho hd xt HK Cm hints v6 hg=>?_;have KX:=hY w _ Y;obtain⟨fd,hb,hF⟩:=F w mg fa _ KX G.T.g HK;exact vQ KX G.T.g G.T.b G.T.builtins G.T.nolimit hg Cm hints (Sy v6 Md) hr hF hb (λH hO hS=>Er w H a ns v6 hO hS) λH e s'=>MN w H v4 e s'
abbrev Ob:yV:=λ_ _ _ _ _ _=>False
structure Fun (K:Se) (x qual:Str) (st:Stmt) (f:Addr) (fd:Uy):Prop where
 ex:∃(oc:Value) (od:Option Addr) (kV doc pm:Value) (an:Option Addr) (cu ct:Value) (FA:Array (Option Value)),
  fd=TM x qual (eI st) (aY st) (ah st) .none kV doc pm an cu ct/\K.lookup f=some ⟨oc,od, .func fd,FA⟩/\UJ K cu qual=true
 kp:T5 K (.ref f)=true
section
variable{P:SJ}{w:World}{K:Se}{mg:Str->Option Value}{base:Heap}
theorem Fun.ok{x qual:Str}{st:Stmt}{f:Addr}{fd:Uy}{N ps:List Str}{k:Nat}{sp:Sp}(F:Fun K x qual st f fd)(S:FnScope N ps (ah st))(len:∀vs H Q E,sp vs H Q E->vs.length=ps.length)
 (o9:∀(cu:Value) (A:S1) (outer:List Env) (s:R8) (H:Hp) (vs:List V) (Q:VK) (E:XK),Room k (A.deeper (T_ qual (ah st) s.heap.objs.size f cu))->sp vs H Q E->
  ∃t,PSs (dF Ob P w K mg base N qual (ah st) f cu A outer s H E).nox (aY st) t/\t {nx:=λ_ H'=>Q .non H',rt:=Q} (start N vs) H):FnOk P w K mg base Ob (k+1) f fd ps sp:=by
 obtain⟨oc,od,kV,doc,pm,an,cu,ct,FA,rfl,lk,xt⟩:=F.ex;refine GL lk xt S len λA outer s H vs Q E hr Er=>?_;obtain⟨t,h,q⟩:=o9 cu A outer s H vs Q E hr Er;exact⟨t,h.nox,q⟩
theorem Fun.binds{x qual:Str}{st:Stmt}{f:Addr}{fd:Uy}{ps:List Str}(F:Fun K x qual st f fd)
 (h:∀(kV doc pm:Value) (an:Option Addr) (cu ct:Value) (us:List Value),us.length=ps.length->bindArgs (TM x qual (eI st) (aY st) (ah st) .none kV doc pm an cu ct) ⟨us,[]⟩=pure (ps.zip us)):Binds K fd ps []:=by
 obtain⟨oc,od,kV,doc,pm,an,cu,ct,FA,rfl,lk,xt⟩:=F.ex;exact .all (h kV doc pm an cu ct)
theorem B_{x qual:Str}{st:Stmt}{f:Addr}{oc:Value}{od an:Option Addr}{FA:Array (Option Value)}{kV doc pm cu ct:Value}(l:K.lookup f=some ⟨oc,od, .func (TM x qual (eI st) (aY st) (ah st) .none kV doc pm an cu ct),FA⟩)
 (c:UJ K cu qual=true)(k:T5 K (.ref f)=true):Fun K x qual st f (TM x qual (eI st) (aY st) (ah st) .none kV doc pm an cu ct):=⟨⟨oc,od,kV,doc,pm,an,cu,ct,FA,rfl,l,c⟩,k⟩
end
section
variable{X:Cx}
theorem pv(i:Nat){x:Str}{pos:Pos}(hN:X.N[i]? =some x:=by rfl)(hv:MC X.env.scope x:=by first | exact Or.inl rfl | exact Or.inr (Or.inl rfl) | exact Or.inr (Or.inr rfl))(hd:(x==("__debug__":Str))=false:=by decide)
 (xt:(x==("__classdict__":Str))=false:=by decide):PE X (.Name x pos) (kr i):=IX hN hv hd xt
end
def Same(H H':Hp):Prop:=∀b o,H b=some o->H' b=some o
theorem Same.refl(H:Hp):Same H H:=λ_ _ h=>h
theorem Same.trans{H H1 H2:Hp}(a:Same H H1)(b:Same H1 H2):Same H H2:=λc o h=>b c o (a c o h)
theorem Same.free{H H':Hp}(e:Same H H'){l:Addr}(h:H' l=Option.none):H l=Option.none:=by
 cases q:H l with
 |none=>rfl
 |some o=>
  rw[e l o q] at h;cases h
theorem Same.seq{K:Se}{H H':Hp}{a:Addr}{xs:List V}(e:Same H H')(h:SqL K H a xs):SqL K H' a xs:=by
 rcases h with(h | ⟨o,h⟩) | h
 ·exact .inl (.inl (e _ _ h))
 ·exact .inl (.inr ⟨o,e _ _ h⟩)
 ·exact .inr h
section
variable{κ:Type}[DecidableEq κ]
def eS(kvs:List (κ×V))(k:κ):Option V:=(kvs.find? λkv=>decide (kv.1=k)).map (·.2)
def putK(kvs:List (κ×V))(k:κ)(v:V):List (κ×V):=
 if (kvs.any λkv=>decide (kv.1=k))=true then kvs.map (λkv=>if kv.1=k then(kv.1,v) else kv) else kvs++[(k,v)]
theorem jr{p:κ×V}{r:List (κ×V)}{k:κ}(e:p.1=k):eS (p::r) k=some p.2:=by simp[eS,UG,e]
theorem jq{p:κ×V}{r:List (κ×V)}{k:κ}(e:¬p.1=k):eS (p::r) k=eS r k:=by simp[eS,UG,e]
theorem jo(k:κ):∀kvs:List (κ×V),(kvs.any λkv=>decide (kv.1=k))=(eS kvs k).isSome
 |[]=>rfl
 |p::r=>by
  rw[U5];by_cases e:p.1=k
  ·simp only[jr e,Yi e,Bool.true_or,Option.isSome_some]
  ·rw[jq e,Yl e,Bool.false_or];exact jo k r
theorem dP(kvs:List (κ×V))(k:κ)(v:V):(putK kvs k v).length<=kvs.length+1:=by
 unfold putK;split
 ·rw[R5];omega
 ·rw[Sg,Sd,T2];omega
theorem wF{kvs:List (κ×V)}{k:κ}(v:V)(h:eS kvs k=none):putK kvs k v=kvs++[(k,v)]:=by
 unfold putK;rw[jo,h];exact Yh (by decide)
theorem RelO.isSome_eq{o:Option V}{u:Option Value}(r:RelO o u):o.isSome=u.isSome:=by
 cases o with
 |none=>cases u with
  |none=>rfl
  |some _=>exact(show False from r).elim
 |some _=>cases u with
  |none=>exact(show False from r).elim
  |some _=>rfl
theorem RelO.getD{o:Option V}{u:Option Value}{d:V}{d':Value}(r:RelO o u)(rd:RelV d d'):RelV (o.getD d) (u.getD d'):=by
 cases o with
 |none=>cases u with
  |none=>exact rd
  |some _=>exact(show False from r).elim
 |some _=>cases u with
  |none=>exact(show False from r).elim
  |some _=>exact r
theorem KV.val{kvs:List (κ×V)}{vs:List (κ×Value)}(r:KV kvs vs)(k:κ):RelO (eS kvs k) (Xg vs k):=by
 unfold KV at r;induction r with
 |nil=>exact TZ
 | @cons p q ps qs h t ih=>
   obtain⟨h1,h2⟩:=h;by_cases e:p.1=k
   ·have e':q.1=k:=h1.symm.trans e;have b:Xg (q::qs) k=some q.2:=by simp[Xg,UG,e']
    rw[jr e,b];exact h2
   ·have e':¬q.1=k:=λz=>e (h1.trans z);have b:Xg (q::qs) k=Xg qs k:=by simp[Xg,UG,e']
    rw[jq e,b];exact ih
theorem KV.any{kvs:List (κ×V)}{vs:List (κ×Value)}(r:KV kvs vs)(k:κ):(kvs.any λkv=>decide (kv.1=k))=vs.any λkv=>decide (kv.1=k):=by
 unfold KV at r;induction r with
 |nil=>rfl
 |cons h t ih=>rw[U5,U5,ih,h.1]
theorem KV.repl{kvs:List (κ×V)}{vs:List (κ×Value)}(r:KV kvs vs)(k:κ){y:V}{u:Value}(ry:RelV y u):
 KV (kvs.map λkv=>if kv.1=k then(kv.1,y) else kv) (vs.map λkv=>if kv.1=k then(kv.1,u) else kv):=by
 unfold KV at r⊢;induction r with
 |nil=>exact .nil
 | @cons p q ps qs h t ih=>
   rw[Sa,Sa];refine .cons ?_ ih;obtain⟨h1,h2⟩:=h;by_cases e:p.1=k
   ·rw[Yg e,Yg (h1.symm.trans e)];exact⟨h1,ry⟩
   ·rw[Yh e,Yh (λz=>e (h1.trans z))];exact⟨h1,h2⟩
theorem KV.put{kvs:List (κ×V)}{vs:List (κ×Value)}(r:KV kvs vs)(k:κ){y:V}{u:Value}(ry:RelV y u):KV (putK kvs k y) (stored vs k u):=by
 unfold putK stored;rw[r.any k];by_cases e:(vs.any λkv=>decide (kv.1=k))=true
 ·rw[Yg e,Yg e];exact r.repl k ry
 ·rw[Yh e,Yh e];exact Paired.snoc r ⟨rfl,ry⟩
theorem KV.keys{kvs:List (κ×V)}{vs:List (κ×Value)}(r:KV kvs vs):kvs.map (·.1)=vs.map (·.1):=by
 unfold KV at r;induction r with
 |nil=>rfl
 |cons h t ih=>rw[Sa,Sa,ih,h.1]
theorem KV.length{kvs:List (κ×V)}{vs:List (κ×Value)}(r:KV kvs vs):kvs.length=vs.length:=T4 r
end
theorem pz{P:SJ}{w:World}{k:Key}{u:Value}(r:RelV (kV k) u):(ba P w).is k u=true:=by
 cases k with
 |inl i=>obtain⟨t,e⟩:=(show∃t,u=Xk i t from r);subst e;exact vW P w i t
 |inr x=>obtain⟨t,e⟩:=(show∃t,u=Xj x t from r);subst e;exact vX P w x t
theorem rR{P:SJ}{w:World}:∀{ks:List Key}{us:List Value},Vals (ks.map kV) us->ItemsAre (ba P w) ks us
 |[],_,r=>by rw[UB] at r;cases r;exact .nil
 |k::ks,_,r=>by
  rw[Sa] at r;cases r with
  |cons h t=>exact .cons (pz h) (rR t)
abbrev KT(H:Hp):List (List Key×V)->List (List Key×Addr×Value)->Prop:=Wz λp q=>p.1=q.1/\H q.2.1=some (.tup (p.1.map kV))/\RelV p.2 q.2.2
theorem KT.val{H:Hp}{kvs:List (List Key×V)}{xs:List (List Key×Addr×Value)}(r:KT H kvs xs)(k:List Key):RelO (eS kvs k) ((atKey xs k).map (·.2)):=by
 induction r with
 |nil=>exact TZ
 | @cons p q ps qs h t ih=>
   obtain⟨h1,_,h2⟩:=h;by_cases e:p.1=k
   ·have e':q.1=k:=h1.symm.trans e;have b:atKey (q::qs) k=some q.2:=by simp[atKey,UG,e']
    rw[jr e,b];exact h2
   ·have e':¬q.1=k:=λz=>e (h1.trans z);have b:atKey (q::qs) k=atKey qs k:=by simp[atKey,UG,e']
    rw[jq e,b];exact ih
theorem KT.repl{H:Hp}{kvs:List (List Key×V)}{xs:List (List Key×Addr×Value)}(r:KT H kvs xs)(k:List Key){y:V}{u:Value}(ry:RelV y u):
 KT H (kvs.map λkv=>if kv.1=k then(kv.1,y) else kv) (xs.map (putAt k u)):=by
 induction r with
 |nil=>exact .nil
 | @cons p q ps qs h t ih=>
   rw[Sa,Sa];refine .cons ?_ ih;obtain⟨h1,h2,h3⟩:=h;unfold putAt;by_cases e:p.1=k
   ·rw[Yg e,Yg (h1.symm.trans e)];exact⟨h1,h2,ry⟩
   ·rw[Yh e,Yh (λz=>e (h1.trans z))];exact⟨h1,h2,h3⟩
theorem KT.put{H:Hp}{kvs:List (List Key×V)}{xs:List (List Key×Addr×Value)}(r:KT H kvs xs)(k:List Key){b:Addr}{y:V}{u:Value}(hb:H b=some (.tup (k.map kV)))(ry:RelV y u):
 KT H (putK kvs k y) (VH xs k b u):=by
 have e:(kvs.any λkv=>decide (kv.1=k))=(atKey xs k).isSome:=by
  rw[jo,(r.val k).isSome_eq,Wc]
 unfold putK VH;rw[e];by_cases q:(atKey xs k).isSome=true
 ·rw[Yg q,Yg q];exact r.repl k ry
 ·rw[Yh q,Yh q];exact Paired.snoc r ⟨rfl,hb,ry⟩
theorem KT.keeps{H H':Hp}{kvs:List (List Key×V)}{xs:List (List Key×Addr×Value)}(r:KT H kvs xs)(ht:∀b ys,H b=some (.tup ys)->H' b=some (.tup ys)):KT H' kvs xs:=
 Paired.mapP r λ_ _ z=>⟨z.1,ht _ _ z.2.1,z.2.2⟩
section
variable{P:SJ}{w:World}{H:Hp}{h:Heap}{a:Addr}
theorem Ha{u:HO}(ok:HOk P w H h)(e:Rd H a u):ObjOk P w H h a u:=e.ok ok
theorem o5{kvs:List (Key×V)}(ok:HOk P w H h)(e:Rd H a (.dK kvs)):kvs.length<=Sv/\(a==Tx)=false/\∃vs,KV kvs vs/\h.DictOf (ba P w) a vs:=
 show ObjOk P w H h a (.dK kvs) from Ha ok e
theorem B0{kvs:List (Key×V)}(ok:HOk P w H h)(e:H a=some (.dK kvs)):kvs.length<=Sv/\(a==Tx)=false/\∃vs,KV kvs vs/\h.DictOf (ba P w) a vs:=o5 ok (.inl e)
theorem lY{ks:List Key}(ok:HOk P w H h)(e:H a=some (.tup (ks.map kV))):(Ui (ba P w)).is h ks a:=by
 obtain⟨_,aS,r,o,h1,h2,n,h3⟩:=(show ObjOk P w H h a (.tup (ks.map kV)) from ok a _ e)
 exact⟨o,aS.toArray,n,h1,h2,h3,by simpa using rR r⟩
theorem o6{kvs:List (List Key×V)}(ok:HOk P w H h)(e:Rd H a (.dT kvs)):kvs.length<=Sv/\(a==Tx)=false/\
 ∃xs,KT H kvs xs/\h.DictOfH (Ui (ba P w)) a xs:=by
 obtain⟨z,y,xs,r,o,es,ep,h1,h2,h3,h4,h5⟩:=(show ObjOk P w H h a (.dT kvs) from Ha ok e)
 refine⟨z,y,xs,r,o,es,ep,h1,h2,h3,h4,λx hx=>?_,h5⟩;have all:∀{l:List (List Key×V)}{m:List (List Key×Addr×Value)},KT H l m->∀x∈m,(Ui (ba P w)).is h x.1 x.2.1:=by
  intro l m q;induction q with
  |nil=>intro x hx;exact nomatch hx
  | @cons p q ps qs hq t ih=>
    intro x hx;rcases Sf.mp hx with e | hx
    ·subst e;exact lY ok (by rw[<-hq.1];exact hq.2.1)
    ·exact ih x hx
 exact all r x hx
theorem B2{kvs:List (List Key×V)}(ok:HOk P w H h)(e:H a=some (.dT kvs)):kvs.length<=Sv/\(a==Tx)=false/\
 ∃xs,KT H kvs xs/\h.DictOfH (Ui (ba P w)) a xs:=o6 ok (.inl e)
end
def qL(H:Hp)(a:Addr)(y:V)(r:Option V):Prop:=
 (∃kvs k,Rd H a (.dK kvs)/\y=kV k/\r=eS kvs k)\/∃kvs k b,Rd H a (.dT kvs)/\y= .ref b/\H b=some (.tup (k.map kV))/\r=eS kvs k
def DPut(H:Hp)(a:Addr)(y v:V)(H':Hp):Prop:=
 (∃kvs k,H a=some (.dK kvs)/\y=kV k/\kvs.length<Sv/\H'=upd H a (.dK (putK kvs k v)))\/
 ∃kvs k b,H a=some (.dT kvs)/\y= .ref b/\H b=some (.tup (k.map kV))/\kvs.length<Sv/\H'=upd H a (.dT (putK kvs k v))
theorem DPut.k{H:Hp}{a:Addr}{kvs:List (Key×V)}{k:Key}{v:V}(e:H a=some (.dK kvs))(hl:kvs.length<Sv):DPut H a (kV k) v (upd H a (.dK (putK kvs k v))):= .inl ⟨kvs,k,e,rfl,hl,rfl⟩
theorem DPut.t{H:Hp}{a b:Addr}{kvs:List (List Key×V)}{k:List Key}{v:V}(e:H a=some (.dT kvs))(eb:H b=some (.tup (k.map kV)))(hl:kvs.length<Sv):
 DPut H a (.ref b) v (upd H a (.dT (putK kvs k v))):= .inr ⟨kvs,k,b,e,rfl,eb,hl,rfl⟩
section
variable{X:Cx}{f8:List (Addr×Obj)}{σ:St}{H:Hp}{s:R8}{a:Addr}{y v:V}{u r:Value}{o:Option V}{A:S1}{E:Value->R8->Prop}
theorem Inv.big(I:Inv X f8 σ H s):Tx<s.heap.objs.size:=by
 have h:SG<s.heap.objs.size:=(I.mod.glob.keeps I.bk).lt;exact UE (by decide) h
theorem Ao{Q:Value->R8->Prop}(hu:A.units+1<cLine)(I:Inv X f8 σ H s)(g:qL H a y (some v))(ry:RelV y u)(h:∀w' s',Inv X f8 σ H s'->RelV v w'->Q w' s'):
 wpAny (model X.prog X.w) A (V5 (.ref a) u) Q E s:=by
 rcases g with⟨kvs,k,e,ey,l⟩ | ⟨kvs,k,b,e,ey,eb,l⟩
 ·subst ey;obtain⟨z,hd,vs,rel,dd⟩:=o5 I.hok e;obtain⟨w',hw,zT⟩:=RelO.some_of (v:=v) (o:=Xg vs k) (by rw[l];exact rel.val k);exact wpAny_getItem_of (pz ry) dd.mapOf hw (h w' _ (I.tok _) zT)
 ·subst ey;cases (show u=SY b from ry);obtain⟨z,hd,xs,rel,dd⟩:=o6 I.hok e;obtain⟨w',hw,zT⟩:=RelO.some_of (v:=v) (o:=(atKey xs k).map (·.2)) (by rw[l];exact rel.val k);obtain⟨p,hp,Nk⟩:=W7.mp hw;refine wpAny_getItem_heap (Vr hu) (lY I.hok eb) dd hp ?_;rw[Nk];exact h w' _ (I.tok _) zT
theorem JU{Q:Value->R8->Prop}(hu:A.units+1<cLine)(I:Inv X f8 σ H s)(g:qL H a y o)(ry:RelV y u)(h:∀s',Inv X f8 σ H s'->Q (.bool o.isSome) s'):
 wpAny (model X.prog X.w) A (Te .In u (.ref a)) Q E s:=by
 rcases g with⟨kvs,k,e,ey,l⟩ | ⟨kvs,k,b,e,ey,eb,l⟩
 ·subst ey;obtain⟨z,hd,vs,rel,dd⟩:=o5 I.hok e;refine wpAny_in_of (pz ry) hd dd.mapOf ?_;rw[<-(rel.val k).isSome_eq,<-l];exact h _ (I.tok _)
 ·subst ey;cases (show u=SY b from ry);obtain⟨z,hd,xs,rel,dd⟩:=o6 I.hok e;refine wpAny_in_heap (Vr hu) (lY I.hok eb) hd dd ?_;have q:=(rel.val k).isSome_eq;rw[Wc] at q;rw[<-q,<-l];exact h _ (I.tok _)
theorem EE{Q:Value->R8->Prop}(hu:A.units+1<cLine)(I:Inv X f8 σ H s)(g:qL H a y o)(ry:RelV y u)(h:∀s',Inv X f8 σ H s'->Q (.bool (!o.isSome)) s'):
 wpAny (model X.prog X.w) A (Te .NotIn u (.ref a)) Q E s:=by
 rcases g with⟨kvs,k,e,ey,l⟩ | ⟨kvs,k,b,e,ey,eb,l⟩
 ·subst ey;obtain⟨z,hd,vs,rel,dd⟩:=o5 I.hok e;refine wpAny_notIn_of (pz ry) hd dd.mapOf ?_;rw[<-(rel.val k).isSome_eq,<-l];exact h _ (I.tok _)
 ·subst ey;cases (show u=SY b from ry);obtain⟨z,hd,xs,rel,dd⟩:=o6 I.hok e;refine wpAny_notIn_heap (Vr hu) (lY I.hok eb) hd dd ?_;have q:=(rel.val k).isSome_eq;rw[Wc] at q;rw[<-q,<-l];exact h _ (I.tok _)
theorem jv{h':Heap}{t':Nat}{ob:HO}(I:Inv X f8 σ H s)(mu:JL (H a))(hs:UD a s.heap h')(he:∃q,h'.get? a=some q)(new:ObjOk X.prog X.w (upd H a ob) h' a ob):
 Inv X f8 σ (upd H a ob) {s with heap:=h',toks:=t'}:=
 I.write (x:=a) (e:=a) mu (.inl rfl) (λb q hb z=>(hs.2 b hb).trans z) he new
theorem xK{P:SJ}{w:World}{H':Hp}{h':Heap}{kvs:List (Key×V)}{vs:List (Key×Value)}(z:kvs.length<=Sv)(hd:(a==Tx)=false)(rel:KV kvs vs)(dd:h'.DictOf (ba P w) a vs):
 ObjOk P w H' h' a (.dK kvs):=⟨z,hd,vs,rel,dd⟩
theorem Ap{H':Hp}{Q:Unit->R8->Prop}(hu:A.units+1<cLine)(I:Inv X f8 σ H s)(g:DPut H a y v H')(ry:RelV y u)(rv:RelV v r)(h:∀s',Inv X f8 σ H' s'->Q () s'):
 wpAny (model X.prog X.w) A (setItem (.ref a) u r) Q E s:=by
 rcases g with⟨kvs,k,e,ey,l,eH⟩ | ⟨kvs,k,b,e,ey,eb,l,eH⟩
 ·subst ey eH;obtain⟨z,hd,vs,rel,dd⟩:=B0 I.hok e;have hz:vs.length<=Sv:=by rw[<-rel.length];exact z
  have hl:(putK kvs k v).length<=Sv:=by have:=dP kvs k v;omega
  refine wpAny_setItem_pairs (hsz:=hz) (pz ry) dd λh' zb hs=>h _ ?_;have he:∃q,h'.get? a=some q:=let ⟨q,_,_,hq,_⟩:=zb;⟨q,hq⟩
  exact jv I (by rw[e];exact TZ) hs he (xK hl hd (rel.put k rv) zb)
 ·subst ey eH;cases (show u=SY b from ry);obtain⟨z,hd,xs,rel,dd⟩:=B2 I.hok e;have hz:xs.length<=Sv:=by rw[<-T4 rel];exact z
  have hl:(putK kvs k v).length<=Sv:=by have:=dP kvs k v;omega
  refine wpAny_setItem_heap (hsz:=hz) (Vr hu) (lY I.hok eb) dd λh' zb hs=>h _ ?_;obtain⟨q,es,ep,hq,h2,h3,h4,_,h5⟩:=zb;refine jv I (by rw[e];exact TZ) hs ⟨q,hq⟩ ⟨hl,hd,_,(rel.put k eb rv).keeps λc ys ec=>?_,q,es,ep,hq,h2,h3,h4,h5⟩;rw[ax (CP ec e (λz=>nomatch z))];exact ec
end
def Hg(i:Expr):Prop:=∀ov iv,subscripted i false ov iv=operate [ov,iv] (V5 ov iv)
theorem Gn{prog:SJ}{w:World}{A:S1}{E:Value->R8->Prop}{s:R8}{env:Env}{value slice:Expr}{pos:Pos}{T id:String}{Q:Value->R8->Prop}
 (hl:typeLookup (.type T) "__getitem__"=pure (some (.builtin id)))(hs:Hg slice)
 (h:wpAny (model prog w) A (eval value env) (λo v4=>wpAny (model prog w) A (eval slice env) (λi v1=>v1.TypeIs o T/\wpAny (model prog w) A (V5 o i) Q E v1) E v4) E s):
 wpAny (model prog w) A (eval (.Subscript value slice pos) env) Q E s:=by
 refine Subscript_ (Ti h (λo v4 Yp=>Ti Yp (λi v1 Yt=>?_) λ_ _ x=>x) λ_ _ x=>x);obtain⟨hT,Yt⟩:=Yt;unfold XQ;refine R3 ?_;rw[getitemInPython_of_ne hT.not_modules];refine R3 (Xf hT hl ?_);have fin:wpAny (model prog w) A (subscripted slice false o i) (λr Yq=>wpAny (model prog w) A (letTemporaryGo value o r>>=λ_=>pure r) Q E Yq) E v1:=by
  rw[hs o i];exact wpAny_operating (Ti Yt (λr Yq Yu=>R3 (wpAny_letTemporaryGo (R9 Yu))) λ_ _ x=>x)
 first
  |exact R9 (R3 fin)
  |exact R3 (R9 (R3 fin))
  |exact R3 fin
theorem vy{X:Cx}{f8:List (Addr×Obj)}{σ:St}{H:Hp}{s:R8}{a:Addr}{y:V}{o:Option V}(I:Inv X f8 σ H s)(g:qL H a y o):s.TypeIs (.ref a) "dict":=by
 rcases g with⟨kvs,k,e,_,_⟩ | ⟨kvs,k,b,e,_,_,_⟩
 ·obtain⟨_,_,vs,_,dd⟩:=o5 I.hok e;exact dd.typeIs
 ·obtain⟨_,_,xs,_,dd⟩:=o6 I.hok e;exact dd.typeIs
def LD(td ty:TE):TE:=λσ H Q=>td σ H λx H1=>ty σ H1 λy H2=>∃a v,x= .ref a/\qL H2 a y (some v)/\Q v H2
def N2(ty td:TE):TE:=λσ H Q=>ty σ H λy H1=>td σ H1 λx H2=>∃a o,x= .ref a/\qL H2 a y o/\Q (.bl o.isSome) H2
def Hb(td ty tv:TE):TS:=λD σ H=>tv σ H λv H1=>td σ H1 λx H2=>ty σ H2 λy H3=>∃a H4,x= .ref a/\DPut H3 a y v H4/\D.nx σ H4
section
variable{X:Cx}{o i value:Expr}{pos pos':Pos}{td ty tv:TE}
theorem FO(hu:X.A.units+1<cLine)(ho:PE X o td)(hi:PE X i ty)(hs:Hg i):PE X (.Subscript o i pos) (LD td ty):=by
 intro f8 s σ H Q I h;refine Gn PySem.F.slot_dict_getitem.lookup hs (bX (ho f8 s σ H _ I h) λu s1 ⟨x,H1,I1,rx,q1⟩=>bX (hi f8 s1 σ H1 _ I1 q1) λiv s2 ⟨y,H2,I2,ry,a,v,ex,g,q2⟩=>?_);subst ex;obtain rfl:u=SY a:=rx;exact⟨vy I2 g,Ao hu I2 g ry λw' s3 I3 zT=>⟨v,H2,I3,zT,q2⟩⟩
theorem IF(hu:X.A.units+1<cLine)(hi:PE X i ty)(ho:PE X o td):PC X .In i o (N2 ty td):=by
 intro f8 s σ H Q I h;refine bX (hi f8 s σ H _ I h) λiv s1 ⟨y,H1,I1,ry,q1⟩=>bX (ho f8 s1 σ H1 _ I1 q1) λu s2 ⟨x,H2,I2,rx,a,ov,ex,g,q2⟩=>?_;subst ex;obtain rfl:u=SY a:=rx;exact JU hu I2 g ry λs3 I3=>⟨.bl ov.isSome,H2,I3,rfl,q2⟩
theorem zN(hu:X.A.units+1<cLine)(ho:PE X o td)(hi:PE X i ty)(hv:PE X value tv)(hs:Vg value (some (.Subscript o i pos')) pos.line X.env=pure false):
 PS X (.Assign [.Subscript o i pos'] value pos) (Hb td ty tv):=by
 intro f8 s σ H D I h;refine wpAny_Assign_Subscript (bX (hv f8 s σ H _ I h) λr s1 ⟨v,H1,I1,rv,q1⟩=>bX (ho f8 s1 σ H1 _ I1 q1) λu s2 ⟨x,H2,I2,rx,q2⟩=>bX (hi f8 s2 σ H2 _ I2 q2) λiv s3 ⟨y,H3,I3,ry,a,H4,ex,g,q3⟩=>?_) hs;subst ex;obtain rfl:u=SY a:=rx;exact Ap hu I3 g ry rv λs4 I4=>⟨σ,H4,I4,q3⟩
end
theorem BZ{P:SJ}{w:World}{H:Hp}(h:Heap)(hb:Tx<h.objs.size):ObjOk P w H (h.push {cls:= .type "dict",data:= .dict #[]}) h.objs.size (.dK []):=
 ⟨SM _,Yn.mpr (S9 (SH hb)),[], .nil,Heap.DictOf.new h⟩
theorem vA{P:SJ}{w:World}{H:Hp}(h:Heap)(hb:Tx<h.objs.size):ObjOk P w H (h.push {cls:= .type "dict",data:= .dict #[]}) h.objs.size (.dT []):=
 ⟨SM _,Yn.mpr (S9 (SH hb)),[], .nil,_,#[],0,Sx _ rfl,⟨rfl,rfl,rfl⟩,rfl,rfl,Us⟩
def D8:TE:=λ_ H Q=>∀p,H p=none->Q (.ref p) (upd H p (.dK []))
def Jo:TE:=λ_ H Q=>∀p,H p=none->Q (.ref p) (upd H p (.dT []))
section
variable{X:Cx}{pos:Pos}
theorem wu:PE X (.Dict [] [] pos) D8:=λf8 s σ H Q I h=>
 wpAny_Dict_empty ⟨.ref s.heap.objs.size,_,I.laid (a:=s.heap.objs.size) (o:= .dK []) (t':=s.toks) (λ_ _ q=>R7 _ q) (R_ _) (BZ s.heap I.big),rfl,h _ (I.hok.fresh (R_ _))⟩
theorem Dp:PE X (.Dict [] [] pos) Jo:=λf8 s σ H Q I h=>
 wpAny_Dict_empty ⟨.ref s.heap.objs.size,_,I.laid (a:=s.heap.objs.size) (o:= .dT []) (t':=s.toks) (λ_ _ q=>R7 _ q) (R_ _) (vA s.heap I.big),rfl,h _ (I.hok.fresh (R_ _))⟩
end
def D_:List (TE×TE)->St->Hp->(List (V×V)->Hp->Prop)->Prop
 |[],_,H,Q=>Q [] H
 |(tk,tv)::r,σ,H,Q=>tk σ H λx H1=>tv σ H1 λy H2=>D_ r σ H2 λps H3=>Q ((x,y)::ps) H3
abbrev VV:List (V×V)->List (Value×Value)->Prop:=Wz λp q=>RelV p.1 q.1/\RelV p.2 q.2
def My(X:Cx)(pos:Pos)(keys:List (Option Expr))(values:List Expr)(Mr:List (TE×TE)):Prop:=
 ∀(f8:List (Addr×Obj)) (s:R8) (σ:St) (H:Hp) (Q:List (V×V)->Hp->Prop),Inv X f8 σ H s->D_ Mr σ H Q->
  wpAny (model X.prog X.w) X.A (evalPairs (pairTrees keys values X.env pos)) (λvs s'=>∃ps H',Inv X f8 σ H' s'/\VV ps vs/\Q ps H') X.xe s
theorem FV{X:Cx}{pos:Pos}:My X pos [] [] []:=λf8 s σ H Q I h=>pairTrees_nil_walk ⟨[],H,I, .nil,h⟩
theorem Dw{X:Cx}{pos:Pos}{k v:Expr}{ks:List (Option Expr)}{vs:List Expr}{tk tv:TE}{Mr:List (TE×TE)}(hk:PE X k tk)(hv:PE X v tv)(hr:My X pos ks vs Mr):
 My X pos (some k::ks) (v::vs) ((tk,tv)::Mr):=λf8 s σ H Q I h=>
 pairTrees_cons_walk (bX (hk f8 s σ H _ I h) λu s1 ⟨x,H1,I1,rx,q1⟩=>bX (hv f8 s1 σ H1 _ I1 q1) λw2 s2 ⟨y,H2,I2,ry,q2⟩=>
  bX (hr f8 s2 σ H2 _ I2 q2) λws s3 ⟨ps,H3,I3,rel,q3⟩=>⟨(x,y)::ps,H3,I3, .cons ⟨rx,ry⟩ rel,q3⟩)
structure M1 (X:Cx) (o:Expr) (m:Str) (T0:Pos) (e:Expr) (bh:Pos):Prop where
 base:Uv o m X.env (eval o X.env)=eval o X.env
 few:((Uq bh (Su [e] X.env)).all (λx=>!x.1)&&(Wb bh (U0 [] X.env)).all (λx=>x.1.isSome)
  &&decide (([e]:List Expr).length+([]:List UQ).length+(if ([]:List UQ).isEmpty then 0 else 1)<30))=true
 line:(T0.endLine==bh.line)=true
 trees:Uq bh (Su [e] X.env)=[(false,eval e X.env)]
structure M2 (X:Cx) (o:Expr) (m:Str) (T0:Pos) (e f:Expr) (bh:Pos):Prop where
 base:Uv o m X.env (eval o X.env)=eval o X.env
 few:((Uq bh (Su [e,f] X.env)).all (λx=>!x.1)&&(Wb bh (U0 [] X.env)).all (λx=>x.1.isSome)
  &&decide (([e,f]:List Expr).length+([]:List UQ).length+(if ([]:List UQ).isEmpty then 0 else 1)<30))=true
 line:(T0.endLine==bh.line)=true
 trees:Uq bh (Su [e,f] X.env)=[(false,eval e X.env),(false,eval f X.env)]
def Mu(H:Hp)(a:Addr):Prop:=(∃kvs,Rd H a (.dK kvs))\/∃kvs,Rd H a (.dT kvs)
theorem Cy{X:Cx}{f8:List (Addr×Obj)}{σ:St}{H:Hp}{s:R8}{a:Addr}(I:Inv X f8 σ H s)(d:Mu H a):
 s.TypeIs (.ref a) "dict"/\(∀b,SY a= .ref b->∃ob,s.heap.get? b=some ob/\ob.dict=none)/\(a==Tx)=false:=by
 rcases d with⟨kvs,e⟩ | ⟨kvs,e⟩
 ·obtain⟨_,hd,vs,_,dd⟩:=o5 I.hok e;refine⟨dd.typeIs,λb q=>?_,hd⟩;cases q;obtain⟨ob,_,_,h1,h2,_⟩:=dd;exact⟨ob,h1,h2.2.1⟩
 ·obtain⟨_,hd,xs,_,dd⟩:=o6 I.hok e;refine⟨dd.typeIs,λb q=>?_,hd⟩;cases q;obtain⟨ob,_,_,h1,h2,_⟩:=dd;exact⟨ob,h1,h2.2.1⟩
end L2
namespace L3
open PySem PySem.Spec L2
open PyProof.Rows hiding St
inductive Rs (α:Type) where
 |ok (a:α) | ex (n:Nat)
def M(α:Type):=Option (Rs α)
def aa{α:Type}(a:α):M α:=some (.ok a)
def M.bind{α β:Type}(m:M α)(k:α->M β):M β:=match m with
 |none=>none
 |some (.ex n)=>some (.ex n)
 |some (.ok a)=>k a
def af{α:Type}:M α:=none
def oy{α:Type}(n:Nat):M α:=some (.ex n)
instance:Monad M where
 pure:=aa
 bind:=M.bind
@[simp] theorem av{α β:Type}(a:α)(k:α->M β):(aa a>>=k)=k a:=rfl
@[simp] theorem Hl{α β:Type}(a:α)(k:α->M β):((pure a:M α)>>=k)=k a:=rfl
@[simp] theorem Hm{α β:Type}(n:Nat)(k:α->M β):(oy n>>=k)=oy n:=rfl
@[simp] theorem Hn{α β:Type}(k:α->M β):((af:M α)>>=k)=af:=rfl
theorem M.cs{α:Type}(m:M α):m=af\/(∃n,m=oy n)\/∃a,m=aa a:=by
 match m with
 |none=>exact .inl rfl
 |some (.ex n)=>exact .inr (.inl ⟨n,rfl⟩)
 |some (.ok a)=>exact .inr (.inr ⟨a,rfl⟩)
theorem d_{α:Type}{a b:α}(h:aa a=aa b):a=b:=by
 have h:some (Rs.ok a)=some (Rs.ok b):=h;cases h;rfl
theorem ek{α:Type}{a:α}(h:af=aa a):False:=by
 have h:none=some (Rs.ok a):=h;cases h
theorem DJ{α:Type}{n:Nat}{a:α}(h:oy n=aa a):False:=by
 have h:some (Rs.ex n)=some (Rs.ok a):=h;cases h
theorem dr{α β:Type}{m:M α}{k:α->M β}{r:β}(h:(m>>=k)=aa r):∃a,m=aa a/\k a=aa r:=by
 rcases m.cs with e | ⟨n,e⟩ | ⟨a,e⟩
 ·subst e;exact(ek h).elim
 ·subst e;exact(DJ h).elim
 ·subst e;exact⟨a,rfl,h⟩
def JI(h:Heap)(ea D:Addr):Prop:=∃ox,h.get? ea=some ox/\ox.cls= .ref D
def PH(ea D:Addr):HO:= .ext λh=>JI h ea D
inductive D where
 |non | bl (b:Bool) | int (i:Int) | str (x:Str) | raw (v:V) | exc (C:Addr) | scr (l:List Int) | tup (l:List D) | lst (l:List D)
 |dct (ks:List (List Key)) (l:List D) | dci (ks:List Key) (l:List D)
instance:Inhabited D:=⟨.non⟩
def lim:Nat:=4096
theorem cY:lim<Sv:=by rw[UZ];decide
mutual
def Den(K:Se)(F:Hp):D->V->Prop
 | .non,v=>v= .non
 | .bl b,v=>v= .bl b
 | .int i,v=>v= .int i
 | .str x,v=>v= .str x/\x.length<=lim
 | .raw u,v=>v=u
 | .exc C,v=>∃ea,v= .ref ea/\F ea=some (PH ea C)
 | .scr ns,v=>∃a,v= .ref a/\SqL K F a (ns.map V.int)/\ns.length<=lim
 | .tup ds,v=>∃a vs,v= .ref a/\F a=some (.tup vs)/\DenL K F ds vs/\ds.length<=lim
 | .lst ds,v=>∃a vs,v= .ref a/\F a=some (.lst vs)/\DenL K F ds vs/\ds.length<=lim
 | .dct ks ds,v=>∃a ob vs,v= .ref a/\F a=some (.frz ob (.dT (ks.zip vs)))/\DenL K F ds vs/\ks.length=ds.length/\ds.length<=lim
 | .dci ks ds,v=>∃a ob vs,v= .ref a/\F a=some (.frz ob (.dK (ks.zip vs)))/\DenL K F ds vs/\ks.length=ds.length/\ds.length<=lim
def DenL(K:Se)(F:Hp):List D->List V->Prop
 |[],vs=>vs=[]
 |d::ds,vs=>∃v r,vs=v::r/\Den K F d v/\DenL K F ds r
end
theorem Same.rd{H H':Hp}{a:Addr}{u:HO}(e:Same H H')(h:Rd H a u):Rd H' a u:=by
 rcases h with h | ⟨o,h⟩
 ·exact .inl (e _ _ h)
 ·exact .inr ⟨o,e _ _ h⟩
theorem Same.tup{K:Se}{H H':Hp}{a:Addr}{xs:List V}(e:Same H H')(h:SqT K H a xs):SqT K H' a xs:=by
 rcases h with h | h
 ·exact .inl (Same.rd e h)
 ·exact .inr h
section
variable{K:Se}{F F':Hp}
mutual
theorem Den.mono(e:Same F F'):∀{d:D}{v:V},Den K F d v->Den K F' d v
 | .non,_,h=>h
 | .bl _,_,h=>h
 | .int _,_,h=>h
 | .str _,_,h=>h
 | .raw _,_,h=>h
 | .exc _,_,⟨a,h1,h2⟩=>⟨a,h1,e _ _ h2⟩
 | .scr _,_,⟨a,h1,h2,h3⟩=>⟨a,h1,Same.seq e h2,h3⟩
 | .tup _,_,⟨a,vs,h1,h2,h3,h4⟩=>⟨a,vs,h1,e _ _ h2,DenL.mono e h3,h4⟩
 | .lst _,_,⟨a,vs,h1,h2,h3,h4⟩=>⟨a,vs,h1,e _ _ h2,DenL.mono e h3,h4⟩
 | .dct _ _,_,⟨a,ob,vs,h1,h2,h3,h4⟩=>⟨a,ob,vs,h1,e _ _ h2,DenL.mono e h3,h4⟩
 | .dci _ _,_,⟨a,ob,vs,h1,h2,h3,h4⟩=>⟨a,ob,vs,h1,e _ _ h2,DenL.mono e h3,h4⟩
theorem DenL.mono(e:Same F F'):∀{ds:List D}{vs:List V},DenL K F ds vs->DenL K F' ds vs
 |[],_,h=>h
 |_::_,_,⟨v,r,h1,h2,h3⟩=>⟨v,r,h1,Den.mono e h2,DenL.mono e h3⟩
end
theorem DenL.nil:DenL K F [] []:=rfl
theorem DenL.cons{d:D}{v:V}{ds:List D}{vs:List V}(h:Den K F d v)(r:DenL K F ds vs):DenL K F (d::ds) (v::vs):=⟨v,vs,rfl,h,r⟩
theorem DenL.len:∀{ds:List D}{vs:List V},DenL K F ds vs->ds.length=vs.length
 |[],_,h=>by cases (show _=_ from h);rfl
 |_::ds,_,⟨v,r,h1,_,h3⟩=>by subst h1;rw[Sd,Sd,DenL.len h3]
theorem DenL.get:∀{ds:List D}{vs:List V}{i:Nat}{d:D},DenL K F ds vs->ds[i]? =some d->∃v,vs[i]? =some v/\Den K F d v
 |[],_,_,_,_,e=>by simp at e
 |d::ds,_,0,_,⟨v,r,h1,h2,h3⟩,e=>by subst h1;simp at e;subst e;exact⟨v,rfl,h2⟩
 |d::ds,_,i+1,_,⟨v,r,h1,h2,h3⟩,e=>by
  subst h1;obtain⟨w,e1,e2⟩:=DenL.get (i:=i) h3 (by simpa using e);exact⟨w,by simpa using e1,e2⟩
theorem DenL.at:∀{ds:List D}{vs:List V}{i:Nat}{v:V},DenL K F ds vs->vs[i]? =some v->∃d,ds[i]? =some d/\Den K F d v
 |[],_,_,_,h,e=>by cases (show _=_ from h);simp at e
 |d::ds,_,0,_,⟨v,r,h1,h2,h3⟩,e=>by subst h1;simp at e;subst e;exact⟨d,rfl,h2⟩
 |d::ds,_,i+1,_,⟨v,r,h1,h2,h3⟩,e=>by
  subst h1;obtain⟨w,e1,e2⟩:=DenL.at (i:=i) h3 (by simpa using e);exact⟨w,by simpa using e1,e2⟩
theorem DenL.append:∀{ds es:List D}{vs ws:List V},DenL K F ds vs->DenL K F es ws->DenL K F (ds++es) (vs++ws)
 |[],_,_,_,h,h'=>by cases (show _=_ from h);exact h'
 |d::ds,_,_,_,⟨v,r,h1,h2,h3⟩,h'=>by subst h1;exact⟨v,_,rfl,h2,DenL.append h3 h'⟩
theorem DenL.take:∀{ds:List D}{vs:List V}(n:Nat),DenL K F ds vs->DenL K F (ds.take n) (vs.take n)
 |_,_,0,_=>by simp[List.take];rfl
 |[],_,_+1,h=>by cases (show _=_ from h);rfl
 |d::ds,_,n+1,⟨v,r,h1,h2,h3⟩=>by subst h1;exact⟨v,_,rfl,h2,DenL.take n h3⟩
theorem DenL.drop:∀{ds:List D}{vs:List V}(n:Nat),DenL K F ds vs->DenL K F (ds.drop n) (vs.drop n)
 |_,_,0,h=>by simpa using h
 |[],_,_+1,h=>by cases (show _=_ from h);rfl
 |d::ds,_,n+1,⟨v,r,h1,h2,h3⟩=>by subst h1;exact DenL.drop n h3
theorem DenL.ints(ns:List Int):DenL K F (ns.map D.int) (ns.map V.int):=by
 induction ns with
 |nil=>rfl
 |cons n ns ih=>exact .cons rfl ih
end
structure Ext (F H F' H':Hp):Prop where
 hh:Same H H'
 ff:Same F F'
 fh:Same F' H'
 new:∀a,H a≠none->F' a=F a\/∃ts,H a=some (.tup ts)
theorem Ext.old{F H F' H':Hp}(e:Ext F H F' H'){a:Addr}{o:HO}(h:H a=some o)(hn:∀ts,o≠ .tup ts):F' a=F a:=by
 rcases e.new a (by rw[h];exact λz=>nomatch z) with q | ⟨ts,q⟩
 ·exact q
 ·rw[h] at q;cases q;exact Ym rfl (hn ts)
theorem Ext.refl{F H:Hp}(h:Same F H):Ext F H F H:=⟨Same.refl _,Same.refl _,h,λ_ _=> .inl rfl⟩
theorem Ext.trans{F H F' H' F'' H'':Hp}(a:Ext F H F' H')(b:Ext F' H' F'' H''):Ext F H F'' H'':=
 ⟨a.hh.trans b.hh,a.ff.trans b.ff,b.fh,λc hc=>by
  have:H' c≠none:=by
   cases q:H c with
   |none=>exact Ym q hc
   |some o=>rw[a.hh c o q];exact λz=>nomatch z
  rcases a.new c hc with p | p
  ·rcases b.new c this with q | ⟨ts,q⟩
   ·exact .inl (q.trans p)
   ·cases z:H c with
    |none=>exact Ym z hc
    |some o=>
     rw[a.hh c o z] at q;exact .inr ⟨ts,q⟩
  ·exact .inr p⟩
theorem Ext.lay{F H:Hp}{a:Addr}{o:HO}(h:Same F H)(n:H a=none):Ext F H (upd F a o) (upd H a o):=by
 have nf:F a=none:=Same.free h n;refine⟨λb u e=>?_,λb u e=>?_,λb u e=>?_,λb hb=>?_⟩
 ·rw[ax (bf e n)];exact e
 ·rw[ax (bf e nf)];exact e
 ·by_cases q:b=a
  ·subst q;rw[aH] at e⊢;exact e
  ·rw[ax q] at e⊢;exact h b u e
 ·exact .inl (ax λz=>hb (by rw[z];exact n))
theorem Ext.free{F H:Hp}{a:Addr}{o:HO}(h:Same F H)(n:H a=none):Ext F H F (upd H a o):=
 ⟨λb u e=>by rw[ax (bf e n)];exact e,Same.refl _,λb u e=>by rw[ax (bf (h b u e) n)];exact h b u e,λ_ _=> .inl rfl⟩
theorem Ext.tup{F H:Hp}{a:Addr}{ts:List V}(h:Same F H)(e:H a=some (.tup ts)):Ext F H (upd F a (.tup ts)) H:=by
 refine⟨Same.refl _,λb u q=>?_,λb u q=>?_,λb hb=>?_⟩
 ·by_cases z:b=a
  ·subst z;rw[aH,<-e];exact h b u q
  ·rw[ax z];exact q
 ·by_cases z:b=a
  ·subst z;rw[aH] at q;rw[e];exact q
  ·rw[ax z] at q;exact h b u q
 ·by_cases z:b=a
  ·subst z;exact .inr ⟨ts,e⟩
  ·exact .inl (ax z)
def WP(K:Se)(Xw:Nat->Hp->Prop)(F H:Hp)(m:M D)(Q:VK):Prop:=
 match m with
 |none=>False
 |some (.ok d)=>∀v H' F',Ext F H F' H'->Den K F' d v->Q v H'
 |some (.ex n)=>∀F' H',Ext F H F' H'->Xw n H'
def WPL(K:Se)(Xw:Nat->Hp->Prop)(F H:Hp)(m:M (List D))(Q:List V->Hp->Prop):Prop:=
 match m with
 |none=>False
 |some (.ok ds)=>∀vs H' F',Ext F H F' H'->DenL K F' ds vs->Q vs H'
 |some (.ex n)=>∀F' H',Ext F H F' H'->Xw n H'
def WPB(Xw:Nat->Hp->Prop)(F H:Hp)(m:M Bool)(Q:Bool->Hp->Prop):Prop:=
 match m with
 |none=>False
 |some (.ok b)=>∀H' F',Ext F H F' H'->Q b H'
 |some (.ex n)=>∀F' H',Ext F H F' H'->Xw n H'
section
variable{K:Se}{Xw:Nat->Hp->Prop}{F F' H H':Hp}{Q:VK}
theorem WP.ext{m:M D}(e:Ext F H F' H')(h:WP K Xw F H m Q):WP K Xw F' H' m Q:=by
 match m,h with
 |none,h=>exact h
 |some (.ok d),h=>exact λv H2 F2 e2 q=>h v H2 F2 (e.trans e2) q
 |some (.ex n),h=>exact λF2 H2 e2=>h F2 H2 (e.trans e2)
theorem WPL.ext{m:M (List D)}{Q:List V->Hp->Prop}(e:Ext F H F' H')(h:WPL K Xw F H m Q):WPL K Xw F' H' m Q:=by
 match m,h with
 |none,h=>exact h
 |some (.ok d),h=>exact λv H2 F2 e2 q=>h v H2 F2 (e.trans e2) q
 |some (.ex n),h=>exact λF2 H2 e2=>h F2 H2 (e.trans e2)
theorem WPB.ext{m:M Bool}{Q:Bool->Hp->Prop}(e:Ext F H F' H')(h:WPB Xw F H m Q):WPB Xw F' H' m Q:=by
 match m,h with
 |none,h=>exact h
 |some (.ok d),h=>exact λH2 F2 e2=>h H2 F2 (e.trans e2)
 |some (.ex n),h=>exact λF2 H2 e2=>h F2 H2 (e.trans e2)
theorem WP.fin{d:D}{v:V}(h:WP K Xw F H (aa d) Q)(e:Ext F H F' H')(q:Den K F' d v):Q v H':=h v H' F' e q
theorem WP.now{d:D}{v:V}(h:WP K Xw F H (aa d) Q)(s:Same F H)(q:Den K F d v):Q v H:=h v H F (Ext.refl s) q
theorem WP.bind{m:M D}{k:D->M D}(h:WP K Xw F H (m>>=k) Q):WP K Xw F H m λv H1=>∃F1 d,Ext F H F1 H1/\Den K F1 d v/\WP K Xw F1 H1 (k d) Q:=by
 match m,h with
 |none,h=>exact h
 |some (.ok d),h=>exact λv H2 F2 e2 q=>⟨F2,d,e2,q,WP.ext e2 (show WP K Xw F H (k d) Q from h)⟩
 |some (.ex n),h=>exact h
theorem WP.bindL{m:M (List D)}{k:List D->M D}(h:WP K Xw F H (m>>=k) Q):WPL K Xw F H m λvs H1=>∃F1 ds,Ext F H F1 H1/\DenL K F1 ds vs/\WP K Xw F1 H1 (k ds) Q:=by
 match m,h with
 |none,h=>exact h
 |some (.ok d),h=>exact λv H2 F2 e2 q=>⟨F2,d,e2,q,WP.ext e2 (show WP K Xw F H (k d) Q from h)⟩
 |some (.ex n),h=>exact h
theorem WP.bindB{m:M Bool}{k:Bool->M D}(h:WP K Xw F H (m>>=k) Q):WPB Xw F H m λb H1=>∃F1,Ext F H F1 H1/\WP K Xw F1 H1 (k b) Q:=by
 match m,h with
 |none,h=>exact h
 |some (.ok d),h=>exact λH2 F2 e2=>⟨F2,e2,WP.ext e2 (show WP K Xw F H (k d) Q from h)⟩
 |some (.ex n),h=>exact h
theorem WPB.bind{m:M D}{k:D->M Bool}{Q:Bool->Hp->Prop}(h:WPB Xw F H (m>>=k) Q):WP K Xw F H m λv H1=>∃F1 d,Ext F H F1 H1/\Den K F1 d v/\WPB Xw F1 H1 (k d) Q:=by
 match m,h with
 |none,h=>exact h
 |some (.ok d),h=>exact λv H2 F2 e2 q=>⟨F2,d,e2,q,WPB.ext e2 (show WPB Xw F H (k d) Q from h)⟩
 |some (.ex n),h=>exact h
theorem WPB.bindB{m:M Bool}{k:Bool->M Bool}{Q:Bool->Hp->Prop}(h:WPB Xw F H (m>>=k) Q):WPB Xw F H m λb H1=>∃F1,Ext F H F1 H1/\WPB Xw F1 H1 (k b) Q:=by
 match m,h with
 |none,h=>exact h
 |some (.ok d),h=>exact λH2 F2 e2=>⟨F2,e2,WPB.ext e2 (show WPB Xw F H (k d) Q from h)⟩
 |some (.ex n),h=>exact h
theorem WPL.bind{m:M D}{k:D->M (List D)}{Q:List V->Hp->Prop}(h:WPL K Xw F H (m>>=k) Q):WP K Xw F H m λv H1=>∃F1 d,Ext F H F1 H1/\Den K F1 d v/\WPL K Xw F1 H1 (k d) Q:=by
 match m,h with
 |none,h=>exact h
 |some (.ok d),h=>exact λv H2 F2 e2 q=>⟨F2,d,e2,q,WPL.ext e2 (show WPL K Xw F H (k d) Q from h)⟩
 |some (.ex n),h=>exact h
theorem WPL.bindL{m:M (List D)}{k:List D->M (List D)}{Q:List V->Hp->Prop}(h:WPL K Xw F H (m>>=k) Q):WPL K Xw F H m λvs H1=>∃F1 ds,Ext F H F1 H1/\DenL K F1 ds vs/\WPL K Xw F1 H1 (k ds) Q:=by
 match m,h with
 |none,h=>exact h
 |some (.ok d),h=>exact λv H2 F2 e2 q=>⟨F2,d,e2,q,WPL.ext e2 (show WPL K Xw F H (k d) Q from h)⟩
 |some (.ex n),h=>exact h
theorem WP.mono{m:M D}{Q':VK}(h:WP K Xw F H m Q)(k:∀v H',Q v H'->Q' v H'):WP K Xw F H m Q':=by
 match m,h with
 |none,h=>exact h
 |some (.ok d),h=>exact λv H2 F2 e2 q=>k _ _ (h v H2 F2 e2 q)
 |some (.ex n),h=>exact h
theorem WPL.mono{m:M (List D)}{Q Q':List V->Hp->Prop}(h:WPL K Xw F H m Q)(k:∀v H',Q v H'->Q' v H'):WPL K Xw F H m Q':=by
 match m,h with
 |none,h=>exact h
 |some (.ok d),h=>exact λv H2 F2 e2 q=>k _ _ (h v H2 F2 e2 q)
 |some (.ex n),h=>exact h
theorem WPB.mono{m:M Bool}{Q Q':Bool->Hp->Prop}(h:WPB Xw F H m Q)(k:∀v H',Q v H'->Q' v H'):WPB Xw F H m Q':=by
 match m,h with
 |none,h=>exact h
 |some (.ok d),h=>exact λH2 F2 e2=>k _ _ (h H2 F2 e2)
 |some (.ex n),h=>exact h
end
inductive C where
 |lst (l:List D) | dct (ks:List (List Key)) (l:List D) | dci (ks:List Key) (l:List D)
def C.d:C->D
 | .lst ds=> .lst ds
 | .dct ks ds=> .dct ks ds
 | .dci ks ds=> .dci ks ds
inductive Sl where
 |fz (d:D) | ow (c:C)
abbrev aU:=List (Option Sl)
def DenC(K:Se)(F:Hp):C->HO->Prop
 | .lst ds,o=>∃vs,o= .lst vs/\DenL K F ds vs/\ds.length<=lim
 | .dct ks ds,o=>∃vs,o= .dT (ks.zip vs)/\DenL K F ds vs/\ks.length=ds.length/\ds.length<=lim
 | .dci ks ds,o=>∃vs,o= .dK (ks.zip vs)/\DenL K F ds vs/\ks.length=ds.length/\ds.length<=lim
theorem DenC.mono{K:Se}{F F':Hp}(e:Same F F'):∀{c:C}{o:HO},DenC K F c o->DenC K F' c o
 | .lst _,_,⟨vs,h1,h2,h3⟩=>⟨vs,h1,DenL.mono e h2,h3⟩
 | .dct _ _,_,⟨vs,h1,h2,h3⟩=>⟨vs,h1,DenL.mono e h2,h3⟩
 | .dci _ _,_,⟨vs,h1,h2,h3⟩=>⟨vs,h1,DenL.mono e h2,h3⟩
theorem DenC.notup{K:Se}{F:Hp}:∀{c:C}{o:HO},DenC K F c o->∀ts,o≠ .tup ts
 | .lst _,_,⟨_,h1,_⟩,ts,z=>by rw[h1] at z;cases z
 | .dct _ _,_,⟨_,h1,_⟩,ts,z=>by rw[h1] at z;cases z
 | .dci _ _,_,⟨_,h1,_⟩,ts,z=>by rw[h1] at z;cases z
def nP(ob:Obj):HO->HO
 | .dT kvs=> .frz ob (.dT kvs)
 | .dK kvs=> .frz ob (.dK kvs)
 |o=>o
theorem DenC.den{K:Se}{F F':Hp}{a:Addr}{ob:Obj}:∀{c:C}{o:HO},DenC K F c o->Same F F'->F' a=some (nP ob o)->Den K F' c.d (.ref a)
 | .lst _,_,⟨vs,h1,h2,h3⟩,e,q=>by subst h1;exact⟨a,vs,rfl,q,DenL.mono e h2,h3⟩
 | .dct _ _,_,⟨vs,h1,h2,h3⟩,e,q=>by subst h1;exact⟨a,ob,vs,rfl,q,DenL.mono e h2,h3⟩
 | .dci _ _,_,⟨vs,h1,h2,h3⟩,e,q=>by subst h1;exact⟨a,ob,vs,rfl,q,DenL.mono e h2,h3⟩
def DenO(K:Se)(F H:Hp):Sl->V->Prop
 | .fz d,v=>Den K F d v
 | .ow c,v=>∃a o,v= .ref a/\H a=some o/\F a=none/\DenC K F c o
structure StE (K:Se) (F H:Hp) (σ:St) (Z:aU):Prop where
 fh:Same F H
 den:∀(i:Nat) (sl:Sl),Z[i]? =some (some sl)->∃v,σ[i]? =some (some v)/\DenO K F H sl v
theorem DenO.ext{K:Se}{F H F' H':Hp}(e:Ext F H F' H'):∀{sl:Sl}{v:V},DenO K F H sl v->DenO K F' H' sl v
 | .fz _,_,h=>Den.mono e.ff h
 | .ow _,_,⟨a,o,h1,h2,h3,h4⟩=>⟨a,o,h1,e.hh _ _ h2,by rw[e.old h2 h4.notup];exact h3,DenC.mono e.ff h4⟩
theorem StE.ext{K:Se}{F H F' H':Hp}{σ:St}{Z:aU}(s:StE K F H σ Z)(e:Ext F H F' H'):StE K F' H' σ Z:=
 ⟨e.fh,λi sl q=>let ⟨v,h1,h2⟩:=s.den i sl q;⟨v,h1,h2.ext e⟩⟩
abbrev DE:=aU->M D
abbrev DT:=aU->M Bool
abbrev DA:=aU->M (List D)
def tD(K:Se)(Xw:Nat->Hp->Prop)(δ:DE):TE:=λσ H Q=>∃F Z,StE K F H σ Z/\WP K Xw F H (δ Z) Q
def Mp(K:Se)(Xw:Nat->Hp->Prop)(δ:DT):TT:=λσ H Q=>∃F Z,StE K F H σ Z/\WPB Xw F H (δ Z) Q
def Pw(K:Se)(Xw:Nat->Hp->Prop)(δ:DA):TA:=λσ H Q=>∃F Z,StE K F H σ Z/\WPL K Xw F H (δ Z) Q
def PD(X:Cx)(Xw:Nat->Hp->Prop)(e:Expr)(δ:DE):Prop:=PE X e (tD X.K Xw δ)
def nO(X:Cx)(Xw:Nat->Hp->Prop)(e:Expr)(δ:DT):Prop:=PT X e (Mp X.K Xw δ)
def oe(X:Cx)(Xw:Nat->Hp->Prop)(es:List Expr)(δ:DA):Prop:=PA X es (Pw X.K Xw δ)
theorem PE.weak{X:Cx}{e:Expr}{t t':TE}(h:PE X e t)(k:∀σ H Q,t' σ H Q->t σ H Q):PE X e t':=λf8 s σ H Q I w=>h f8 s σ H Q I (k σ H Q w)
theorem PT.weak{X:Cx}{e:Expr}{t t':TT}(h:PT X e t)(k:∀σ H Q,t' σ H Q->t σ H Q):PT X e t':=λf8 s σ H Q I w=>h f8 s σ H Q I (k σ H Q w)
theorem PA.weak{X:Cx}{e:List Expr}{t t':TA}(h:PA X e t)(k:∀σ H Q,t' σ H Q->t σ H Q):PA X e t':=λpos f8 s σ H Q I w=>h pos f8 s σ H Q I (k σ H Q w)
def dV(i:Nat):DE:=λZ=>match Z[i]? with
 |some (some (.fz d))=>aa d
 |_=>af
def dC(d:D):DE:=λ_=>aa d
def d1(g:D->M D)(a:DE):DE:=λZ=>a Z>>=g
def d2(g:D->D->M D)(a b:DE):DE:=λZ=>a Z>>=λx=>b Z>>=λy=>g x y
def aN:DA:=λ_=>aa []
def aC(a:DE)(r:DA):DA:=λZ=>a Z>>=λx=>r Z>>=λxs=>aa (x::xs)
def dA(g:List D->M D)(a:DA):DE:=λZ=>a Z>>=g
def z_:D->M Bool
 | .bl b=>aa b
 |_=>af
def cP(a:DE):DT:=λZ=>a Z>>=z_
def Al(a b:DT):DT:=λZ=>a Z>>=λx=>if x then b Z else aa false
def oY(a b:DT):DT:=λZ=>a Z>>=λx=>if x then aa true else b Z
def cN(a:DT):DT:=λZ=>a Z>>=λx=>aa (!x)
def GC(c:DT)(a b:DE):DE:=λZ=>c Z>>=λx=>if x then a Z else b Z
def fB(a b:DE):DE:=λZ=>a Z>>=λx=>z_ x>>=λc=>if c then b Z else aa (.bl false)
def Am(a b:DE):DE:=λZ=>a Z>>=λx=>z_ x>>=λc=>if c then aa (.bl true) else b Z
def GD(a:DE):DE:=λZ=>a Z>>=λx=>z_ x>>=λc=>aa (.bl (!c))
section
variable{X:Cx}{Xw:Nat->Hp->Prop}{a b:Expr}{δa δb:DE}{pos:Pos}
theorem ae{i:Nat}{x:Str}(h:PE X (.Name x pos) (kr i)):PD X Xw (.Name x pos) (dV i):=PE.weak h λσ H Q ⟨F,Z,s,w⟩=>by
 unfold dV at w;split at w
 ·rename_i d e;obtain⟨v,h1,h2⟩:=s.den i _ e;exact⟨v,h1,WP.now w s.fh h2⟩
 ·exact w.elim
theorem gG{e:Expr}{d:D}{v:V}(h:PE X e (tC v))(hd:∀F,Den X.K F d v):PD X Xw e (dC d):=PE.weak h λσ H Q ⟨F,Z,s,w⟩=>WP.now w s.fh (hd F)
theorem aw{i j}:PD X Xw (.Constant (.int i) j pos) (dC (.int i)):=gG IP λ_=>rfl
theorem d9{i j}:PD X Xw (.Constant (.bool i) j pos) (dC (.bl i)):=gG G8 λ_=>rfl
theorem IJ{j}:PD X Xw (.Constant .none j pos) (dC .non):=gG IQ λ_=>rfl
theorem i4{x j}(h:x.length<=lim:=by decide):PD X Xw (.Constant (.str x) j pos) (dC (.str x)):=gG IU λ_=>⟨rfl,h⟩
def xy(K:Se)(r:R2)(g:D->D->M D):Prop:=∀(Xw:Nat->Hp->Prop) (F H:Hp) (x y:V) (dx dy:D) (Q:VK),Same F H->Den K F dx x->Den K F dy y->WP K Xw F H (g dx dy) Q->r x y H Q
theorem uY{r:R2}{g:D->D->M D}(hg:xy X.K r g):∀σ H Q,tD X.K Xw (d2 g δa δb) σ H Q->LJ r (tD X.K Xw δa) (tD X.K Xw δb) σ H Q:=λσ H Q ⟨F,Z,s,w⟩=>by
 refine⟨F,Z,s,WP.mono (WP.bind w) λv H1 ⟨F1,d,e1,q1,w1⟩=>?_⟩;refine⟨F1,Z,s.ext e1,WP.mono (WP.bind w1) λu H2 ⟨F2,d',e2,q2,w2⟩=>?_⟩;exact hg Xw F2 H2 v u d d' Q e2.fh (Den.mono e2.ff q1) q2 w2
theorem qf{op:Operator}{r:R2}{g:D->D->M D}(ho:OpR X (U9 op) r)(hg:xy X.K r g)(ha:PD X Xw a δa)(hb:PD X Xw b δb):PD X Xw (.BinOp a op b pos) (d2 g δa δb):=
 PE.weak (Le ho ha hb) (uY hg)
theorem Dh{op:CmpOp}{r:R2}{g:D->D->M D}(ho:OpR X (Te op) r)(hg:xy X.K r g)(ha:PD X Xw a δa)(hb:PD X Xw b δb)(hm:Th op b=false:=by first | exact CY _ | rfl):PD X Xw (.Compare a [op] [b] pos) (d2 g δa δb):=
 PE.weak (FN ho ha hb hm) (uY hg)
theorem f6{op:CmpOp}{r:R2}{g:D->D->M D}(ho:OpR X (Te op) r)(hg:xy X.K r g)(ha:PD X Xw a δa)(hb:PD X Xw b δb)(hm:Th op b=false:=by first | exact CY _ | rfl):nO X Xw (.Compare a [op] [b] pos) (cP (d2 g δa δb)):=
 PT.weak (FY ho ha hb hm) λσ H Q ⟨F,Z,s,w⟩=>by
  refine uY hg σ H _ ⟨F,Z,s,WP.mono (WPB.bind w) λv H1 ⟨F1,d,e1,q1,w1⟩=>?_⟩;cases d with
  |bl k=>exact⟨k,q1,w1 _ _ (Ext.refl e1.fh)⟩
  |_=>exact w1.elim
theorem zK{r:R2}{g:D->D->M D}(hr:JK X r)(hg:xy X.K r g)(ha:PD X Xw a δa)(hb:PD X Xw b δb)(hs:js b:=by intro _ _;rfl):PD X Xw (.Subscript a b pos) (d2 g δa δb):=
 PE.weak (Ld hr ha hb hs) (uY hg)
theorem ag:oe X Xw [] aN:=PA.weak ug λσ H Q ⟨F,Z,s,w⟩=>w [] H F (Ext.refl s.fh) rfl
theorem ab{es:List Expr}{δs:DA}(ha:PD X Xw a δa)(hr:oe X Xw es δs)(hs:Su (a::es) X.env=(false,eval a X.env)::Su es X.env:=by rfl):oe X Xw (a::es) (aC δa δs):=
 PA.weak (uf ha hr hs) λσ H Q ⟨F,Z,s,w⟩=>by
  refine⟨F,Z,s,WP.mono (WPL.bind w) λv H1 ⟨F1,d,e1,q1,w1⟩=>?_⟩;refine⟨F1,Z,s.ext e1,WPL.mono (WPL.bindL w1) λvs H2 ⟨F2,ds,e2,q2,w2⟩=>?_⟩;exact w2 _ _ _ (Ext.refl e2.fh) (.cons (Den.mono e2.ff q1) q2)
def cB(ds:List D):M D:=if ds.length<=lim then aa (.tup ds) else af
def de(ds:List D):M D:=if ds.length<=lim then aa (.lst ds) else af
theorem yf{ds:List D}{f:List D->D}{Q:VK}{F H:Hp}(w:WP X.K Xw F H (if ds.length<=lim then aa (f ds) else af) Q):ds.length<=lim/\WP X.K Xw F H (aa (f ds)) Q:=by
 split at w
 ·rename_i h;exact⟨h,w⟩
 ·exact w.elim
theorem eC{x1}{es:List Expr}{δs:DA}(h:oe X Xw es δs):PD X Xw (.Tuple es x1 pos) (dA cB δs):=PE.weak (IV h) λσ H Q ⟨F,Z,s,w⟩=>by
 refine⟨F,Z,s,WPL.mono (WP.bindL w) λvs H1 ⟨F1,ds,e1,q1,w1⟩=>?_⟩;obtain⟨hl,w1⟩:=yf (X:=X) w1;have hv:=q1.len;refine⟨by have:=cY;omega,λp hp=>WP.fin w1 (Ext.lay e1.fh hp) ⟨p,vs,rfl,aH,DenL.mono (Ext.lay e1.fh hp).ff q1,hl⟩⟩
theorem eV{es:List Expr}{δs:DA}(h:oe X Xw es δs):PD X Xw (.List es pos) (dA de δs):=PE.weak (Dt h) λσ H Q ⟨F,Z,s,w⟩=>by
 refine⟨F,Z,s,WPL.mono (WP.bindL w) λvs H1 ⟨F1,ds,e1,q1,w1⟩=>?_⟩;obtain⟨hl,w1⟩:=yf (X:=X) w1;have hv:=q1.len;refine⟨by have:=cY;omega,λp hp=>WP.fin w1 (Ext.lay e1.fh hp) ⟨p,vs,rfl,aH,DenL.mono (Ext.lay e1.fh hp).ff q1,hl⟩⟩
end
def ItD(K:Se)(F:Hp)(J:It)(ds:List D):Prop:=∀(F' H':Hp) (i:Nat),Same F F'->Same F' H'->
 (∀d,ds[i]? =some d->J.go i H'/\∀x H'',J.yld i H' x H''->∃F'',Ext F' H' F'' H''/\Den K F'' d x)/\(ds.length<=i->J.stop i H')
theorem ItD.mono{K:Se}{F F1:Hp}{J:It}{ds:List D}(h:ItD K F J ds)(e:Same F F1):ItD K F1 J ds:=λF' H' i s1 s2=>h F' H' i (e.trans s1) s2
def WPI(K:Se)(Xw:Nat->Hp->Prop)(F H:Hp)(m:M (List D))(R:It->Hp->Prop):Prop:=
 match m with
 |none=>False
 |some (.ok ds)=>∀J H' F',Ext F H F' H'->ItD K F' J ds->R J H'
 |some (.ex n)=>∀F' H',Ext F H F' H'->Xw n H'
def Px(K:Se)(Xw:Nat->Hp->Prop)(δ:DA):TI:=λσ H R=>∃F Z,StE K F H σ Z/\WPI K Xw F H (δ Z) R
def xq(X:Cx)(Xw:Nat->Hp->Prop)(tg iter:Expr)(δ:DA):Prop:=PI X tg iter (Px X.K Xw δ)
theorem PI.weak{X:Cx}{tg e:Expr}{t t':TI}(h:PI X tg e t)(k:∀σ H Q,t' σ H Q->t σ H Q):PI X tg e t':=λf8 s σ H Q I w=>h f8 s σ H Q I (k σ H Q w)
theorem WPI.bind{K:Se}{Xw:Nat->Hp->Prop}{F H:Hp}{m:M D}{k:D->M (List D)}{R:It->Hp->Prop}(h:WPI K Xw F H (m>>=k) R):
 WP K Xw F H m λv H1=>∃F1 d,Ext F H F1 H1/\Den K F1 d v/\WPI K Xw F1 H1 (k d) R:=by
 match m,h with
 |none,h=>exact h
 |some (.ok d),h=>
  refine λv H2 F2 e2 q=>⟨F2,d,e2,q,?_⟩
  have h:WPI K Xw F H (k d) R:=h;show WPI K Xw F2 H2 (k d) R
  match k d,h with
  |none,h=>exact h
  |some (.ok ds),h=>exact λJ H3 F3 e3 q3=>h J H3 F3 (e2.trans e3) q3
  |some (.ex n),h=>exact λF3 H3 e3=>h F3 H3 (e2.trans e3)
 |some (.ex n),h=>exact h
theorem WPI.bindL{K:Se}{Xw:Nat->Hp->Prop}{F H:Hp}{m:M (List D)}{k:List D->M (List D)}{R:It->Hp->Prop}(h:WPI K Xw F H (m>>=k) R):
 WPL K Xw F H m λv H1=>∃F1 d,Ext F H F1 H1/\DenL K F1 d v/\WPI K Xw F1 H1 (k d) R:=by
 match m,h with
 |none,h=>exact h
 |some (.ok d),h=>
  refine λv H2 F2 e2 q=>⟨F2,d,e2,q,?_⟩
  have h:WPI K Xw F H (k d) R:=h;show WPI K Xw F2 H2 (k d) R
  match k d,h with
  |none,h=>exact h
  |some (.ok ds),h=>exact λJ H3 F3 e3 q3=>h J H3 F3 (e2.trans e3) q3
  |some (.ex n),h=>exact λF3 H3 e3=>h F3 H3 (e2.trans e3)
 |some (.ex n),h=>exact h
def lstM:D->M (List D)
 | .lst ds=>aa ds
 |_=>af
def LM:D->M (List D)
 | .tup ds=>aa ds
 |_=>af
def eO(a:DE):DA:=λZ=>a Z>>=lstM
def oW(a:DE):DA:=λZ=>a Z>>=LM
theorem CC{K:Se}{F:Hp}{a:Addr}{vs:List V}{ds:List D}(h:SqL K F a vs)(hd:DenL K F ds vs):ItD K F (Mv K a) ds:=λF' H' i s1 s2=>by
 have hs:=Same.seq s2 (Same.seq s1 h);refine⟨λd e=>?_,λhl=>⟨vs,hs,by rw[<-hd.len];exact hl⟩⟩;obtain⟨v,e1,q⟩:=hd.get e;refine⟨⟨vs,v,hs,e1⟩,λx H'' y=>?_⟩;obtain⟨e2,y⟩:=y;subst e2;have:=y vs hs;rw[e1] at this;cases this;exact⟨F',Ext.refl s2,Den.mono s1 q⟩
theorem E_{K:Se}{F:Hp}{a:Addr}{vs:List V}{ds:List D}(h:SqT K F a vs)(hd:DenL K F ds vs):ItD K F (Mw K a) ds:=λF' H' i s1 s2=>by
 have hs:=Same.tup s2 (Same.tup s1 h);refine⟨λd e=>?_,λhl=>⟨vs,hs,by rw[<-hd.len];exact hl⟩⟩;obtain⟨v,e1,q⟩:=hd.get e;refine⟨⟨vs,v,hs,e1⟩,λx H'' y=>?_⟩;obtain⟨e2,y⟩:=y;subst e2;have:=y vs hs;rw[e1] at this;cases this;exact⟨F',Ext.refl s2,Den.mono s1 q⟩
def gO(lo:Int)(n:Nat):List D:=(Sn n).map λ(i:Nat)=>D.int (lo+(i:Int))
theorem rQ{K:Se}{F:Hp}(lo:Int)(n:Nat):ItD K F (JJ lo n) (gO lo n):=λF' H' i s1 s2=>by
 refine⟨λd e=>?_,λhl=>show n<=i by simpa[gO] using hl⟩;unfold gO at e;rw[Sj] at e;have hi:i<n:=by
  by_cases hi:i<n
  ·exact hi
  ·rw[UR (by simpa using hi)] at e;cases e
 rw[UA hi] at e;cases e;refine⟨hi,λx H'' y=>?_⟩;obtain⟨e2,y⟩:=y;subst e2 y;exact⟨F',Ext.refl s2,rfl⟩
section
variable{X:Cx}{Xw:Nat->Hp->Prop}{tg l:Expr}{δ:DE}{pos:Pos}
theorem cq(h:PD X Xw l δ):xq X Xw tg l (eO δ):=PI.weak (FR h) λσ H R ⟨F,Z,s,w⟩=>by
 refine⟨F,Z,s,WP.mono (WPI.bind w) λv H1 ⟨F1,d,e1,q1,w1⟩=>?_⟩;cases d with
 |lst ds=>
  obtain⟨a,vs,h1,h2,h3,h4⟩:=q1;exact⟨a,h1,⟨vs,Same.seq e1.fh (SqL.of h2)⟩,w1 _ _ _ (Ext.refl e1.fh) (CC (SqL.of h2) h3)⟩
 |_=>exact w1.elim
theorem oB(h:PD X Xw l δ):xq X Xw tg l (oW δ):=PI.weak (IZ h) λσ H R ⟨F,Z,s,w⟩=>by
 refine⟨F,Z,s,WP.mono (WPI.bind w) λv H1 ⟨F1,d,e1,q1,w1⟩=>?_⟩;cases d with
 |tup ds=>
  obtain⟨a,vs,h1,h2,h3,h4⟩:=q1;exact⟨a,h1,⟨vs,Same.tup e1.fh (SqT.of h2)⟩,w1 _ _ _ (Ext.refl e1.fh) (E_ (SqT.of h2) h3)⟩
 |_=>exact w1.elim
def iz:List D->M (List D)
 |[.int j]=>if -4096<=j/\j<=4096 then aa (gO 0 j.toNat) else af
 |_=>af
def sH:List D->M (List D)
 |[.int i, .int j]=>if (-4096<=i/\i<=4096)/\(-4096<=j/\j<=4096) then aa (gO i (j - i).toNat) else af
 |_=>af
theorem DenL.one{K:Se}{F:Hp}{d:D}{vs:List V}(h:DenL K F [d] vs):∃v,vs=[v]/\Den K F d v:=by
 obtain⟨v,r,h1,h2,h3⟩:=h;cases (show r=[] from h3);exact⟨v,h1,h2⟩
theorem DenL.two{K:Se}{F:Hp}{d d':D}{vs:List V}(h:DenL K F [d,d'] vs):∃v v',vs=[v,v']/\Den K F d v/\Den K F d' v':=by
 obtain⟨v,r,h1,h2,h3⟩:=h;obtain⟨v',h4,h5⟩:=h3.one;subst h4;exact⟨v,v',h1,h2,h5⟩
theorem eD{a:Expr}{δs:DA}{p:Pos}(hg:Gl X "range")(hm:X.mg "range"=none)(ha:oe X Xw [a] δs)(hs:Su [a] X.env=[(false,eval a X.env)]:=by rfl):xq X Xw tg (.Call (.Name "range" p) [a] [] pos) (λZ=>δs Z>>=iz):=
 PI.weak (A5 hg hm ha hs) λσ H R ⟨F,Z,s,w⟩=>by
  refine⟨F,Z,s,WPL.mono (WPI.bindL w) λvs H1 ⟨F1,ds,e1,q1,w1⟩=>?_⟩;unfold iz at w1;split at w1
  ·rename_i j;obtain⟨v,h1,h2⟩:=q1.one;cases (show v=_ from h2);split at w1
   ·exact⟨j,h1,by omega,by omega,w1 _ _ _ (Ext.refl e1.fh) (rQ 0 _)⟩
   ·exact w1.elim
  ·exact w1.elim
theorem qi{a b:Expr}{δs:DA}{p:Pos}(hg:Gl X "range")(hm:X.mg "range"=none)(ha:oe X Xw [a,b] δs)(hs:Su [a,b] X.env=[(false,eval a X.env),(false,eval b X.env)]:=by rfl)
 (JD:Su [b] X.env=[(false,eval b X.env)]:=by rfl):xq X Xw tg (.Call (.Name "range" p) [a,b] [] pos) (λZ=>δs Z>>=sH):=
 PI.weak (A6 hg hm ha hs JD) λσ H R ⟨F,Z,s,w⟩=>by
  refine⟨F,Z,s,WPL.mono (WPI.bindL w) λvs H1 ⟨F1,ds,e1,q1,w1⟩=>?_⟩;unfold sH at w1;split at w1
  ·rename_i i j;obtain⟨v,v',h1,h2,h3⟩:=q1.two;cases (show v=_ from h2);cases (show v'=_ from h3);split at w1
   ·exact⟨i,j,h1,⟨by omega,by omega,by omega,by omega⟩,w1 _ _ _ (Ext.refl e1.fh) (rQ i _)⟩
   ·exact w1.elim
  ·exact w1.elim
end
def di(tg N:List Str):List Str:=N.map λy=>if tg.contains y then y++(" ":Str) else y
def jP(X:Cx)(scope:Scope)(tn:List Str)(f8:List (Addr×Obj))(cl:List (Str×Addr))(C:Addr)(fp:List Addr)(v1:R8)(H:Hp):Cx:=
 {X with N:=tn++di tn X.N,YD:=v1,YC:=H,env:=compEnvC scope cl C X.env,outer:=X.stack,ex:=fp,fn:=λ_=>false,pn:=X.pn++f8,xe:=λ_ _=>False}
structure CompSc (X:Cx) (scope:Scope) (tn:List Str):Prop where
 kind:scope.kind= .function
 nocell:∀y∈scope.names,y.2≠ .cell
 names:∀y∈scope.names,y.2= .local->scope.names.lookup y.1=some .local
 frees:∀y∈scope.names,y.2= .free->X.env.kindOf y.1=some .cell\/X.env.kindOf y.1=some .free
 vis:∀p∈(di tn X.N).zip X.N,scope.names.lookup p.1=none\/(p.1=p.2/\scope.names.lookup p.1=some .free)
theorem j3{env:Env}:∀(names:List (Str×Vs)) (P3:List (Str×Addr)),(∀y∈names,y.2= .free->∃c,env.cells.lookup y.1=some c)->
 (∀x c,P3.lookup x=some c->env.cells.lookup x=some c)->
 ∃cl,(forIn names P3 (λ(x:Str×Vs) (r:List (Str×Addr))=>do
   let __x:=x
   if (__x.2==X_)=true then do let c<-cellOf env __x.1;pure (Tg ((__x.1,c)::r)) else pure (Tg r)):Sem (List (Str×Addr)))=pure cl/\
  (∀x c,cl.lookup x=some c->env.cells.lookup x=some c)/\(∀x c,P3.lookup x=some c->∃c',cl.lookup x=some c')/\(∀x,names.lookup x=some .free->∃c,cl.lookup x=some c)
 |[],P3,_,h2=>⟨P3,rfl,h2,λx c e=>⟨c,e⟩,λx e=>by simp at e⟩
 |(n,k)::r,P3,h1,h2=>by
  by_cases hk:k= .free
  ·subst hk;obtain⟨c,hc⟩:=h1 (n, .free) R1 rfl;obtain⟨cl,e,a1,a2,a3⟩:=j3 r ((n,c)::P3) (λy hy=>h1 y (R4 _ hy)) (λx c' q=>by
    rw[TQ] at q;split at q
    ·rename_i hx;cases q;rw[show x=n from by simpa using hx];exact hc
    ·exact h2 x c' q)
   refine⟨cl,?_,a1,λx c' q=>?_,λx q=>?_⟩
   ·rw[VG];have:cellOf env n=pure c:=by unfold cellOf;rw[hc]
    simp only[beq_self_eq_true,if_true,this,pure_bind];exact e
   ·by_cases hx:x=n
    ·subst hx;exact a2 x c (by simp[TQ])
    ·exact a2 x c' (by rw[TQ,show (x==n)=false from by simpa using hx];exact q)
   ·rw[TQ] at q;split at q
    ·rename_i hx;exact a2 x c (by rw[TQ,hx])
    ·exact a3 x q
  ·obtain⟨cl,e,a1,a2,a3⟩:=j3 r P3 (λy hy=>h1 y (R4 _ hy)) h2;refine⟨cl,?_,a1,a2,λx q=>?_⟩
   ·rw[VG];have:((k==X_)=true)=False:=by simpa using hk
    simp only[this,if_false,pure_bind];exact e
   ·rw[TQ] at q;split at q
    ·cases q;exact Ym rfl hk
    ·exact a3 x q
theorem oU{scope:Scope}{env:Env}(h:∀y∈scope.names,y.2= .free->∃c,env.cells.lookup y.1=some c):
 ∃cl,closureFor scope env=pure cl/\(∀x c,cl.lookup x=some c->env.cells.lookup x=some c)/\(∀x,scope.names.lookup x=some .free->∃c,cl.lookup x=some c):=by
 obtain⟨cl,e,a1,_,a3⟩:=j3 (env:=env) scope.names [] h (λx c q=>by simp at q);refine⟨cl,?_,a1,a3⟩;unfold closureFor;show (forIn scope.names [] _>>=λr=>pure r)=_;rw[bind_pure];exact e
def noex{α:Type}:M α->M α
 |some (.ok a)=>some (.ok a)
 |_=>none
def dh(f:D->M (Option D)):List D->M (List D)
 |[]=>aa []
 |d::ds=>f d>>=λo=>dh f ds>>=λr=>aa (match o with | some y=>y::r | none=>r)
def Py(n:Nat):D->M (List D):=λd=>match n,d with
 |0,d=>aa [d]
 |n, .tup ds=>if ds.length=n then aa ds else af
 |_,_=>af
def gq(n:Nat)(δt:DT)(δe:DE)(Z:aU):D->M (Option D):=λd=>
 Py n d>>=λts=>δt (ts.map (λt=>some (Sl.fz t))++Z)>>=λb=>if b then δe (ts.map (λt=>some (Sl.fz t))++Z)>>=λy=>aa (some y) else aa none
def bx(n:Nat)(δi:DA)(δt:DT)(δe:DE):DE:=λZ=>δi Z>>=λds=>noex (dh (gq n δt δe Z) ds)>>=de
def bW:DT:=λ_=>aa true
theorem el(f:D->M (Option D))(d:D)(ds:List D):dh f (d::ds)=(f d>>=λo=>dh f ds>>=λr=>aa (match o with | some y=>y::r | none=>r)):=rfl
theorem xJ{f:D->M (Option D)}{ds:List D}{i:Nat}{d:D}{ys R:List D}(hd:ds[i]? =some d)
 (h:dh f ds=(dh f (ds.drop i)>>=λr=>aa (ys++r)))(hR:dh f ds=aa R):
 ∃o,f d=aa o/\dh f ds=(dh f (ds.drop (i+1))>>=λr=>aa ((match o with | some y=>ys++[y] | none=>ys)++r)):=by
 have e:ds.drop i=d::ds.drop (i+1):=by
  obtain⟨hi,e⟩:=Sb.mp hd;rw[Vd hi,e]
 rw[e,el] at h;have h':=h.symm.trans hR;obtain⟨r,h1,h2⟩:=dr h';obtain⟨o,h3,h4⟩:=dr h1;refine⟨o,h3,?_⟩;obtain⟨r',h5,h6⟩:=dr h4;rw[h5,hR];rw[<-h2,<-d_ h6];show aa _=aa _;cases o with
 |none=>rfl
 |some y=>simp
theorem Aj{prog:SJ}{w:World}{A:S1}{R:Result->R8->Prop}{s:R8}{Ys target iter:Expr}{ifs:List Expr}{scope:Scope}{pos:Pos}{it P3:Value}{env:Env}(I:Nat->R8->Prop)
 (turn:∀n s,I n s->wpAny (model prog w) A (XE it) (λr v4=>match r with
  |none=>R (.ok .next) v4
  |some v=>wpAny (model prog w) A (V4 target it v) (λ_ Pu=>wpAny (model prog w) A (assign target env v) (λ_ v1=>
    wpAny (model prog w) A (forIn ifs true λc r=>if r=true then do let ok<-isTrue c env (eval c env);pure (Tg ok) else pure (Tg r)) (λok Yq=>
     if ok=true then wpAny (model prog w) A (eval Ys env) (λx Yv=>
      wpAny (model prog w) A (call (.builtin "list.append") [P3,x]) (λ_ Yz=>∃m,m<n/\I m Yz) (XS (model prog w) A env λe s'=>R (.error e) s') Yv) (XS (model prog w) A env λe s'=>R (.error e) s') Yq
     else∃m,m<n/\I m Yq) (XS (model prog w) A env λe s'=>R (.error e) s') v1) (XS (model prog w) A env λe s'=>R (.error e) s') Pu) (XS (model prog w) A env λe s'=>R (.error e) s') v4) (XS (model prog w) A env λe s'=>R (.error e) s') s)
 (n:Nat) (h:I n s):
 Xi (model prog w) A (.compLoop (.ListComp Ys [⟨target,iter,ifs,0⟩] scope pos) 0 it P3 env) R s:=by
 refine codeAny_loop rfl I (λn s hI=>?_) n h;show wpAny _ A ((compTurn (.ListComp Ys [⟨target,iter,ifs,0⟩] scope pos) 0 it P3 env).onRaise (λx=>do noteFrame x env;theTreesLotGoes x)) _ _ s;refine wpAny_noted ?_;rw[compTurn_list];refine R3 (wpAny_standAt (R3 (Ti (turn n s hI) (λr v4 Yp=>?_) λ_ _ h'=>h')));cases r with
 |none=>exact R9 Yp
 |some v=>
  refine R3 (Ti Yp (λ_ Pu Yp=>?_) λ_ _ h'=>h');refine R3 (Ti Yp (λ_ v1 Yt=>R3 (Ti Yt (λok Yq Yu=>?_) λ_ _ h'=>h')) λ_ _ h'=>h');cases ok with
  |false=>exact R9 ⟨rfl,Yu⟩
  |true=>
   exact R3 (R3 (Ti Yu (λx Yv YA=>R3 (Ti YA (λ_ Yz YB=>R9 (R9 ⟨rfl,YB⟩)) λ_ _ h'=>h')) λ_ _ h'=>h'))
def BA(X:Cx)(tg:Expr)(n:Nat)(σ:St):Prop:=∀(f8:List (Addr×Obj)) (s:R8) (σ':St) (F H:Hp) (d:D) (ts:List D) (v:V) (u:Value),Inv X f8 σ' H s->Same F H->σ'.drop (max n 1)=σ->RelV v u->Den X.K F d v->Py n d=aa ts->
 wpAny (model X.prog X.w) X.A (assign tg X.env u) (λ_ s'=>∃vs,Inv X f8 (vs.map some++σ) H s'/\DenL X.K F ts vs) X.xe s
def lI(X:Cx)(ifs:List Expr)(δt:DT):Prop:=∀(f8:List (Addr×Obj)) (s:R8) (σ:St) (H:Hp) (Q:Bool->Hp->Prop),Inv X f8 σ H s->Mp X.K (λ_ _=>False) δt σ H Q->
 wpAny (model X.prog X.w) X.A (forIn ifs true λc r=>if r=true then do let ok<-isTrue c X.env (eval c X.env);pure (Tg ok) else pure (Tg r)) (TP X f8 σ Q) X.xe s
theorem dq{X:Cx}:lI X [] bW:=λf8 s σ H Q I ⟨F,Z,S,w⟩=>wpAny_tests_nil ⟨H,I,w H F (Ext.refl S.fh)⟩
theorem w_{X:Cx}{c:Expr}{δ:DT}(h:nO X (λ_ _=>False) c δ):lI X [c] δ:=λf8 s σ H Q I w=>wpAny_tests_one (h f8 s σ H Q I w)
theorem StE.cons{K:Se}{F H:Hp}{σ:St}{Z:aU}{ts:List D}{vs:List V}(s:StE K F H σ Z)(h:DenL K F ts vs):StE K F H (vs.map some++σ) (ts.map (λt=>some (Sl.fz t))++Z):=by
 refine⟨s.fh,λi sl e=>?_⟩;have hl:=h.len;by_cases hi:i<ts.length
 ·rw[SW (by simpa using hi),Sj] at e;cases q:ts[i]? with
  |none=>rw[q] at e;cases e
  |some t=>
   rw[q] at e;cases e;obtain⟨v,e1,e2⟩:=h.get q;exact⟨v,by rw[SW (by simp;omega),Sj,e1];rfl,e2⟩
 ·rw[S_ (by simpa using hi)] at e;obtain⟨v,e1,e2⟩:=s.den _ _ e;refine⟨v,?_,e2⟩;rw[S_ (by simp;omega)];simpa[hl] using e1
theorem WPB.take{Xw:Nat->Hp->Prop}{F H:Hp}{b:Bool}:WPB Xw F H (aa b) λb' H'=>b'=b/\∃F',Ext F H F' H':=λH' F' e=>⟨rfl,F',e⟩
theorem WP.take{K:Se}{Xw:Nat->Hp->Prop}{F H:Hp}{d:D}:WP K Xw F H (aa d) λv H'=>∃F',Ext F H F' H'/\Den K F' d v:=λv H' F' e q=>⟨F',e,q⟩
def mm(env:Env)(p:Str×Vs):Str×Vs:=if (p.2== .free&&env.scope.kind== .function&&env.kindOf p.1==some .cell) then(p.1, .cell) else(p.1,p.2)
theorem gg(scope:Scope)(env:Env):(relabel scope env).names=scope.names.map (mm env):=rfl
theorem DL(env:Env)(p:Str×Vs):(mm env p).1=p.1:=by unfold mm;split<;>rfl
theorem g0(env:Env)(x:Str):∀ns:List (Str×Vs),(ns.map (mm env)).lookup x=(ns.lookup x).map λk=>(mm env (x,k)).2
 |[]=>rfl
 |(m,k)::r=>by
  rw[Sa,TQ,TQ];have e:mm env (m,k)=(m,(mm env (m,k)).2):=W9 (DL env (m,k)) rfl;rw[e]
  dsimp only
  by_cases hx:(x==m)=true
  ·have hm:x=m:=by simpa using hx
   subst hm;rw[hx];rfl
  ·have hx:(x==m)=false:=by simpa using hx
   rw[hx];exact g0 env x r
theorem uA{scope:Scope}{env:Env}{x:Str}(h:scope.names.lookup x=none):(relabel scope env).names.lookup x=none:=by
 rw[gg,g0,h];rfl
theorem uz{scope:Scope}{env:Env}{x:Str}(hc:∀y∈scope.names,y.2≠ .cell)(h:(relabel scope env).names.lookup x=some .cell\/(relabel scope env).names.lookup x=some .free):scope.names.lookup x=some .free:=by
 rw[gg,g0] at h;cases q:scope.names.lookup x with
 |none=>rw[q] at h;rcases h with h | h<;>cases h
 |some k=>
  rw[q] at h;have hk:k≠ .cell:=hc _ (TH q);have h:(mm env (x,k)).2= .cell\/(mm env (x,k)).2= .free:=by simpa using h
  by_cases hf:k= .free
  ·rw[hf]
  ·have:(mm env (x,k)).2=k:=by
    unfold mm;rw[Yh];simp[hf]
   rw[this] at h;rcases h with h | h
   ·exact Ym h hk
   ·exact Ym h hf
theorem mn{scope:Scope}{env:Env}{x:Str}(h:scope.names.lookup x=some .free):¬(relabel scope env).names.lookup x=some .local:=by
 rw[gg,g0,h];intro z;have z:(mm env (x, .free)).2= .local:=by simpa using z
 unfold mm at z;split at z<;>cases z
structure BlockEnd (X:Cx) (f8:List (Addr×Obj)) (C:Addr) (H':Hp) (s1:R8):Prop where
 ns:∃m,s1.heap.Ns C m
 free:H' C=none
 nl:C≠X.env.locals
 nw:X.YD.heap.objs.size<=C
 nc:∀x c,X.env.cells.lookup x=some c->c≠C
 np:∀p∈X.pn++f8,p.1≠C
theorem vn{X:Cx}{Xw:Nat->Hp->Prop}{Ys iter tg:Expr}{ifs:List Expr}{scope:Scope}{pos:Pos}{tn:List Str}{n:Nat}{δi:DA}{δt:DT}{δe:DE}{cl:List (Str×Addr)}{f8:List (Addr×Obj)}{s:R8}{σ:St}{H F:Hp}{Z:aU}{Q:VK}{RR:Value->Addr->Result->R8->Prop}
 (sc:CompSc X scope tn)(hn:tn.length=max n 1)(hc:X.calm=true)(hi:xq X Xw tg iter δi)
 (hg:∀f8 cl C fp v1 H σ,BA (jP X scope tn f8 cl C fp v1 H) tg n σ)
 (ht:∀f8 cl C fp v1 H,lI (jP X scope tn f8 cl C fp v1 H) ifs δt)
 (he:∀f8 cl C fp v1 H,PD (jP X scope tn f8 cl C fp v1 H) (λ_ _=>False) Ys δe)
 (I:Inv X f8 σ H s)(S:StE X.K F H σ Z)(w:WP X.K Xw F H (bx n δi δt δe Z) Q)
 (BO:∀x c,cl.lookup x=some c->X.env.cells.lookup x=some c)(Jv:∀x,scope.names.lookup x=some .free->∃c,cl.lookup x=some c)
 (Qc:∀(s1:R8) (C D:Addr) (H':Hp),Inv X f8 σ H' s1->Q (.ref D) H'->BlockEnd X f8 C H' s1->RR (.ref D) C (.ok .next) s1):
 wpAny (model X.prog X.w) X.A (eval iter X.env) (λx v4=>wpAny (model X.prog X.w) X.A (pyIter x) (λit v1=>wpAny (model X.prog X.w) X.A (newList []) (λP3 Yq=>
  wpAny (model X.prog X.w) X.A (newFunctionEnv scope X.env.globals cl [] X.env.qual none .none (some X.env)) (λJQ Yv=>
   Xi (model X.prog X.w) X.A (.compStart (.ListComp Ys [⟨tg,iter,ifs,0⟩] scope pos) 0 it P3 {JQ with scope:=relabel scope X.env}) (RR P3 JQ.locals) Yv) X.xe Yq) X.xe v1) X.xe v4) X.xe s:=by
 refine bX (hi f8 s σ H (λJ H2=>∃F2 ds,Ext F H F2 H2/\ItD X.K F2 J ds/\WP X.K Xw F2 H2 (noex (dh (gq n δt δe Z) ds)>>=de) Q) I ⟨F,Z,S,?_⟩) λxv v4 Yp=>bX Yp λit v1 Yt=>?_
 ·unfold bx at w;rcases(δi Z).cs with hq | ⟨m,hq⟩ | ⟨ds,hq⟩
  ·rw[hq] at w;exact w.elim
  ·rw[hq] at w⊢;exact w
  ·rw[hq] at w⊢;exact λJ H' F' e q=>⟨F',ds,e,q,WP.ext e w⟩
 obtain⟨ia,fp,Pz,J,H2,rfl,I2,T,rf,f2,F2,ds,e2,Pc,w2⟩:=Yt;obtain⟨R,hR,OI,w2⟩:∃R,dh (gq n δt δe Z) ds=aa R/\R.length<=lim/\WP X.K Xw F2 H2 (aa (.lst R)) Q:=by
  rcases(dh (gq n δt δe Z) ds).cs with hq | ⟨m,hq⟩ | ⟨R,hq⟩
  ·rw[hq] at w2;exact w2.elim
  ·rw[hq] at w2;exact w2.elim
  ·rw[hq] at w2;obtain⟨h1,h2⟩:=yf (X:=X) (f:=D.lst) (show WP X.K Xw F2 H2 (de R) Q from w2);exact⟨R,hq,h1,h2⟩
 refine To (wpAny_newFunctionEnv sc.nocell (by intro y hy;simp at hy) (λYp HN E5=>?_) sc.kind)
 dsimp only at HN E5⊢
 generalize MP:v1.heap.push {cls:= .type "list",dict:=none,data:= .seq ([]:List Value).toArray}=HL at HN E5⊢;have hC:HL.objs.size=v1.heap.objs.size+1:=by rw[<-MP,Heap.size_push]
 have Ar:v1.heap.objs.size<HL.objs.size:=by rw[hC];exact WA _
 have old:∀b o,v1.heap.get? b=some o->Yp.get? b=some o:=λb o e=>E5.extBut b o (SH (UE (Sq e) Ar)) (R7 _ (MP▸R7 _ e));have iL:Yp.get? v1.heap.objs.size=some {cls:= .type "list",data:= .seq ([]:List Value).toArray}:=E5.extBut _ _ (SH Ar) (R7 _ (MP▸Sx _ rfl));have nD:H2 v1.heap.objs.size=none:=I2.hok.fresh (R_ _);have nC:H2 HL.objs.size=none:=I2.hok.fresh (Tr Ar);have gC:v1.heap.get? HL.objs.size=none:=XC (Tr Ar);have fl:∀b∈fp,b<v1.heap.objs.size:=λb hb=>by
  obtain⟨o,e,_⟩:=T.obj 0 _ rf b hb;exact Sq e
 generalize vK:jP X scope tn f8 cl HL.objs.size fp v1 H2=X';have Pl:X'.Ok:=by
  subst vK;refine⟨I2.ok.mod,sc.kind,I2.ok.glob,I2.ok.blt,Tr Ar,λx y c h1 h2=>I2.ok.inj x y c (BO _ _ h1) (BO _ _ h2),λx hx=>?_,λ_ _ h=>(by cases h),I2.ok.hd,I2.ok.frames, .inl rfl,
   λb hb=>⟨SH (UE (fl b hb) Ar),λx c h=>(f2 b hb).2.2.2.2.1 x c (BO _ _ h)⟩,I2.bs,Sy I2.ok.bsz I2.sz,λb o e hb=>?_,λb hb z=>?_,I2.stack,I2.stkFree⟩
  ·have hx:(relabel scope X.env).names.lookup x=some .cell\/(relabel scope X.env).names.lookup x=some .free:=hx;exact Jv x (uz sc.nocell hx)
  ·rcases(f2 b hb).2.2.2.1 with z | z
   ·exact I2.ok.noex b o e z
   ·exact Ym (SN (Sq (I2.ok.bs b o e).1) z) (Tf _)
  ·rcases Sf.mp (I2.stkSub b z) with q | q
   ·exact(f2 b hb).2.1 q
   ·exact(f2 b hb).2.2.1 q
 have NK:∀b o,H2 b=some o->b≠v1.heap.objs.size:=λb o e=>bf e nD;have Hz:∀{H':Hp},(∀b∈fp,H' b=none)->∀b∈fp,qM X' [] H' b:=λQK b hb=>by
  subst vK;refine⟨QK b hb,SH (UE (fl b hb) Ar),λz=>Pl.exfs b hb z, .inl hb,λx c h=>(f2 b hb).2.2.2.2.1 x c (BO _ _ h),λp hp=>?_⟩;rw[TK] at hp;exact(f2 b hb).2.2.2.2.2 p hp
 have I0:Inv X' [] (S6 (max n 1) none++σ) (upd H2 v1.heap.objs.size (.lst [])) {v1 with heap:=Yp,toks:=v1.toks+([]:List (Str×Value)).length}:=by
  subst vK;have Nj:HOk X.prog X.w (upd H2 v1.heap.objs.size (.lst [])) Yp:=I2.hok.laid old (R_ _) ⟨SM _,[],_, .nil,iL⟩;refine⟨Pl,rfl,I2.bare,Un.laid old (R_ _) nD,⟨_,HN,λi x v h1 h2 h3=>?_⟩,λx c h=>?_,?_,λx c h=>?_,λp hp=>?_,Nj,?_⟩
  ·by_cases hi:i<max n 1
   ·rw[SW (by simpa using hi),T6,Yg hi] at h2;cases h2
   ·have Kj:tn.length<=i:=by omega
    have h1:(tn++di tn X.N)[i]? =some x:=h1;rw[S_ Kj] at h1;rw[S_ (by simpa using hi),VF,<-hn] at h2;have hN:∃y,X.N[i - tn.length]? =some y/\(x,y)∈(di tn X.N).zip X.N:=by
     have gk:=(Sb.mp h1).1;have Kq:i - tn.length<X.N.length:=by simpa[di] using gk
     refine⟨X.N[i - tn.length],R6 Kq,?_⟩;refine List.mem_iff_getElem?.mpr ⟨i - tn.length,?_⟩;rw[List.getElem?_zip_eq_some];exact⟨h1,R6 Kq⟩
    obtain⟨y,hy,hm⟩:=hN;have hV:(relabel scope X.env).names.lookup x=some .local\/(relabel scope X.env).names.lookup x=some .cell\/(relabel scope X.env).names.lookup x=some .free:=h3;rcases sc.vis _ hm with xT | ⟨Nv,GW⟩
    ·have xT:scope.names.lookup x=none:=xT;have:(relabel scope X.env).names.lookup x=none:=uA xT;rw[this] at hV;rcases hV with z | z | z<;>cases z
    ·have Nv:x=y:=Nv;subst Nv;have GW:scope.names.lookup x=some .free:=GW;have hk:=sc.frees (x, .free) (TH GW) rfl;obtain⟨m,E2,HI⟩:=I2.loc;obtain⟨u,ru,lk⟩:=HI _ x v hy h2 (by rcases hk with z | z;exact .inr (.inl z);exact .inr (.inr z));refine⟨u,ru, .inr ⟨?_,?_⟩⟩
     ·rcases hV with z | z | z
      ·exact Ym z (mn GW)
      ·exact .inl z
      ·exact .inr z
     ·rcases lk with⟨z,_⟩ | ⟨_,c,Qi,HE⟩
      ·rcases hk with q | q
       ·rw[show X.env.kindOf x=some .local from z] at q;cases q
       ·rw[show X.env.kindOf x=some .local from z] at q;cases q
      ·obtain⟨c',As⟩:=Jv x GW;have:=BO _ _ As;rw[Qi] at this;cases this;obtain⟨o,ho,hd⟩:=HE;exact⟨c,As,o,old _ _ ho,hd⟩
  ·obtain⟨v,o,ho,hd⟩:=I2.cell x c (BO _ _ h);exact⟨v,o,old _ _ ho,hd⟩
  ·show upd H2 v1.heap.objs.size (.lst []) HL.objs.size=none;rw[ax (VL Ar)];exact nC
  ·have L8:=BO _ _ h;obtain⟨v,q⟩:=I2.cell x c L8;rw[ax (SH q.lt)];exact I2.freeC x c L8
  ·rw[TK] at hp;obtain⟨e,nn,ne,nf,d⟩:=I2.pin p hp;have gk:=Sq e;refine⟨old _ _ e,by rw[ax (SH gk)];exact nn,SH (UE gk Ar),λz=>?_,d⟩;rcases Sf.mp (I2.stkSub p.1 z) with q | q
   ·exact ne q
   ·exact nf q
  ·show (S6 (max n 1) none++σ).length=(tn++di tn X.N).length;rw[Sg,Sg,VF,hn,show (di tn X.N).length=X.N.length from by simp[di],I2.len]
 have loop:∀Yq:R8,Yq={v1 with heap:=Yp,toks:=v1.toks+([]:List (Str×Value)).length}->
  Xi (model X.prog X.w) X.A (.compLoop (.ListComp Ys [⟨tg,iter,ifs,0⟩] scope pos) 0 (.ref ia) (.ref v1.heap.objs.size) (compEnvC scope cl HL.objs.size X.env))
   (RR (.ref v1.heap.objs.size) HL.objs.size) Yq:=by
  intro Yq QZ;have B5:X'.env=compEnvC scope cl HL.objs.size X.env:=by subst vK;rfl
  have hA:X'.A=X.A:=by subst vK;rfl
  have hP:X'.prog=X.prog:=by subst vK;rfl
  have hw:X'.w=X.w:=by subst vK;rfl
  have hK:X'.K=X.K:=by subst vK;rfl
  have Rf:X'.xe=λ_ _=>False:=by subst vK;rfl
  have GS:X'.calm=true:=by subst vK;exact hc
  have Qr:X'.fs=oq X.stack:=by subst vK;rfl
  have hex:X'.ex=fp:=by subst vK;rfl
  have P_:X'.YC=H2:=by subst vK;rfl
  have O5:X'.YD=v1:=by subst vK;rfl
  have pass:∀{α:Type}{t:Sem α}{P:α->R8->Prop}{E':Value->R8->Prop}{s:R8},wpAny (model X'.prog X'.w) X'.A t P X'.xe s->wpAny (model X.prog X.w) X.A t P E' s:=λ{α t P E' s} h=>by
   rw[hP,hw,hA,Rf] at h;exact Ti h (λ_ _ q=>q) λ_ _ q=>q.elim
  refine Aj (λm s'=>∃(i:Nat) (F' H':Hp) (vs:List V) (ys:List D) (σt:St),m=ds.length - i/\i<=ds.length/\σt.length=max n 1/\Inv X' [] (σt++σ) H' s'/\Pz i s'.heap/\(∀b∈fp,H' b=none)/\Ext F2 H2 F' H'/\
   H' v1.heap.objs.size=some (.lst vs)/\F' v1.heap.objs.size=none/\DenL X.K F' ys vs/\dh (gq n δt δe Z) ds=(dh (gq n δt δe Z) (ds.drop i)>>=λr=>aa (ys++r))) ?_ ds.length ?_
  ·rintro m s' ⟨i,F',H',vs,ys,σt,rfl,M5,Rl,I',qx,Ow,xQ,hD,fD,Mi,heq⟩;by_cases gk:i<ds.length
   ·
    obtain⟨d,hd⟩:∃d,ds[i]? =some d:=⟨_,R6 gk⟩
    obtain⟨HH,xV⟩:=(Pc F' H' i xQ.ff xQ.fh).1 d hd;obtain⟨o,ho,Kf⟩:=xJ hd heq hR;have Nz:ys.length<=lim:=by
     rw[heq] at hR;obtain⟨r,_,hr⟩:=dr hR;rw[<-d_ hr,Sg] at OI;omega
    obtain⟨ts,Q2,ho⟩:=dr ho;refine pass ?_;rw[hP,hw];refine bX (T.item X' hP hw hK GS i [] s' (σt++σ) H' X'.xe I' (Hz Ow) qx HH) ?_;rintro r s1 ⟨u,rfl,h1⟩;refine pass ?_;rw[hP,hw];refine bX h1 ?_;rintro _ s2 ⟨x,H3,I3,rx,y3,JF,L0⟩;obtain⟨F3,zf,q3⟩:=xV x H3 y3;have OE:H3 v1.heap.objs.size=some (.lst vs):=zf.hh _ _ hD;have P2:F3 v1.heap.objs.size=none:=by rw[zf.old hD (λ_ z=>nomatch z)];exact fD
    have I3':=I3.pinned (Hz L0) (T.obj _ _ JF);have zt:∀{σ7:St}{H7:Hp}{s7:R8},Inv X' ([]++qj fp s2.heap) σ7 H7 s7->Pz (i+1) s7.heap/\∀b∈fp,H7 b=none:=λ{σ7 H7 s7} I7=>
     ⟨T.keep _ _ _ JF λb hb o e=>(I7.pin (b,o) (SV _ (SV _ (g6 hb e)))).1,λb hb=>by
      obtain⟨o,e,_⟩:=T.obj _ _ JF b hb;exact(I7.pin (b,o) (SV _ (SV _ (g6 hb e)))).2.1⟩
    have Qu:BA X' tg n σ:=by subst vK;exact hg _ _ _ _ _ _ _
    have Q0:lI X' ifs δt:=by subst vK;exact ht _ _ _ _ _ _
    have Qo:PD X' (λ_ _=>False) Ys δe:=by subst vK;exact he _ _ _ _ _ _
    refine pass ?_;rw[<-B5];refine bX (Qu _ s2 (σt++σ) F3 H3 d ts x u I3' zf.fh (by rw[<-Rl];simp) rx (by rw[hK];exact q3) Q2) ?_;rintro _ s4 ⟨vt,I4,dt⟩;rw[hK] at dt;have S4:StE X.K F3 H3 (vt.map some++σ) (ts.map (λt=>some (Sl.fz t))++Z):=StE.cons ((S.ext e2).ext (xQ.trans zf)) dt;obtain⟨b,hb,ho⟩:=dr ho;refine pass ?_
    try rw[<-B5]
    refine bX (Q0 _ s4 _ H3 (λb' H5=>b'=b/\∃F5,Ext F3 H3 F5 H5) I4 ⟨F3,_,by rw[hK];exact S4,by rw[hb];exact WPB.take⟩) ?_;rintro b' s5 ⟨H5,I5,rfl,F5,Hw⟩;have MO:H5 v1.heap.objs.size=some (.lst vs):=Hw.hh _ _ OE;have Oq:F5 v1.heap.objs.size=none:=by rw[Hw.old OE (λ_ z=>nomatch z)];exact P2
    cases b' with
    |false=>
     rw[Yh SI] at ho⊢;obtain rfl:=d_ ho;refine⟨ds.length - (i+1),by omega,i+1,F5,H5,vs,ys,vt.map some,rfl,gk,?_,I5.unpinned,(zt I5).1,(zt I5).2,xQ.trans (zf.trans Hw),MO,Oq,DenL.mono (zf.trans Hw).ff Mi,Kf⟩;have h1:=I5.len;have h2:=I3.len;rw[Sg] at h1 h2;omega
    |true=>
     rw[Yg rfl] at ho⊢;obtain⟨yv,hy,ho⟩:=dr ho;obtain rfl:=d_ ho;refine pass ?_
     try rw[<-B5]
     refine bX (Qo _ s5 _ H5 (λv H6=>∃F6,Ext F5 H5 F6 H6/\Den X.K F6 yv v) I5 ⟨F5,_,by rw[hK];exact S4.ext Hw,by rw[hy,hK];exact WP.take⟩) ?_;rintro xv s6 ⟨v,H6,I6,rv,F6,LZ,qv⟩;have P9:H6 v1.heap.objs.size=some (.lst vs):=LZ.hh _ _ MO;have Ot:F6 v1.heap.objs.size=none:=by rw[LZ.old MO (λ_ z=>nomatch z)];exact Oq
     have Nt:vs.length<Sv:=by
      have:=Mi.len;have:=cY;omega
     refine pass ?_;refine bX (r6 _ s6 _ H6 (.ref v1.heap.objs.size) [v] (.ref v1.heap.objs.size) [xv] (λ_ H7=>H7=upd H6 v1.heap.objs.size (.lst (vs++[v]))) I6 rfl (.cons rv .nil) ⟨_,vs,v,rfl,rfl,P9,Nt,rfl⟩) ?_;rintro _ s7 ⟨_,H7,I7,_,rfl⟩;have P1:Ext F2 H2 F6 (upd H6 v1.heap.objs.size (.lst (vs++[v]))):=by
      have e:=xQ.trans (zf.trans (Hw.trans LZ));refine⟨λb u q=>?_,e.ff,λb u q=>?_,e.new⟩
      ·rw[ax (NK b u q)];exact e.hh b u q
      ·rw[ax (λz=>by rw[z,Ot] at q;cases q)];exact e.fh b u q
     refine⟨ds.length - (i+1),by omega,i+1,F6,_,vs++[v],ys++[yv],vt.map some,rfl,gk,?_,I7.unpinned,(zt I7).1,(zt I7).2,P1,aH,Ot,
      DenL.append (DenL.mono (zf.trans (Hw.trans LZ)).ff Mi) (.cons qv .nil),Kf⟩
     have h1:=I5.len;have h2:=I3.len;rw[Sg] at h1 h2;omega
   ·
    have hi:i=ds.length:=by omega
    subst hi;rw[Vu] at heq;have Qd:R=ys:=by
     rw[heq] at hR;have hR:aa (ys++[])=aa R:=hR;rw[<-d_ hR,TK]
    subst Qd;refine pass ?_;rw[hP,hw];refine bX (T.done X' hP hw hK GS ds.length [] s' (σt++σ) H' X'.xe I' (Hz Ow) qx ((Pc F' H' ds.length xQ.ff xQ.fh).2 (R_ _))) ?_;rintro r s1 ⟨rfl,I1⟩;obtain⟨m,hm,_⟩:=I1.loc;rw[B5] at hm;have P8:H' HL.objs.size=none:=by
     have:=I1.free;rw[B5] at this;exact this
    have u:=I1.base;rw[Qr,hex,P_,O5] at u;have Cq:s1.os=v1.os:=by have:=I1.os;rw[O5] at this;exact this
    have Ki:=I1.hok;rw[hP,hw] at Ki;refine Qc s1 HL.objs.size v1.heap.objs.size H' (I2.call' (s':=s1) (ch:=fp) Cq u Ki I1.bare (λb hb=>⟨(f2 b hb).2.2.2.1,(f2 b hb).2.1,(f2 b hb).2.2.2.2.1,(f2 b hb).2.2.2.2.2⟩)) ?_
     ⟨⟨m,hm⟩,P8,VL (UE I2.lt Ar),Sy I2.sz (Tr Ar),λx c q z=>?_,λp hp z=>?_⟩
    rotate_left
    ·obtain⟨v,q'⟩:=I2.cell x c q;exact Ym (UE q'.lt Ar) (by rw[z];exact Tf _)
    ·exact Ym (UE (Sq (I2.pin p hp).1) Ar) (by rw[z];exact Tf _)
    refine WP.fin w2 (F':=upd F' v1.heap.objs.size (.lst vs)) ⟨xQ.hh,λb u q=>?_,λb u q=>?_,λa ha=>?_⟩ ⟨_,vs,rfl,aH,DenL.mono (λb u q=>?_) Mi,OI⟩
    ·rw[ax (λz=>by have:=xQ.ff b u q;rw[z,fD] at this;cases this)];exact xQ.ff b u q
    ·by_cases z:b=v1.heap.objs.size
     ·rw[z,aH] at q;rw[z,hD];exact q
     ·rw[ax z] at q;exact xQ.fh b u q
    ·rcases xQ.new a ha with q | q
     ·exact .inl (by rw[ax (λz=>ha (by rw[z];exact nD))];exact q)
     ·exact .inr q
    ·rw[ax (λz=>by rw[z,fD] at q;cases q)];exact q
  ·rw[QZ];refine⟨0,F2,_,[],[],S6 (max n 1) none,by simp,SM _,by simp,I0,T.keep _ _ _ rf (λb hb o e=>old b o e),λb hb=>?_,⟨λb u q=>?_,Same.refl _,λb u q=>?_,λ_ _=> .inl rfl⟩,aH,Same.free e2.fh nD,rfl,?_⟩
   ·rw[ax (SH (fl b hb))];exact(f2 b hb).1
   ·rw[ax (NK b u q)];exact q
   ·rw[ax (NK b u (e2.fh b u q))];exact e2.fh b u q
   ·rw[WZ];rcases(dh (gq n δt δe Z) ds).cs with hq | ⟨m,hq⟩ | ⟨R,hq⟩<;>rw[hq]<;>rfl
 exact codeAny_compStart_list (loop _ rfl) (T.self X.A 0 _ _ _ (T.keep _ _ _ rf (λb hb o e=>old b o e)) (loop _ rfl))
theorem Inv.block{X:Cx}{f8:List (Addr×Obj)}{σ:St}{H':Hp}{s1:R8}{C:Addr}{h':Heap}(I:Inv X f8 σ H' s1)(b:BlockEnd X f8 C H' s1)(Ep:UD C s1.heap h'):Inv X f8 σ H' {s1 with heap:=h'}:=
 I.turned (t':=s1.toks) (λa o ha e=>(Ep.2 a ha).trans e) b.free b.nl (.inr b.nw) b.nc b.np
section
variable{X:Cx}{Xw:Nat->Hp->Prop}{Ys iter tg:Expr}{ifs:List Expr}{scope:Scope}{pos:Pos}{tn:List Str}{n:Nat}{δi:DA}{δt:DT}{δe:DE}
theorem fe(sc:CompSc X scope tn)(hn:tn.length=max n 1)(hc:X.calm=true)(hi:xq X Xw tg iter δi)
 (hg:∀f8 cl C fp v1 H σ,BA (jP X scope tn f8 cl C fp v1 H) tg n σ)
 (ht:∀f8 cl C fp v1 H,lI (jP X scope tn f8 cl C fp v1 H) ifs δt)
 (he:∀f8 cl C fp v1 H,PD (jP X scope tn f8 cl C fp v1 H) (λ_ _=>False) Ys δe)
 (hs:∀x,Uu iter X.env x=pure x:=by intro _;rfl):
 PD X Xw (.ListComp Ys [⟨tg,iter,ifs,0⟩] scope pos) (bx n δi δt δe):=by
 intro f8 s σ H Q I ⟨F,Z,S,w⟩;obtain⟨cl,Cf,BO,Jv⟩:=oU (scope:=scope) (env:=X.env) λy hy hf=>I.ok.has y.1 (sc.frees y hy hf);rw[eval_ListComp];refine XD (use:=none) rfl hs Cf sc.kind sc.names (vn (RR:=λP3 C=>compPost (model X.prog X.w) X.A X.xe none (EP X f8 σ Q) P3 C) sc hn hc hi hg ht he I S w BO Jv λs1 C D H' I1 q b=>?_);obtain⟨m,hm⟩:=b.ns;exact⟨m,hm,λh' Ep=>⟨.ref D,H',Inv.block I1 b Ep,rfl,q⟩⟩
end
inductive Out where
 |nx (Z:aU) | rt (d:D)
abbrev DS:=aU->M Out
structure StOk (K:Se) (u8 YC F H:Hp) (σ:St) (Z:aU):Prop where
 ext:Ext u8 YC F H
 st:StE K F H σ Z
 len:Z.length=σ.length
 own:∀(i:Nat) (c:C) (a:Addr),Z[i]? =some (some (.ow c))->σ[i]? =some (some (.ref a))->YC a=none
 sep:∀(i j:Nat) (c c':C) (a:Addr),Z[i]? =some (some (.ow c))->Z[j]? =some (some (.ow c'))->σ[i]? =some (some (.ref a))->σ[j]? =some (some (.ref a))->i=j
def WPS(K:Se)(Xw:Nat->Hp->Prop)(u8 YC:Hp)(m:M Out)(Dn:Ends):Prop:=
 match m with
 |none=>False
 |some (.ok (.nx Z))=>∀σ F H,StOk K u8 YC F H σ Z->Dn.nx σ H
 |some (.ok (.rt d))=>∀v F H,Ext u8 YC F H->Den K F d v->Dn.rt v H
 |some (.ex n)=>∀F H,Ext u8 YC F H->Xw n H
def tS(K:Se)(Xw:Nat->Hp->Prop)(u8 YC:Hp)(τ:DS):TS:=λDn σ H=>∃F Z,StOk K u8 YC F H σ Z/\WPS K Xw u8 YC (τ Z) Dn
def gT(X:Cx)(Xw:Nat->Hp->Prop)(st:Stmt)(τ:DS):Prop:=∀u8 YC,PS X st (tS X.K Xw u8 YC τ)
def PSDs(X:Cx)(Xw:Nat->Hp->Prop)(st:List Stmt)(τ:DS):Prop:=∀u8 YC,PSs X st (tS X.K Xw u8 YC τ)
theorem PS.weak{X:Cx}{st:Stmt}{t t':TS}(h:PS X st t)(k:∀D σ H,t' D σ H->t D σ H):PS X st t':=λf8 s σ H D I w=>h f8 s σ H D I (k D σ H w)
theorem PSs.weak{X:Cx}{st:List Stmt}{t t':TS}(h:PSs X st t)(k:∀D σ H,t' D σ H->t D σ H):PSs X st t':=λf8 s σ H D I w=>h f8 s σ H D I (k D σ H w)
section
variable{K:Se}{u8 YC F H F' H':Hp}{σ:St}{Z:aU}
theorem StOk.ext'(s:StOk K u8 YC F H σ Z)(e:Ext F H F' H'):StOk K u8 YC F' H' σ Z:=⟨s.ext.trans e,s.st.ext e,s.len,s.own,s.sep⟩
theorem StOk.set(s:StOk K u8 YC F H σ Z){i:Nat}{d:D}{v:V}(h:Den K F d v):StOk K u8 YC F H (σ.set i (some v)) (Z.set i (some (.fz d))):=by
 have hl:=s.len;have get:∀(j:Nat) (sl:Sl),(Z.set i (some (.fz d)))[j]? =some (some sl)->(j=i/\i<Z.length/\sl= .fz d)\/(j≠i/\Z[j]? =some (some sl)):=λj sl e=>by
  by_cases hj:j=i
  ·subst hj;have hi:j<Z.length:=by
    have:=(Sb.mp e).1;simpa using this
   rw[So hi] at e;cases e;exact .inl ⟨rfl,hi,rfl⟩
  ·rw[Sh (S9 hj)] at e;exact .inr ⟨hj,e⟩
 refine⟨s.ext,⟨s.st.fh,λj sl e=>?_⟩,by simp[hl],λj c a e e'=>?_,λj k c c' a e1 e2 e3 e4=>?_⟩
 ·rcases get j sl e with⟨rfl,hi,rfl⟩ | ⟨hj,e⟩
  ·exact⟨v,by rw[So (by omega)],h⟩
  ·obtain⟨u,h1,h2⟩:=s.st.den j sl e;exact⟨u,by rw[Sh (S9 hj)];exact h1,h2⟩
 ·rcases get j _ e with⟨_,_,z⟩ | ⟨hj,e⟩
  ·cases z
  ·rw[Sh (S9 hj)] at e';exact s.own j c a e e'
 ·rcases get j _ e1 with⟨_,_,z⟩ | ⟨hj,e1⟩
  ·cases z
  ·rcases get k _ e2 with⟨_,_,z⟩ | ⟨hk,e2⟩
   ·cases z
   ·rw[Sh (S9 hj)] at e3;rw[Sh (S9 hk)] at e4;exact s.sep j k c c' a e1 e2 e3 e4
theorem StOk.setNew(s:StOk K u8 YC F H σ Z){i:Nat}{a:Addr}{o:HO}{c₀:C}(n:H a=none)(h:DenC K F c₀ o):
 StOk K u8 YC F (upd H a o) (σ.set i (some (.ref a))) (Z.set i (some (.ow c₀))):=by
 have hle:=s.len;have e0:=Ext.free (o:=o) s.st.fh n;have nF:F a=none:=Same.free s.st.fh n;have get:∀(j:Nat) (sl:Sl),(Z.set i (some (.ow c₀)))[j]? =some (some sl)->(j=i/\i<Z.length/\sl= .ow c₀)\/(j≠i/\Z[j]? =some (some sl)):=λj sl e=>by
  by_cases hj:j=i
  ·subst hj;have hi:j<Z.length:=by
    have:=(Sb.mp e).1;simpa using this
   rw[So hi] at e;cases e;exact .inl ⟨rfl,hi,rfl⟩
  ·rw[Sh (S9 hj)] at e;exact .inr ⟨hj,e⟩
 have old:∀(j:Nat) (c:C) (b:Addr),Z[j]? =some (some (.ow c))->σ[j]? =some (some (.ref b))->b≠a:=λj c b e e' z=>by
  obtain⟨u,h1,b',o,h2,h3,_⟩:=s.st.den j _ e;rw[h1] at e';cases e';cases h2;rw[z,n] at h3;cases h3
 refine⟨s.ext.trans e0,⟨e0.fh,λj sl e=>?_⟩,by simp[hle],λj c b e e'=>?_,λj k c c' b e1 e2 e3 e4=>?_⟩
 ·rcases get j sl e with⟨rfl,hi,rfl⟩ | ⟨hj,e⟩
  ·exact⟨.ref a,by rw[So (by omega)],a,_,rfl,aH,nF,h⟩
  ·obtain⟨u,h1,h2⟩:=s.st.den j sl e;exact⟨u,by rw[Sh (S9 hj)];exact h1,h2.ext e0⟩
 ·rcases get j _ e with⟨rfl,hi,_⟩ | ⟨hj,e⟩
  ·rw[So (by omega)] at e';cases e';exact Same.free s.ext.hh n
  ·rw[Sh (S9 hj)] at e';exact s.own j c b e e'
 ·rcases get j _ e1 with⟨rfl,hi,_⟩ | ⟨hj,e1⟩
  ·rw[So (by omega)] at e3;cases e3;rcases get k _ e2 with⟨rfl,_,_⟩ | ⟨hk,e2⟩
   ·rfl
   ·rw[Sh (S9 hk)] at e4;exact Ym rfl (old k c' a e2 e4)
  ·rcases get k _ e2 with⟨M_,hi,_⟩ | ⟨hk,e2⟩
   ·rw[M_,So (by omega)] at e4;cases e4;rw[Sh (S9 hj)] at e3;exact Ym rfl (old j c a (by assumption) e3)
   ·rw[Sh (S9 hj)] at e3;rw[Sh (S9 hk)] at e4;exact s.sep j k c c' b e1 e2 e3 e4
theorem StOk.chg(s:StOk K u8 YC F H σ Z){i:Nat}{a:Addr}{c c₀:C}{Yw:HO}(hi:Z[i]? =some (some (.ow c)))(ha:σ[i]? =some (some (.ref a)))(h:DenC K F c₀ Yw):
 StOk K u8 YC F (upd H a Yw) σ (Z.set i (some (.ow c₀))):=by
 have hle:=s.len;have h0:=s.own i c a hi ha;obtain⟨u,q1,a',o,q2,q3,q4,q5⟩:=s.st.den i _ hi;rw[ha] at q1;cases q1;cases q2;have M4:i<Z.length:=(Sb.mp hi).1;have get:∀(j:Nat) (sl:Sl),(Z.set i (some (.ow c₀)))[j]? =some (some sl)->(j=i/\sl= .ow c₀)\/(j≠i/\Z[j]? =some (some sl)):=λj sl e=>by
  by_cases hj:j=i
  ·subst hj;rw[So M4] at e;cases e;exact .inl ⟨rfl,rfl⟩
  ·rw[Sh (S9 hj)] at e;exact .inr ⟨hj,e⟩
 have fh:Same F (upd H a Yw):=λb o e=>by
  rw[ax (λz=>by rw[z,q4] at e;cases e)];exact s.st.fh b o e
 refine⟨⟨λb o e=>?_,s.ext.ff,fh,s.ext.new⟩,⟨fh,λj sl e=>?_⟩,by simp[hle],λj c' b e e'=>?_,λj k c1 c2 b e1 e2 e3 e4=>?_⟩
 ·rw[ax (λz=>by rw[z,h0] at e;cases e)];exact s.ext.hh b o e
 ·rcases get j sl e with⟨rfl,rfl⟩ | ⟨hj,e⟩
  ·exact⟨.ref a,ha,a,_,rfl,aH,q4,h⟩
  ·obtain⟨u,h1,h2⟩:=s.st.den j sl e;refine⟨u,h1,?_⟩;cases sl with
   |fz d=>exact h2
   |ow c'=>
    obtain⟨b,o',r1,r2,r3,r4⟩:=h2;refine⟨b,o',r1,?_,r3,r4⟩;rw[ax (λz=>hj (s.sep j i c' c a e hi (by rw[h1,r1,z]) ha))];exact r2
 ·rcases get j _ e with⟨rfl,_⟩ | ⟨hj,e⟩
  ·rw[ha] at e';cases e';exact h0
  ·exact s.own j c' b e e'
 ·have k1:∃c,Z[j]? =some (some (.ow c)):=by
   rcases get j _ e1 with⟨rfl,_⟩ | ⟨_,e⟩
   ·exact⟨c,hi⟩
   ·exact⟨_,e⟩
  have k2:∃c,Z[k]? =some (some (.ow c)):=by
   rcases get k _ e2 with⟨rfl,_⟩ | ⟨_,e⟩
   ·exact⟨c,hi⟩
   ·exact⟨_,e⟩
  obtain⟨_,k1⟩:=k1;obtain⟨_,k2⟩:=k2;exact s.sep j k _ _ b k1 k2 e3 e4
def frz(i:Nat)(Z:aU):aU:=match Z[i]? with
 |some (some (.ow c))=>Z.set i (some (.fz c.d))
 |_=>Z
theorem StOk.frz(s:StOk K u8 YC F H σ Z)(i:Nat)(obj:Addr->Obj):(∃a o,H a=some o/\DenC K F (Z[i]?.elim (.lst []) λx=>x.elim (.lst []) λy=>match y with | .ow c=>c | _=> .lst []) o/\σ[i]? =some (some (.ref a))/\StOk K u8 YC (upd F a (nP (obj a) o)) (upd H a (nP (obj a) o)) σ (frz i Z))\/frz i Z=Z:=by
 unfold L3.frz;split
 ·rename_i c₀ hi;have hle:=s.len;obtain⟨u,ha,a,o,rfl,q3,q4,GV⟩:=s.st.den i _ hi;refine .inl ⟨a,o,q3,by rw[hi];exact GV,ha,?_⟩;have h0:=s.own i _ a hi ha;have M4:i<Z.length:=(Sb.mp hi).1;have ff:Same F (upd F a (nP (obj a) o)):=λb o e=>by rw[ax (λz=>by rw[z,q4] at e;cases e)];exact e
  have fh:Same (upd F a (nP (obj a) o)) (upd H a (nP (obj a) o)):=λb o e=>by
   by_cases z:b=a
   ·rw[z,aH] at e⊢;exact e
   ·rw[ax z] at e⊢;exact s.st.fh b o e
  have get:∀(j:Nat) (sl:Sl),(Z.set i (some (.fz c₀.d)))[j]? =some (some sl)->(j=i/\sl= .fz c₀.d)\/(j≠i/\Z[j]? =some (some sl)):=λj sl e=>by
   by_cases hj:j=i
   ·subst hj;rw[So M4] at e;cases e;exact .inl ⟨rfl,rfl⟩
   ·rw[Sh (S9 hj)] at e;exact .inr ⟨hj,e⟩
  refine⟨⟨λb u q=>?_,s.ext.ff.trans ff,fh,λb hb=>?_⟩,⟨fh,λj sl e=>?_⟩,by simp[hle],λj c' b e e'=>?_,λj k c1 c2 b e1 e2 e3 e4=>?_⟩
  ·rw[ax (λz=>by rw[z,h0] at q;cases q)];exact s.ext.hh b u q
  ·rcases s.ext.new b hb with q | q
   ·exact .inl (by rw[ax (λz=>hb (by rw[z];exact h0))];exact q)
   ·exact .inr q
  ·rcases get j sl e with⟨rfl,rfl⟩ | ⟨hj,e⟩
   ·exact⟨.ref a,ha,DenC.den GV ff aH⟩
   ·obtain⟨u,h1,h2⟩:=s.st.den j sl e;refine⟨u,h1,?_⟩;cases sl with
    |fz d=>exact Den.mono ff h2
    |ow c'=>
     obtain⟨b,o',r1,r2,r3,r4⟩:=h2;have eK:b≠a:=λz=>hj (s.sep j i c' _ a e hi (by rw[h1,r1,z]) ha);exact⟨b,o',r1,by rw[ax eK];exact r2,by rw[ax eK];exact r3,DenC.mono ff r4⟩
  ·rcases get j _ e with⟨_,z⟩ | ⟨hj,e⟩
   ·cases z
   ·exact s.own j c' b e e'
  ·rcases get j _ e1 with⟨_,z⟩ | ⟨_,e1⟩
   ·cases z
   ·rcases get k _ e2 with⟨_,z⟩ | ⟨_,e2⟩
    ·cases z
    ·exact s.sep j k _ _ b e1 e2 e3 e4
 ·exact .inr rfl
end
def join(F H:Hp):Hp:=λa=>match F a with
 |some o=>some o
 |none=>H a
theorem StOk.rebase{K:Se}{u8 YC F H:Hp}{σ:St}{Z:aU}(s:StOk K u8 YC F H σ Z):StOk K F (join F YC) F H σ Z/\∀F' H',Ext F (join F YC) F' H'->Ext u8 YC F' H':=by
 have hj:Same (join F YC) H:=λb o e=>by
  unfold join at e;cases q:F b with
  |some u=>rw[q] at e;cases e;exact s.st.fh b _ q
  |none=>rw[q] at e;exact s.ext.hh b o e
 have h0:Same YC (join F YC):=λb o e=>by
  unfold join;cases q:F b with
  |some u=>
   have h1:=s.st.fh b u q;rw[s.ext.hh b o e] at h1;exact h1.symm
  |none=>exact e
 refine⟨⟨⟨hj,Same.refl _,s.st.fh,λ_ _=> .inl rfl⟩,s.st,s.len,λi c a e e'=>?_,s.sep⟩,λF' H' x=>⟨h0.trans x.hh,s.ext.ff.trans x.ff,x.fh,λa ha=>?_⟩⟩
 ·have h1:=s.own i c a e e';obtain⟨v,q1,a',o,q2,q3,q4,_⟩:=s.st.den i _ e;rw[e'] at q1;cases q1;cases q2;unfold join;rw[q4];exact h1
 ·have:join F YC a≠none:=by
   cases q:YC a with
   |none=>exact Ym q ha
   |some o=>rw[h0 a o q];exact λz=>nomatch z
  rcases s.ext.new a ha with p | p
  ·rcases x.new a this with q | ⟨ts,q⟩
   ·exact .inl (q.trans p)
   ·cases z:YC a with
    |none=>exact Ym z ha
    |some o=>
     rw[h0 a o z] at q;exact .inr ⟨ts,q⟩
  ·exact .inr p
theorem StOk.unbase{K:Se}{u8 YC F U F' H':Hp}{σ:St}{Z:aU}(k:∀F' H',Ext F U F' H'->Ext u8 YC F' H')(s:StOk K F U F' H' σ Z)(h:Same YC U):StOk K u8 YC F' H' σ Z:=
 ⟨k _ _ s.ext,s.st,s.len,λi c a e e'=>Same.free h (s.own i c a e e'),s.sep⟩
theorem AA{K:Se}{u8 YC F H:Hp}{σ:St}{Z:aU}(s:StOk K u8 YC F H σ Z):Same YC (join F YC):=λb o e=>by
 unfold join;cases q:F b with
 |some u=>
  have h1:=s.st.fh b u q;rw[s.ext.hh b o e] at h1;exact h1.symm
 |none=>exact e
theorem Inv.refrz{X:Cx}{f8:List (Addr×Obj)}{σ:St}{H:Hp}{s:R8}{a:Addr}{o o':HO}(I:Inv X f8 σ H s)(e:H a=some o)
 (ho:o'=o\/∃u,o'= .frz ((s.heap.get? a).getD {cls:= .none,data:= .fields #[]}) u/\((∃k,o= .dT k/\u= .dT k)\/∃k,o= .dK k/\u= .dK k)):Inv X f8 σ (upd H a o') s:=by
 rcases ho with rfl | ⟨u,rfl,hu⟩
 ·have:upd H a o'=H:=by
   funext b;by_cases z:b=a
   ·rw[z,aH,e]
   ·rw[ax z]
  rw[this];exact I
 have QM:o=u:=by rcases hu with⟨k,h1,h2⟩ | ⟨k,h1,h2⟩<;>rw[h1,h2]
 subst QM;have nt:∀ts,o≠ .tup ts:=λts z=>by rcases hu with⟨k,h1,_⟩ | ⟨k,h1,_⟩<;>rw[h1] at z<;>cases z
 have nf:∀ob v,o≠ .frz ob v:=λob v z=>by rcases hu with⟨k,h1,_⟩ | ⟨k,h1,_⟩<;>rw[h1] at z<;>cases z
 have nb:∀p,o≠ .tbl p:=λp z=>by rcases hu with⟨k,h1,_⟩ | ⟨k,h1,_⟩<;>rw[h1] at z<;>cases z
 have no:∀p,o≠ .own p:=λp z=>by rcases hu with⟨k,h1,_⟩ | ⟨k,h1,_⟩<;>rw[h1] at z<;>cases z
 have ne:∀b,H b=none->b≠a:=λb hb z=>by rw[z,e] at hb;cases hb
 have hk:=I.hok a o e;have gk:=hk.lt;obtain⟨ob,HQ⟩:∃ob,s.heap.get? a=some ob:=by
  rcases hu with⟨k,h1,_⟩ | ⟨k,h1,_⟩
  ·subst h1;obtain⟨_,_,_,_,ob,_,_,q,_⟩:=hk;exact⟨ob,q⟩
  ·subst h1;obtain⟨_,_,_,_,ob,_,_,q,_⟩:=hk;exact⟨ob,q⟩
 rw[HQ];refine⟨I.ok,I.os,I.bare,⟨I.base.keep,I.base.slot,λb q h1 h2 h3=>?_,I.base.there,λb xs q=>?_,λb q1 v q=>?_,λb ps q=>?_⟩,I.loc,I.cell,?_,λx c q=>?_,λp hp=>?_,λb v q=>?_,I.len⟩
 ·have:=I.base.free b q h1 h2 h3;rw[ax (ne b this)];exact this
 ·have:=I.base.tups b xs q;rw[ax (λz=>by rw[z,e] at this;exact nt xs (SS this))];exact this
 ·have:=I.base.frzs b q1 v q;rw[ax (λz=>by rw[z,e] at this;exact nf _ _ (SS this))];exact this
 ·obtain⟨m,this⟩:=I.base.tbls b ps q;exact⟨m,by rw[ax (λz=>by rw[z,e] at this;exact nb _ (SS this))];exact this⟩
 ·rw[ax (ne _ I.free)];exact I.free
 ·rw[ax (ne _ (I.freeC x c q))];exact I.freeC x c q
 ·obtain⟨h1,h2,h3⟩:=I.pin p hp;exact⟨h1,by rw[ax (ne _ h2)];exact h2,h3⟩
 ·have st:∀{c:Addr}{v:HO},ObjOk X.prog X.w H s.heap c v->ObjOk X.prog X.w (upd H a (.frz ob o)) s.heap c v:=λ{c v} k=>k.stay (λ_ _ _ q=>q)
   (λc' q=>by rw[ax (λz=>by rw[z,e] at q;exact no _ (SS q))];exact q) λc' xs q=>by rw[ax (λz=>by rw[z,e] at q;exact nt _ (SS q))];exact q
  by_cases z:b=a
  ·subst z;rw[show (some ob).getD _=ob from rfl,aH] at q;cases q;exact⟨HQ,st hk⟩
  ·rw[ax z] at q;exact st (I.hok b v q)
def aA(a b:DS):DS:=λZ=>a Z>>=λo=>match o with | .nx Z'=>b Z' | .rt d=>aa (.rt d)
def cb:DS:=λZ=>aa (.nx Z)
def bj(δ:DE):DS:=λZ=>δ Z>>=λd=>aa (.rt d)
def h7(δ:DE):DS:=λZ=>δ Z>>=λ_=>aa (.nx Z)
def bF(i:Nat)(δ:DE):DS:=λZ=>δ Z>>=λd=>aa (.nx (Z.set i (some (.fz d))))
def fj(c:DT)(a b:DS):DS:=λZ=>c Z>>=λx=>if x then a Z else b Z
def xx(i:Nat)(a:DS):DS:=λZ=>a (frz i Z)
def uD(i:Nat):DS:=λZ=>aa (.nx (Z.set i (some (.ow (.lst [])))))
def AY(Z:aU)(i:Nat):Option (List D):=match Z[i]? with
 |some (some (.ow (.lst ds)))=>some ds
 |_=>none
theorem si{Z:aU}{i:Nat}{ds:List D}(h:AY Z i=some ds):Z[i]? =some (some (.ow (.lst ds))):=by
 unfold AY at h;split at h
 ·rename_i ds' e;cases h;exact e
 ·cases h
def ll(i:Nat)(δ:DE):DS:=λZ=>match AY Z i with
 |some ds=>δ Z>>=λd=>if ds.length<lim then aa (.nx (Z.set i (some (.ow (.lst (ds++[d])))))) else af
 |none=>af
def DP(i:Nat)(δ:DE):DS:=λZ=>match AY Z i with
 |some ds=>δ Z>>=λd=>lstM d>>=λes=>if ds.length+es.length<=lim then aa (.nx (Z.set i (some (.ow (.lst (ds++es)))))) else af
 |none=>af
def forL(put:D->aU->Option aU)(body:DS):List D->DS
 |[],Z=>aa (.nx Z)
 |d::ds,Z=>(match put d Z with | none=>af | some Z1=>body Z1>>=λo=>match o with | .nx Z2=>forL put body ds Z2 | .rt v=>aa (.rt v))
def putN(i:Nat):D->aU->Option aU:=λd Z=>some (Z.set i (some (.fz d)))
def dS(put:D->aU->Option aU)(δi:DA)(body:DS):DS:=λZ=>δi Z>>=λds=>forL put body ds Z
section
variable{X:Cx}{Xw:Nat->Hp->Prop}{u8 YC:Hp}{st:Stmt}{W1:List Stmt}{τ τ':DS}{e:Expr}{δ:DE}{pos:Pos}
theorem a5:PSDs X Xw [] cb:=λu8 YC=>PSs.weak zO λD σ H ⟨F,Z,s,w⟩=>w σ F H s
theorem ai(h1:gT X Xw st τ)(h2:PSDs X Xw W1 τ'):PSDs X Xw (st::W1) (aA τ τ'):=λu8 YC=>PSs.weak (wA (h1 u8 YC) (h2 u8 YC)) λD σ H ⟨F,Z,s,w⟩=>by
 refine⟨F,Z,s,?_⟩;unfold aA at w
 match τ Z,w with
 |none,w=>exact w
 |some (.ok (.nx Z')),w=>exact λσ' F' H' s'=>⟨F',Z',s',w⟩
 |some (.ok (.rt d)),w=>exact w
 |some (.ex n),w=>exact w
theorem au(h1:gT X Xw st τ):PSDs X Xw [st] τ:=λu8 YC=>oD (h1 u8 YC)
theorem dz{i:Nat}(h:gT X Xw st τ):gT X Xw st (xx i τ):=λu8 YC f8 sh σ H D I ⟨F,Z,s,w⟩=>by
 rcases s.frz i (λa=>(sh.heap.get? a).getD {cls:= .none,data:= .fields #[]}) with⟨a,o,ha,hc,hσ,s'⟩ | e
 ·refine h u8 YC f8 sh σ _ D (L3.Inv.refrz I ha ?_) ⟨_,_,s',w⟩;generalize (Z[i]?.elim (C.lst []) λx=>x.elim (.lst []) λy=>match y with | .ow c=>c | _=> .lst [])=c at hc;cases c with
  |lst ds=>obtain⟨vs,rfl,_⟩:=hc;exact .inl rfl
  |dct ks ds=>obtain⟨vs,rfl,_⟩:=hc;exact .inr ⟨_,rfl, .inl ⟨_,rfl,rfl⟩⟩
  |dci ks ds=>obtain⟨vs,rfl,_⟩:=hc;exact .inr ⟨_,rfl, .inr ⟨_,rfl,rfl⟩⟩
 ·exact h u8 YC f8 sh σ H D I ⟨F,Z,s,by unfold xx at w;rw[e] at w;exact w⟩
theorem aE(h:PD X Xw e δ):gT X Xw (.Return (some e) pos) (bj δ):=λu8 YC=>PS.weak (I8 h) λD σ H ⟨F,Z,s,w⟩=>by
 refine⟨F,Z,s.st,?_⟩;unfold bj at w
 match δ Z,w with
 |none,w=>exact w
 |some (.ok d),w=>exact λv H' F' e' q=>w v F' H' (s.ext.trans e') q
 |some (.ex n),w=>exact λF' H' e'=>w F' H' (s.ext.trans e')
theorem cG(h:PD X Xw e δ)(hs:Vg e none pos.line X.env=pure false:=by rfl):gT X Xw (.Expr e pos) (h7 δ):=λu8 YC=>PS.weak (oC h hs) λD σ H ⟨F,Z,s,w⟩=>by
 refine⟨F,Z,s.st,?_⟩;unfold h7 at w
 match δ Z,w with
 |none,w=>exact w
 |some (.ok d),w=>exact λv H' F' e' q=>w σ F' H' (s.ext' e')
 |some (.ex n),w=>exact λF' H' e'=>w F' H' (s.ext.trans e')
theorem aP{i:Nat}{x:Str}{pos':Pos}(hN:X.N.Nodup)(hi:X.N[i]? =some x)(hx:Loc X.env.scope x)(he:PD X Xw e δ)(hf:X.fn x=true\/X.env.scope.names.lookup x=some .local:=by first | exact .inl rfl | exact .inr rfl)
 (hs:Wv [.Name x pos'] e pos.line X.env=pure false:=by rfl):
 gT X Xw (.Assign [.Name x pos'] e pos) (bF i δ):=λu8 YC=>PS.weak (mj he (a8 hN hi hx hf) hs) λD σ H ⟨F,Z,s,w⟩=>by
 refine⟨F,Z,s.st,?_⟩;unfold bF at w
 match δ Z,w with
 |none,w=>exact w
 |some (.ok d),w=>exact λv H' F' e' q=>w _ F' H' ((s.ext' e').set q)
 |some (.ex n),w=>exact λF' H' e'=>w F' H' (s.ext.trans e')
theorem i7{Ys iter tg:Expr}{ifs:List Expr}{scope:Scope}{bh:Pos}{tn:List Str}{n:Nat}{δi:DA}{δt:DT}{δe:DE}{i:Nat}{x:Str}{pos':Pos}(hN:X.N.Nodup)(Kj:X.N[i]? =some x)(hx:Loc X.env.scope x)
 (sc:CompSc X scope tn)(hn:tn.length=max n 1)(hc:X.calm=true)(hi:xq X Xw tg iter δi)
 (hg:∀f8 cl C fp v1 H σ,BA (jP X scope tn f8 cl C fp v1 H) tg n σ)
 (ht:∀f8 cl C fp v1 H,lI (jP X scope tn f8 cl C fp v1 H) ifs δt)
 (he:∀f8 cl C fp v1 H,PD (jP X scope tn f8 cl C fp v1 H) (λ_ _=>False) Ys δe)
 (hf:X.fn x=true\/X.env.scope.names.lookup x=some .local:=by first | exact .inl rfl | exact .inr rfl)
 (QY:Vg (.ListComp Ys [⟨tg,iter,ifs,0⟩] scope bh) (some (.Name x pos')) pos.line X.env=pure true:=by rfl)
 (hs:∀x,Uu iter X.env x=pure x:=by intro _;rfl):
 gT X Xw (.Assign [.Name x pos'] (.ListComp Ys [⟨tg,iter,ifs,0⟩] scope bh) pos) (bF i (bx n δi δt δe)):=λu8 YC f8 s σ H D I ⟨F,Z,S,w⟩=>by
 obtain⟨cl,Cf,BO,Jv⟩:=oU (scope:=scope) (env:=X.env) λy hy hf=>I.ok.has y.1 (sc.frees y hy hf);have w':WP X.K Xw F H (bx n δi δt δe Z) (λv H'=>D.nx (σ.set i (some v)) H'):=by
  have w:WPS X.K Xw u8 YC (bx n δi δt δe Z>>=λd=>aa (.nx (Z.set i (some (.fz d))))) D:=w
  match bx n δi δt δe Z,w with
  |none,w=>exact w
  |some (.ok d),w=>exact λv H' F' e' q=>w _ F' H' ((S.ext' e').set q)
  |some (.ex n),w=>exact λF' H' e'=>w F' H' (S.ext.trans e')
 rw[exec_Assign_Name_used _ _ _ _ QY];refine R3 (wpAny_standAt (R3 ?_));show wpAny _ X.A (do let _<-comprehension (.ListComp Ys [⟨tg,iter,ifs,0⟩] scope bh) scope X.env _ (newList []) false (eval iter X.env) (some (assign (.Name x pos') X.env))) _ _ s;refine R3 (Ti (XD (use:=some (assign (.Name x pos') X.env)) (Q:=λ_ s'=>SP X f8 D .next s') rfl hs Cf sc.kind sc.names
  (vn (RR:=λP3 C=>compPost (model X.prog X.w) X.A X.xe (some (assign (.Name x pos') X.env)) (λ_ s'=>SP X f8 D .next s') P3 C) sc hn hc hi hg ht he I S.st w' BO Jv λs1 C D' H' I1 q b=>?_)) (λ_ s' hq=>R9 (R9 hq)) λ_ _ e=>e)
 show wpAny _ X.A (assign (.Name x pos') X.env (.ref D')) _ _ _;refine WM (sM I1 hN Kj hx (v:= .ref D') rfl (λs2 I2 ⟨a,sb,ha⟩=>?_) hf);have P7:C≠a:=by
  rcases ha with z | z
  ·rw[z];exact b.nl
  ·exact S9 (b.nc x a z)
 obtain⟨m,hm⟩:=b.ns;have E2:s2.heap.Ns C m:=hm.sameBut sb P7;refine⟨m,E2,λh' Ep=>⟨_,H',Inv.block I2 ⟨⟨m,E2⟩,b.free,b.nl,b.nw,b.nc,b.np⟩ Ep,q⟩⟩
theorem bu{c:Expr}{a b:List Stmt}{tc:DT}(hc:nO X Xw c tc)(ha:PSDs X Xw a τ)(hb:PSDs X Xw b τ'):gT X Xw (.If c a b pos) (fj tc τ τ'):=λu8 YC=>PS.weak (G_ hc (ha u8 YC) (hb u8 YC)) λD σ H ⟨F,Z,s,w⟩=>by
 refine⟨F,Z,s.st,?_⟩;unfold fj at w
 match tc Z,w with
 |none,w=>exact w
 |some (.ok true),w=>exact λH' F' e'=>⟨F',Z,s.ext' e',w⟩
 |some (.ok false),w=>exact λH' F' e'=>⟨F',Z,s.ext' e',w⟩
 |some (.ex n),w=>exact λF' H' e'=>w F' H' (s.ext.trans e')
theorem jD{i:Nat}{x:Str}{pos' wx:Pos}(hN:X.N.Nodup)(hi:X.N[i]? =some x)(hx:Loc X.env.scope x)(hf:X.fn x=true\/X.env.scope.names.lookup x=some .local:=by first | exact .inl rfl | exact .inr rfl):
 gT X Xw (.Assign [.Name x pos'] (.List [] wx) pos) (uD i):=λu8 YC=>PS.weak (mj (Dt ug) (a8 hN hi hx hf) rfl) λD σ H ⟨F,Z,s,w⟩=>by
 refine⟨SM _,λp hp=>?_⟩;exact w _ F _ (s.setNew (c₀:= .lst []) hp ⟨[],rfl,rfl,SM _⟩)
def By(K:Se)(g:TG)(put:D->aU->Option aU):Prop:=∀(u8 YC F H:Hp) (σ:St) (Z Z':aU) (d:D) (v:V) (Q:St->Hp->Prop),StOk K u8 YC F H σ Z->Den K F d v->put d Z=some Z'->
 (∀σ',StOk K u8 YC F H σ' Z'->Q σ' H)->g v σ H Q
theorem bU{K:Se}{i:Nat}:By K (jQ i) (putN i):=λu8 YC F H σ Z Z' d v Q s q e k=>by
 cases e;exact k _ (s.set q)
def RH(K:Se)(Xw:Nat->Hp->Prop)(τ:DS):TS:=λD σ H=>∃u8 YC,tS K Xw u8 YC τ D σ H
theorem PSDs.ex{body:List Stmt}(h:PSDs X Xw body τ):PSs X body (RH X.K Xw τ):=λf8 s σ H D I ⟨u8,YC,w⟩=>h u8 YC f8 s σ H D I w
theorem b6{tg iter:Expr}{body:List Stmt}{δi:DA}{g:TG}{put:D->aU->Option aU}(hp:Xm (model X.prog X.w) X.A X.env X.xe)(hc:X.calm=true)(hi:xq X Xw tg iter δi)(hg:PG X tg g)(Nl:By X.K g put)(hb:PSDs X Xw body τ)
 (hs:∀x,Uu iter X.env x=pure x:=by intro _;rfl):gT X Xw (.For tg iter body [] pos) (dS put δi τ):=λu8 YC=>PS.weak (yA hp hc hi hg hb.ex hs) λD σ H ⟨F,Z,s,w⟩=>by
 refine⟨F,Z,s.st,?_⟩;unfold dS at w
 match δi Z,w with
 |none,w=>exact w
 |some (.ex n),w=>exact λF' H' e'=>w F' H' (s.ext.trans e')
 |some (.ok ds),w=>
  have w:WPS X.K Xw u8 YC (forL put τ ds Z) D:=w;intro J H1 F1 e1 Pd;obtain⟨s1,back⟩:=(s.ext' e1).rebase;have hU:=AA (s.ext' e1);generalize join F1 YC=U at s1 back hU;refine⟨λi m σ H=>m=ds.length - i/\i<=ds.length/\∃F Z,StOk X.K F1 U F H σ Z/\WPS X.K Xw u8 YC (forL put τ (ds.drop i) Z) D,⟨ds.length,by simp,SM _,F1,Z,s1,by simpa using w⟩,?_⟩;rintro i m σ2 H2 ⟨rfl,M5,F2,Z2,s2,w2⟩;by_cases gk:i<ds.length
  ·obtain⟨d,hd⟩:∃d,ds[i]? =some d:=⟨_,R6 gk⟩
   obtain⟨HH,xV⟩:=(Pd F2 H2 i s2.ext.ff s2.st.fh).1 d hd;have ed:ds.drop i=d::ds.drop (i+1):=by
    obtain⟨hi,e⟩:=Sb.mp hd;rw[Vd hi,e]
   rw[ed] at w2;unfold forL at w2;refine .inr ⟨HH,λσ' H'=>∃F' Z',StOk X.K F1 U F' H' σ' Z'/\WPS X.K Xw u8 YC (forL put τ (ds.drop (i+1)) Z') D,λσ' H' ⟨F',Z',h2,h3⟩=>⟨ds.length - (i+1),by omega,rfl,gk,F',Z',h2,h3⟩,λx H3 y3=>?_⟩;obtain⟨F3,zf,q3⟩:=xV x H3 y3
   match QN:put d Z2,w2 with
   |none,w2=>exact w2.elim
   |some Z3,w2=>
    refine Nl F1 U F3 H3 σ2 Z2 Z3 d x _ (s2.ext' zf) q3 QN λσ3 s3=>⟨F1,U,F3,Z3,s3,?_⟩
    have w2:WPS X.K Xw u8 YC (τ Z3>>=λo=>match o with | .nx Z2=>forL put τ (ds.drop (i+1)) Z2 | .rt v=>aa (.rt v)) D:=w2
    match τ Z3,w2 with
    |none,w2=>exact w2
    |some (.ok (.nx Z')),w2=>exact λσ' F' H' s'=>⟨F',Z',s',w2⟩
    |some (.ok (.rt d)),w2=>exact λv F' H' e q=>w2 v F' H' (back _ _ e) q
    |some (.ex n),w2=>exact λF' H' e=>w2 F' H' (back _ _ e)
  ·have hi:i=ds.length:=by omega
   subst hi;rw[Vu] at w2;exact .inl ⟨(Pd F2 H2 ds.length s2.ext.ff s2.st.fh).2 (R_ _),w2 σ2 F2 H2 (s2.unbase back hU)⟩
end
def gI(f:Int->Int->D):D->D->M D
 | .int i, .int j=>aa (f i j)
 |_,_=>af
def J3(c:Int->Int->Bool)(f:Int->Int->D):D->D->M D
 | .int i, .int j=>if c i j then aa (f i j) else af
 |_,_=>af
theorem wk{K:Se}{gv:Int->Int->V}{gd:Int->Int->D}(h:∀F i j,Den K F (gd i j) (gv i j)):xy K (yC gv) (gI gd):=λXw F H x y dx dy Q s hx hy w=>by
 unfold gI at w;split at w
 ·rename_i i j;exact⟨i,j,hx,hy,WP.now w s (h F i j)⟩
 ·exact w.elim
theorem yt{K:Se}{gv:Int->Int->V}{gd:Int->Int->D}{c:Int->Int->Bool}{C:Int->Int->Prop}(h:∀F i j,Den K F (gd i j) (gv i j))(hc:∀i j,c i j=true->C i j):xy K (rI C gv) (J3 c gd):=λXw F H x y dx dy Q s hx hy w=>by
 unfold J3 at w;split at w
 ·rename_i i j;split at w
  ·rename_i JB;exact⟨i,j,hx,hy,hc i j JB,WP.now w s (h F i j)⟩
  ·exact w.elim
 ·exact w.elim
def dg:=gI λi j=> .int (i+j)
def tG:=gI λi j=> .int (i - j)
def iJ:=J3 (λi j=>decide ((-(2 ^ 64)<i/\i<2 ^ 64)\/(-(2 ^ 64)<j/\j<2 ^ 64))) λi j=> .int (i*j)
def qR:=J3 (λ_ j=>decide (0<j/\j<1073741824)) λi j=> .int (i / j)
def kF:=J3 (λ_ j=>decide (0<j)) λi j=> .int (i % j)
def Oy:=gI λi j=> .bl (decide (i<j))
def L4:=gI λi j=> .bl (decide (j<i))
section
variable{X:Cx}{Xw:Nat->Hp->Prop}{a b:Expr}{δa δb:DE}{pos:Pos}
theorem c0(ha:PD X Xw a δa)(hb:PD X Xw b δb):PD X Xw (.BinOp a .Add b pos) (d2 dg δa δb):=qf Iw (wk λ_ _ _=>rfl) ha hb
theorem mf(ha:PD X Xw a δa)(hb:PD X Xw b δb):PD X Xw (.BinOp a .Sub b pos) (d2 tG δa δb):=qf ID (wk λ_ _ _=>rfl) ha hb
theorem ke(ha:PD X Xw a δa)(hb:PD X Xw b δb):PD X Xw (.BinOp a .Mult b pos) (d2 iJ δa δb):=qf IB (yt (λ_ _ _=>rfl) λi j h=>by unfold CMul;exact Yk h) ha hb
theorem um(ha:PD X Xw a δa)(hb:PD X Xw b δb):PD X Xw (.BinOp a .FloorDiv b pos) (d2 qR δa δb):=qf Fu (yt (λ_ _ _=>rfl) λi j h=>by unfold JH;exact Yk h) ha hb
theorem me(ha:PD X Xw a δa)(hb:PD X Xw b δb):PD X Xw (.BinOp a .Mod b pos) (d2 kF δa δb):=qf IA (yt (λ_ _ _=>rfl) λi j h=>Yk h) ha hb
theorem Li(ha:PD X Xw a δa)(hb:PD X Xw b δb):nO X Xw (.Compare a [.Lt] [b] pos) (cP (d2 Oy δa δb)):=f6 C8 (wk λ_ _ _=>rfl) ha hb
theorem Lh(ha:PD X Xw a δa)(hb:PD X Xw b δb):nO X Xw (.Compare a [.Gt] [b] pos) (cP (d2 L4 δa δb)):=f6 G6 (wk λ_ _ _=>rfl) ha hb
def iI:D->D->M D
 | .lst ds, .int i=>match atI ds i with | some d=>aa d | none=>af
 |_,_=>af
def bP:D->D->M D
 | .tup ds, .int i=>match atI ds i with | some d=>aa d | none=>af
 |_,_=>af
def Ca:D->D->M D
 | .scr ns, .int i=>match atI ns i with | some n=>aa (.int n) | none=>af
 |_,_=>af
def kE:D->D->M D
 | .str x, .int i=>match atI x.cps.toList i with | some c=>aa (.str ⟨#[c]⟩) | none=>af
 |_,_=>af
theorem DenL.atI{K:Se}{F:Hp}{ds:List D}{vs:List V}(h:DenL K F ds vs){i:Int}{d:D}(e:L2.atI ds i=some d):∃v,L2.atI vs i=some v/\Den K F d v:=by
 unfold L2.atI at e⊢;rw[<-h.len];cases q:Et ds.length i with
 |none=>rw[q] at e;cases e
 |some j=>
  rw[q] at e;exact h.get e
theorem Fv{K:Se}:xy K (Jf K) iI:=λXw F H x y dx dy Q s hx hy w=>by
 unfold iI at w;split at w
 ·rename_i ds i;obtain⟨a,vs,h1,h2,h3,h4⟩:=hx;split at w
  ·rename_i d e;obtain⟨v,e1,q⟩:=h3.atI e;exact⟨a,vs,i,v,h1,hy,SqL.of (s _ _ h2),e1,WP.now w s q⟩
  ·exact w.elim
 ·exact w.elim
theorem Fy{K:Se}:xy K (Lq K) bP:=λXw F H x y dx dy Q s hx hy w=>by
 unfold bP at w;split at w
 ·rename_i ds i;obtain⟨a,vs,h1,h2,h3,h4⟩:=hx;split at w
  ·rename_i d e;obtain⟨v,e1,q⟩:=h3.atI e;exact⟨a,vs,i,v,h1,hy,SqT.of (s _ _ h2),e1,WP.now w s q⟩
  ·exact w.elim
 ·exact w.elim
theorem Fw{K:Se}:xy K (Jf K) Ca:=λXw F H x y dx dy Q s hx hy w=>by
 unfold Ca at w;split at w
 ·rename_i ns i;obtain⟨a,h1,h2,h3⟩:=hx;split at w
  ·rename_i n e;refine⟨a,_,i, .int n,h1,hy,Same.seq s h2,?_,WP.now w s rfl⟩;unfold L2.atI at e⊢;rw[R5];cases q:Et ns.length i with
   |none=>rw[q] at e;cases e
   |some j=>
    rw[q] at e;have e:ns[j]? =some n:=e;show (ns.map V.int)[j]? =some (.int n);rw[Sj,e];rfl
  ·exact w.elim
 ·exact w.elim
theorem Fx{K:Se}:xy K Lp kE:=λXw F H x y dx dy Q s hx hy w=>by
 unfold kE at w;split at w
 ·rename_i z i;obtain⟨h1,h2⟩:=hx;split at w
  ·rename_i c e;exact⟨z,i,c,h1,hy,by have:=cY;omega,e,WP.now w s ⟨rfl,by show 1<=lim;decide⟩⟩
  ·exact w.elim
 ·exact w.elim
theorem uo(ha:PD X Xw a δa)(hb:PD X Xw b δb)(hs:js b:=by intro _ _;rfl):PD X Xw (.Subscript a b pos) (d2 iI δa δb):=zK zr Fv ha hb hs
theorem IH(ha:PD X Xw a δa)(hb:PD X Xw b δb)(hs:js b:=by intro _ _;rfl):PD X Xw (.Subscript a b pos) (d2 Ca δa δb):=zK zr Fw ha hb hs
theorem cF(ha:PD X Xw a δa)(hb:PD X Xw b δb)(hs:js b:=by intro _ _;rfl):PD X Xw (.Subscript a b pos) (d2 bP δa δb):=zK Ie Fy ha hb hs
theorem yx(ha:PD X Xw a δa)(hb:PD X Xw b δb)(hs:js b:=by intro _ _;rfl):PD X Xw (.Subscript a b pos) (d2 kE δa δb):=zK Ic Fx ha hb hs
def rM:D->D->M D
 | .lst x, .lst y=>if x.length+y.length<=lim then aa (.lst (x++y)) else af
 |_,_=>af
theorem jk(x y:Str):(x++y).length=x.length+y.length:=by
 show (x.cps++y.cps).size=_;simp[Wo]
theorem FD(ha:PD X Xw a δa)(hb:PD X Xw b δb):PD X Xw (.BinOp a .Add b pos) (d2 rM δa δb):=qf Iy (λXw F H x y dx dy Q s hx hy w=>by
 unfold rM at w;split at w
 ·rename_i i j;obtain⟨a,vs,h1,h2,h3,h4⟩:=hx;obtain⟨a',vs',k1,k2,k3,k4⟩:=hy;split at w
  ·rename_i hl;have e1:=h3.len;have e2:=k3.len;have:=cY;refine⟨a,a',vs,vs',h1,k1,s _ _ h2,s _ _ k2,by omega,λp hp=>?_⟩;exact WP.fin w (Ext.lay s hp) ⟨p,_,rfl,aH,DenL.mono (Ext.lay s hp).ff (h3.append k3),by rw[Sg];exact hl⟩
  ·exact w.elim
 ·exact w.elim) ha hb
end
end L3
namespace L3
open PySem PySem.Spec L2 SeqAt
open PyProof.Rows hiding St
def vC(f:D->D->Option Bool):List D->List D->Option Bool
 |[],[]=>some true
 |x::xs,y::ys=>match f x y,vC f xs ys with
  |some b,some r=>some (b&&r)
  |_,_=>none
 |[],_::_=>some false
 |_::_,[]=>some false
def xM:D->D->Option Bool
 | .non, .non=>some true
 | .bl a, .bl b=>some (a==b)
 | .bl a, .int j=>some ((if a then 1 else 0)==j)
 | .int i, .bl b=>some (i==(if b then 1 else 0))
 | .int i, .int j=>some (i==j)
 | .str x, .str y=>some (x==y)
 | .non, .bl _=>some false
 | .non, .int _=>some false
 | .non, .str _=>some false
 | .non, .lst _=>some false
 | .non, .tup _=>some false
 | .bl _, .non=>some false
 | .bl _, .str _=>some false
 | .bl _, .lst _=>some false
 | .bl _, .tup _=>some false
 | .int _, .non=>some false
 | .int _, .str _=>some false
 | .int _, .lst _=>some false
 | .int _, .tup _=>some false
 | .str _, .non=>some false
 | .str _, .bl _=>some false
 | .str _, .int _=>some false
 | .str _, .lst _=>some false
 | .str _, .tup _=>some false
 | .lst _, .non=>some false
 | .lst _, .bl _=>some false
 | .lst _, .int _=>some false
 | .lst _, .str _=>some false
 | .lst _, .tup _=>some false
 | .tup _, .non=>some false
 | .tup _, .bl _=>some false
 | .tup _, .int _=>some false
 | .tup _, .str _=>some false
 | .tup _, .lst _=>some false
 |_,_=>none
def vB:Nat->D->D->Option Bool
 |n+1, .tup xs, .tup ys=>vC (vB n) xs ys
 |n+1, .lst xs, .lst ys=>vC (vB n) xs ys
 |n+1, .scr xs, .lst ys=>vC (vB n) (xs.map D.int) ys
 |_,x,y=>xM x y
structure EqAll (A:S1) (s:R8) (u v:Value) (b:Bool):Prop where
 rc:RcAt A s u v b
 ne:RcNeAt A s u v (!b)
 eq:EqAt A s u v b
section
variable{X:Cx}{f8:List (Addr×Obj)}{σ:St}{F H:Hp}{s:R8}{A:S1}
theorem eY(I:Inv X f8 σ H s)(hs:Same F H){ds:List D}{v:V}{u:Value}(h:Den X.K F (.tup ds) v)(r:RelV v u):∃a vs aS,u= .ref a/\v= .ref a/\F a=some (.tup vs)/\DenL X.K F ds vs/\Vals vs aS/\s.heap.IsTuple a aS.toArray:=by
 obtain⟨a,vs,rfl,h2,h3,h4⟩:=h;obtain⟨aS,r1,p1,_⟩:=I.tuple (SqT.of (hs _ _ h2));exact⟨a,vs,aS,r,rfl,h2,h3,r1,p1⟩
theorem eA(I:Inv X f8 σ H s)(hs:Same F H){ds:List D}{v:V}{u:Value}(h:Den X.K F (.lst ds) v)(r:RelV v u):∃a vs aS,u= .ref a/\v= .ref a/\F a=some (.lst vs)/\DenL X.K F ds vs/\Vals vs aS/\s.heap.IsList a aS.toArray:=by
 obtain⟨a,vs,rfl,h2,h3,h4⟩:=h;obtain⟨aS,r1,p1,_⟩:=I.list (SqL.of (hs _ _ h2));exact⟨a,vs,aS,r,rfl,h2,h3,r1,p1.isList⟩
theorem Jj(I:Inv X f8 σ H s)(hs:Same F H){ns:List Int}{v:V}{u:Value}(h:Den X.K F (.scr ns) v)(r:RelV v u):∃a aS,u= .ref a/\v= .ref a/\SqL X.K F a (ns.map V.int)/\Vals (ns.map V.int) aS/\s.heap.IsList a aS.toArray:=by
 obtain⟨a,rfl,h2,h3⟩:=h;obtain⟨aS,r1,p1,_⟩:=I.list (Same.seq hs h2);exact⟨a,aS,r,rfl,h2,r1,p1.isList⟩
theorem vE(I:Inv X f8 σ H s)(hs:Same F H)(hu:A.units<cLine){x y:D}{v w:V}{u t:Value}{b:Bool}(hx:Den X.K F x v)(hy:Den X.K F y w)(rx:RelV v u)(ry:RelV w t)(e:xM x y=some b):EqAll A s u t b:=by
 cases x with
 |non=>
  cases y with
  |non=>
   cases e;cases (show _=_ from hx);cases rx;cases (show _=_ from hy);cases ry;exact⟨RcAt.none_none,RcNeAt.none_none,EqAt.same _⟩
  |bl d=>
   cases e;cases (show _=_ from hx);cases rx;cases (show _=_ from hy);cases ry;exact⟨RcAt.none_bool _,RcNeAt.none_bool _,EqAt.none_bool _⟩
  |int d=>
   cases e;cases (show _=_ from hx);cases rx;cases (show _=_ from hy);obtain⟨t2,rfl⟩:=ry;exact⟨RcAt.none_int _ _,RcNeAt.none_int _ _,EqAt.none_int _ _⟩
  |str d=>
   cases e;cases (show _=_ from hx);cases rx;cases (show _=_ from hy.1);obtain⟨t2,rfl⟩:=ry;exact⟨RcAt.none_str _ _,RcNeAt.none_str _ _,EqAt.none_str _ _⟩
  |raw d=>cases e
  |dct _ _=>cases e
  |dci _ _=>cases e
  |exc d=>cases e
  |scr d=>cases e
  |tup d=>
   cases e;cases (show _=_ from hx);cases rx;obtain⟨a2,_,_,rfl,_,_,_,_,p2⟩:=eY I hs hy ry;exact⟨RcAt.none_tuple p2 hu,RcNeAt.none_tuple p2 hu,EqAt.none_tuple p2 hu⟩
  |lst d=>
   cases e;cases (show _=_ from hx);cases rx;obtain⟨a2,_,_,rfl,_,_,_,_,p2⟩:=eA I hs hy ry;exact⟨RcAt.none_list p2 hu,RcNeAt.none_list p2 hu,EqAt.none_list p2 hu⟩
 |bl c=>
  cases y with
  |non=>
   cases e;cases (show _=_ from hx);cases rx;cases (show _=_ from hy);cases ry;exact⟨RcAt.bool_none _,RcNeAt.bool_none _,EqAt.bool_none _⟩
  |bl d=>
   cases e;cases (show _=_ from hx);cases rx;cases (show _=_ from hy);cases ry;exact⟨RcAt.bool_bool _ _,RcNeAt.bool_bool _ _,EqAt.bool_bool _ _⟩
  |int d=>
   cases e;cases (show _=_ from hx);cases rx;cases (show _=_ from hy);obtain⟨t2,rfl⟩:=ry;exact⟨RcAt.bool_int _ _ _,RcNeAt.bool_int _ _ _,EqAt.bool_int _ _ _⟩
  |str d=>
   cases e;cases (show _=_ from hx);cases rx;cases (show _=_ from hy.1);obtain⟨t2,rfl⟩:=ry;exact⟨RcAt.bool_str _ _ _,RcNeAt.bool_str _ _ _,EqAt.bool_str _ _ _⟩
  |raw d=>cases e
  |dct _ _=>cases e
  |dci _ _=>cases e
  |exc d=>cases e
  |scr d=>cases e
  |tup d=>
   cases e;cases (show _=_ from hx);cases rx;obtain⟨a2,_,_,rfl,_,_,_,_,p2⟩:=eY I hs hy ry;exact⟨RcAt.bool_tuple _ p2 hu,RcNeAt.bool_tuple _ p2 hu,EqAt.bool_tuple _ p2 hu⟩
  |lst d=>
   cases e;cases (show _=_ from hx);cases rx;obtain⟨a2,_,_,rfl,_,_,_,_,p2⟩:=eA I hs hy ry;exact⟨RcAt.bool_list _ p2 hu,RcNeAt.bool_list _ p2 hu,EqAt.bool_list _ p2 hu⟩
 |int c=>
  cases y with
  |non=>
   cases e;cases (show _=_ from hx);obtain⟨t1,rfl⟩:=rx;cases (show _=_ from hy);cases ry;exact⟨RcAt.int_none _ _,RcNeAt.int_none _ _,EqAt.int_none _ _⟩
  |bl d=>
   cases e;cases (show _=_ from hx);obtain⟨t1,rfl⟩:=rx;cases (show _=_ from hy);cases ry;exact⟨RcAt.int_bool _ _ _,RcNeAt.int_bool _ _ _,EqAt.int_bool _ _ _⟩
  |int d=>
   cases e;cases (show _=_ from hx);obtain⟨t1,rfl⟩:=rx;cases (show _=_ from hy);obtain⟨t2,rfl⟩:=ry;exact⟨RcAt.int_int _ _ _ _,RcNeAt.int_int _ _ _ _,EqAt.int_int _ _ _ _⟩
  |str d=>
   cases e;cases (show _=_ from hx);obtain⟨t1,rfl⟩:=rx;cases (show _=_ from hy.1);obtain⟨t2,rfl⟩:=ry;exact⟨RcAt.int_str _ _ _ _,RcNeAt.int_str _ _ _ _,EqAt.int_str _ _ _ _⟩
  |raw d=>cases e
  |dct _ _=>cases e
  |dci _ _=>cases e
  |exc d=>cases e
  |scr d=>cases e
  |tup d=>
   cases e;cases (show _=_ from hx);obtain⟨t1,rfl⟩:=rx;obtain⟨a2,_,_,rfl,_,_,_,_,p2⟩:=eY I hs hy ry;exact⟨RcAt.int_tuple _ _ p2 hu,RcNeAt.int_tuple _ _ p2 hu,EqAt.int_tuple _ _ p2 hu⟩
  |lst d=>
   cases e;cases (show _=_ from hx);obtain⟨t1,rfl⟩:=rx;obtain⟨a2,_,_,rfl,_,_,_,_,p2⟩:=eA I hs hy ry;exact⟨RcAt.int_list _ _ p2 hu,RcNeAt.int_list _ _ p2 hu,EqAt.int_list _ _ p2 hu⟩
 |str c=>
  cases y with
  |non=>
   cases e;cases (show _=_ from hx.1);obtain⟨t1,rfl⟩:=rx;cases (show _=_ from hy);cases ry;exact⟨RcAt.str_none _ _,RcNeAt.str_none _ _,EqAt.str_none _ _⟩
  |bl d=>
   cases e;cases (show _=_ from hx.1);obtain⟨t1,rfl⟩:=rx;cases (show _=_ from hy);cases ry;exact⟨RcAt.str_bool _ _ _,RcNeAt.str_bool _ _ _,EqAt.str_bool _ _ _⟩
  |int d=>
   cases e;cases (show _=_ from hx.1);obtain⟨t1,rfl⟩:=rx;cases (show _=_ from hy);obtain⟨t2,rfl⟩:=ry;exact⟨RcAt.str_int _ _ _ _,RcNeAt.str_int _ _ _ _,EqAt.str_int _ _ _ _⟩
  |str d=>
   cases e;cases (show _=_ from hx.1);obtain⟨t1,rfl⟩:=rx;cases (show _=_ from hy.1);obtain⟨t2,rfl⟩:=ry;exact⟨RcAt.str_str _ _ _ _,RcNeAt.str_str _ _ _ _,EqAt.str_str _ _ _ _⟩
  |raw d=>cases e
  |dct _ _=>cases e
  |dci _ _=>cases e
  |exc d=>cases e
  |scr d=>cases e
  |tup d=>
   cases e;cases (show _=_ from hx.1);obtain⟨t1,rfl⟩:=rx;obtain⟨a2,_,_,rfl,_,_,_,_,p2⟩:=eY I hs hy ry;exact⟨RcAt.str_tuple _ _ p2 hu,RcNeAt.str_tuple _ _ p2 hu,EqAt.str_tuple _ _ p2 hu⟩
  |lst d=>
   cases e;cases (show _=_ from hx.1);obtain⟨t1,rfl⟩:=rx;obtain⟨a2,_,_,rfl,_,_,_,_,p2⟩:=eA I hs hy ry;exact⟨RcAt.str_list _ _ p2 hu,RcNeAt.str_list _ _ p2 hu,EqAt.str_list _ _ p2 hu⟩
 |raw _=>cases y<;>cases e
 |dct _ _=>cases y<;>cases e
 |dci _ _=>cases y<;>cases e
 |exc _=>cases y<;>cases e
 |scr c=>cases y<;>cases e
 |tup c=>
  cases y with
  |non=>
   cases e;obtain⟨a1,_,_,rfl,_,_,_,_,p1⟩:=eY I hs hx rx;cases (show _=_ from hy);cases ry;exact⟨RcAt.tuple_none p1 hu,RcNeAt.tuple_none p1 hu,EqAt.tuple_none p1 hu⟩
  |bl d=>
   cases e;obtain⟨a1,_,_,rfl,_,_,_,_,p1⟩:=eY I hs hx rx;cases (show _=_ from hy);cases ry;exact⟨RcAt.tuple_bool _ p1 hu,RcNeAt.tuple_bool _ p1 hu,EqAt.tuple_bool _ p1 hu⟩
  |int d=>
   cases e;obtain⟨a1,_,_,rfl,_,_,_,_,p1⟩:=eY I hs hx rx;cases (show _=_ from hy);obtain⟨t2,rfl⟩:=ry;exact⟨RcAt.tuple_int _ _ p1 hu,RcNeAt.tuple_int _ _ p1 hu,EqAt.tuple_int _ _ p1 hu⟩
  |str d=>
   cases e;obtain⟨a1,_,_,rfl,_,_,_,_,p1⟩:=eY I hs hx rx;cases (show _=_ from hy.1);obtain⟨t2,rfl⟩:=ry;exact⟨RcAt.tuple_str _ _ p1 hu,RcNeAt.tuple_str _ _ p1 hu,EqAt.tuple_str _ _ p1 hu⟩
  |raw d=>cases e
  |dct _ _=>cases e
  |dci _ _=>cases e
  |exc d=>cases e
  |scr d=>cases e
  |tup d=>cases e
  |lst d=>
   cases e;obtain⟨a1,_,_,rfl,_,_,_,_,p1⟩:=eY I hs hx rx;obtain⟨a2,_,_,rfl,_,_,_,_,p2⟩:=eA I hs hy ry;exact⟨RcAt.tuple_list p1 p2 hu,RcNeAt.tuple_list p1 p2 hu,EqAt.tuple_list p1 p2 hu⟩
 |lst c=>
  cases y with
  |non=>
   cases e;obtain⟨a1,_,_,rfl,_,_,_,_,p1⟩:=eA I hs hx rx;cases (show _=_ from hy);cases ry;exact⟨RcAt.list_none p1 hu,RcNeAt.list_none p1 hu,EqAt.list_none p1 hu⟩
  |bl d=>
   cases e;obtain⟨a1,_,_,rfl,_,_,_,_,p1⟩:=eA I hs hx rx;cases (show _=_ from hy);cases ry;exact⟨RcAt.list_bool _ p1 hu,RcNeAt.list_bool _ p1 hu,EqAt.list_bool _ p1 hu⟩
  |int d=>
   cases e;obtain⟨a1,_,_,rfl,_,_,_,_,p1⟩:=eA I hs hx rx;cases (show _=_ from hy);obtain⟨t2,rfl⟩:=ry;exact⟨RcAt.list_int _ _ p1 hu,RcNeAt.list_int _ _ p1 hu,EqAt.list_int _ _ p1 hu⟩
  |str d=>
   cases e;obtain⟨a1,_,_,rfl,_,_,_,_,p1⟩:=eA I hs hx rx;cases (show _=_ from hy.1);obtain⟨t2,rfl⟩:=ry;exact⟨RcAt.list_str _ _ p1 hu,RcNeAt.list_str _ _ p1 hu,EqAt.list_str _ _ p1 hu⟩
  |raw d=>cases e
  |dct _ _=>cases e
  |dci _ _=>cases e
  |exc d=>cases e
  |scr d=>cases e
  |tup d=>
   cases e;obtain⟨a1,_,_,rfl,_,_,_,_,p1⟩:=eA I hs hx rx;obtain⟨a2,_,_,rfl,_,_,_,_,p2⟩:=eY I hs hy ry;exact⟨RcAt.list_tuple p1 p2 hu,RcNeAt.list_tuple p1 p2 hu,EqAt.list_tuple p1 p2 hu⟩
  |lst d=>cases e
end
def ev(f:D->D->Option Bool)(xs ys:List D)(j:Nat):Bool:=match xs[j]?,ys[j]? with
 |some x,some y=>(f x y).getD false
 |_,_=>false
theorem vD{f:D->D->Option Bool}:∀{xs ys:List D}{b:Bool},vC f xs ys=some b->∀(j:Nat) (x y:D),xs[j]? =some x->ys[j]? =some y->∃c,f x y=some c
 |[],_,_,_,_,_,_,h,_=>by simp at h
 |_::_,[],_,_,_,_,_,_,h=>by simp at h
 |x::xs,y::ys,b,e,j,x',y',hx,hy=>by
  unfold vC at e;split at e
  ·rename_i b1 r1 e1 e2;cases j with
   |zero=>simp at hx hy;subst hx hy;exact⟨_,e1⟩
   |succ j=>exact vD e2 j x' y' (by simpa using hx) (by simpa using hy)
  ·cases e
theorem tF{f:D->D->Option Bool}:∀{xs ys:List D}{b:Bool},vC f xs ys=some b->b=((Sn (min xs.length ys.length)).all (ev f xs ys)&&xs.length==ys.length)
 |[],[],_,e=>by cases e;rfl
 |[],_::_,_,e=>by cases e;simp
 |_::_,[],_,e=>by cases e;simp
 |x::xs,y::ys,b,e=>by
  unfold vC at e;split at e
  ·rename_i b1 r1 e1 e2;cases e;have h:=tF e2;rw[Sd,Sd,Nat.succ_min_succ,Uc,UH,UC];have e0:ev f (x::xs) (y::ys) 0=b1:=by unfold ev;simp[e1]
   have e3:(ev f (x::xs) (y::ys)∘Nat.succ)=ev f xs ys:=by funext j;simp[ev,WI]
   have e4:(xs.length+1==ys.length+1)=(xs.length==ys.length):=by simp
   rw[e0,e3,e4,h,Bool.and_assoc]
  ·cases e
section
variable{X:Cx}{f8:List (Addr×Obj)}{σ:St}{F H:Hp}{s:R8}
theorem kC{f:D->D->Option Bool}(h:∀x y v b,Den X.K F x v->Den X.K F y v->f x y=some b->b=true):∀{xs ys:List D}{vs:List V}{b:Bool},DenL X.K F xs vs->DenL X.K F ys vs->vC f xs ys=some b->b=true
 |[],[],_,_,_,_,e=>by cases e;rfl
 |[],_::_,_,_,h1,h2,_=>by
  cases (show _=_ from h1);obtain⟨v,r,z,_⟩:=h2;cases z
 |_::_,[],_,_,h1,h2,_=>by
  cases (show _=_ from h2);obtain⟨v,r,z,_⟩:=h1;cases z
 |x::xs,y::ys,_,b,⟨v,r,e1,q1,q2⟩,⟨v',r',e2,q3,q4⟩,e=>by
  subst e1;cases e2;unfold vC at e;split at e
  ·rename_i b1 r1 f1 f2;cases e;rw[h x y v b1 q1 q3 f1,kC h q2 q4 f2];rfl
  ·cases e
theorem rL{x y:D}{v:V}{b:Bool}(hx:Den X.K F x v)(hy:Den X.K F y v)(e:xM x y=some b):b=true:=by
 cases x<;>cases y<;>first
  |(cases e;done)
  |(cases e;cases (show _=_ from hx);cases (show _=_ from hy);first | rfl | simp)
  |(cases e;cases (show _=_ from hx.1);cases (show _=_ from hy.1);simp)
  |(cases e;cases (show _=_ from hx);cases (show _=_ from hy.1))
  |(cases e;cases (show _=_ from hx.1);cases (show _=_ from hy))
  |(cases e;obtain⟨_,_,z,_⟩:=hx;subst z;cases (show _=_ from hy);done)
  |(cases e;obtain⟨_,_,z,_⟩:=hx;subst z;cases (show _=_ from hy.1);done)
  |(cases e;obtain⟨_,z,_⟩:=hx;subst z;cases (show _=_ from hy);done)
  |(cases e;obtain⟨_,z,_⟩:=hx;subst z;cases (show _=_ from hy.1);done)
  |(cases e;obtain⟨_,_,z,_⟩:=hy;subst z;cases (show _=_ from hx);done)
  |(cases e;obtain⟨_,_,z,_⟩:=hy;subst z;cases (show _=_ from hx.1);done)
  |(cases e;obtain⟨_,z,_⟩:=hy;subst z;cases (show _=_ from hx);done)
  |(cases e;obtain⟨_,z,_⟩:=hy;subst z;cases (show _=_ from hx.1);done)
  |(cases e;obtain⟨_,_,z,h2,_⟩:=hx;obtain⟨_,_,z',OC,_⟩:=hy;subst z;cases z';rw[h2] at OC;cases OC;done)
  |(cases e;cases (show _=_ from hx);cases (show _=_ from hy);done)
  |(cases e;cases (show _=_ from hx.1);cases (show _=_ from hy.1);done)
theorem kB(I:Inv X f8 σ H s)(hs:Same F H):∀(n:Nat) (x y:D) (v:V) (b:Bool),Den X.K F x v->Den X.K F y v->vB n x y=some b->b=true
 |0,x,y,v,b,hx,hy,e=>rL hx hy (by unfold vB at e;exact e)
 |n+1,x,y,v,b,hx,hy,e=>by
  unfold vB at e;split at e
  ·rename_i xs ys _;obtain⟨a,vs,rfl,h2,h3,_⟩:=hx;obtain⟨a',vs',z,k2,k3,_⟩:=hy;cases z;rw[h2] at k2;cases k2;exact kC (kB I hs _) h3 k3 (by simpa using e)
  ·rename_i xs ys _;obtain⟨a,vs,rfl,h2,h3,_⟩:=hx;obtain⟨a',vs',z,k2,k3,_⟩:=hy;cases z;rw[h2] at k2;cases k2;exact kC (kB I hs _) h3 k3 (by simpa using e)
  ·rename_i xs ys _;obtain⟨a,rfl,h2,_⟩:=hx;obtain⟨a',vs',z,k2,k3,_⟩:=hy;cases z;have hv:=I.list_inj (Same.seq hs h2) (SqL.of (hs _ _ k2));rw[<-hv] at k3;exact kC (kB I hs _) (DenL.ints xs) k3 (by simpa using e)
  ·exact rL hx hy e
theorem Vals.at{vs:List V}{aS:List Value}(r:Vals vs aS){j:Nat}(h:j<aS.toArray.size):∃v,vs[j]? =some v/\RelV v aS.toArray[j]:=by
 have hl:=r.length;have hj:j<vs.length:=by rw[Si] at h;omega
 obtain⟨u,e1,e2⟩:=r.get (R6 hj);refine⟨vs[j],R6 hj,?_⟩;have:aS.toArray[j]=u:=by
  have:=(Sb.mp e1).2;simpa using this
 rw[this];exact e2
theorem oj{f:D->D->Option Bool}{A:S1}{xs ys:List D}{vs ws:List V}{aS fL:List Value}{b:Bool}(h1:DenL X.K F xs vs)(h2:DenL X.K F ys ws)(r1:Vals vs aS)(r2:Vals ws fL)(e:vC f xs ys=some b)
 (ih:∀x y v w u t c,Den X.K F x v->Den X.K F y w->RelV v u->RelV w t->f x y=some c->EqAt A s u t c):
 ∀j (k1:j<aS.toArray.size) (k2:j<fL.toArray.size),EqAt A s aS.toArray[j] fL.toArray[j] (ev f xs ys j):=λj k1 k2=>by
 obtain⟨v,e1,q1⟩:=Vals.at r1 k1;obtain⟨w,e2,q2⟩:=Vals.at r2 k2;obtain⟨x,e3,q3⟩:=h1.at e1;obtain⟨y,e4,q4⟩:=h2.at e2;obtain⟨c,hc⟩:=vD e j x y e3 e4;have:ev f xs ys j=c:=by unfold ev;rw[e3,e4];simp[hc]
 rw[this];exact ih x y v w _ _ c q3 q4 q1 q2 hc
theorem rZ{f:D->D->Option Bool}{A:S1}(hu:A.units<cLine){xs ys:List D}{vs ws:List V}{aS fL:List Value}{b:Bool}{a a':Addr}(h1:DenL X.K F xs vs)(h2:DenL X.K F ys ws)(r1:Vals vs aS)(r2:Vals ws fL)
 (p1:s.heap.IsList a aS.toArray)(p2:s.heap.IsList a' fL.toArray)(e:vC f xs ys=some b)(hr:a=a'->b=true)
 (ih:∀x y v w u t c,Den X.K F x v->Den X.K F y w->RelV v u->RelV w t->f x y=some c->EqAt A.in1 s u t c):EqAll A s (.ref a) (.ref a') b:=by
 have l1:=h1.len;have l2:=h2.len;have l3:=r1.length;have l4:=r2.length;have hv:=tF e;have core:RcAt A s (.ref a) (.ref a') b/\RcNeAt A s (.ref a) (.ref a') (!b):=by
  by_cases hl:xs.length=ys.length
  ·have hsz:aS.toArray.size=fL.toArray.size:=by rw[Si,Si];omega
   have hb:b=(Sn aS.toArray.size).all (ev f xs ys):=by
    rw[hv,hl,Xz,beq_self_eq_true,Bool.and_true];congr 2;rw[Si];omega
   rw[hb];exact⟨RcAt.lists p1 p2 hsz hu (oj h1 h2 r1 r2 e ih),RcNeAt.lists p1 p2 hsz hu (oj h1 h2 r1 r2 e ih)⟩
  ·have hb:b=false:=by rw[hv,show (xs.length==ys.length)=false from by simpa using hl,Bool.and_false]
   have hsz:(aS.toArray.size !=fL.toArray.size)=true:=by
    rw[Si,Si];simp;omega
   rw[hb];exact⟨RcAt.lists_lengths p1 p2 hsz hu,RcNeAt.lists_lengths p1 p2 hsz hu⟩
 refine⟨core.1,core.2,?_⟩;by_cases hq:a=a'
 ·rw[hr hq];subst hq;exact EqAt.same _
 ·exact EqAt.of_refs hq core.1
theorem yN{f:D->D->Option Bool}{A:S1}(hu:A.units<cLine){xs ys:List D}{vs ws:List V}{aS fL:List Value}{b:Bool}{a a':Addr}(h1:DenL X.K F xs vs)(h2:DenL X.K F ys ws)(r1:Vals vs aS)(r2:Vals ws fL)
 (p1:s.heap.IsTuple a aS.toArray)(p2:s.heap.IsTuple a' fL.toArray)(e:vC f xs ys=some b)(hr:a=a'->b=true)
 (ih:∀x y v w u t c,Den X.K F x v->Den X.K F y w->RelV v u->RelV w t->f x y=some c->EqAt A.in1 s u t c):EqAll A s (.ref a) (.ref a') b:=by
 have l1:=h1.len;have l2:=h2.len;have l3:=r1.length;have l4:=r2.length;have hb:b=((Sn (min aS.toArray.size fL.toArray.size)).all (ev f xs ys)&&aS.toArray.size==fL.toArray.size):=by
  rw[tF e,Si,Si,<-l3,<-l4,<-l1,<-l2]
 have core:RcAt A s (.ref a) (.ref a') b/\RcNeAt A s (.ref a) (.ref a') (!b):=by
  rw[hb];exact⟨RcAt.tuples p1 p2 hu (oj h1 h2 r1 r2 e ih),RcNeAt.tuples p1 p2 hu (oj h1 h2 r1 r2 e ih)⟩
 refine⟨core.1,core.2,?_⟩;by_cases hq:a=a'
 ·rw[hr hq];subst hq;exact EqAt.same _
 ·exact EqAt.of_refs hq core.1
theorem xN(I:Inv X f8 σ H s)(hs:Same F H):∀(n:Nat) (A:S1) (x y:D) (v w:V) (u t:Value) (b:Bool),A.units+n<cLine->Den X.K F x v->Den X.K F y w->RelV v u->RelV w t->vB n x y=some b->EqAll A s u t b
 |0,A,x,y,v,w,u,t,b,hu,hx,hy,rx,ry,e=>vE I hs (by omega) hx hy rx ry (by unfold vB at e;exact e)
 |n+1,A,x,y,v,w,u,t,b,hu,hx,hy,rx,ry,e=>by
  have Mh:A.units<cLine:=by omega
  have Q3:A.in1.units+n<cLine:=by show A.units+1+n<cLine;omega
  have hrefl:=kB (F:=F) I hs (n+1) x y;have ih:∀x y v w u t c,Den X.K F x v->Den X.K F y w->RelV v u->RelV w t->vB n x y=some c->EqAt A.in1 s u t c:=λx y v w u t c q1 q2 q3 q4 q5=>(xN I hs n A.in1 x y v w u t c Q3 q1 q2 q3 q4 q5).eq;have e0:=e;unfold vB at e;split at e
  ·rename_i xs ys heq;cases heq;obtain⟨a,vs,aS,rfl,JZ,h2,h3,r1,p1⟩:=eY I hs hx rx;obtain⟨a',vs',its',rfl,J0,k2,k3,Lk,K8⟩:=eY I hs hy ry;exact yN Mh h3 k3 r1 Lk p1 K8 e (λz=>by subst z;exact hrefl v b hx (by rw[JZ,<-J0];exact hy) e0) ih
  ·rename_i xs ys heq;cases heq;obtain⟨a,vs,aS,rfl,JZ,h2,h3,r1,p1⟩:=eA I hs hx rx;obtain⟨a',vs',its',rfl,J0,k2,k3,Lk,K8⟩:=eA I hs hy ry;exact rZ Mh h3 k3 r1 Lk p1 K8 e (λz=>by subst z;exact hrefl v b hx (by rw[JZ,<-J0];exact hy) e0) ih
  ·rename_i xs ys heq;cases heq;obtain⟨a,aS,rfl,JZ,h2,r1,p1⟩:=Jj I hs hx rx;obtain⟨a',vs',its',rfl,J0,k2,k3,Lk,K8⟩:=eA I hs hy ry;exact rZ Mh (DenL.ints _) k3 r1 Lk p1 K8 e (λz=>by subst z;exact hrefl v b hx (by rw[JZ,<-J0];exact hy) e0) ih
  ·exact vE I hs Mh hx hy rx ry e
end
def kx(x y:D):M D:=match vB 6 x y with | some b=>aa (.bl b) | none=>af
def lG(x y:D):M D:=match vB 6 x y with | some b=>aa (.bl (!b)) | none=>af
def Lm(K:Se):R2:=λx y H Q=>∃F dx dy b,Same F H/\Den K F dx x/\Den K F dy y/\vB 6 dx dy=some b/\Q (.bl b) H
def Lr(K:Se):R2:=λx y H Q=>∃F dx dy b,Same F H/\Den K F dx x/\Den K F dy y/\vB 6 dx dy=some b/\Q (.bl (!b)) H
section
variable{X:Cx}{Xw:Nat->Hp->Prop}{a b:Expr}{δa δb:DE}{pos:Pos}
theorem C7(hu:X.A.units+64<cLine):OpR X (Te .Eq) (Lm X.K):=by
 intro f8 s σ H x y v u Q I rx ry h;obtain⟨F,dx,dy,b,hs,hx,hy,e,q⟩:=h;exact(xN I hs 6 X.A dx dy x y v u b (by omega) hx hy rx ry e).rc _ _ _ _ ⟨.bl b,H,I,rfl,q⟩
theorem IC(hu:X.A.units+64<cLine):OpR X (Te .NotEq) (Lr X.K):=by
 intro f8 s σ H x y v u Q I rx ry h;obtain⟨F,dx,dy,b,hs,hx,hy,e,q⟩:=h;exact(xN I hs 6 X.A dx dy x y v u b (by omega) hx hy rx ry e).ne _ _ _ _ ⟨.bl (!b),H,I,rfl,q⟩
theorem C9{K:Se}:xy K (Lm K) kx:=λXw F H x y dx dy Q s hx hy w=>by
 unfold kx at w;split at w
 ·rename_i b e;exact⟨F,dx,dy,b,s,hx,hy,e,WP.now w s rfl⟩
 ·exact w.elim
theorem IE{K:Se}:xy K (Lr K) lG:=λXw F H x y dx dy Q s hx hy w=>by
 unfold lG at w;split at w
 ·rename_i b e;exact⟨F,dx,dy,b,s,hx,hy,e,WP.now w s rfl⟩
 ·exact w.elim
theorem wB(hu:X.A.units+64<cLine)(ha:PD X Xw a δa)(hb:PD X Xw b δb):nO X Xw (.Compare a [.Eq] [b] pos) (cP (d2 kx δa δb)):=f6 (C7 hu) C9 ha hb
theorem i8(hu:X.A.units+64<cLine)(ha:PD X Xw a δa)(hb:PD X Xw b δb):nO X Xw (.Compare a [.NotEq] [b] pos) (cP (d2 lG δa δb)):=f6 (IC hu) IE ha hb
theorem nk(hu:X.A.units+64<cLine)(ha:PD X Xw a δa)(hb:PD X Xw b δb):PD X Xw (.Compare a [.Eq] [b] pos) (d2 kx δa δb):=Dh (C7 hu) C9 ha hb
end
def PDW(X:Cx)(Xw:Nat->Hp->Prop)(e:Expr)(δ:DT):Prop:=PW X e (Mp X.K Xw δ)
theorem PW.weak{X:Cx}{e:Expr}{t t':TT}(h:PW X e t)(k:∀σ H Q,t' σ H Q->t σ H Q):PW X e t':=λwh f8 s σ H Q I w=>h wh f8 s σ H Q I (k σ H Q w)
section
variable{X:Cx}{Xw:Nat->Hp->Prop}{a b c:Expr}{W1:List Expr}{δa δb δc:DE}{τa τb:DT}{pos:Pos}
theorem Dj(ha:nO X Xw a τa):PDW X Xw (.BoolOp .And [a] pos) τa:=F7 ha
theorem g_(ha:nO X Xw a τa):PDW X Xw (.BoolOp .Or [a] pos) τa:=Jd ha
theorem FJ(ha:nO X Xw a τa)(hb:PDW X Xw (.BoolOp .And (b::W1) pos) τb):PDW X Xw (.BoolOp .And (a::b::W1) pos) (Al τa τb):=PW.weak (Jc ha hb) λσ H Q ⟨F,Z,s,w⟩=>by
 refine⟨F,Z,s,WPB.mono (WPB.bindB w) λv H1 ⟨F1,e1,w1⟩=>?_⟩;cases v with
 |true=>exact⟨F1,Z,s.ext e1,w1⟩
 |false=>exact w1 _ _ (Ext.refl e1.fh)
theorem kf(ha:nO X Xw a τa)(hb:PDW X Xw (.BoolOp .Or (b::W1) pos) τb):PDW X Xw (.BoolOp .Or (a::b::W1) pos) (oY τa τb):=PW.weak (Lj ha hb) λσ H Q ⟨F,Z,s,w⟩=>by
 refine⟨F,Z,s,WPB.mono (WPB.bindB w) λv H1 ⟨F1,e1,w1⟩=>?_⟩;cases v with
 |false=>exact⟨F1,Z,s.ext e1,w1⟩
 |true=>exact w1 _ _ (Ext.refl e1.fh)
theorem PDW.t(h:PDW X Xw a τa):nO X Xw a τa:=PW.pt h
theorem cR(ha:nO X Xw a τa):nO X Xw (.UnaryOp .Not a pos) (cN τa):=PT.weak (Ja ha) λσ H Q ⟨F,Z,s,w⟩=>
 ⟨F,Z,s,WPB.mono (WPB.bindB w) λv H1 ⟨F1,e1,w1⟩=>w1 _ _ (Ext.refl e1.fh)⟩
def xb:D->M Bool
 | .non=>aa false
 | .bl b=>aa b
 | .lst ds=>aa (!ds.isEmpty)
 | .tup ds=>aa (!ds.isEmpty)
 |_=>af
def cw(δ:DE):DT:=λZ=>δ Z>>=xb
theorem DenL.isEmpty{K:Se}{F:Hp}{ds:List D}{vs:List V}(h:DenL K F ds vs):ds.isEmpty=vs.isEmpty:=by
 have:=h.len;cases ds<;>cases vs<;>simp_all
theorem cS(ha:PD X Xw a δa)(he:∀whole,isTrue a X.env whole=(do let v<-whole;standAt a.pos;holding [v] (truthy v)):=by intro _;rfl):nO X Xw a (cw δa):=PT.weak (DC ha he) λσ H Q ⟨F,Z,s,w⟩=>by
 refine⟨F,Z,s,WP.mono (WPB.bind (K:=X.K) w) λv H1 ⟨F1,d,e1,q1,w1⟩=>?_⟩;cases d with
 |non=>cases (show _=_ from q1);exact⟨false,rfl,w1 _ _ (Ext.refl e1.fh)⟩
 |bl b=>cases (show _=_ from q1);exact⟨b,rfl,w1 _ _ (Ext.refl e1.fh)⟩
 |lst ds=>
  obtain⟨a,vs,rfl,h2,h3,_⟩:=q1;exact⟨!ds.isEmpty, .inl ⟨vs,SqL.of (e1.fh _ _ h2),by rw[h3.isEmpty]⟩,w1 _ _ (Ext.refl e1.fh)⟩
 |tup ds=>
  obtain⟨a,vs,rfl,h2,h3,_⟩:=q1;exact⟨!ds.isEmpty, .inr (.inl ⟨vs,SqT.of (e1.fh _ _ h2),by rw[h3.isEmpty]⟩),w1 _ _ (Ext.refl e1.fh)⟩
 |_=>exact w1.elim
theorem ur{op}(h:PD X Xw a δa):PD X Xw (.BoolOp op [a] pos) δa:=IT h
theorem uk(ha:PD X Xw a δa)(hb:PD X Xw (.BoolOp .And (b::W1) pos) δb):PD X Xw (.BoolOp .And (a::b::W1) pos) (fB δa δb):=PE.weak (IL ha hb) λσ H Q ⟨F,Z,s,w⟩=>by
 refine⟨F,Z,s,WP.mono (WP.bind w) λv H1 ⟨F1,d,e1,q1,w1⟩=>?_⟩;cases d with
 |bl k=>
  refine⟨k,q1,?_⟩;cases k with
  |true=>exact⟨F1,Z,s.ext e1,w1⟩
  |false=>exact WP.now w1 e1.fh rfl
 |_=>exact w1.elim
theorem Lb(ha:PD X Xw a δa)(hb:PD X Xw (.BoolOp .Or (b::W1) pos) δb):PD X Xw (.BoolOp .Or (a::b::W1) pos) (Am δa δb):=PE.weak (Lf ha hb) λσ H Q ⟨F,Z,s,w⟩=>by
 refine⟨F,Z,s,WP.mono (WP.bind w) λv H1 ⟨F1,d,e1,q1,w1⟩=>?_⟩;cases d with
 |bl k=>
  refine⟨k,q1,?_⟩;cases k with
  |false=>exact⟨F1,Z,s.ext e1,w1⟩
  |true=>exact WP.now w1 e1.fh rfl
 |_=>exact w1.elim
theorem IK(ha:PD X Xw a δa):PD X Xw (.UnaryOp .Not a pos) (GD δa):=PE.weak (IS ha) λσ H Q ⟨F,Z,s,w⟩=>by
 refine⟨F,Z,s,WP.mono (WP.bind w) λv H1 ⟨F1,d,e1,q1,w1⟩=>?_⟩;cases d with
 |bl k=>exact⟨k,q1,WP.now w1 e1.fh rfl⟩
 |_=>exact w1.elim
theorem La(hc:nO X Xw c τa)(ha:PD X Xw a δa)(hb:PD X Xw b δb):PD X Xw (.IfExp c a b pos) (GC τa δa δb):=PE.weak (Dq hc ha hb) λσ H Q ⟨F,Z,s,w⟩=>by
 refine⟨F,Z,s,WPB.mono (WP.bindB w) λv H1 ⟨F1,e1,w1⟩=>?_⟩;cases v with
 |true=>exact⟨F1,Z,s.ext e1,w1⟩
 |false=>exact⟨F1,Z,s.ext e1,w1⟩
def xr(p q:Int->Int->Bool)(a b c:DE):DE:=λZ=>a Z>>=λx=>b Z>>=λy=>match x,y with
 | .int i, .int j=>if p i j then c Z>>=λz=>gI (λi j=> .bl (q i j)) y z else aa (.bl false)
 |_,_=>af
theorem sN{p q:Int->Int->Bool}:∀σ H Q,tD X.K Xw (xr p q δa δb δc) σ H Q->yM (yC λi j=> .bl (p i j)) (yC λi j=> .bl (q i j)) (tD X.K Xw δa) (tD X.K Xw δb) (tD X.K Xw δc) σ H Q:=λσ H Q ⟨F,Z,s,w⟩=>by
 refine⟨F,Z,s,WP.mono (WP.bind w) λv H1 ⟨F1,d,e1,q1,w1⟩=>?_⟩;refine⟨F1,Z,s.ext e1,WP.mono (WP.bind w1) λu H2 ⟨F2,d',e2,q2,w2⟩=>?_⟩;cases d with
 |int i=>
  cases d' with
  |int j=>
   refine⟨i,j,q1,q2,p i j,rfl,?_⟩;have w2:WP X.K Xw F2 H2 (if p i j then δc Z>>=λz=>gI (λi j=> .bl (q i j)) (.int j) z else aa (.bl false)) Q:=w2;cases hp:p i j with
   |false=>
    rw[hp] at w2;exact WP.now w2 e2.fh rfl
   |true=>
    rw[hp] at w2;refine⟨F2,Z,(s.ext e1).ext e2,WP.mono (WP.bind w2) λu' H3 ⟨F3,PL,e3,q3,w3⟩=>?_⟩;exact wk (K:=X.K) (gv:=λi j=> .bl (q i j)) (gd:=λi j=> .bl (q i j)) (λ_ _ _=>rfl) Xw F3 H3 u u' (.int j) PL Q e3.fh q2 q3 w3
  |_=>exact w2.elim
 |_=>exact w2.elim
theorem Dg{op yr:CmpOp}{p q:Int->Int->Bool}(ho:OpR X (Te op) (yC λi j=> .bl (p i j)))(rO:OpR X (Te yr) (yC λi j=> .bl (q i j)))(ha:PD X Xw a δa)(hb:PD X Xw b δb)(hc:PD X Xw c δc)
 (hm:lastMarks [op,yr] [b,c]=false:=by with_unfolding_all rfl):PD X Xw (.Compare a [op,yr] [b,c] pos) (xr p q δa δb δc):=PE.weak (Dm ho rO ha hb hc hm) sN
theorem yB{op yr:CmpOp}{p q:Int->Int->Bool}(ho:OpR X (Te op) (yC λi j=> .bl (p i j)))(rO:OpR X (Te yr) (yC λi j=> .bl (q i j)))(ha:PD X Xw a δa)(hb:PD X Xw b δb)(hc:PD X Xw c δc)
 (hm:lastMarks [op,yr] [b,c]=false:=by with_unfolding_all rfl):nO X Xw (.Compare a [op,yr] [b,c] pos) (cP (xr p q δa δb δc)):=PT.weak (DB ho rO ha hb hc hm) λσ H Q ⟨F,Z,s,w⟩=>by
 refine sN σ H _ ⟨F,Z,s,WP.mono (WPB.bind w) λv H1 ⟨F1,d,e1,q1,w1⟩=>?_⟩;cases d with
 |bl k=>exact⟨k,q1,w1 _ _ (Ext.refl e1.fh)⟩
 |_=>exact w1.elim
def vc(K:Se)(r:List V->Hp->VK->Prop)(g:List D->M D):Prop:=∀(Xw:Nat->Hp->Prop) (F H:Hp) (vs:List V) (ds:List D) (Q:VK),Same F H->DenL K F ds vs->WP K Xw F H (g ds) Q->r vs H Q
variable{x:Str}{p:Pos}{e:Expr}{es:List Expr}{δs:DA}{id T:String}{r:List V->Hp->VK->Prop}{g:List D->M D}
theorem D6(h:vc X.K r g):∀σ H Q,tD X.K Xw (dA g δs) σ H Q->N1 r (Pw X.K Xw δs) σ H Q:=λσ H Q ⟨F,Z,s,w⟩=>
 ⟨F,Z,s,WPL.mono (WP.bindL w) λvs H1 ⟨F1,ds,e1,q1,w1⟩=>h Xw F1 H1 vs ds Q e1.fh q1 w1⟩
theorem eP(hc:CallR X (.builtin id) r)(hd:vc X.K r g)(hg:Gl X x)(hm:X.mg x=none)(hv:S5 x=some (.builtin id))(ha:oe X Xw (e::es) δs)(hn:x≠"__name__":=by decide)(tI:(x==("__debug__":Str))=false:=by decide)
 (he:Su (e::es) X.env=(false,eval e X.env)::Su es X.env:=by rfl)(qK:(Uq pos (Su es X.env)).any (·.1)=false:=by rfl):PD X Xw (.Call (.Name x p) (e::es) [] pos) (dA g δs):=
 PE.weak (Dl hc hg hm hv ha hn tI he qK) (D6 hd)
theorem A2(hc:CallR X (.type T) r)(hd:vc X.K r g)(hg:Gl X x)(hm:X.mg x=none)(hv:S5 x=some (.type T))(ha:oe X Xw (e::es) δs)(hn:x≠"__name__":=by decide)(tI:(x==("__debug__":Str))=false:=by decide)
 (he:Su (e::es) X.env=(false,eval e X.env)::Su es X.env:=by rfl)(qK:(Uq pos (Su es X.env)).any (·.1)=false:=by rfl):PD X Xw (.Call (.Name x p) (e::es) [] pos) (dA g δs):=
 PE.weak (A4 hc hg hm hv ha hn tI he qK) (D6 hd)
def bq:List D->M D
 |[.lst ds]=>aa (.int ds.length)
 |[.tup ds]=>aa (.int ds.length)
 |[.str x]=>aa (.int x.length)
 |[.scr ns]=>aa (.int ns.length)
 |_=>af
theorem AI:vc X.K (λxs H Q=>(∃p ys,xs=[.ref p]/\(SqL X.K H p ys\/SqT X.K H p ys)/\Q (.int ys.length) H)\/∃z,xs=[.str z]/\z.length<=Sv/\Q (.int z.length) H) bq:=λXw F H vs ds Q s h w=>by
 unfold bq at w;split at w
 ·obtain⟨v,rfl,h1⟩:=h.one;obtain⟨a,vs,rfl,h2,h3,_⟩:=h1;exact .inl ⟨a,vs,rfl, .inl (SqL.of (s _ _ h2)),by rw[<-h3.len];exact WP.now w s rfl⟩
 ·obtain⟨v,rfl,h1⟩:=h.one;obtain⟨a,vs,rfl,h2,h3,_⟩:=h1;exact .inl ⟨a,vs,rfl, .inr (SqT.of (s _ _ h2)),by rw[<-h3.len];exact WP.now w s rfl⟩
 ·obtain⟨v,rfl,h1⟩:=h.one;cases (show _=_ from h1.1);exact .inr ⟨_,rfl,by have:=h1.2;have:=cY;omega,WP.now w s rfl⟩
 ·obtain⟨v,rfl,h1⟩:=h.one;obtain⟨a,rfl,h2,_⟩:=h1;exact .inl ⟨a,_,rfl, .inl (Same.seq s h2),by rw[R5];exact WP.now w s rfl⟩
 ·exact w.elim
theorem bE(hg:Gl X "len")(hm:X.mg "len"=none)(ha:oe X Xw [e] δs)(he:Su [e] X.env=[(false,eval e X.env)]:=by rfl):PD X Xw (.Call (.Name "len" p) [e] [] pos) (dA bq δs):=
 eP (tm.or tq) AI hg hm PySem.boot_len ha (by decide) (by decide) he rfl
def BB:List D->M D
 |[.int i]=>aa (.int (if i<0 then -i else i))
 |_=>af
def yd:List D->M D
 |[.int i, .int j]=>aa (.int (if j>i then j else i))
 |_=>af
def AO:List D->M D
 |[.int i, .int j]=>aa (.int (if j<i then j else i))
 |_=>af
theorem Df(hg:Gl X "abs")(hm:X.mg "abs"=none)(ha:oe X Xw [e] δs)(hb:S5 "abs"=some (.builtin "abs"))(he:Su [e] X.env=[(false,eval e X.env)]:=by rfl):PD X Xw (.Call (.Name "abs" p) [e] [] pos) (dA BB δs):=
 eP BK (λXw F H vs ds Q s h w=>by
  unfold BB at w;split at w
  ·obtain⟨v,rfl,h1⟩:=h.one;cases (show _=_ from h1);exact⟨_,rfl,WP.now w s rfl⟩
  ·exact w.elim) hg hm hb ha (by decide) (by decide) he rfl
end
theorem WP.xw{K:Se}{Xw Xw':Nat->Hp->Prop}{F H:Hp}{m:M D}{Q:VK}(h:WP K Xw F H m Q)(k:∀n H,Xw n H->Xw' n H):WP K Xw' F H m Q:=by
 match m,h with
 |none,h=>exact h
 |some (.ok d),h=>exact h
 |some (.ex n),h=>exact λF' H' e=>k n H' (h F' H' e)
theorem da{X:Cx}{Xw:Nat->Hp->Prop}{st:Stmt}{τ:DS}(h:gT X.nox (λ_ _=>False) st τ):gT X Xw st (λZ=>noex (τ Z)):=λu8 YC f8 s σ H D I ⟨F,Z,S,w⟩=>by
 have w:WPS X.K Xw u8 YC (noex (τ Z)) D:=w;have w':tS X.K (λ_ _=>False) u8 YC τ D σ H:=by
  refine⟨F,Z,S,?_⟩;rcases(τ Z).cs with e | ⟨n,e⟩ | ⟨o,e⟩
  ·rw[e] at w;exact w.elim
  ·rw[e] at w;exact w.elim
  ·rw[e] at w⊢;cases o with
   |nx Z'=>exact w
   |rt d=>exact w
 refine Ti (h u8 YC f8 s σ H D (I.wish _) w') (λf s' q=>SP.unwish q) λ_ _ z=>z.elim
def EX(cv:Nat->Value)(Xw:Nat->Hp->Prop):XK:=λc _ H=>∃n,c=cv n/\Xw n H
def JE(K:Se)(cv:Nat->Value)(k:Nat)(f:List D->M D):Sp:=λvs H Q E=>∃F ds,Same F H/\DenL K F ds vs/\vs.length=k/\WP K (λn H'=>E (cv n) none H') F H (f ds) Q
def cj(n:Nat)(τ:DS):List D->M D:=λds=>τ (ds.map (λd=>some (Sl.fz d))++S6 (n - ds.length) none)>>=λo=>match o with
 | .nx _=>aa .non
 | .rt d=>aa d
section
variable{P:SJ}{w:World}{K:Se}{mg:Str->Option Value}{base:Heap}{CX:yV}{cv:Nat->Value}
theorem J2{x qual:Str}{st:Stmt}{f:Addr}{fd:Uy}{N ps:List Str}{k:Nat}{τ:DS}(Fn:Fun K x qual st f fd)(S:FnScope N ps (ah st))
 (o9:∀(cu:Value) (A:S1) (outer:List Env) (s:R8) (H:Hp) (E:XK),Room k (A.deeper (T_ qual (ah st) s.heap.objs.size f cu))->
  PSDs (dF CX P w K mg base N qual (ah st) f cu A outer s H E) (λn H'=>E (cv n) none H') (aY st) τ):FnOk P w K mg base CX (k+1) f fd ps (JE K cv ps.length (cj N.length τ)):=by
 obtain⟨oc,od,kV,doc,pm,an,cu,ct,FA,rfl,lk,xt⟩:=Fn.ex;refine GL lk xt S (λvs H Q E ⟨_,_,_,_,hl,_⟩=>hl) λA outer s H vs Q E hr Er=>?_;obtain⟨F,ds,fh,hd,hl,hw⟩:=Er;refine⟨_,o9 cu A outer s H E hr F H,F,ds.map (λd=>some (Sl.fz d))++S6 (N.length - ds.length) none,⟨Ext.refl fh,⟨fh,λi sl e=>?_⟩,?_,λi c a e=>?_,λi j c c' a e=>?_⟩,?_⟩
 ·have v6:=hd.len;by_cases hi:i<ds.length
  ·rw[SW (by simpa using hi),Sj] at e;cases q:ds[i]? with
   |none=>rw[q] at e;cases e
   |some d=>
    rw[q] at e;cases e;obtain⟨v,e1,e2⟩:=hd.get q;refine⟨v,?_,e2⟩;unfold L2.start;rw[SW (by simp;omega),Sj,e1];rfl
  ·rw[S_ (by simpa using hi),T6] at e;split at e<;>cases e
 ·have v6:=hd.len;unfold L2.start;simp[v6]
 ·exfalso
  by_cases hi:i<ds.length
  ·rw[SW (by simpa using hi),Sj] at e;cases q:ds[i]? with
   |none=>rw[q] at e;cases e
   |some d=>rw[q] at e;cases e
  ·rw[S_ (by simpa using hi),T6] at e;split at e<;>cases e
 ·exfalso
  by_cases hi:i<ds.length
  ·rw[SW (by simpa using hi),Sj] at e;cases q:ds[i]? with
   |none=>rw[q] at e;cases e
   |some d=>rw[q] at e;cases e
  ·rw[S_ (by simpa using hi),T6] at e;split at e<;>cases e
 ·have hw:WP K (λn H'=>E (cv n) none H') F H (τ (ds.map (λd=>some (Sl.fz d))++S6 (N.length - ds.length) none)>>=λo=>match o with | .nx _=>aa .non | .rt d=>aa d) Q:=hw;rcases(τ (ds.map (λd=>some (Sl.fz d))++S6 (N.length - ds.length) none)).cs with e | ⟨n,e⟩ | ⟨o,e⟩
  ·rw[e] at hw;exact hw.elim
  ·rw[e] at hw⊢;exact hw
  ·rw[e] at hw⊢;cases o with
   |nx Z'=>exact λσ' F' H' s'=>hw .non H' F' s'.ext rfl
   |rt d=>exact λv F' H' e' q=>hw v H' F' e' q
end
section
variable{X:Cx}{Xw:Nat->Hp->Prop}{CX:yV}{cv:Nat->Value}{k m:Nat}{f:Addr}{fd:Uy}{ps:List Str}{g:List D->M D}{x:Str}{p pos:Pos}{e:Expr}{es:List Expr}{δs:DA}
theorem FC(F:FnOk X.prog X.w X.K X.mg X.base CX k f fd ps (JE X.K cv m g))(hr:Room k X.A)(hg:Gl X x)(hm:X.mg x=some (.ref f))(hk:T5 X.K (.ref f)=true)(hb:Binds X.K fd ps [])(hx:Passes CX X (EX cv Xw))
 (ha:oe X Xw (e::es) δs)(hl:(e::es).length=m)(tI:(x==("__debug__":Str))=false:=by decide)(he:Su (e::es) X.env=(false,eval e X.env)::Su es X.env:=by rfl)(qK:(Uq pos (Su es X.env)).any (·.1)=false:=by rfl):
 PD X Xw (.Call (.Name x p) (e::es) [] pos) (λZ=>δs Z>>=λds=>if ds.length=m then g ds else af):=PE.weak (FL F hr hg hm hk hb .nil hx ha tI he qK) λσ H Q ⟨F,Z,s,w⟩=>by
 refine⟨F,Z,s,WPL.mono (WP.bindL w) λvs H1 ⟨F1,ds,e1,q1,w1⟩=>?_⟩;split at w1
 ·rename_i Km;refine⟨F1,ds,e1.fh,by simpa using q1,by rw[TK,<-q1.len];exact Km,WP.xw w1 λn H h=>⟨n,rfl,h⟩⟩
 ·exact w1.elim
theorem zI{x:Str}{d:D}{v:V}{u:Value}(hg:Gl X x)(hm:X.mg x=some u)(r:RelV v u)(hd:∀F,Den X.K F d v)(tI:(x==("__debug__":Str))=false:=by decide):PD X Xw (.Name x pos) (dC d):=
 gG (FQ hg hm r tI) hd
end
theorem obj_some{P:SJ}{w:World}{H:Hp}{h:Heap}{a:Addr}{o:HO}(x:ObjOk P w H h a o):∃ob,h.get? a=some ob:=by
 cases o with
 |lst xs=>obtain⟨_,_,_,_,e⟩:=x;exact⟨_,e⟩
 |tup xs=>obtain⟨_,_,_,ob,e,_⟩:=x;exact⟨_,e⟩
 |dK kvs=>obtain⟨_,_,_,_,o,_,_,e,_⟩:=x;exact⟨_,e⟩
 |dT kvs=>obtain⟨_,_,_,_,o,_,_,e,_⟩:=x;exact⟨_,e⟩
 |set S n=>obtain⟨o,_,_,_,e,_⟩:=x;exact⟨_,e⟩
 |ins C dx fs=>obtain⟨_,_,_,e,_⟩:=x;exact⟨_,e⟩
 |own y=>obtain⟨_,e⟩:=x;exact⟨_,e⟩
 |xd fs=>obtain⟨_,⟨_,_,_,e,_⟩,_⟩:=x;exact⟨_,e⟩
 |rng lo hi=>obtain⟨_,_,_,e⟩:=x;exact⟨_,e⟩
 |frz ob u=>obtain⟨e,_⟩:=x;exact⟨_,e⟩
 |tbl ps=>exact⟨_,(show h.get? a=some _ from x)⟩
 |met f y=>exact⟨_,(show h.get? a=some _ from x)⟩
 |ext φ=>obtain⟨_,⟨_,e⟩,_⟩:=x;exact⟨_,e⟩
def jZ(P:SJ)(w:World)(cv:Nat->Value):yV:=λouter H s E e s'=>∃(ea:Addr) (n:Nat) (a0:Value) (B:Heap) (H':Hp),e= .ref ea/\s'.os=s.os/\Wa s'.gens/\HOk P w H' s'.heap/\Un (oq outer) [] H H' s.heap s'.heap/\
 Heap.FlyingW B outer ea (cv n) a0 s'.heap/\(∀b o,s'.heap.get? b=some o->(H' b≠none\/(s.heap.get? b).isSome=true)->b∉oq outer->B.get? b=some o)/\E (cv n) none H'
section
variable{P:SJ}{w:World}{fs:List Addr}{YC H:Hp}{h₀ h h':Heap}
theorem Gv(u:Un fs [] YC H h₀ h)(ka:∀b o,h.get? b=some o->b∉fs->(H b≠none\/(h₀.get? b).isSome=true)->h'.get? b=some o)(kb:∀b o,h.get? b=some o->b∈fs->∃sl,h'.get? b=some {o with slots:=sl}):Un fs [] YC H h₀ h' where
 keep:=λb o e n hb hx=>ka b o (u.keep b o e n hb hx) hb (.inr (by rw[e];rfl))
 slot:=λb o e n hb hx=>by
  obtain⟨sl,q⟩:=u.slot b o e n hb hx;obtain⟨Jk,q'⟩:=kb b _ q hb;exact⟨Jk,q'⟩
 free:=u.free
 there:=λb o e hx=>by
  obtain⟨o',q⟩:=u.there b o e hx;by_cases hb:b∈fs
  ·obtain⟨sl,q'⟩:=kb b _ q hb;exact⟨_,q'⟩
  ·exact⟨o',ka b o' q hb (.inr (by rw[e];rfl))⟩
 tups:=u.tups
 frzs:=u.frzs
 tbls:=u.tbls
theorem Co(x:HOk P w H h)(hf:∀b∈fs,H b=none)(ka:∀b o,h.get? b=some o->b∉fs->H b≠none->h'.get? b=some o):HOk P w H h':=λa o e=>by
 refine(x a o e).stay (λb u hb q=>ka b u q (λz=>?_) ?_) (λ_ q=>q) λ_ _ q=>q
 ·have hz:=hf b z;rcases hb with rfl | hb
  ·rw[hz] at e;cases e
  ·rw[hz] at hb;cases hb
 ·rcases hb with rfl | hb
  ·rw[e];exact λz=>nomatch z
  ·rw[hb];exact λz=>nomatch z
end
section
variable{P:SJ}{w:World}{K:Se}{mg:Str->Option Value}{base:Heap}{N:List Str}{qual:Str}{scope:Scope}{f:Addr}{cd:Value}{A:S1}{outer:List Env}{YD:R8}{YC:Hp}{E:XK}{cv:Nat->Value}
theorem aW:Passes (jZ P w cv) (dF (jZ P w cv) P w K mg base N qual scope f cd A outer YD YC E) (EX cv λn H'=>E (cv n) none H'):=by
 intro f8 σ H s e s' I ⟨ea,n,a0,B,H',he,Cq,hg,hok,un,Ov,hB,m,hm,hE⟩;subst he;have HJ:((dF (jZ P w cv) P w K mg base N qual scope f cd A outer YD YC E)).env.locals=YD.heap.objs.size:=rfl;have E6:oq ((dF (jZ P w cv) P w K mg base N qual scope f cd A outer YD YC E)).stack=YD.heap.objs.size::oq outer:=rfl;show wpAny (model P w) (A.deeper (T_ qual scope YD.heap.objs.size f cd)) (leaving (T_ qual scope YD.heap.objs.size f cd) (.ref ea)) _ _ s';refine wpAny_leaves_onW (base:=B) (outer:=outer) (L:=YD.heap.objs.size) I.ok.frames rfl Ov λh' Hy ups=>?_;have GW:∀b∈oq ((dF (jZ P w cv) P w K mg base N qual scope f cd A outer YD YC E)).stack,H' b=none:=λb hb=>by
  obtain⟨o,ho⟩:∃o,s.heap.get? b=some o:=by
   obtain⟨_,o,ho,_⟩:=I.stack.mem hb;exact⟨o,ho⟩
  exact un.free b o ho (I.stkFree b hb) (by simp)
 have G1:∀b o,s'.heap.get? b=some o->b∉oq ((dF (jZ P w cv) P w K mg base N qual scope f cd A outer YD YC E)).stack->(H' b≠none\/(s.heap.get? b).isSome=true)->h'.get? b=some o:=λb o e hb hc=>Hy.1 b o (hB b o e hc hb);have unA:Un (oq outer) [] YC H' YD.heap s'.heap:=by
  have u1:Un (oq outer) [] YC H YD.heap s.heap:=I.base;refine⟨λb o e nn hb hx=>?_,λb o e nn hb hx=>?_,λb o e nn hx=>?_,λb o e hx=>?_,λb xs q=>un.tups b xs (u1.tups b xs q),λb o u q=>un.frzs b o u (u1.frzs b o u q),λb ps q=>?_⟩
  ·refine un.keep b o (u1.keep b o e nn hb hx) (u1.free b o e nn hx) (λz=>?_) (by simp);rw[E6] at z;rcases Sf.mp z with z | z
   ·exact Ym (Sq e) (by rw[z];exact Tf _)
   ·exact hb z
  ·obtain⟨sl,q⟩:=u1.slot b o e nn hb hx;obtain⟨Jk,q'⟩:=un.slot b _ q (u1.free b o e nn hx) (by rw[E6];exact R4 _ hb) (by simp);exact⟨Jk,q'⟩
  ·obtain⟨o',q⟩:=u1.there b o e hx;exact un.free b o' q (u1.free b o e nn hx) (by simp)
  ·obtain⟨o',q⟩:=u1.there b o e hx;exact un.there b o' q (by simp)
  ·obtain⟨m1,q1⟩:=u1.tbls b ps q;obtain⟨m2,q2⟩:=un.tbls b _ q1;exact⟨m1++m2,by rw[q2,V_]⟩
 have Pa:∀b,(YD.heap.get? b).isSome=true->(s.heap.get? b).isSome=true:=λb hb=>by
  obtain⟨o,ho⟩:=Uw.mp hb;obtain⟨o',q⟩:=(show Un (oq outer) [] YC H YD.heap s.heap from I.base).there b o ho (by simp);rw[q];rfl
 have NM:∀b,(YD.heap.get? b).isSome=true->b≠YD.heap.objs.size:=λb hb z=>by
  obtain⟨o,ho⟩:=Uw.mp hb;exact Ym (Sq ho) (by rw[z];exact Tf _)
 have K3:∀b,b∉oq outer->(H' b≠none\/(YD.heap.get? b).isSome=true)->b∉oq ((dF (jZ P w cv) P w K mg base N qual scope f cd A outer YD YC E)).stack:=λb hb hc z=>by
  rcases hc with hc | hc
  ·exact hc (GW b z)
  ·rw[E6] at z;rcases Sf.mp z with z | z
   ·exact NM b hc z
   ·exact hb z
 refine⟨ea,n,a0,B,H',rfl,Cq.trans I.os,hg,Co hok GW (λb o e hb hc=>G1 b o e hb (.inl hc)),Gv unA (λb o e hb hc=>G1 b o e (K3 b hb hc) (hc.imp id (Pa b))) (λb o e hb=>?_),Hy,λb o e hc hb=>?_,?_⟩
 ·obtain⟨_,o',rO,hd⟩:=Ov.2.2.1.mem (show b∈oq ((dF (jZ P w cv) P w K mg base N qual scope f cd A outer YD YC E)).stack by rw[E6];exact R4 _ hb);rw[e] at rO;cases rO;exact ups b o e hd
 ·have L7:=K3 b hb hc;obtain⟨o',rO⟩:∃o',s'.heap.get? b=some o':=by
   rcases hc with hc | hc
   ·cases q:H' b with
    |none=>exact Ym q hc
    |some u=>
     exact obj_some (hok b u q)
   ·obtain⟨o1,h1⟩:=Uw.mp hc;exact unA.there b o1 h1 (by simp)
  have:=hB b o' rO (hc.imp id (Pa b)) L7;rw[Hy.1 b o' this] at e;cases e;exact this
 ·rw[hm];exact hE
end
def G2:D->Option String
 | .non=>some "NoneType"
 | .bl _=>some "bool"
 | .int _=>some "int"
 | .str _=>some "str"
 | .tup _=>some "tuple"
 | .lst _=>some "list"
 |_=>none
def H0(k T:String):Option Bool:=if T="str"\/T="int"\/T="bool"\/T="tuple"\/T="list" then some (decide (k=T)||(decide (k="bool")&&decide (T="int"))) else none
def gZ:List D->M D
 |[d, .raw (.ty T)]=>match G2 d with
  |some k=>match H0 k T with
   |some b=>aa (.bl b)
   |none=>af
  |none=>af
 |_=>af
theorem Il{K:Se}{k T:String}{b:Bool}(hk:k="NoneType"\/k="bool"\/k="int"\/k="str"\/k="tuple"\/k="list")(h:H0 k T=some b):Wy K (.type k) (.type T)=some b:=by
 unfold H0 at h;split at h
 ·rename_i hT;cases h;rcases hk with rfl | rfl | rfl | rfl | rfl | rfl<;>rcases hT with rfl | rfl | rfl | rfl | rfl<;>with_unfolding_all rfl
 ·cases h
section
variable{X:Cx}{Xw:Nat->Hp->Prop}{a b e e2:Expr}{δs:DA}{pos p:Pos}
def Lo(K:Se):List V->Hp->VK->Prop:=λxs H Q=>∃x T t b,xs=[x, .ty T]/\TyOf K H x t/\Wy K t (.type T)=some b/\Q (.bl b) H
theorem BL:CallR X (.builtin "isinstance") (Lo X.K):=by
 intro f8 s σ H xs us Q I r h;obtain⟨x,T,t,b,rfl,ty,e,q⟩:=h;obtain⟨u,w',rfl,r1,r2⟩:=vals2 r;cases (show w'=_ from r2);exact Az I r1 ty e λtk=>⟨.bl b,H,I.tok tk,rfl,q⟩
theorem Eb{K:Se}{F H:Hp}{d:D}{v:V}{k:String}(s:Same F H)(h:Den K F d v)(hk:G2 d=some k):TyOf K H v (.type k)/\(k="NoneType"\/k="bool"\/k="int"\/k="str"\/k="tuple"\/k="list"):=by
 cases d with
 |non=>cases hk;cases (show _=_ from h);exact⟨.non, .inl rfl⟩
 |bl x=>cases hk;cases (show _=_ from h);exact⟨.bl x, .inr (.inl rfl)⟩
 |int x=>cases hk;cases (show _=_ from h);exact⟨.int x, .inr (.inr (.inl rfl))⟩
 |str x=>cases hk;cases (show _=_ from h.1);exact⟨.str x, .inr (.inr (.inr (.inl rfl)))⟩
 |tup x=>cases hk;obtain⟨a,vs,rfl,h2,_⟩:=h;exact⟨.tup (s _ _ h2), .inr (.inr (.inr (.inr (.inl rfl))))⟩
 |lst x=>cases hk;obtain⟨a,vs,rfl,h2,_⟩:=h;exact⟨.lst (s _ _ h2), .inr (.inr (.inr (.inr (.inr rfl))))⟩
 |_=>cases hk
theorem Ay{K:Se}:vc K (Lo K) gZ:=λXw F H vs ds Q s h w=>by
 unfold gZ at w;split at w
 ·rename_i d T;obtain⟨v,v',rfl,h1,h2⟩:=h.two;cases (show _=_ from h2);split at w
  ·rename_i k hk;split at w
   ·rename_i b hb;obtain⟨ty,L_⟩:=Eb s h1 hk;exact⟨v,T, .type k,b,rfl,ty,Il L_ hb,WP.now w s rfl⟩
   ·exact w.elim
  ·exact w.elim
 ·exact w.elim
theorem j_(hg:Gl X "isinstance")(hm:X.mg "isinstance"=none)(hb:S5 "isinstance"=some (.builtin "isinstance"))(ha:oe X Xw [e,e2] δs)(he:Su [e,e2] X.env=(false,eval e X.env)::Su [e2] X.env:=by rfl)
 (qK:(Uq pos (Su [e2] X.env)).any (·.1)=false:=by rfl):PD X Xw (.Call (.Name "isinstance" p) [e,e2] [] pos) (dA gZ δs):=
 eP BL Ay hg hm hb ha (by decide) (by decide) he qK
theorem qh{x:Str}{T:String}(hg:Gl X x)(hm:X.mg x=none)(hv:S5 x=some (.type T))(hn:x≠"__name__":=by decide)(hd:(x==("__debug__":Str))=false:=by decide):PD X Xw (.Name x pos) (dC (.raw (.ty T))):=
 gG (v:= .ty T) (FK hg hm hv (show RelV (.ty T) (.type T) from rfl) hn hd) λ_=>rfl
def bools:List D->Option (List Bool)
 |[]=>some []
 | .bl b::r=>(bools r).map (b:: ·)
 |_=>none
def allM:List D->M D
 |[.lst ds]=>match bools ds with
  |some bs=>aa (.bl (bs.all id))
  |none=>af
 |_=>af
theorem rD{K:Se}{F:Hp}:∀{ds:List D}{vs:List V}{bs:List Bool},bools ds=some bs->DenL K F ds vs->vs=bs.map V.bl
 |[],_,_,e,h=>by cases e;exact h
 | .bl b::r,_,_,e,⟨v,r',h1,h2,h3⟩=>by
   unfold bools at e;cases q:bools r with
   |none=>rw[q] at e;cases e
   |some bs=>rw[q] at e;cases e;subst h1;rw[rD q h3,show v= .bl b from h2];rfl
 | .non::_,_,_,e,_=>by cases e
 | .int _::_,_,_,e,_=>by cases e
 | .str _::_,_,_,e,_=>by cases e
 | .raw _::_,_,_,e,_=>by cases e
 | .exc _::_,_,_,e,_=>by cases e
 | .scr _::_,_,_,e,_=>by cases e
 | .tup _::_,_,_,e,_=>by cases e
 | .lst _::_,_,_,e,_=>by cases e
theorem z3:∀{bs:List Bool}{aS:List Value},Vals (bs.map V.bl) aS->aS=bs.map Vi
 |[],_,r=>by cases r;rfl
 |b::bs,_,r=>by
  cases r with
  |cons r1 r2=>cases (show _=_ from r1);rw[z3 r2];rfl
def NR:List V->Hp->VK->Prop:=λxs H Q=>∃(a:Addr) (bs:List Bool),xs=[.ref a]/\H a=some (.lst (bs.map V.bl))/\Q (.bl (bs.all id)) H
theorem all_range{bs:List Bool}:(Sn bs.length).all (λi=>bs.getD i false)=bs.all id:=by
 induction bs with
 |nil=>rfl
 |cons b bs ih=>
  rw[Sd,Uc,UH,UC,UH];congr 1
theorem Ae(hc:X.calm=true):CallR X (.builtin "all") NR:=by
 intro f8 s σ H xs us Q I r h;obtain⟨a,bs,rfl,hH,q⟩:=h;obtain⟨u,rfl,r1⟩:=vals1 r;cases (show u=_ from r1);obtain⟨aS,r2,pl,hz⟩:=I.list (SqL.of (K:=X.K) hH);obtain rfl:=z3 r2;have eK:a≠s.heap.objs.size:=SH (I.hok.lt hH);refine call_all_walk (wpAny_pyIter_list pl.isList ?_);refine⟨s.heap.objs.size,_,_,_,_,_,λi=>bs.getD i false,rfl,Walks.list (A:=X.A.in1) (show X.A.in1.handled=none from I.ok.hd hc) s.heap.objs.size a eK (bs.map Vi).toArray,⟨⟨_,Sx _ rfl,rfl,rfl⟩,Heap.IsList.at pl.isList λo e=>R7 _ e⟩,?_,λh' tk k=>?_⟩
 ·intro i v s' Q' E' hv hq;have hv:(bs.map Vi).toArray[i]? =some v:=hv;rw[List.getElem?_toArray,Sj] at hv;cases q':bs[i]? with
  |none=>rw[q'] at hv;cases hv
  |some b=>
   rw[q'] at hv;cases hv;have:bs.getD i false=b:=by rw[Ss,q'];rfl
   have hq:Q' (bs.getD i false) s':=hq;rw[this] at hq;exact Tw hq
 ·have e:(Sn (bs.map Vi).toArray.size).all (λi=>bs.getD i false)=bs.all id:=by
   rw[Si,R5];exact all_range
  rw[e];refine⟨.bl (bs.all id),H,I.kept (h':=h') (t':=tk) λb o e'=>k b o (λz=>?_) (R7 _ e'),rfl,q⟩;have z:b=s.heap.objs.size:=by simpa using z
  exact Ym (Sq e') (by rw[z];exact Tf _)
theorem uh(hc:X.calm=true)(hg:Gl X "all")(hm:X.mg "all"=none)(hb:S5 "all"=some (.builtin "all"))(ha:oe X Xw [e] δs)(he:Su [e] X.env=[(false,eval e X.env)]:=by rfl):PD X Xw (.Call (.Name "all" p) [e] [] pos) (dA allM δs):=
 eP (Ae hc) (λXw F H vs ds Q s h w=>by
  unfold allM at w;split at w
  ·rename_i ds;obtain⟨v,rfl,h1⟩:=h.one;obtain⟨a,ws,rfl,h2,h3,_⟩:=h1;split at w
   ·rename_i bs hb;exact⟨a,bs,rfl,by rw[<-rD hb h3];exact s _ _ h2,WP.now w s rfl⟩
   ·exact w.elim
  ·exact w.elim) hg hm hb ha (by decide) (by decide) he rfl
end
section
variable{X:Cx}{Xw:Nat->Hp->Prop}{a b e e2:Expr}{es:List Expr}{δ δa δb:DE}{pos p T0 bh:Pos}
theorem Gq{i:Nat}:∀u8 YC D σ H,tS X.K Xw u8 YC (ll i δ) D σ H->D9 (N0 X.K "list" zR (kr i) (D7 (tD X.K Xw δ) Jp)) D σ H:=λu8 YC D σ H ⟨F,Z,s,w⟩=>by
 unfold ll at w;cases ho:AY Z i with
 |none=>rw[ho] at w;exact w.elim
 |some ds=>
  rw[ho] at w;have hi:=si ho;obtain⟨v,hv,a,o,rfl,hH,hF,vs,rfl,hd,hl⟩:=s.st.den i _ hi;have w:WPS X.K Xw u8 YC (δ Z>>=λd=>if ds.length<lim then aa (.nx (Z.set i (some (.ow (.lst (ds++[d])))))) else af) D:=w;refine⟨.ref a,hv, .inl ⟨rfl,vs,SqL.of hH⟩,F,Z,s.st,?_⟩;rcases(δ Z).cs with q | ⟨n,q⟩ | ⟨d,q⟩
  ·rw[q] at w;exact w.elim
  ·rw[q] at w⊢;exact λF' H' e'=>w F' H' (s.ext.trans e')
  ·rw[q] at w⊢;intro u H1 F1 e1 hq;have w:WPS X.K Xw u8 YC (if ds.length<lim then aa (.nx (Z.set i (some (.ow (.lst (ds++[d])))))) else af) D:=w;split at w
   ·rename_i gk;have v6:=hd.len;refine⟨a,vs,u,rfl,rfl,e1.hh _ _ hH,by have:=cY;omega,?_⟩;exact w σ F1 _ ((s.ext' e1).chg (c₀:= .lst (ds++[d])) hi hv ⟨_,rfl,DenL.append (DenL.mono e1.ff hd) (.cons hq .nil),by rw[Sg];exact gk⟩)
   ·exact w.elim
theorem Gr{i:Nat}:∀u8 YC D σ H,tS X.K Xw u8 YC (DP i δ) D σ H->D9 (N0 X.K "list" zS (kr i) (D7 (tD X.K Xw δ) Jp)) D σ H:=λu8 YC D σ H ⟨F,Z,s,w⟩=>by
 unfold DP at w;cases ho:AY Z i with
 |none=>rw[ho] at w;exact w.elim
 |some ds=>
  rw[ho] at w;have hi:=si ho;obtain⟨v,hv,a,o,rfl,hH,hF,vs,rfl,hd,hl⟩:=s.st.den i _ hi;have w:WPS X.K Xw u8 YC (δ Z>>=λd=>lstM d>>=λes=>if ds.length+es.length<=lim then aa (.nx (Z.set i (some (.ow (.lst (ds++es)))))) else af) D:=w;refine⟨.ref a,hv, .inl ⟨rfl,vs,SqL.of hH⟩,F,Z,s.st,?_⟩;rcases(δ Z).cs with q | ⟨n,q⟩ | ⟨d,q⟩
  ·rw[q] at w;exact w.elim
  ·rw[q] at w⊢;exact λF' H' e'=>w F' H' (s.ext.trans e')
  ·rw[q] at w⊢;intro u H1 F1 e1 hq;cases d with
   |lst es=>
    obtain⟨b,ws,rfl,k2,k3,k4⟩:=hq;have w:WPS X.K Xw u8 YC (if ds.length+es.length<=lim then aa (.nx (Z.set i (some (.ow (.lst (ds++es)))))) else af) D:=w;split at w
    ·rename_i gk;have v6:=hd.len;have OX:=k3.len;refine⟨a,b,vs,ws,rfl,rfl,e1.hh _ _ hH,e1.fh _ _ k2,by have:=cY;omega,?_⟩;exact w σ F1 _ ((s.ext' e1).chg (c₀:= .lst (ds++es)) hi hv ⟨_,rfl,DenL.append (DenL.mono e1.ff hd) k3,by rw[Sg];exact gk⟩)
    ·exact w.elim
   |_=>exact w.elim
theorem lg{i:Nat}{x:Str}(hv:PE X (.Name x p) (kr i))(he:PD X Xw e δ)(hs:Vg (.Call (.Attribute (.Name x p) "append" T0) [e] [] bh) none pos.line X.env=pure false:=by rfl)
 (iM:Uv (.Name x p) "append" X.env (eval (.Name x p) X.env)=eval (.Name x p) X.env:=by rfl)
 (pd:((Uq bh (Su [e] X.env)).all (λx=>!x.1)&&(Wb bh (U0 [] X.env)).all (λx=>x.1.isSome)&&decide ([e].length+([]:List UQ).length+(if ([]:List UQ).isEmpty then 0 else 1)<30))=true:=by rfl)
 (iN:(T0.endLine==bh.line)=true:=by rfl)(Ct:Su [e] X.env=[(false,eval e X.env)]:=by rfl):gT X Xw (.Expr (.Call (.Attribute (.Name x p) "append" T0) [e] [] bh) pos) (ll i δ):=λu8 YC=>
 PS.weak (oC (Dk WQ PySem.F.slot_list_append PySem.F.type_list_append r6 hv (uf he ug Ct) iM pd iN Ct rfl) hs) λD σ H w=>Gq u8 YC D σ H w
theorem FW{i:Nat}{x:Str}(hv:PE X (.Name x p) (kr i))(he:PD X Xw e δ)(hs:Vg (.Call (.Attribute (.Name x p) "extend" T0) [e] [] bh) none pos.line X.env=pure false:=by rfl)
 (iM:Uv (.Name x p) "extend" X.env (eval (.Name x p) X.env)=eval (.Name x p) X.env:=by rfl)
 (pd:((Uq bh (Su [e] X.env)).all (λx=>!x.1)&&(Wb bh (U0 [] X.env)).all (λx=>x.1.isSome)&&decide ([e].length+([]:List UQ).length+(if ([]:List UQ).isEmpty then 0 else 1)<30))=true:=by rfl)
 (iN:(T0.endLine==bh.line)=true:=by rfl)(Ct:Su [e] X.env=[(false,eval e X.env)]:=by rfl):gT X Xw (.Expr (.Call (.Attribute (.Name x p) "extend" T0) [e] [] bh) pos) (DP i δ):=λu8 YC=>
 PS.weak (oC (Dk WQ PySem.F.slot_list_extend PySem.F.type_list_extend AR hv (uf he ug Ct) iM pd iN Ct rfl) hs) λD σ H w=>Gr u8 YC D σ H w
theorem C6:OpR X (U9 .Add) (λx y H Q=>∃a b ys,x= .ref a/\y= .ref b/\SqT X.K H a []/\SqT X.K H b ys/\Q (.ref b) H):=by
 intro f8 s σ H x y v u Q I rx ry h;obtain⟨a,b,ys,rfl,rfl,ha,hb,q⟩:=h;cases rx;cases ry;obtain⟨aS,r1,p1,_⟩:=I.tuple ha;obtain⟨fL,r2,p2,_⟩:=I.tuple hb;cases r1;obtain⟨⟨cls,dd,data,sl⟩,ho,hc,n,hd⟩:=id p1;obtain⟨⟨ME,EF,data2,Mo⟩,HP,HE,n2,hd2⟩:=id p2;simp only at hc hd HE hd2;subst hc hd HE hd2;exact concat_meets ⟨_,ho,rfl⟩ ⟨_,HP,rfl⟩ W4 XR Vn Vk (U_ _ _)
  (tuple_addW0 a b _ _ n n2 dd EF sl Mo (by simp)) ⟨ho,HP,⟨.ref b,H,I,rfl,q⟩⟩
def vJ:D->D->M D
 | .tup x, .tup y=>if x.length+y.length<=lim then aa (.tup (x++y)) else af
 |_,_=>af
theorem FE(ha:PD X Xw a δa)(hb:PD X Xw b δb):PD X Xw (.BinOp a .Add b pos) (d2 vJ δa δb):=qf (C6.or Ft) (λXw F H x y dx dy Q s hx hy w=>by
 unfold vJ at w;split at w
 ·rename_i i j;obtain⟨a,vs,h1,h2,h3,h4⟩:=hx;obtain⟨a',vs',k1,k2,k3,k4⟩:=hy;split at w
  ·rename_i hl;have e1:=h3.len;have e2:=k3.len;have:=cY;by_cases hv:vs=[]
   ·subst hv;have:i=[]:=by cases i with | nil=>rfl | cons _ _=>simp at e1
    subst this;exact .inl ⟨a,a',vs',h1,k1,SqT.of (s _ _ h2),SqT.of (s _ _ k2),WP.now w s ⟨a',vs',k1▸rfl,k2,k3,k4⟩⟩
   ·refine .inr ⟨a,a',vs,vs',h1,k1,SqT.of (s _ _ h2),SqT.of (s _ _ k2),hv,by omega,λz=>?_,λz p hp=>?_⟩
    ·subst z;have:j=[]:=by cases j with | nil=>rfl | cons _ _=>simp at e2
     subst this;rw[TK] at w;exact WP.now w s ⟨a,vs,rfl,h2,h3,h4⟩
    ·exact WP.fin w (Ext.lay s hp) ⟨p,_,rfl,aH,DenL.mono (Ext.lay s hp).ff (h3.append k3),by rw[Sg];exact hl⟩
  ·exact w.elim
 ·exact w.elim) ha hb
end
section
variable{X:Cx}{Xw:Nat->Hp->Prop}{a b e e2 o:Expr}{es:List Expr}{δa δb δo:DE}{δs:DA}{pos p T0 bh:Pos}
def dM(kd:D->Bool)(g:D->List D->M D)(o:DE)(s:DA):DE:=λZ=>o Z>>=λd=>if kd d then s Z>>=λds=>g d ds else af
theorem G7{T:String}{name:Str}{id:String}{r:V->List V->Hp->VK->Prop}{kd:D->Bool}{g:D->List D->M D}(pa:PlainAttrs T)(slot:Slot T name id)(Nn:typeOf (.builtin id)=pure (.type "method_descriptor"))(hm:LP X id r)
 (hk:∀(F H:Hp) (x:V) (d:D),kd d=true->Same F H->Den X.K F d x->Ms X.K T x H)
 (hd:∀(Xw:Nat->Hp->Prop) (F H:Hp) (x:V) (vs:List V) (d:D) (ds:List D) (Q:VK),Same F H->Den X.K F d x->DenL X.K F ds vs->WP X.K Xw F H (g d ds) Q->r x vs H Q)
 (ho:PD X Xw o δo)(ha:oe X Xw (e::es) δs)
 (iM:Uv o name X.env (eval o X.env)=eval o X.env:=by rfl)
 (pd:((Uq bh (Su (e::es) X.env)).all (λx=>!x.1)&&(Wb bh (U0 [] X.env)).all (λx=>x.1.isSome)
  &&decide ((e::es).length+([]:List UQ).length+(if ([]:List UQ).isEmpty then 0 else 1)<30))=true:=by rfl)
 (iN:(T0.endLine==bh.line)=true:=by rfl) (hs:Su (e::es) X.env=(false,eval e X.env)::Su es X.env:=by rfl) (xU:(Uq bh (Su es X.env)).any (·.1)=false:=by rfl):
 PD X Xw (.Call (.Attribute o name T0) (e::es) [] bh) (dM kd g δo δs):=PE.weak (Dk pa slot Nn hm ho ha iM pd iN hs xU) λσ H Q ⟨F,Z,s,w⟩=>by
 refine⟨F,Z,s,WP.mono (WP.bind w) λv H1 ⟨F1,d,e1,q1,w1⟩=>?_⟩;split at w1
 ·rename_i Em;refine⟨hk F1 H1 v d Em e1.fh q1,F1,Z,s.ext e1,WPL.mono (WP.bindL w1) λvs H2 ⟨F2,ds,e2,q2,w2⟩=>?_⟩;exact hd Xw F2 H2 v vs d ds Q e2.fh (Den.mono e2.ff q1) q2 w2
 ·exact w1.elim
def tN:D->Bool
 | .str _=>true
 |_=>false
theorem Cz{K:Se}(F H:Hp)(x:V)(d:D)(h:tN d=true)(s:Same F H)(q:Den K F d x):Ms K "str" x H:=by
 cases d with
 |str z=>cases (show _=_ from q.1);exact rfl
 |_=>cases h
def ku:List D->Option (List Str)
 |[]=>some []
 | .str x::r=>(ku r).map (x:: ·)
 |_=>none
theorem qA{K:Se}{F:Hp}:∀{ds:List D}{vs:List V}{xs:List Str},ku ds=some xs->DenL K F ds vs->vs=xs.map V.str
 |[],_,_,e,h=>by cases e;exact h
 | .str b::r,_,_,e,⟨v,r',h1,h2,h3⟩=>by
   unfold ku at e;cases q:ku r with
   |none=>rw[q] at e;cases e
   |some bs=>rw[q] at e;cases e;subst h1;rw[qA q h3,show v= .str b from h2.1];rfl
 | .non::_,_,_,e,_=>by cases e
 | .int _::_,_,_,e,_=>by cases e
 | .bl _::_,_,_,e,_=>by cases e
 | .raw _::_,_,_,e,_=>by cases e
 | .exc _::_,_,_,e,_=>by cases e
 | .scr _::_,_,_,e,_=>by cases e
 | .tup _::_,_,_,e,_=>by cases e
 | .lst _::_,_,_,e,_=>by cases e
theorem qD:∀{xs:List Str}{aS:List Value},Vals (xs.map V.str) aS->StrsAre aS xs
 |[],_,r=>by cases r;exact .nil
 |b::bs,_,r=>by
  cases r with
  |cons r1 r2=>obtain⟨t,rfl⟩:=r1;exact .cons b t (qD r2)
def df:List Str->Str
 |[]=>⟨#[]⟩
 |x::r=>x++df r
def joinM:D->List D->M D
 | .str sep,[.lst ds]=>match ku ds with
   |some xs=>if sep.length=0/\(xs.map (·.length)).sum<=lim then aa (.str (df xs)) else af
   |none=>af
 | .str sep,[.tup ds]=>match ku ds with
   |some xs=>if sep.length=0/\(xs.map (·.length)).sum<=lim then aa (.str (df xs)) else af
   |none=>af
 |_,_=>af
theorem oT:∀xs:List Str,(df xs).length=(xs.map (·.length)).sum
 |[]=>rfl
 |x::r=>by
  show (x++df r).length=_;rw[jk,oT r,Sa,Vt]
theorem Gm{x:Str}(h:x.length=0):x=⟨#[]⟩:=by
 obtain⟨⟨l⟩⟩:=x;have:l.length=0:=h;cases l with
 |nil=>rfl
 |cons _ _=>simp at this
theorem nu(x:Str):x++(⟨#[]⟩:Str)=x:=by
 obtain⟨c⟩:=x;show (⟨c++ #[]⟩:Str)=⟨c⟩
 simp
theorem mH(sep:Str)(h:sep.length=0):∀xs:List Str,Txt.join sep xs=df xs:=by
 have e:=Gm h;subst e;intro xs;show Builtin.Str.glued _ xs=_;rw[StrLaws.glued_eq_join];induction xs with
 |nil=>rfl
 |cons x r ih=>
  cases r with
  |nil=>show x=x++(⟨#[]⟩:Str);rw[nu]
  |cons y r=>show x++(⟨#[]⟩:Str)++Str.join _ (y::r)=x++df (y::r);rw[nu,ih]
def rJoin(K:Se):V->List V->Hp->VK->Prop:=λx vs H Q=>∃(sep:Str) (a:Addr) (xs:List Str),x= .str sep/\vs=[.ref a]/\(H a=some (.lst (xs.map V.str))\/H a=some (.tup (xs.map V.str)))/\sep.length=0/\(xs.map (·.length)).sum<=lim/\Q (.str (df xs)) H
theorem Fm:LP X "str.join" (rJoin X.K):=by
 intro f8 s σ H x vs v us Q I rx rv h;obtain⟨sep,a,xs,rfl,rfl,hH,hs,hl,q⟩:=h;obtain⟨t,rfl⟩:=rx;obtain⟨u,rfl,r1⟩:=rv.one;cases (show u=_ from r1);have hok:(xs.map (·.length)).sum+xs.length*sep.length<=16777216:=by
  rw[hs,Nat.mul_zero];unfold lim at hl;omega
 rcases hH with hH | hH
 ·obtain⟨aS,r2,pl,hz⟩:=I.list (SqL.of (K:=X.K) hH);refine join_list pl.isList (by simpa using qD r2) hok λt' k=>⟨.str (df xs),H,I.tok k,⟨t',by rw[mH sep hs]⟩,q⟩
 ·obtain⟨aS,r2,pl,hz⟩:=I.tuple (SqT.of (K:=X.K) hH);refine join_tuple pl (by simpa using qD r2) hok λt' k=>⟨.str (df xs),H,I.tok k,⟨t',by rw[mH sep hs]⟩,q⟩
theorem uq(ho:PD X Xw o δo)(ha:oe X Xw [e] δs)(iM:Uv o "join" X.env (eval o X.env)=eval o X.env:=by rfl)
 (pd:((Uq bh (Su [e] X.env)).all (λx=>!x.1)&&(Wb bh (U0 [] X.env)).all (λx=>x.1.isSome)&&decide ([e].length+([]:List UQ).length+(if ([]:List UQ).isEmpty then 0 else 1)<30))=true:=by rfl)
 (iN:(T0.endLine==bh.line)=true:=by rfl)(Ct:Su [e] X.env=[(false,eval e X.env)]:=by rfl):PD X Xw (.Call (.Attribute o "join" T0) [e] [] bh) (dM tN joinM δo δs):=
 G7 WY PySem.F.slot_str_join PySem.F.type_str_join Fm Cz (λXw F H x vs d ds Q s hx hv w=>by
  unfold joinM at w;split at w
  ·rename_i sep ds;obtain⟨v,rfl,h1⟩:=hv.one;obtain⟨a,ws,rfl,h2,h3,_⟩:=h1;split at w
   ·rename_i xs Kz;split at w
    ·rename_i hc;exact⟨sep,a,xs,hx.1,rfl, .inl (by rw[<-qA Kz h3];exact s _ _ h2),hc.1,hc.2,WP.now w s ⟨rfl,by rw[oT];exact hc.2⟩⟩
    ·exact w.elim
   ·exact w.elim
  ·rename_i sep ds;obtain⟨v,rfl,h1⟩:=hv.one;obtain⟨a,ws,rfl,h2,h3,_⟩:=h1;split at w
   ·rename_i xs Kz;split at w
    ·rename_i hc;exact⟨sep,a,xs,hx.1,rfl, .inr (by rw[<-qA Kz h3];exact s _ _ h2),hc.1,hc.2,WP.now w s ⟨rfl,by rw[oT];exact hc.2⟩⟩
    ·exact w.elim
   ·exact w.elim
  ·exact w.elim) ho ha iM pd iN Ct rfl
def sO:List D->M D
 |[.lst ds]=>aa (.tup ds)
 |[.tup ds]=>aa (.tup ds)
 |_=>af
theorem qg(hg:Gl X "tuple")(hm:X.mg "tuple"=none)(hb:S5 "tuple"=some (.type "tuple"))(ha:oe X Xw [e] δs)(he:Su [e] X.env=[(false,eval e X.env)]:=by rfl):PD X Xw (.Call (.Name "tuple" p) [e] [] pos) (dA sO δs):=
 A2 qO (λXw F H vs ds Q s h w=>by
  unfold sO at w;split at w
  ·rename_i ds;obtain⟨v,rfl,h1⟩:=h.one;obtain⟨a,ws,rfl,h2,h3,h4⟩:=h1;exact⟨a,ws,rfl, .inl ⟨SqL.of (s _ _ h2),λl hl=>WP.fin w (Ext.lay s hl) ⟨l,ws,rfl,aH,DenL.mono (Ext.lay s hl).ff h3,h4⟩⟩⟩
  ·rename_i ds;obtain⟨v,rfl,h1⟩:=h.one;obtain⟨a,ws,rfl,h2,h3,h4⟩:=h1;exact⟨a,ws,rfl, .inr ⟨SqT.of (s _ _ h2),WP.now w s ⟨a,ws,rfl,h2,h3,h4⟩⟩⟩
  ·exact w.elim) hg hm hb ha (by decide) (by decide) he rfl
theorem yy(hc:X.calm=true)(hg:Gl X "max")(hm:X.mg "max"=none)(hb:S5 "max"=some (.builtin "max"))(ha:oe X Xw [e,e2] δs)(he:Su [e,e2] X.env=(false,eval e X.env)::Su [e2] X.env:=by rfl)
 (qK:(Uq pos (Su [e2] X.env)).any (·.1)=false:=by rfl):PD X Xw (.Call (.Name "max" p) [e,e2] [] pos) (dA yd δs):=
 eP (Af hc) (λXw F H vs ds Q s h w=>by
  unfold yd at w;split at w
  ·obtain⟨v,v',rfl,h1,h2⟩:=h.two;cases (show _=_ from h1);cases (show _=_ from h2);exact⟨_,_,rfl,WP.now w s rfl⟩
  ·exact w.elim) hg hm hb ha (by decide) (by decide) he qK
theorem Di(hc:X.calm=true)(hg:Gl X "min")(hm:X.mg "min"=none)(hb:S5 "min"=some (.builtin "min"))(ha:oe X Xw [e,e2] δs)(he:Su [e,e2] X.env=(false,eval e X.env)::Su [e2] X.env:=by rfl)
 (qK:(Uq pos (Su [e2] X.env)).any (·.1)=false:=by rfl):PD X Xw (.Call (.Name "min" p) [e,e2] [] pos) (dA AO δs):=
 eP (Ag hc) (λXw F H vs ds Q s h w=>by
  unfold AO at w;split at w
  ·obtain⟨v,v',rfl,h1,h2⟩:=h.two;cases (show _=_ from h1);cases (show _=_ from h2);exact⟨_,_,rfl,WP.now w s rfl⟩
  ·exact w.elim) hg hm hb ha (by decide) (by decide) he qK
def nums:List D->Option (List Int)
 |[]=>some []
 | .int x::r=>(nums r).map (x:: ·)
 |_=>none
theorem vN{K:Se}{F:Hp}:∀{ds:List D}{vs:List V}{xs:List Int},nums ds=some xs->DenL K F ds vs->vs=xs.map V.int
 |[],_,_,e,h=>by cases e;exact h
 | .int b::r,_,_,e,⟨v,r',h1,h2,h3⟩=>by
   unfold nums at e;cases q:nums r with
   |none=>rw[q] at e;cases e
   |some bs=>rw[q] at e;cases e;subst h1;rw[vN q h3,show v= .int b from h2];rfl
 | .non::_,_,_,e,_=>by cases e
 | .str _::_,_,_,e,_=>by cases e
 | .bl _::_,_,_,e,_=>by cases e
 | .raw _::_,_,_,e,_=>by cases e
 | .exc _::_,_,_,e,_=>by cases e
 | .scr _::_,_,_,e,_=>by cases e
 | .tup _::_,_,_,e,_=>by cases e
 | .lst _::_,_,_,e,_=>by cases e
def ER(neg:Bool):D->D->M D
 | .int i, .tup ds=>match nums ds with | some ns=>aa (.bl (if neg then !ns.contains i else ns.contains i)) | none=>af
 |_,_=>af
theorem Cv(i:Int)(ns:List Int):Mj (.int i) (ns.map V.int)=ns.contains i:=by
 unfold Mj;rw[List.any_map];induction ns with
 |nil=>rfl
 |cons n ns ih=>
  rw[U5,List.contains_cons,ih];congr 1;show Ei (.int n) (.int i)=(i==n)
  unfold Ei;exact Bool.beq_comm
theorem HX{neg:Bool}{K:Se}:xy K (Pp K neg) (ER neg):=λXw F H x y dx dy Q s hx hy w=>by
 unfold ER at w;split at w
 ·rename_i i ds;obtain⟨a,vs,h1,h2,h3,h4⟩:=hy;split at w
  ·rename_i ns hn;have hv:=vN hn h3;subst hv;cases (show _=_ from hx);refine⟨a,ns.map V.int,h1, .inr (SqT.of (s _ _ h2)),rfl,?_,?_⟩
   ·rw[UC];exact SA.mpr λ_ _=>rfl
   ·rw[Cv];exact WP.now w s rfl
  ·exact w.elim
 ·exact w.elim
theorem A7(ha:PD X Xw a δa)(hb:PD X Xw b δb)(hm:Th .NotIn b=false:=by rfl):nO X Xw (.Compare a [.NotIn] [b] pos) (cP (d2 (ER true) δa δb)):=f6 ud HX ha hb hm
def qS(neg:Bool):D->D->M D
 | .str x, .str y=>aa (.bl (if neg then !(!(Tc y x 0 y.length 1).isEmpty) else !(Tc y x 0 y.length 1).isEmpty))
 |_,_=>af
theorem IG(ha:PD X Xw a δa)(hb:PD X Xw b δb)(hm:Th .In b=false:=by rfl):PD X Xw (.Compare a [.In] [b] pos) (d2 (qS false) δa δb):=Dh se (λXw F H x y dx dy Q s hx hy w=>by
 unfold qS at w;split at w
 ·exact⟨_,_,hx.1,hy.1,WP.now w s rfl⟩
 ·exact w.elim) ha hb hm
theorem I_(ha:PD X Xw a δa)(hb:PD X Xw b δb)(hm:Th .In b=false:=by rfl):nO X Xw (.Compare a [.In] [b] pos) (cP (d2 (qS false) δa δb)):=f6 se (λXw F H x y dx dy Q s hx hy w=>by
 unfold qS at w;split at w
 ·exact⟨_,_,hx.1,hy.1,WP.now w s rfl⟩
 ·exact w.elim) ha hb hm
end
end L3
namespace L3
open PySem PySem.Spec L2 SeqAt HT
open PyProof.Rows hiding St
section
variable{prog:SJ}{w:World}{A:S1}{E:Value->R8->Prop}{s:R8}
theorem jJ{t sl:Addr}{items:Array Value}{vl vu:Value}{lo hi:Option Int}{Q:Value->R8->Prop}(ht:IsTup s.heap t items)(hs:s.heap.IsSliceOf sl vl vu .none)(pl:W0 vl lo)(pu:W0 vu hi)
 (hw:sIx items.size 0 lo=0/\sIx items.size items.size hi=items.size)(h:Q (.ref t) s):wpAny (model prog w) A (V5 (.ref t) (.ref sl)) Q E s:=by
 obtain⟨os,Cq,HF,GV⟩:=id hs;have JA:s.TypeIs (.ref sl) "slice":=⟨os,Cq,HF⟩
 unfold V5
 try with_reducible refine Ut ?_
 first | refine R3 (R9 ?_) | skip
 refine R3 (wpAny_sequenceKey ht.typeIs (by decide) ?_);refine R3 (UO (name:=TF "__getitem__") ht.typeIs TN
  (TX TN ht.typeIs entry_tuple_getitem ?_ (args_tuple_getitem _ _)))
 show wpAny _ _ (VZ (.ref t)>>=_) _ _ s;refine R3 (tupleItemsOf_ ht ?_);refine R3 (V1 JA ?_);rw[Yg (by decide)];refine R3 (sliceApplied_gen hs pl pu ?_);have xT:((((sIx items.size 0 lo:Nat):Int)==0&&(1:Int)==1&&(sIx items.size items.size hi - sIx items.size 0 lo)==items.size)=true):=by
  rw[hw.1,hw.2];simp
 show wpAny _ _ (if (((sIx items.size 0 lo:Nat):Int)==0&&(1:Int)==1&&(sIx items.size items.size hi - sIx items.size 0 lo)==items.size)=true then _ else _) _ _ s;rw[Yg xT];refine R3 ?_;unfold Builtin.Tuple.tupleIsExact;refine R3 (V1 ht.typeIs (R9 ?_));rw[Yg (by decide)];exact R3 (wpAny_rule (R9 ⟨_,rfl,R9 h⟩))
end
section
variable{X:Cx}{Xw:Nat->Hp->Prop}{a b e:Expr}{lo hi:Option Expr}{δ:DE}{pos p p2:Pos}
theorem Gk:SlR X (λx lo hi H Q=>∃a xs,x= .ref a/\SqT X.K H a xs/\(sIx xs.length 0 lo=0/\sIx xs.length xs.length hi=xs.length)/\Q (.ref a) H):=by
 intro f8 s σ H x v vl vu lo hi sl Q I rx hs pl pu h;obtain⟨a,xs,rfl,hx,hw,q⟩:=h;cases rx;obtain⟨aS,r,ht,hz⟩:=I.tuple hx;have v6:aS.toArray.size=xs.length:=by rw[Si];exact r.length.symm
 exact⟨"tuple",_,PyProof.Rows.slot_tuple_getitem.lookup,ht.typeIs,jJ ht hs pl pu (by rw[v6];exact hw) ⟨.ref a,H,I,rfl,q⟩⟩
theorem Jl:SlR X (λx lo hi H Q=>∃z:Str,x= .str z/\z.length<=lim/\Q (.str (Wh z lo hi)) H):=by
 intro f8 s σ H x v vl vu lo hi sl Q I rx hs pl pu h;obtain⟨z,rfl,hl,q⟩:=h;obtain⟨t,rfl⟩:=rx;have hz:z.length<=Sv:=by have:=cY;omega
 cases pl with
 |none=>
  cases pu with
  |none=>exact⟨"str",_,PySem.F.slot_str_getitem.lookup,Vz _ _ _,UN (l:=none) (u:=none) (st:=none) hs rfl (V3 ⟨Sy (VI z _ _) hz,λt' k=>⟨.str _,H,I.tok k,⟨t',rfl⟩,q⟩⟩)⟩
  |int j uj=>exact⟨"str",_,PySem.F.slot_str_getitem.lookup,Vz _ _ _,UN (l:=none) (u:=some (j,uj)) (st:=none) hs rfl (V3 ⟨Sy (VI z _ _) hz,λt' k=>⟨.str _,H,I.tok k,⟨t',rfl⟩,q⟩⟩)⟩
 |int i ui=>
  cases pu with
  |none=>exact⟨"str",_,PySem.F.slot_str_getitem.lookup,Vz _ _ _,UN (l:=some (i,ui)) (u:=none) (st:=none) hs rfl (V3 ⟨Sy (VI z _ _) hz,λt' k=>⟨.str _,H,I.tok k,⟨t',rfl⟩,q⟩⟩)⟩
  |int j uj=>exact⟨"str",_,PySem.F.slot_str_getitem.lookup,Vz _ _ _,UN (l:=some (i,ui)) (u:=some (j,uj)) (st:=none) hs rfl (V3 ⟨Sy (VI z _ _) hz,λt' k=>⟨.str _,H,I.tok k,⟨t',rfl⟩,q⟩⟩)⟩
abbrev DO:=aU->M (Option Int)
def WPO(Xw:Nat->Hp->Prop)(F H:Hp)(m:M (Option Int))(Q:Option Int->Hp->Prop):Prop:=
 match m with
 |none=>False
 |some (.ok b)=>∀H' F',Ext F H F' H'->Q b H'
 |some (.ex n)=>∀F' H',Ext F H F' H'->Xw n H'
def RD(K:Se)(Xw:Nat->Hp->Prop)(δ:DO):TO:=λσ H Q=>∃F Z,StE K F H σ Z/\WPO Xw F H (δ Z) Q
def LS(X:Cx)(Xw:Nat->Hp->Prop)(e:Option Expr)(δ:DO):Prop:=PO X e (RD X.K Xw δ)
def oN:DO:=λ_=>aa none
def oS(δ:DE):DO:=λZ=>δ Z>>=λd=>match d with | .int i=>aa (some i) | _=>af
theorem i5:LS X Xw none oN:=λf8 s σ H Q I ⟨F,Z,S,w⟩=>FT f8 s σ H Q I (w H F (Ext.refl S.fh))
theorem i6(h:PD X Xw e δ):LS X Xw (some e) (oS δ):=λf8 s σ H Q I ⟨F,Z,S,w⟩=>FU h f8 s σ H Q I ⟨F,Z,S,by
 have w:WPO Xw F H (δ Z>>=λd=>match d with | .int i=>aa (some i) | _=>af) Q:=w;rcases(δ Z).cs with q | ⟨n,q⟩ | ⟨d,q⟩
 ·rw[q] at w;exact w.elim
 ·rw[q] at w⊢;exact w
 ·rw[q] at w⊢;intro v H' F' e' hd;cases d with
  |int i=>exact⟨i,hd,w H' F' e'⟩
  |_=>exact w.elim⟩
theorem WP.bindO{K:Se}{Xw:Nat->Hp->Prop}{F H:Hp}{Q:VK}{m:M (Option Int)}{k:Option Int->M D}(h:WP K Xw F H (m>>=k) Q):WPO Xw F H m λb H1=>∃F1,Ext F H F1 H1/\WP K Xw F1 H1 (k b) Q:=by
 match m,h with
 |none,h=>exact h
 |some (.ok d),h=>exact λH2 F2 e2=>⟨F2,e2,WP.ext e2 (show WP K Xw F H (k d) Q from h)⟩
 |some (.ex n),h=>exact h
theorem WPO.mono{Xw:Nat->Hp->Prop}{F H:Hp}{m:M (Option Int)}{Q Q':Option Int->Hp->Prop}(h:WPO Xw F H m Q)(k:∀v H',Q v H'->Q' v H'):WPO Xw F H m Q':=by
 match m,h with
 |none,h=>exact h
 |some (.ok d),h=>exact λH2 F2 e2=>k _ _ (h H2 F2 e2)
 |some (.ex n),h=>exact h
def cutD(ds:List D)(lo hi:Option Int):List D:=(ds.drop (sIx ds.length 0 lo)).take (sIx ds.length ds.length hi - sIx ds.length 0 lo)
def NX:D->Option Int->Option Int->M D
 | .tup ds,lo,hi=>aa (.tup (cutD ds lo hi))
 | .lst ds,lo,hi=>aa (.lst (cutD ds lo hi))
 | .str x,lo,hi=>aa (.str (Wh x lo hi))
 |_,_,_=>af
def An(a:DE)(lo hi:DO):DE:=λZ=>a Z>>=λd=>lo Z>>=λl=>hi Z>>=λh=>NX d l h
theorem vo(ds:List D)(lo hi:Option Int):(cutD ds lo hi).length<=ds.length:=by
 unfold cutD;rw[Tz,Wt];omega
theorem DenL.cut{K:Se}{F:Hp}{ds:List D}{vs:List V}(h:DenL K F ds vs)(lo hi:Option Int):DenL K F (cutD ds lo hi) (vp vs lo hi):=by
 unfold cutD vp;rw[h.len];exact(h.drop _).take _
theorem wo{δo:DE}{κl κh:DO}(he:PD X Xw e δo)(hl:LS X Xw lo κl)(hh:LS X Xw hi κh):PD X Xw (.Subscript e (.Slice lo hi none p2) pos) (An δo κl κh):=
 PE.weak (Du (Gk.or (Jm.or (Gj.or Jl))) he hl hh) λσ H Q ⟨F,Z,s,w⟩=>by
  refine⟨F,Z,s,WP.mono (WP.bind w) λv H1 ⟨F1,d,e1,q1,w1⟩=>?_⟩;refine⟨F1,Z,s.ext e1,WPO.mono (WP.bindO w1) λl H2 ⟨F2,e2,w2⟩=>?_⟩;refine⟨F2,Z,(s.ext e1).ext e2,WPO.mono (WP.bindO w2) λh H3 ⟨F3,e3,w3⟩=>?_⟩;have q3:=Den.mono (e2.ff.trans e3.ff) q1;have fh:=e3.fh;cases d with
  |tup ds=>
   obtain⟨a,vs,rfl,h2,h3,h4⟩:=q3;by_cases hw:sIx vs.length 0 l=0/\sIx vs.length vs.length h=vs.length
   ·refine .inl ⟨a,vs,rfl,SqT.of (fh _ _ h2),hw,?_⟩;have hc:cutD ds l h=ds:=by
     unfold cutD;rw[h3.len,hw.1,hw.2,Xy,WZ,<-h3.len,List.take_length]
    have w3:WP X.K Xw F3 H3 (aa (.tup (cutD ds l h))) Q:=w3;rw[hc] at w3;exact WP.now w3 fh ⟨a,vs,rfl,h2,h3,h4⟩
   ·exact .inr (.inl ⟨a,vs,rfl,SqT.of (fh _ _ h2),hw,λp hp=>WP.fin w3 (Ext.lay fh hp) ⟨p,_,rfl,aH,DenL.mono (Ext.lay fh hp).ff (h3.cut l h),Sy (vo _ _ _) h4⟩⟩)
  |lst ds=>
   obtain⟨a,vs,rfl,h2,h3,h4⟩:=q3;exact .inr (.inr (.inl ⟨a,vs,rfl,SqL.of (fh _ _ h2),λp hp=>WP.fin w3 (Ext.lay fh hp) ⟨p,_,rfl,aH,DenL.mono (Ext.lay fh hp).ff (h3.cut l h),Sy (vo _ _ _) h4⟩⟩))
  |str x=>exact .inr (.inr (.inr ⟨x,q3.1,q3.2,WP.now w3 fh ⟨rfl,Sy (VI x _ _) q3.2⟩⟩))
  |_=>exact w3.elim
end
def LO(x:Str):It:=⟨λi _=>i<x.cps.size,λi H v H'=>H'=H/\∃c,x.cps[i]? =some c/\v= .str ⟨#[c]⟩,λi _=>x.cps.size<=i⟩
theorem Bn{P:SJ}{w:World}{K:Se}{tg:Expr}(it:Addr)(x:Str)(t:Tok):Turn P w K tg (LO x) [it] it (λi h=>i<=x.cps.size/\h.IsStrIter it "str_ascii_iterator" x t i) where
 mem:=by simp
 obj:=λi h st b hb=>by
  have e:b=it:=by simpa using hb
  subst e;obtain⟨_,o,e,c,d⟩:=st;exact⟨o,e,λv z=>by rw[d] at z;cases z⟩
 keep:=λi h h' st k=>⟨st.1,let ⟨o,e,r⟩:=st.2;⟨o,k it (by simp) o e,r⟩⟩
 item:=by
  intro X hP hw hK hc i f8 s σ H E I hf st hg;subst hP hw hK;obtain⟨f0,f1,f2,f3,f4,f5⟩:=hf it (by simp);have hi:i<x.cps.size:=hg;refine(Walks.strAscii (prog:=X.prog) (w:=X.w) (I.ok.hd hc) it x t).item i s _ _ hi st.2 λv h' tk hv qx kk=>?_;obtain⟨c,u,MU,rfl⟩:=hv;have I1:Inv X f8 σ H {s with heap:=h',toks:=tk}:=I.turned (λb o hb e=>kk b o (by simpa using hb) e) f0 f1 f3 f4 f5;obtain⟨o,e,cc,dd⟩:=id qx;exact⟨_,rfl,rN (s:={s with heap:=h',toks:=tk}) e cc dd (by decide) ⟨.str ⟨#[c]⟩,H,I1,⟨u,rfl⟩,⟨rfl,c,MU,rfl⟩,⟨hi,qx⟩,λb hb=>(hf b hb).1⟩⟩
 done:=by
  intro X hP hw hK hc i f8 s σ H E I hf st hg;subst hP hw hK;obtain⟨f0,f1,f2,f3,f4,f5⟩:=hf it (by simp);have hi:i=x.cps.size:=VN st.1 hg;subst hi;exact(Walks.strAscii (prog:=X.prog) (w:=X.w) (I.ok.hd hc) it x t).done s _ _ st.2 λh' tk kk=>⟨rfl,I.turned (λb o hb e=>kk b o (by simpa using hb) e) f0 f1 f3 f4 f5⟩
 self:=λ_ _ _ _ _ st h=>wpAny_pyIter_striter_ascii st.2 h
theorem Bo{P:SJ}{w:World}{K:Se}{tg:Expr}(it:Addr)(x:Str)(t:Tok):Turn P w K tg (LO x) [it] it (λi h=>i<=x.cps.size/\h.IsStrIter it "str_iterator" x t i) where
 mem:=by simp
 obj:=λi h st b hb=>by
  have e:b=it:=by simpa using hb
  subst e;obtain⟨_,o,e,c,d⟩:=st;exact⟨o,e,λv z=>by rw[d] at z;cases z⟩
 keep:=λi h h' st k=>⟨st.1,let ⟨o,e,r⟩:=st.2;⟨o,k it (by simp) o e,r⟩⟩
 item:=by
  intro X hP hw hK hc i f8 s σ H E I hf st hg;subst hP hw hK;obtain⟨f0,f1,f2,f3,f4,f5⟩:=hf it (by simp);have hi:i<x.cps.size:=hg;refine(Walks.strWide (prog:=X.prog) (w:=X.w) (I.ok.hd hc) it x t).item i s _ _ hi st.2 λv h' tk hv qx kk=>?_;obtain⟨c,u,MU,rfl⟩:=hv;have I1:Inv X f8 σ H {s with heap:=h',toks:=tk}:=I.turned (λb o hb e=>kk b o (by simpa using hb) e) f0 f1 f3 f4 f5;obtain⟨o,e,cc,dd⟩:=id qx;exact⟨_,rfl,rN (s:={s with heap:=h',toks:=tk}) e cc dd (by decide) ⟨.str ⟨#[c]⟩,H,I1,⟨u,rfl⟩,⟨rfl,c,MU,rfl⟩,⟨hi,qx⟩,λb hb=>(hf b hb).1⟩⟩
 done:=by
  intro X hP hw hK hc i f8 s σ H E I hf st hg;subst hP hw hK;obtain⟨f0,f1,f2,f3,f4,f5⟩:=hf it (by simp);have hi:i=x.cps.size:=VN st.1 hg;subst hi;exact(Walks.strWide (prog:=X.prog) (w:=X.w) (I.ok.hd hc) it x t).done s _ _ st.2 λh' tk kk=>⟨rfl,I.turned (λb o hb e=>kk b o (by simpa using hb) e) f0 f1 f3 f4 f5⟩
 self:=λ_ _ _ _ _ st h=>wpAny_pyIter_striter_wide st.2 h
section
variable{X:Cx}{Xw:Nat->Hp->Prop}{tg a b e l o:Expr}{δ:DE}
def NB(tl:TE):TI:=λσ H R=>tl σ H λx H1=>∃z,x= .str z/\R (LO z) H1
theorem IY{tl:TE}(hl:PE X l tl):PI X tg l (NB tl):=by
 intro f8 s σ H R I h;refine bX (hl f8 s σ H _ I h) λv s1 ⟨x,H1,I1,r1,q1⟩=>?_;obtain⟨z,e,q⟩:=q1;subst e;obtain⟨t,rfl⟩:=r1;have fp:∀b∈[s1.heap.objs.size],qM X f8 H1 b:=λb hb=>by
  have e:b=s1.heap.objs.size:=by simpa using hb
  subst e;exact I1.fpOk (R_ _) (I1.hok.fresh (R_ _))
 cases ha:z.cps.all (· <128)
 ·exact wpAny_pyIter_wide ha ⟨s1.heap.objs.size,[s1.heap.objs.size],_,_,H1,rfl,I1.kept (t':=s1.toks) λb o e=>R7 _ e,Bo _ z t,⟨SM _,_,Sx _ rfl,rfl,rfl⟩,fp,q⟩
 ·exact wpAny_pyIter_ascii ha ⟨s1.heap.objs.size,[s1.heap.objs.size],_,_,H1,rfl,I1.kept (t':=s1.toks) λb o e=>R7 _ e,Bn _ z t,⟨SM _,_,Sx _ rfl,rfl,rfl⟩,fp,q⟩
def signs(x:Str):List D:=x.cps.toList.map λc=>D.str ⟨#[c]⟩
def Bc:D->M (List D)
 | .str x=>aa (signs x)
 |_=>af
theorem E9{K:Se}{F:Hp}(x:Str):ItD K F (LO x) (signs x):=λF' H' i s1 s2=>by
 refine⟨λd e=>?_,λhl=>show x.cps.size<=i by simpa[signs] using hl⟩;unfold signs at e;rw[Sj] at e;cases q:x.cps.toList[i]? with
 |none=>rw[q] at e;cases e
 |some c=>
  rw[q] at e;cases e;have hi:i<x.cps.size:=by
   have:=(Sb.mp q).1;simpa using this
  refine⟨hi,λv H'' y=>?_⟩;obtain⟨e2,c',As,rfl⟩:=y;subst e2;have:c'=c:=by
   have q':x.cps[i]? =some c:=by simpa using q
   rw[q'] at As;exact(SS As).symm
  subst this;exact⟨F',Ext.refl s2,rfl,by show 1<=lim;decide⟩
theorem uv(h:PD X Xw l δ):xq X Xw tg l (λZ=>δ Z>>=Bc):=PI.weak (IY h) λσ H R ⟨F,Z,s,w⟩=>by
 refine⟨F,Z,s,WP.mono (WPI.bind w) λv H1 ⟨F1,d,e1,q1,w1⟩=>?_⟩;cases d with
 |str z=>exact⟨z,q1.1,w1 _ _ _ (Ext.refl e1.fh) (E9 z)⟩
 |_=>exact w1.elim
end
end L3
namespace L3
open PySem PySem.Spec L2 SeqAt HT
open PyProof.Rows hiding St
open PySem.W (Frag Looks InstAt findIn mroIn)
open PySem.Builtin PySem.Builtin.ObjectAttr PySem.Builtin.Getset_descriptor
section
end
end L3
namespace L3
open PySem PySem.Spec L2 SeqAt HT
open PyProof.Rows hiding St
structure RoomH (k:Nat) (A:S1):Prop where
 dp:A.depth+3*k+5<Xs
 un:A.units+16*k+200<cLine
theorem RoomH.deeper{k:Nat}{A:S1}(r:RoomH (k+1) A)(env:Env):RoomH k (A.deeper env):=
 ⟨by have:=r.dp;show A.depth+1+3*k+5<_;omega,by have:=r.un;show A.units+3+16*k+200<_;omega⟩
theorem RoomH.units{k:Nat}{A:S1}(r:RoomH k A):A.units+64<cLine:=by have:=r.un;omega
def za(N:List Str)(osc scope:Scope)(tn:List Str):Bool:=
 decide (scope.kind= .function)&&scope.names.all (λy=>decide (y.2≠ .cell))&&scope.names.all (λy=>decide (y.2= .local->scope.names.lookup y.1=some .local))&&
 scope.names.all (λy=>decide (y.2= .free->(osc.names.lookup y.1=some .cell\/osc.names.lookup y.1=some .free)))&&
 ((di tn N).zip N).all (λp=>decide (scope.names.lookup p.1=none\/(p.1=p.2/\scope.names.lookup p.1=some .free)))
theorem bZ{X:Cx}{N:List Str}{osc scope:Scope}{tn:List Str}(hN:X.N=N)(ho:X.env.scope=osc)(h:za N osc scope tn=true):CompSc X scope tn:=by
 unfold za at h;simp only[SX,SA,Yj] at h;obtain⟨⟨⟨⟨h1,h2⟩,h3⟩,h4⟩,h5⟩:=h;refine⟨h1,h2,h3,λy hy hf=>?_,?_⟩
 ·have:=h4 y hy hf;rw[<-ho] at this;exact this
 ·rw[hN];exact h5
theorem dD{X:Cx}{x:Str}{px:Pos}{σ:St}(hN:X.N.Nodup)(h0:X.N[0]? =some x)(HJ:X.env.scope.names.lookup x=some .local):BA X (.Name x px) 0 σ:=λf8 s σ' F H d ts v u I fh hd rv q e=>by
 have e:aa [d]=aa ts:=e;have e:=d_ e;subst e;refine WM (wZ I hN h0 (.inl HJ) rv (λs' I'=>⟨[v],?_, .cons q .nil⟩) (.inr HJ));have hl:0<σ'.length:=by rw[I.len];exact(Sb.mp h0).1
 have:σ'.set 0 (some v)=[v].map some++σ:=by
  cases σ' with
  |nil=>simp at hl
  |cons a r=>
   have hd:r=σ:=by simpa using hd
   subst hd;rfl
 rw[<-this];exact I'
theorem cp{P:SJ}{w:World}{cv:Nat->Value}{X:Cx}:Passes (jZ P w cv) X (EX cv λ_ _=>False):=λ_ _ _ _ _ _ _ ⟨_,_,_,_,_,_,_,_,_,_,_,_,_,_,z⟩=>z.elim
def bz(K:Se)(mg:Str->Option Value)(x:Str)(st:Stmt)(f:Addr):Prop:=mg x=some (.ref f)/\∃fd,Fun K x x st f fd
def ak(P:SJ)(w:World)(K:Se)(mg:Str->Option Value)(base:Heap)(cv:Nat->Value)(k:Nat)(x:Str)(m:Nat)(g:List D->M D):Prop:=
 ∃f fd ps,mg x=some (.ref f)/\T5 K (.ref f)=true/\Binds K fd ps []/\FnOk P w K mg base (jZ P w cv) k f fd ps (JE K cv m g)
section
variable{X:Cx}{Xw:Nat->Hp->Prop}{cv:Nat->Value}{k m:Nat}{g:List D->M D}{x:Str}{p pos:Pos}{e:Expr}{es:List Expr}{δs:DA}
def ao(m:Nat)(g:List D->M D)(δs:DA):DE:=λZ=>δs Z>>=λds=>if ds.length=m then g ds else af
theorem aV(F:ak X.prog X.w X.K X.mg X.base cv k x m g)(hr:Room k X.A)(hg:Gl X x)(hx:Passes (jZ X.prog X.w cv) X (EX cv Xw))
 (ha:oe X Xw (e::es) δs)(hl:(e::es).length=m)(tI:(x==("__debug__":Str))=false:=by decide)(he:Su (e::es) X.env=(false,eval e X.env)::Su es X.env:=by rfl)(qK:(Uq pos (Su es X.env)).any (·.1)=false:=by rfl):
 PD X Xw (.Call (.Name x p) (e::es) [] pos) (ao m g δs):=by
 obtain⟨f,fd,ps,h1,h2,h3,h4⟩:=F;exact FC h4 hr hg h1 h2 h3 hx ha hl tI he qK
end
theorem aD{P:SJ}{w:World}{K:Se}{mg:Str->Option Value}{base:Heap}{cv:Nat->Value}{k:Nat}{x:Str}{st:Stmt}{f:Addr}{N ps:List Str}{τ:DS}(T:bz K mg x st f)(S:FnScope N ps (ah st))
 (Qh:∀(kV doc pm:Value) (an:Option Addr) (cu ct:Value) (us:List Value),us.length=ps.length->bindArgs (TM x x (eI st) (aY st) (ah st) .none kV doc pm an cu ct) ⟨us,[]⟩=pure (ps.zip us))
 (o9:∀(cu:Value) (A:S1) (outer:List Env) (s:R8) (H:Hp) (E:XK),Room k (A.deeper (T_ x (ah st) s.heap.objs.size f cu))->
  PSDs (dF (jZ P w cv) P w K mg base N x (ah st) f cu A outer s H E) (λn H'=>E (cv n) none H') (aY st) τ):ak P w K mg base cv (k+1) x ps.length (cj N.length τ):=by
 obtain⟨h1,fd,Fn⟩:=T;exact⟨f,fd,ps,h1,Fn.kp,Fn.binds Qh,J2 Fn S o9⟩
section
variable{X:Cx}{Xw:Nat->Hp->Prop}{a:Expr}{δ:DE}{pos:Pos}
def KY:D->M D
 | .int i=>aa (.int (-i))
 |_=>af
theorem II(ha:PD X Xw a δ):PD X Xw (.UnaryOp .USub a pos) (d1 KY δ):=PE.weak (Lg Jt ha) λσ H Q ⟨F,Z,s,w⟩=>by
 refine⟨F,Z,s,WP.mono (WP.bind w) λv H1 ⟨F1,d,e1,q,w1⟩=>?_⟩;cases d with
 |int i=>
  have q:v= .int i:=q;subst q;exact⟨i,rfl,WP.now w1 e1.fh rfl⟩
 |_=>exact w1.elim
end
section
variable{X:Cx}{Xw:Nat->Hp->Prop}{pos:Pos}
theorem uu{x z:Str}(hg:Gl X x)(h:∃t,X.mg x=some (.str z t))(hz:z.length<=lim)(tI:(x==("__debug__":Str))=false:=by decide):PD X Xw (.Name x pos) (dC (.str z)):=by
 obtain⟨t,h⟩:=h;exact zI (v:= .str z) hg h ⟨t,rfl⟩ (λ_=>⟨rfl,hz⟩) tI
theorem zJ{x:Str}{i:Int}(hg:Gl X x)(h:∃t,X.mg x=some (.int i t))(tI:(x==("__debug__":Str))=false:=by decide):PD X Xw (.Name x pos) (dC (.int i)):=by
 obtain⟨t,h⟩:=h;exact zI (v:= .int i) hg h ⟨t,rfl⟩ (λ_=>rfl) tI
end
def F_(sc osc:Scope):Scope:={sc with names:=sc.names.map λ(n,k)=>if (k== .free&&osc.kind== .function&&osc.names.lookup n==some .cell) then(n, .cell) else(n,k)}
structure Box (p:Prop):Prop where
 out:p
section
variable{X:Cx}{Xw:Nat->Hp->Prop}
theorem dX{st:Stmt}{W1:List Stmt}{τ τ':DS}(h1:Box (gT X Xw st τ))(h2:Box (PSDs X Xw W1 τ')):Box (PSDs X Xw (st::W1) (aA τ τ')):=⟨ai h1.out h2.out⟩
theorem Hq{st:Stmt}{τ:DS}(h1:Box (gT X Xw st τ)):Box (PSDs X Xw [st] τ):=⟨au h1.out⟩
end
theorem LN{l:XX}{n k:Nat}{q:SJ}{loose:List Str}{XP:(Str->Option Value)->Heap->Prop}{YP:World->Heap->Prop}{d:DefRec}{K:Params->Se}{x:Str}{g:List D->M D}
 (hn:l.most=some n)(Md:n<=lim)(Ke:d.params.defaults=[])(hr:Room k WN)
 (hY:∀(w:World) (h:Heap),YP w h->(K w.params).In h)(hg:∀ns:List Int,ns.length<=n->g [.scr ns]=aa (.bl true))
 (F:∀(w:World) (mg:Str->Option Value) (fa:Addr) (h:Heap),(K w.params).In h->h.Ns SG mg->mg d.name=some (.ref fa)->
  ∃(cv:Nat->Value) (fd:Uy),(∀(s:R8) (u:Value),X4 s fd ⟨[u],[]⟩ [(x,u)])/\
   ∀base:Heap,(K w.params).In base->base.Ns SG mg->FnOk l.prog w (K w.params) mg base (jZ l.prog w cv) k fa fd [x] (JE (K w.params) cv 1 g)):
 PySem.W.WalkO q loose XP YP l.row.toRowW d [] (λf vs=>XW f vs):=by
 refine Att.attach_call hn Ke λw YD v4 mg mb fa o pm cd doc a vs ns G Y ho hd xt HK Cm hints v6 Qw=>?_;have KX:=hY w _ Y;obtain⟨cv,fd,hb,hF⟩:=F w mg fa _ KX G.T.g HK;refine vQ KX G.T.g G.T.b G.T.builtins G.T.nolimit Qw Cm hints (Sy v6 (Sy Md (Tr cY))) hr hF hb (λH hO hS=>?_) λH e s' z=>?_
 ·refine⟨H,[.scr ns],λ_ _ e=>e,⟨_,_,rfl,⟨a,rfl,hS,Sy v6 Md⟩,rfl⟩,rfl,?_⟩;rw[hg ns v6];exact λv H' F' e q=>q
 ·obtain⟨_,_,_,_,_,_,_,_,_,_,_,_,_,_,y⟩:=z
section
variable{X:Cx}{Xw:Nat->Hp->Prop}{e:Expr}
variable{o:Expr}{δo:DE}{δl:DA}{T0 bh:Pos}
def BQ(x y:Str):Nat:=(Tc x y 0 x.length (x.length+1)).length
def vk:D->List D->M D
 | .str x,[.str y]=>aa (.int (BQ x y))
 |_,_=>af
theorem Fl:LP X "str.count" (λx vs H Q=>∃y z:Str,x= .str y/\vs=[.str z]/\Q (.int (BQ y z)) H):=by
 intro f8 s σ H x vs v us Q I rx rv h;obtain⟨y,z,rfl,rfl,q⟩:=h;obtain⟨t,rfl⟩:=rx;obtain⟨u,rfl,r1⟩:=rv.one;obtain⟨t2,rfl⟩:=r1;exact call_gives F.slot_str_count (Vz _ _ _) F.entry_str_count (F.args_str_count_2 _ _) (gives_str_count y z t t2) ⟨.int (BQ y z),H,I.tok _,⟨_,rfl⟩,q⟩
theorem FF(ho:PD X Xw o δo)(ha:oe X Xw [e] δl)(iM:Uv o "count" X.env (eval o X.env)=eval o X.env:=by rfl)
 (pd:((Uq bh (Su [e] X.env)).all (λx=>!x.1)&&(Wb bh (U0 [] X.env)).all (λx=>x.1.isSome)&&decide ([e].length+([]:List UQ).length+(if ([]:List UQ).isEmpty then 0 else 1)<30))=true:=by rfl)
 (iN:(T0.endLine==bh.line)=true:=by rfl)(Ct:Su [e] X.env=[(false,eval e X.env)]:=by rfl):PD X Xw (.Call (.Attribute o "count" T0) [e] [] bh) (dM tN vk δo δl):=
 G7 WY PySem.F.slot_str_count PySem.F.type_str_count Fl Cz (λXw F H x vs d ds Q s hx hv w=>by
  unfold vk at w;split at w
  ·rename_i y z;obtain⟨v,rfl,h1⟩:=hv.one;exact⟨y,z,hx.1,by rw[h1.1],WP.now w s rfl⟩
  ·exact w.elim) ho ha iM pd iN Ct rfl
end
section
variable{e:Expr}
end
def pB:D->Option Key
 | .int i=>some (.inl i)
 | .str x=>some (.inr x)
 |_=>none
def AE:List D->Option (List Key)
 |[]=>some []
 |d::ds=>match pB d,AE ds with
  |some k,some ks=>some (k::ks)
  |_,_=>none
def iP:D->Option (List Key)
 | .tup ds=>AE ds
 |_=>none
theorem iO{K:Se}{F:Hp}{d:D}{v:V}{k:Key}(e:pB d=some k)(h:Den K F d v):v=kV k:=by
 cases d<;>first | cases e | skip
 ·exact h
 ·exact h.1
theorem kH{K:Se}{F:Hp}:∀{ds:List D}{vs:List V}{ks:List Key},AE ds=some ks->DenL K F ds vs->vs=ks.map kV
 |[],_,_,e,h=>by cases e;exact h
 |d::ds,_,_,e,⟨v,r,h1,h2,h3⟩=>by
  unfold AE at e;split at e
  ·rename_i k ks e1 e2;cases e;subst h1;rw[Sa,iO e1 h2,kH e2 h3]
  ·cases e
section
variable{κ:Type}[DecidableEq κ]
def dI:List κ->List D->κ->Option D
 |k'::ks,d::ds,k=>if k'=k then some d else dI ks ds k
 |_,_,_=>none
def jN:List κ->List D->κ->D->List D
 |k'::ks,d'::ds,k,d=>(if k'=k then d else d')::jN ks ds k d
 |_,_,_,_=>[]
theorem lr{K:Se}{F:Hp}:∀{ks:List κ}{ds:List D}{vs:List V}(k:κ),DenL K F ds vs->ks.length=ds.length->
 (match dI ks ds k with | some d=>∃v,eS (ks.zip vs) k=some v/\Den K F d v | none=>eS (ks.zip vs) k=none)
 |[],[],_,_,_,_=>rfl
 |k'::ks,d::ds,_,k,⟨v,r,h1,h2,h3⟩,hl=>by
  subst h1;unfold dI;rw[TV];by_cases e:k'=k
  ·rw[Yg e,jr (p:=(k',v)) e];exact⟨v,rfl,h2⟩
  ·rw[Yh e,jq (p:=(k',v)) e];exact lr k h3 (by simpa using hl)
 |[],_::_,_,_,_,hl=>by simp at hl
 |_::_,[],_,_,_,hl=>by simp at hl
theorem jl{K:Se}{F:Hp}{ks:List κ}{ds:List D}{vs:List V}(k:κ)(h:DenL K F ds vs)(hl:ks.length=ds.length):(eS (ks.zip vs) k).isSome=(dI ks ds k).isSome:=by
 have:=lr k h hl;split at this
 ·rename_i d e;obtain⟨v,e1,_⟩:=this;rw[e1,e];rfl
 ·rename_i e;rw[this,e];rfl
theorem wM{K:Se}{F:Hp}{d:D}{v:V}(hd:Den K F d v):∀{ks:List κ}{ds:List D}{vs:List V}(k:κ),DenL K F ds vs->ks.length=ds.length->
 ∃ws,(ks.zip vs).map (λkv=>if kv.1=k then(kv.1,v) else kv)=ks.zip ws/\DenL K F (jN ks ds k d) ws
 |[],[],_,_,h,_=>⟨[],rfl,rfl⟩
 |k'::ks,d'::ds,_,k,⟨v',r,h1,h2,h3⟩,hl=>by
  subst h1;obtain⟨ws,e1,e2⟩:=wM hd k h3 (by simpa using hl);by_cases e:k'=k
  ·refine⟨v::ws,?_,?_⟩
   ·rw[TV,Sa,e1,Yg e];rfl
   ·unfold jN;rw[Yg e];exact .cons hd e2
  ·refine⟨v'::ws,?_,?_⟩
   ·rw[TV,Sa,e1,Yh e];rfl
   ·unfold jN;rw[Yh e];exact .cons h2 e2
 |[],_::_,_,_,_,hl=>by simp at hl
 |_::_,[],_,_,_,hl=>by simp at hl
theorem i9:∀(ks:List κ) (ds:List D) (k:κ) (d:D),ks.length=ds.length->(jN ks ds k d).length=ds.length
 |[],[],_,_,_=>rfl
 |_::ks,_::ds,k,d,h=>by unfold jN;rw[Sd,Sd,i9 ks ds k d (by simpa using h)]
 |[],_::_,_,_,h=>by simp at h
 |_::_,[],_,_,h=>by simp at h
def b7(ks:List κ)(ds:List D)(k:κ):List κ:=if (dI ks ds k).isSome then ks else ks++[k]
def bM(ks:List κ)(ds:List D)(k:κ)(d:D):List D:=if (dI ks ds k).isSome then jN ks ds k d else ds++[d]
theorem ux{K:Se}{F:Hp}{d:D}{v:V}(hd:Den K F d v){ks:List κ}{ds:List D}{vs:List V}(k:κ)(h:DenL K F ds vs)(hl:ks.length=ds.length):
 ∃ws,putK (ks.zip vs) k v=(b7 ks ds k).zip ws/\DenL K F (bM ks ds k d) ws/\(b7 ks ds k).length=(bM ks ds k d).length:=by
 have hs:=jl (K:=K) (F:=F) k h hl;unfold putK b7 bM;have ha:((ks.zip vs).any λkv=>decide (kv.1=k))=(eS (ks.zip vs) k).isSome:=jo ..;rw[ha,hs];cases e:(dI ks ds k).isSome with
 |true=>
  rw[Yg rfl,Yg rfl,Yg rfl];obtain⟨ws,e1,e2⟩:=wM hd k h hl;exact⟨ws,e1,e2,by rw[i9 ks ds k d hl];exact hl⟩
 |false=>
  rw[Yh SI,Yh SI,Yh SI];refine⟨vs++[v],?_,h.append (.cons hd .nil),by simp[hl]⟩;rw[VD (by rw[hl];exact h.len)];rfl
end
theorem z5{κ:Type}{K:Se}{F:Hp}{ks:List κ}{ds:List D}{vs:List V}(h:DenL K F ds vs)(hl:ks.length=ds.length):(ks.zip vs).length=ds.length:=by
 rw[VE,hl,<-h.len];omega
def qu(Z:aU)(i:Nat):Option D:=match Z[i]? with
 |some (some (.fz d))=>some d
 |some (some (.ow c))=>some c.d
 |_=>none
theorem D0{K:Se}{F H:Hp}{σ:St}{Z:aU}{i:Nat}{ks:List (List Key)}{ds:List D}(s:StE K F H σ Z)(e:qu Z i=some (.dct ks ds)):
 ∃a vs,σ[i]? =some (some (.ref a))/\Rd H a (.dT (ks.zip vs))/\DenL K F ds vs/\ks.length=ds.length/\ds.length<=lim:=by
 unfold qu at e;split at e
 ·rename_i d e1;cases e;obtain⟨v,h1,a,ob,vs,rfl,h2,h3,h4,h5⟩:=s.den i _ e1;exact⟨a,vs,h1, .inr ⟨ob,s.fh _ _ h2⟩,h3,h4,h5⟩
 ·rename_i c e1;cases c<;>cases e
  obtain⟨v,h1,a,o,rfl,h2,_,vs,rfl,h3,h4,h5⟩:=s.den i _ e1;exact⟨a,vs,h1, .inl h2,h3,h4,h5⟩
 ·cases e
theorem DZ{K:Se}{F H:Hp}{σ:St}{Z:aU}{i:Nat}{ks:List Key}{ds:List D}(s:StE K F H σ Z)(e:qu Z i=some (.dci ks ds)):
 ∃a vs,σ[i]? =some (some (.ref a))/\Rd H a (.dK (ks.zip vs))/\DenL K F ds vs/\ks.length=ds.length/\ds.length<=lim:=by
 unfold qu at e;split at e
 ·rename_i d e1;cases e;obtain⟨v,h1,a,ob,vs,rfl,h2,h3,h4,h5⟩:=s.den i _ e1;exact⟨a,vs,h1, .inr ⟨ob,s.fh _ _ h2⟩,h3,h4,h5⟩
 ·rename_i c e1;cases c<;>cases e
  obtain⟨v,h1,a,o,rfl,h2,_,vs,rfl,h3,h4,h5⟩:=s.den i _ e1;exact⟨a,vs,h1, .inl h2,h3,h4,h5⟩
 ·cases e
def Br:D->D->Option (Option D)
 | .dct ks ds,k=>(iP k).map (dI ks ds)
 | .dci ks ds,k=>(pB k).map (dI ks ds)
 |_,_=>none
theorem y7{K:Se}{F H:Hp}{σ:St}{Z:aU}{i:Nat}{d k:D}{y:V}{o:Option D}(s:StE K F H σ Z)(hi:qu Z i=some d)(hk:Den K F k y)(e:Br d k=some o):
 ∃a ov,σ[i]? =some (some (.ref a))/\qL H a y ov/\ov.isSome=o.isSome/\∀d',o=some d'->∃v,ov=some v/\Den K F d' v:=by
 unfold Br at e;split at e
 ·rename_i ks ds;cases q:iP k with
  |none=>rw[q] at e;cases e
  |some kk=>
   rw[q] at e;cases e;obtain⟨a,vs,h1,h2,h3,h4,h5⟩:=D0 s hi;unfold iP at q;split at q
   ·rename_i es;obtain⟨b,ws,rfl,k2,k3,_⟩:=hk;have e1:=kH q k3;subst e1;refine⟨a,_,h1, .inr ⟨_,kk,b,h2,rfl,s.fh _ _ k2,rfl⟩,jl kk h3 h4,λd' xu=>?_⟩;have:=lr (K:=K) (F:=F) kk h3 h4;rw[xu] at this;exact this
   ·cases q
 ·rename_i ks ds;cases q:pB k with
  |none=>rw[q] at e;cases e
  |some kk=>
   rw[q] at e;cases e;obtain⟨a,vs,h1,h2,h3,h4,h5⟩:=DZ s hi;have e1:=iO q hk;subst e1;refine⟨a,_,h1, .inl ⟨_,kk,h2,rfl,rfl⟩,jl kk h3 h4,λd' xu=>?_⟩;have:=lr (K:=K) (F:=F) kk h3 h4;rw[xu] at this;exact this
 ·cases e
section
variable{X:Cx}{Xw:Nat->Hp->Prop}{a e:Expr}{δ δk δv:DE}{pos p pos' wx:Pos}{x:Str}{i:Nat}
def JT(neg:Bool)(i:Nat)(δ:DE):DE:=λZ=>δ Z>>=λk=>match qu Z i with
 |some d=>match Br d k with
  |some o=>aa (.bl (if neg then !o.isSome else o.isSome))
  |none=>af
 |none=>af
theorem HY{neg:Bool}{σ:St}{H:Hp}{Q:VK}(h:tD X.K Xw (JT neg i δ) σ H Q):(λσ H Q=>tD X.K Xw δ σ H λy H1=>kr i σ H1 λx H2=>∃a o,x= .ref a/\qL H2 a y o/\Q (.bl (if neg then !o.isSome else o.isSome)) H2) σ H Q:=by
 obtain⟨F,Z,s,w⟩:=h;refine⟨F,Z,s,WP.mono (WP.bind w) λy H1 ⟨F1,k,e1,q1,w1⟩=>?_⟩;have s1:=s.ext e1;cases hi:qu Z i with
 |none=>rw[hi] at w1;exact w1.elim
 |some d=>
  rw[hi] at w1;have w1:WP X.K Xw F1 H1 (match Br d k with | some o=>aa (.bl (if neg then !o.isSome else o.isSome)) | none=>af) Q:=w1;cases he:Br d k with
  |none=>rw[he] at w1;exact w1.elim
  |some o=>
   rw[he] at w1;obtain⟨a,ov,h1,h2,h3,_⟩:=y7 s1 hi q1 he;refine⟨.ref a,h1,a,ov,rfl,h2,?_⟩;rw[h3];exact WP.now w1 e1.fh rfl
theorem NQ(hu:X.A.units+64<cLine)(ha:PD X Xw a δ)(hv:PE X (.Name x p) (kr i))(hm:Th .In (.Name x p)=false:=by rfl):PD X Xw (.Compare a [.In] [.Name x p] pos) (JT false i δ):=
 PE.weak (IM (IF (by omega) ha hv) hm) λσ H Q h=>HY (neg:=false) h
def zV(i:Nat):DS:=λZ=>aa (.nx (Z.set i (some (.ow (.dct [] [])))))
def DR(i:Nat):DS:=λZ=>aa (.nx (Z.set i (some (.ow (.dci [] [])))))
theorem ql(hN:X.N.Nodup)(hi:X.N[i]? =some x)(hx:Loc X.env.scope x)(hf:X.fn x=true\/X.env.scope.names.lookup x=some .local:=by first | exact .inl rfl | exact .inr rfl):
 gT X Xw (.Assign [.Name x pos'] (.Dict [] [] wx) pos) (zV i):=λu8 YC=>PS.weak (mj Dp (a8 hN hi hx hf) rfl) λD σ H ⟨F,Z,s,w⟩=>λq hq=>
 w _ F _ (s.setNew (c₀:= .dct [] []) hq ⟨[],rfl,rfl,rfl,SM _⟩)
theorem wz(hN:X.N.Nodup)(hi:X.N[i]? =some x)(hx:Loc X.env.scope x)(hf:X.fn x=true\/X.env.scope.names.lookup x=some .local:=by first | exact .inl rfl | exact .inr rfl):
 gT X Xw (.Assign [.Name x pos'] (.Dict [] [] wx) pos) (DR i):=λu8 YC=>PS.weak (mj wu (a8 hN hi hx hf) rfl) λD σ H ⟨F,Z,s,w⟩=>λq hq=>
 w _ F _ (s.setNew (c₀:= .dci [] []) hq ⟨[],rfl,rfl,rfl,SM _⟩)
def hX:C->D->D->Option C
 | .dct ks ds,k,d=>match iP k with
   |some kk=>if ds.length<lim then some (.dct (b7 ks ds kk) (bM ks ds kk d)) else none
   |none=>none
 | .dci ks ds,k,d=>match pB k with
   |some kk=>if ds.length<lim then some (.dci (b7 ks ds kk) (bM ks ds kk d)) else none
   |none=>none
 |_,_,_=>none
def q9(Z:aU)(i:Nat):Option C:=match Z[i]? with
 |some (some (.ow c))=>some c
 |_=>none
theorem ma{Z:aU}{i:Nat}{c:C}(h:q9 Z i=some c):Z[i]? =some (some (.ow c)):=by
 unfold q9 at h;split at h
 ·rename_i c' e;cases h;exact e
 ·cases h
def dR(i:Nat)(δk δv:DE):DS:=λZ=>match q9 Z i with
 |some c=>δv Z>>=λv=>δk Z>>=λk=>match hX c k v with
  |some c'=>aa (.nx (Z.set i (some (.ow c'))))
  |none=>af
 |none=>af
theorem sv{κ:Type}[DecidableEq κ]{ks:List κ}{ds:List D}{k:κ}{d:D}(hl:ks.length=ds.length)(h:ds.length<lim):(bM ks ds k d).length<=lim:=by
 unfold bM;split
 ·rw[i9 ks ds k d hl];omega
 ·rw[Sg];exact h
theorem DD{K:Se}{F H:Hp}{c c':C}{k d:D}{y v:V}{o:HO}{b:Addr}(hs:Same F H)(hb:H b=some o)(hc:DenC K F c o)(hk:Den K F k y)(hd:Den K F d v)(e:hX c k d=some c'):∃o',DPut H b y v (upd H b o')/\DenC K F c' o':=by
 have Cj:=cY;unfold hX at e;split at e
 ·rename_i ks ds k d;obtain⟨vs,rfl,h3,h4,h5⟩:=hc;split at e
  ·rename_i kk q;split at e
   ·rename_i gk;cases e;unfold iP at q;split at q
    ·rename_i es;obtain⟨b2,ws,rfl,k2,k3,_⟩:=hk;have e1:=kH q k3;subst e1;obtain⟨us,e2,e3,e4⟩:=ux hd kk h3 h4;refine⟨_,DPut.t hb (hs _ _ k2) (by rw[z5 h3 h4];omega),us,?_,e3,e4,sv h4 gk⟩;rw[e2]
    ·cases q
   ·cases e
  ·cases e
 ·rename_i ks ds k d;obtain⟨vs,rfl,h3,h4,h5⟩:=hc;split at e
  ·rename_i kk q;split at e
   ·rename_i gk;cases e;have e1:=iO q hk;subst e1;obtain⟨us,e2,e3,e4⟩:=ux hd kk h3 h4;refine⟨_,DPut.k hb (by rw[z5 h3 h4];omega),us,?_,e3,e4,sv h4 gk⟩;rw[e2]
   ·cases e
  ·cases e
 ·cases e
theorem gH(hu:X.A.units+64<cLine)(hv:PE X (.Name x p) (kr i))(hk:PD X Xw a δk)(he:PD X Xw e δv)(hs:Vg e (some (.Subscript (.Name x p) a pos')) pos.line X.env=pure false:=by rfl):
 gT X Xw (.Assign [.Subscript (.Name x p) a pos'] e pos) (dR i δk δv):=λu8 YC=>PS.weak (zN (by omega) hv hk he hs) λD σ H ⟨F,Z,s,w⟩=>by
 unfold dR at w;cases ho:q9 Z i with
 |none=>rw[ho] at w;exact w.elim
 |some c=>
  rw[ho] at w;have hi:=ma ho;have w:WPS X.K Xw u8 YC (δv Z>>=λv=>δk Z>>=λk=>match hX c k v with | some c'=>aa (.nx (Z.set i (some (.ow c')))) | none=>af) D:=w;refine⟨F,Z,s.st,?_⟩;rcases(δv Z).cs with q | ⟨n,q⟩ | ⟨dv,q⟩
  ·rw[q] at w;exact w.elim
  ·rw[q] at w⊢;exact λF' H' e'=>w F' H' (s.ext.trans e')
  ·rw[q] at w⊢;intro v H1 F1 e1 hq;have s1:=s.ext' e1;obtain⟨u,h1,b,o,rfl,h2,h3,h4⟩:=s1.st.den i _ hi;have w:WPS X.K Xw u8 YC (δk Z>>=λk=>match hX c k dv with | some c'=>aa (.nx (Z.set i (some (.ow c')))) | none=>af) D:=w;refine⟨.ref b,h1,F1,Z,s1.st,?_⟩;rcases(δk Z).cs with q2 | ⟨n,q2⟩ | ⟨dk,q2⟩
   ·rw[q2] at w;exact w.elim
   ·rw[q2] at w⊢;exact λF' H' e'=>w F' H' (s1.ext.trans e')
   ·rw[q2] at w⊢;intro y H2 F2 e2 hy;have w:WPS X.K Xw u8 YC (match hX c dk dv with | some c'=>aa (.nx (Z.set i (some (.ow c')))) | none=>af) D:=w;cases hp:hX c dk dv with
    |none=>rw[hp] at w;exact w.elim
    |some c'=>
     rw[hp] at w;have s2:=s1.ext' e2;obtain⟨u2,k1,b2,o2,Ka,k2,k3,k4⟩:=s2.st.den i _ hi;rw[h1] at k1;cases k1;cases Ka;obtain⟨o',g,hc⟩:=DD s2.st.fh k2 k4 hy (Den.mono e2.ff hq) hp;exact⟨b,_,rfl,g,w σ F2 _ (s2.chg hi h1 hc)⟩
end
def eG(c:DT)(body:DS):Nat->DS
 |0,_=>af
 |n+1,Z=>c Z>>=λb=>if b then body Z>>=λo=>match o with | .nx Z'=>eG c body n Z' | .rt d=>aa (.rt d) else aa (.nx Z)
def yD(c:DT)(body:DS):DS:=λZ=>eG c body lim Z
section
variable{X:Cx}{Xw:Nat->Hp->Prop}{τ:DS}{tc:DT}{pos:Pos}
theorem su{c:Expr}{body:List Stmt}(hp:Xm (model X.prog X.w) X.A X.env X.xe)(hc:nO X Xw c tc)(hb:PSDs X Xw body τ):gT X Xw (.While c body [] pos) (yD tc τ):=λu8 YC=>PS.weak (Dy hp hc hb.ex) λD σ H ⟨F,Z,s,w⟩=>by
 refine⟨λm σ H=>∃F Z,StOk X.K u8 YC F H σ Z/\WPS X.K Xw u8 YC (eG tc τ m Z) D,⟨lim,F,Z,s,w⟩,?_⟩;rintro m σ H ⟨F,Z,s,w⟩;cases m with
 |zero=>exact w.elim
 |succ m=>
  refine⟨F,Z,s.st,?_⟩;unfold eG at w
  match tc Z,w with
  |none,w=>exact w
  |some (.ex n),w=>exact λF' H' e'=>w F' H' (s.ext.trans e')
  |some (.ok false),w=>exact λH' F' e'=>w σ F' H' (s.ext' e')
  |some (.ok true),w=>
   intro H' F' e';have w:WPS X.K Xw u8 YC (τ Z>>=λo=>match o with | .nx Z'=>eG tc τ m Z' | .rt d=>aa (.rt d)) D:=w;refine⟨λσ' H'=>∃F' Z',StOk X.K u8 YC F' H' σ' Z'/\WPS X.K Xw u8 YC (eG tc τ m Z') D,λσ' H' h=>⟨m,WA m,h⟩,u8,YC,F',Z,s.ext' e',?_⟩
   match τ Z,w with
   |none,w=>exact w
   |some (.ok (.nx Z')),w=>exact λσ' F' H' s'=>⟨F',Z',s',w⟩
   |some (.ok (.rt d)),w=>exact w
   |some (.ex n),w=>exact w
end
end L3
namespace L3
open PySem PySem.W PyProof.Rows
def dm{α:Type}(b:Nat->Nat->Bool):KasT α->α
 | .ret a=>a
 | .ask i j k=>dm b (k (b i j))
theorem fi{α β:Type}(b:Nat->Nat->Bool)(f:α->KasT β):∀t:KasT α,dm b (t.bind f)=dm b (f (dm b t))
 | .ret _=>rfl
 | .ask i j k=>fi b f (k (b i j))
structure Lt (n:Nat) (b:Nat->Nat->Bool):Prop where
 tr:∀i j k,b i j=true->b j k=true->b i k=true
 RP:∀i j,b i j=true->b j i=false
 tot:∀i j,i<n->j<n->i≠j->b i j=true\/b j i=true
abbrev at'(p:Array Nat)(i:Nat):Nat:=p.getD i 0
def Ri(b:Nat->Nat->Bool)(p:Array Nat)(k:Nat):Prop:=∀i j,i<j->j<k->b (at' p i) (at' p j)=true
def Fa(b:Nat->Nat->Bool)(p:Array Nat)(k:Nat):Prop:=∀i j,i<j->j<k->b (at' p j) (at' p i)=true
structure PN (n:Nat) (p:Array Nat):Prop where
 sz:p.size=n
 lt:∀i,i<n->at' p i<n
 inj:∀i j,i<n->j<n->at' p i=at' p j->i=j
section
variable{n:Nat}{b:Nat->Nat->Bool}(L:Lt n b)
include L
theorem Ri.more{p:Array Nat}{k:Nat}(h:Ri b p k)(h1:1<=k)(e:b (at' p (k - 1)) (at' p k)=true):Ri b p (k+1):=λi j zl hj=>by
 by_cases hk:j<k
 ·exact h i j zl hk
 ·have:j=k:=by omega
  subst this;by_cases hi:i=j - 1
  ·subst hi;exact e
  ·exact L.tr _ _ _ (h i (j - 1) (by omega) (by omega)) e
theorem Fa.more{p:Array Nat}{k:Nat}(h:Fa b p k)(h1:1<=k)(e:b (at' p k) (at' p (k - 1))=true):Fa b p (k+1):=λi j zl hj=>by
 by_cases hk:j<k
 ·exact h i j zl hk
 ·have:j=k:=by omega
  subst this;by_cases hi:i=j - 1
  ·subst hi;exact e
  ·exact L.tr _ _ _ e (h i (j - 1) (by omega) (by omega))
theorem sX{p:Array Nat}(P:PN n p):∀(f k:Nat),1<=k->k+f<=n->Ri b p k->k<=dm b (kas_asc p f k)/\dm b (kas_asc p f k)<=k+f/\Ri b p (dm b (kas_asc p f k))/\(dm b (kas_asc p f k)<k+f->b (at' p (dm b (kas_asc p f k))) (at' p (dm b (kas_asc p f k) - 1))=true)
 |0,k,h1,hn,h=>⟨R_ _,R_ _,h,λz=>Ym z (Tf _)⟩
 |f+1,k,h1,hn,h=>by
  have e:dm b (kas_asc p (f+1) k)=dm b (if b (at' p k) (at' p (k - 1))=true then KasT.ret k else kas_asc p f (k+1)):=rfl;rw[e];by_cases hb:b (at' p k) (at' p (k - 1))=true
  ·rw[Yg hb];exact⟨R_ _,by show k<=_;omega,h,λ_=>hb⟩
  ·rw[Yh hb];have hr:b (at' p (k - 1)) (at' p k)=true:=by
    rcases L.tot (at' p (k - 1)) (at' p k) (P.lt _ (by omega)) (P.lt _ (by omega)) (λz=>by have:=P.inj _ _ (by omega) (by omega) z;omega) with q | q
    ·exact q
    ·exact Ym q hb
   obtain⟨a1,a2,a3,a4⟩:=sX P f (k+1) (by omega) (by omega) (Ri.more L h h1 hr);exact⟨by omega,by omega,a3,λz=>a4 (by omega)⟩
theorem vx{p:Array Nat}(P:PN n p):∀(f k:Nat),1<=k->k+f<=n->Fa b p k->∃m,dm b (kas_desc f p k 0)=(p,m,0)/\k<=m/\m<=k+f/\Fa b p m
 |0,k,h1,hn,h=>⟨k,rfl,R_ _,R_ _,h⟩
 |f+1,k,h1,hn,h=>by
  have e:dm b (kas_desc (f+1) p k 0)=dm b (if b (at' p k) (at' p (k - 1))=true then(if 0>0 then kas_desc f (kas_rev p (k - (0+1)) k) (k+1) 0 else kas_desc f p (k+1) 0)
   else .ask (p.getD (k - 1) 0) (p.getD k 0) λd=>if d=true then .ret (p,k,0) else kas_desc f p (k+1) (0+1)):=rfl
  rw[e];by_cases hb:b (at' p k) (at' p (k - 1))=true
  ·rw[Yg hb,Yh (by omega)];obtain⟨m,e1,e2,e3,e4⟩:=vx P f (k+1) (by omega) (by omega) (Fa.more L h h1 hb);exact⟨m,e1,by omega,by omega,e4⟩
  ·rw[Yh hb];have hr:b (at' p (k - 1)) (at' p k)=true:=by
    rcases L.tot (at' p (k - 1)) (at' p k) (P.lt _ (by omega)) (P.lt _ (by omega)) (λz=>by have:=P.inj _ _ (by omega) (by omega) z;omega) with q | q
    ·exact q
    ·exact Ym q hb
   refine⟨k,?_,R_ _,by omega,h⟩;show dm b (if b (at' p (k - 1)) (at' p k)=true then KasT.ret (p,k,0) else kas_desc f p (k+1) (0+1))=_;rw[Yg hr];rfl
end
theorem eU(p:Array Nat)(k:Nat):at' p k=(p[k]?).getD 0:=by
 unfold at';rw[Array.getD_eq_getD_getElem?]
theorem DM{p:Array Nat}{m:Nat}(hm:m<=p.size)(k:Nat):at' (kas_rev p 0 m) k=if k<m then at' p (m - 1 - k) else at' p k:=by
 have e:=getElem?_mirror_all (xs:=p) (i:=0) hm k;rw[eU];show (((mirror p 0 m ((m - 0) / 2))[k]?).getD 0)=_;rw[e];by_cases h:k<m
 ·rw[Yg ⟨SM _,h⟩,Yg h,eU,VJ]
 ·rw[Yh (λz=>h z.2),Yh h,eU]
theorem BH{p:Array Nat}{k l:Nat}(hk:k<p.size)(hl:l<=k)(j:Nat):at' (bubble p k (k - l)) j=if j=l then at' p k else if l<j/\j<=k then at' p (j - 1) else at' p j:=by
 have e:=getElem?_bubble hk (k - l) (by omega) j;have e2:k - (k - l)=l:=by omega
 rw[e2] at e;rw[eU (bubble p k (k - l)),e,eU p k,eU p (j - 1),eU p j];by_cases c1:j=l
 ·rw[Yg c1,Yg c1]
 ·rw[Yh c1,Yh c1];by_cases c2:l<j/\j<=k
  ·rw[Yg c2,Yg c2]
  ·rw[Yh c2,Yh c2]
section
variable{n:Nat}{b:Nat->Nat->Bool}
theorem PN.rev{p:Array Nat}(P:PN n p){m:Nat}(hm:m<=n):PN n (kas_rev p 0 m):=by
 have ha:=DM (p:=p) (m:=m) (by rw[P.sz];exact hm);refine⟨(mirror_size ..).trans P.sz,λi hi=>?_,λi j hi hj e=>?_⟩
 ·rw[ha];split
  ·exact P.lt _ (by omega)
  ·exact P.lt _ hi
 ·rw[ha,ha] at e;split at e<;>split at e
  ·have:=P.inj _ _ (by omega) (by omega) e;omega
  ·have:=P.inj _ _ (by omega) hj e;omega
  ·have:=P.inj _ _ hi (by omega) e;omega
  ·exact P.inj _ _ hi hj e
theorem PN.bub{p:Array Nat}(P:PN n p){k l:Nat}(hk:k<n)(hl:l<=k):PN n (bubble p k (k - l)):=by
 have ha:=BH (p:=p) (k:=k) (l:=l) (by rw[P.sz];exact hk) hl;refine⟨(bubble_size ..).trans P.sz,λi hi=>?_,λi j hi hj e=>?_⟩
 ·rw[ha];split
  ·exact P.lt _ hk
  ·split
   ·exact P.lt _ (by omega)
   ·exact P.lt _ hi
 ·rw[ha,ha] at e;split at e
  ·split at e
   ·omega
   ·split at e
    ·have:=P.inj _ _ hk (by omega) e;omega
    ·have:=P.inj _ _ hk hj e;omega
  ·split at e
   ·split at e
    ·have:=P.inj _ _ (by omega) hk e;omega
    ·split at e
     ·have:=P.inj _ _ (by omega) (by omega) e;omega
     ·have:=P.inj _ _ (by omega) hj e;omega
   ·split at e
    ·have:=P.inj _ _ hi hk e;omega
    ·split at e
     ·have:=P.inj _ _ hi (by omega) e;omega
     ·exact P.inj _ _ hi hj e
theorem Fa.rev{p:Array Nat}(P:PN n p){m:Nat}(hm:m<=n)(h:Fa b p m):Ri b (kas_rev p 0 m) m:=λi j zl hj=>by
 have ha:=DM (p:=p) (m:=m) (by rw[P.sz];exact hm);rw[ha,ha,Yg (by omega),Yg hj];exact h _ _ (by omega) (by omega)
variable(L:Lt n b)
include L
theorem Ea{p:Array Nat}(P:PN n p){m:Nat}(h1:1<=m)(hm:m<=n)(h:Fa b p m):∃k q,dm b (kas_tail3 m n p)=(k,q)/\PN n q/\1<=k/\k<=n/\Ri b q k:=by
 unfold kas_tail3;rw[fi];obtain⟨a1,a2,a3,_⟩:=sX L (P.rev hm) (n - m) m h1 (by omega) (Fa.rev P hm h);exact⟨_,_,rfl,P.rev hm,by omega,by omega,a3⟩
theorem Ak{p:Array Nat}(P:PN n p)(h2:2<=n):∃k q,dm b (kas_count n p)=(k,q)/\PN n q/\1<=k/\k<=n/\Ri b q k:=by
 unfold kas_count;rw[fi];obtain⟨a1,a2,a3,a4⟩:=sX L P (n - 1) 1 (R_ _) (by omega) (λi j zl hj=>by omega);generalize dm b (kas_asc p (n - 1) 1)=m at a1 a2 a3 a4;by_cases he:m=n
 ·subst he;rw[Yg (by simp)];exact⟨m,p,rfl,P,by omega,R_ _,a3⟩
 ·rw[Yh (by simpa using he)];by_cases hg:m>1
  ·rw[Yg hg];have hb:b (p.getD 0 0) (p.getD (m - 1) 0)=true:=a3 0 (m - 1) (by omega) (by omega);show∃k q,dm b (if b (p.getD 0 0) (p.getD (m - 1) 0)=true then KasT.ret (m,p) else kas_descPart m n (kas_rev p 0 m))=(k,q)/\_;rw[Yg hb];exact⟨m,p,rfl,P,by omega,by omega,a3⟩
  ·rw[Yh hg];have hm:m=1:=by omega
   subst hm;have hb:=a4 (by omega);unfold kas_descPart;rw[fi];obtain⟨m,e1,e2,e3,e4⟩:=vx L P (n - (1+1)) (1+1) (by omega) (by omega) (λi j zl hj=>by
    have hi:i=0:=by omega
    have hj:j=1:=by omega
    subst hi hj;exact hb)
   rw[e1]
   dsimp only
   rw[Yh (by omega)];exact Ea L P (by omega) (by omega) e4
theorem mh{p:Array Nat}(P:PN n p){k:Nat}(hk:k<n)(h:Ri b p k):∀(f l r:Nat),l<=r->r<=k->r - l<=f->(∀i,i<l->b (at' p i) (at' p k)=true)->(∀i,r<=i->i<k->b (at' p k) (at' p i)=true)->
 dm b (kas_place p k f l r)<=k/\(∀i,i<dm b (kas_place p k f l r)->b (at' p i) (at' p k)=true)/\∀i,dm b (kas_place p k f l r)<=i->i<k->b (at' p k) (at' p i)=true
 |0,l,r,h1,h2,h3,h4,h5=>by
  have:r=l:=by omega
  subst this;exact⟨h2,h4,h5⟩
 |f+1,l,r,h1,h2,h3,h4,h5=>by
  unfold kas_place;by_cases OY:l>=r
  ·rw[Yg OY];have:r=l:=by omega
   subst this;exact⟨h2,h4,h5⟩
  ·rw[Yh OY];have hm:(l+r) / 2<r:=by omega
   have E2:l<=(l+r) / 2:=by omega
   show dm b (if b (at' p k) (at' p ((l+r) / 2))=true then kas_place p k f l ((l+r) / 2) else kas_place p k f ((l+r) / 2+1) r)<=k/\(∀i,i<dm b (if b (at' p k) (at' p ((l+r) / 2))=true then kas_place p k f l ((l+r) / 2) else kas_place p k f ((l+r) / 2+1) r)->_)/\∀i,dm b (if b (at' p k) (at' p ((l+r) / 2))=true then kas_place p k f l ((l+r) / 2) else kas_place p k f ((l+r) / 2+1) r)<=i->_;by_cases hb:b (at' p k) (at' p ((l+r) / 2))=true
   ·rw[Yg hb];refine mh P hk h f l ((l+r) / 2) E2 (by omega) (by omega) h4 λi hi Qz=>?_;by_cases e:i=(l+r) / 2
    ·rw[e];exact hb
    ·exact L.tr _ _ _ hb (h _ _ (by omega) Qz)
   ·rw[Yh hb];have hr:b (at' p ((l+r) / 2)) (at' p k)=true:=by
     rcases L.tot (at' p ((l+r) / 2)) (at' p k) (P.lt _ (by omega)) (P.lt _ hk) (λz=>by have:=P.inj _ _ (by omega) hk z;omega) with q | q
     ·exact q
     ·exact Ym q hb
    refine mh P hk h f ((l+r) / 2+1) r (by omega) h2 (by omega) (λi hi=>?_) h5;by_cases e:i=(l+r) / 2
    ·rw[e];exact hr
    ·exact L.tr _ _ _ (h i ((l+r) / 2) (by omega) (by omega)) hr
theorem y9:∀(f:Nat) {p:Array Nat}{k:Nat},PN n p->k+f<=n->Ri b p k->PN n (dm b (kas_bin f p k))/\Ri b (dm b (kas_bin f p k)) (k+f)
 |0,p,k,P,_,h=>⟨P,h⟩
 |f+1,p,k,P,hn,h=>by
  have hk:k<n:=by omega
  unfold kas_bin;rw[fi];obtain⟨a1,a2,a3⟩:=mh L P hk h k 0 k (SM _) (R_ _) (by omega) (λi hi=>by omega) (λi h1 h2=>by omega);generalize dm b (kas_place p k k 0 k)=l at a1 a2 a3;have ha:=BH (p:=p) (k:=k) (l:=l) (by rw[P.sz];exact hk) a1;have hR:Ri b (bubble p k (k - l)) (k+1):=λi j zl hj=>by
   rw[ha,ha];by_cases c1:i=l
   ·rw[Yg c1,Yh (by omega),Yg ⟨by omega,by omega⟩];exact a3 _ (by omega) (by omega)
   ·rw[Yh c1];by_cases c2:j=l
    ·rw[Yg c2,Yh (by omega)];exact a2 _ (by omega)
    ·rw[Yh c2];by_cases c3:l<i/\i<=k
     ·rw[Yg c3,Yg ⟨by omega,by omega⟩];exact h _ _ (by omega) (by omega)
     ·rw[Yh c3];by_cases c4:l<j/\j<=k
      ·rw[Yg c4];exact h _ _ (by omega) (by omega)
      ·rw[Yh c4];exact h _ _ zl (by omega)
  have:=y9 f (P.bub hk a1) (by omega) hR;rw[show k+(f+1)=k+1+f by omega];exact this
theorem D1(h2:2<=n):PN n (dm b (kas_sort n))/\Ri b (dm b (kas_sort n)) n:=by
 have P0:PN n (TC (Sn n)):=by
  have e:∀i,i<n->at' (TC (Sn n)) i=i:=λi hi=>by rw[eU];simp[hi]
  exact⟨by simp,λi hi=>by rw[e i hi];exact hi,λi j hi hj z=>by rw[e i hi,e j hj] at z;exact z⟩
 unfold kas_sort;rw[fi];obtain⟨k,q,e,P,k1,kn,hR⟩:=Ak L P0 h2;rw[e]
 dsimp only
 by_cases gk:k<n
 ·rw[Yg gk];have:=y9 L (n - max k 1) (k:=max k 1) P (by omega) (by rw[show max k 1=k by omega];exact hR);rw[show max k 1+(n - max k 1)=n by omega] at this;exact this
 ·rw[Yh gk];have:k=n:=by omega
  subst this;exact⟨P,hR⟩
end
def Asks{α:Type}(n:Nat)(P:α->Prop):KasT α->Prop
 | .ret a=>P a
 | .ask i j k=>i<n/\j<n/\∀c,Asks n P (k c)
theorem Asks.bind{α β:Type}{n:Nat}{P:α->Prop}{Q:β->Prop}{f:α->KasT β}:∀{t:KasT α},Asks n P t->(∀a,P a->Asks n Q (f a))->Asks n Q (t.bind f)
 | .ret a,h,hf=>hf a h
 | .ask i j k,h,hf=>⟨h.1,h.2.1,λc=>Asks.bind (h.2.2 c) hf⟩
theorem wp_run{α:Type}{n:Nat}{P:α->Prop}{b:Nat->Nat->Bool}{cmp:Nat->Nat->(Bool->R8->Prop)->R8->Prop}{Q:α->R8->Prop}{s:R8}(hc:∀i j C,i<n->j<n->C (b i j) s->cmp i j C s):∀{t:KasT α},Asks n P t->Q (dm b t) s->t.kasWp cmp Q s
 | .ret a,_,h=>h
 | .ask i j k,ha,h=>hc i j _ ha.1 ha.2.1 (wp_run hc (ha.2.2 _) h)
def Below(n:Nat)(p:Array Nat):Prop:=∀x∈p,x<n
section
variable{n:Nat}(hn:0<n)
include hn
theorem Below.at{p:Array Nat}(h:Below n p)(i:Nat):at' p i<n:=by
 rw[eU];cases e:p[i]? with
 |none=>exact hn
 |some x=>exact h x (Array.mem_of_getElem? e)
theorem Below.rev{p:Array Nat}(h:Below n p)(i j:Nat):Below n (kas_rev p i j):=λx hx=>h x ((mirror_perm p i j ((j - i) / 2)).mem_iff.mp hx)
theorem Below.bub{p:Array Nat}(h:Below n p)(k d:Nat):Below n (bubble p k d):=λx hx=>h x ((bubble_perm p k d).mem_iff.mp hx)
theorem oM{p:Array Nat}(h:Below n p):∀f k,Asks n (λ_=>True) (kas_asc p f k)
 |0,k=>trivial
 |f+1,k=>⟨Below.at hn h _,Below.at hn h _,λc=>by
  show Asks n _ (if c=true then KasT.ret k else kas_asc p f (k+1));cases c
  ·exact oM h f (k+1)
  ·exact trivial⟩
theorem jt:∀f {p:Array Nat} k q,Below n p->Asks n (λr=>Below n r.1) (kas_desc f p k q)
 |0,p,k,q,h=>h
 |f+1,p,k,q,h=>⟨Below.at hn h _,Below.at hn h _,λc=>by
  cases c
  ·refine⟨Below.at hn h _,Below.at hn h _,λd=>?_⟩;cases d
   ·exact jt f _ _ h
   ·exact h
  ·show Asks n _ (if q>0 then kas_desc f (kas_rev p (k - (q+1)) k) (k+1) 0 else kas_desc f p (k+1) 0);split
   ·exact jt f _ _ (Below.rev hn h _ _)
   ·exact jt f _ _ h⟩
theorem rp{p:Array Nat}(h:Below n p)(m r:Nat):Asks n (λx=>Below n x.2) (kas_tail3 m r p):=Asks.bind (oM hn (Below.rev hn h 0 m) _ _) λ_ _=>Below.rev hn h 0 m
theorem oO{p:Array Nat}(h:Below n p)(m r:Nat):Asks n (λx=>Below n x.2) (kas_descPart m r p):=Asks.bind (jt hn _ _ _ h) λx hx=>by
 split
 ·exact rp hn (Below.rev hn hx _ _) _ _
 ·exact rp hn hx _ _
theorem xB{p:Array Nat}(h:Below n p)(r:Nat):Asks n (λx=>Below n x.2) (kas_count r p):=Asks.bind (oM hn h _ _) λm _=>by
 split
 ·exact h
 ·split
  ·refine⟨Below.at hn h _,Below.at hn h _,λc=>?_⟩;cases c
   ·exact oO hn (Below.rev hn h _ _) _ _
   ·exact h
  ·exact oO hn h _ _
theorem j1{p:Array Nat}(h:Below n p)(k:Nat):∀f l r,Asks n (λ_=>True) (kas_place p k f l r)
 |0,l,r=>trivial
 |f+1,l,r=>by
  unfold kas_place;split
  ·exact trivial
  ·refine⟨Below.at hn h _,Below.at hn h _,λc=>?_⟩;cases c
   ·exact j1 h k f _ _
   ·exact j1 h k f _ _
theorem vg:∀f {p:Array Nat} k,Below n p->Asks n (λ_=>True) (kas_bin f p k)
 |0,p,k,h=>trivial
 |f+1,p,k,h=>Asks.bind (j1 hn h k _ _ _) λl _=>vg f _ (Below.bub hn h _ _)
theorem z9:Asks n (λ_=>True) (kas_sort n):=by
 have h0:Below n (TC (Sn n)):=λx hx=>by simpa using hx
 refine Asks.bind (xB hn h0 n) λx hx=>?_;split
 ·exact vg hn _ _ hx
 ·exact trivial
end
def ez:List Int->List Int->Bool
 |[],[]=>false
 |[],_::_=>true
 |_::_,[]=>false
 |x::xs,y::ys=>if x=y then ez xs ys else decide (x<y)
theorem tU:∀a b c:List Int,ez a b=true->ez b c=true->ez a c=true
 |[],[],_,h,_=>by cases h
 |[],_::_,[],_,h=>by cases h
 |[],_::_,_::_,_,_=>rfl
 |_::_,[],_,h,_=>by cases h
 |_::_,_::_,[],_,h=>by cases h
 |x::a,y::b,z::c,h1,h2=>by
  unfold ez at h1 h2⊢;by_cases e1:x=y
  ·subst e1;rw[Yg rfl] at h1;by_cases e2:x=z
   ·subst e2;rw[Yg rfl] at h2⊢;exact tU a b c h1 h2
   ·rw[Yh e2] at h2⊢;exact h2
  ·rw[Yh e1] at h1;have h1:=Yk h1;by_cases e2:y=z
   ·subst e2;rw[Yh e1];exact Yi h1
   ·rw[Yh e2] at h2;have h2:=Yk h2;rw[Yh (by omega)];exact Yi (by omega)
theorem kK:∀a b:List Int,ez a b=true->ez b a=false
 |[],[],h=>by cases h
 |[],_::_,_=>rfl
 |_::_,[],h=>by cases h
 |x::a,y::b,h=>by
  unfold ez at h⊢;by_cases e:x=y
  ·subst e;rw[Yg rfl] at h⊢;exact kK a b h
  ·rw[Yh e] at h;have h:=Yk h;rw[Yh (λz=>e z.symm)];exact Yl (by omega)
theorem pE:∀a b:List Int,a≠b->ez a b=true\/ez b a=true
 |[],[],h=>Ym rfl h
 |[],_::_,_=> .inl rfl
 |_::_,[],_=> .inr rfl
 |x::a,y::b,h=>by
  unfold ez;by_cases e:x=y
  ·subst e;rw[Yg rfl,Yg rfl];exact pE a b λz=>h (by rw[z])
  ·rw[Yh e,Yh (λz=>e z.symm)];by_cases q:x<y
   ·exact .inl (Yi q)
   ·exact .inr (Yi (by omega))
section
variable{prog:SJ}{w:World}{A:S1}{E:Value->R8->Prop}{s:R8}
theorem vT{Q:Bool->R8->Prop}:∀{us vs:List Value}{xs ys:List Int}(i:Nat) {fin:Bool},U2 us xs->U2 vs ys->fin=decide (xs.length<ys.length)->Q (ez xs ys) s->KatLex prog w A true fin Q (us.zip vs) i s
 |_,_,_,_,i,_, .nil, .nil,e,h=>by subst e;exact kat_nil h
 |_,_,_,_,i,_, .nil, .cons y t r,e,h=>by subst e;exact kat_nil h
 |_,_,_,_,i,_, .cons x t r, .nil,e,h=>by subst e;exact kat_nil h
 |_,_,_,_,i,_, .cons (vs:=us) (ns:=xs) x t r, .cons (vs:=vs) (ns:=ys) y u r',e,h=>by
  refine kat_cons (wpAny_eqBool_int ?_);by_cases q:x=y
  ·subst q;rw[show (x==x)=true by simp];refine kat_yes (vT (i+1) r r' (by rw[e];simp) ?_);unfold ez at h;rw[Yg rfl] at h;exact h
  ·rw[show (x==y)=false by simpa using q];unfold ez at h;rw[Yh q] at h;refine kat_no ?_;by_cases hi:(i==0)=true
   ·rw[hi];exact oneLt_int h
   ·rw[show (i==0)=false by simpa using hi];exact kat_one _ _ (PyProof.Rows.lt_int h)
def TupsAt(h:Heap):List Value->List (List Int)->Prop
 |[],[]=>True
 |v::vs,k::ks=>(∃a o us m,v= .ref a/\h.get? a=some o/\o.cls= .type "tuple"/\o.data= .seq (TC us) m/\U2 us k/\k≠[])/\TupsAt h vs ks
 |_,_=>False
theorem TupsAt.len{h:Heap}:∀{vs:List Value}{ks:List (List Int)},TupsAt h vs ks->vs.length=ks.length
 |[],[],_=>rfl
 |v::vs,k::ks,t=>by rw[Sd,Sd,TupsAt.len t.2]
 |[],_::_,t=>t.elim
 |_::_,[],t=>t.elim
theorem TupsAt.get{h:Heap}:∀{vs:List Value}{ks:List (List Int)}{i:Nat},TupsAt h vs ks->i<vs.length->∃a o us m,vs.getD i Tt= .ref a/\h.get? a=some o/\o.cls= .type "tuple"/\o.data= .seq (TC us) m/\U2 us (ks.getD i [])/\ks.getD i []≠[]
 |v::vs,k::ks,0,t,_=>t.1
 |v::vs,k::ks,i+1,t,hi=>TupsAt.get (i:=i) t.2 (by simpa using hi)
 |[],_,_,_,hi=>by simp at hi
 |_::_,[],_,t,_=>t.elim
theorem TupsAt.keep{h h':Heap}{a:Addr}(k:∀b o,b≠a->h.get? b=some o->h'.get? b=some o)(ha:∀o,h.get? a=some o->o.cls≠ .type "tuple"):∀{vs:List Value}{ks:List (List Int)},TupsAt h vs ks->TupsAt h' vs ks
 |[],[],_=>trivial
 |v::vs,x::ks,⟨⟨b,o,us,m,e1,e2,e3,e4⟩,t⟩=>⟨⟨b,o,us,m,e1,k b o (λz=>ha o (by rw[<-z];exact e2) e3) e2,e3,e4⟩,TupsAt.keep k ha t⟩
 |[],_::_,t=>t.elim
 |_::_,[],t=>t.elim
theorem pj:∀{us:List Value}{xs:List Int},U2 us xs->us.length=xs.length
 |_,_, .nil=>rfl
 |_,_, .cons x t r=>by rw[Sd,Sd,pj r]
theorem TupsAt.firsts{M:Model}{h:Heap}:∀{vs:List Value}{ks:List (List Int)},TupsAt h vs ks->∃fs,KatTups h vs fs/\fs.length=vs.length/\∀v∈fs,Looks M h (typeOf v) (.type "int")
 |[],[],_=>⟨[],KatTups.nil,rfl,λ_ z=>by cases z⟩
 |v::vs,k::ks,⟨⟨a,o,us,m,e1,e2,e3,e4,e5,e6⟩,t⟩=>by
  obtain⟨fs,q1,q2,q3⟩:=TupsAt.firsts (M:=M) t;subst e1;cases e5 with
  |nil=>exact Ym rfl e6
  |cons x t r=>
   refine⟨.int x t::fs,KatTups.cons e2 e3 e4 (by simp) q1,by simp[q2],λv hv=>?_⟩;rcases Sf.mp hv with rfl | hv
   ·exact show Looks M h (pure (XT "int")) (XT "int") from .now
   ·exact q3 v hv
 |[],_::_,t=>t.elim
 |_::_,[],t=>t.elim
theorem asked{vs:List Value}{ks:List (List Int)}(t:TupsAt s.heap vs ks)(i j:Nat)(C:Bool->R8->Prop)(hi:i<vs.length)(hj:j<vs.length)(h:C (ez (ks.getD i []) (ks.getD j [])) s):kas_ask prog w A (tuples' true) vs i j C s:=by
 obtain⟨a,o,us,m,e1,e2,_,e4,e5,_⟩:=t.get hi;obtain⟨a',o',R0,m',Bs,Jx,_,PR,Oo,_⟩:=t.get hj;unfold kas_ask;rw[e1,Bs];refine kat_lt e2 e4 Jx PR (vT 0 e5 Oo ?_ h);rw[Si,Si,pj e5,pj Oo]
theorem CV{α:Type}{l:List α}(h:l.Nodup){i j:Nat}(hi:i<l.length)(hj:j<l.length)(e:l[i]=l[j]):i=j:=by
 rcases Nat.lt_trichotomy i j with q | q | q
 ·exact Ym e (Ur.mp h i j hi hj q)
 ·exact q
 ·exact Ym e.symm (Ur.mp h j i hj hi q)
theorem Be{a:Addr}{c:Nat}{vs:List Value}{ks:List (List Int)}{P:PySem.Fin->R8->Prop}(ho:s.heap.get? a=some (Uo "list" vs.toArray c))(ht:TupsAt s.heap vs ks)(hd:ks.Nodup)(Bu:vs.length<64)
 (h:∀(p:Array Nat) (h':Heap) (c':Nat),PN vs.length p->Ri (λi j=>ez (ks.getD i []) (ks.getD j [])) p vs.length->h'.get? a=some (Uo "list" (TC (p.toList.map λi=>vs.getD i Tt)) c')->
  (∀b o,b≠a->s.heap.get? b=some o->h'.get? b=some o)->P (.done (.ret .none)) {s with heap:=h'}):wpAny (model prog w) A (X3.«list.sort» ⟨[.ref a],[]⟩) P E s:=by
 have Bw:Sv=16777216:=UZ;have s1:=S3 s.heap a (Ua λ_=>(#[]:Array Value));obtain⟨e1,O2⟩:∃e1,(s.heap.update a (Ua λ_=>(#[]:Array Value))).get? a=some (Uo "list" #[] e1):=⟨_,get?_update_seq ho λ_=> #[]⟩
 have k1:∀b o,b≠a->s.heap.get? b=some o->(((s.heap.update a (Ua λ_=>(#[]:Array Value))).push (Uo "tuple" vs.toArray 0)).push (Uo "list" #[] 0)).get? b=some o:=λb o hb e=>
  R7 _ (R7 _ ((s1.2 b hb).trans e))
 have Nf:=R7 (Uo "list" #[] 0) (R7 (Uo "tuple" vs.toArray 0) O2);have t3:=ht.keep k1 (λo e z=>by rw[ho] at e;cases e;exact Ym (Value.type.inj z) (by decide));have fin:∀(st:SortSt) (p:Array Nat),PN vs.length p->Ri (λi j=>ez (ks.getD i []) (ks.getD j [])) p vs.length->(arrOf st).map (·.2)=TC (p.toList.map λi=>vs.getD i Tt)->failedOf st=none->
  wpAny (model prog w) A (do
   let touched:=(<-seqEpoch a) !=e1
   Builtin.List.listUpdate (.ref a) λ_=>(arrOf st).map (·.2)
   if let some e:=failedOf st then rule "list.sort.comparison-raised";throw e
   if touched then rule "list.sort.modified";raiseError "ValueError" "list modified during sort"
   ret .none) P E {s with heap:=((s.heap.update a (Ua λ_=>(#[]:Array Value))).push (Uo "tuple" vs.toArray 0)).push (Uo "list" #[] 0)}:=λst p hp hr he hf=>by
  have hz:(TC (p.toList.map λi=>vs.getD i Tt)).size=vs.length:=by rw[Si,R5,Sr,hp.sz]
  rw[he,hf];refine R3 (seqEpoch_at Nf rfl (R3 (listUpdate_at Nf rfl ?_ (SM _) (by rw[hz,Bw];omega))));simp only[bne_self_eq_false,S8,if_false];have s2:=S3 (((s.heap.update a (Ua λ_=>(#[]:Array Value))).push (Uo "tuple" vs.toArray 0)).push (Uo "list" #[] 0)) a (Ua λ_=>TC (p.toList.map λi=>vs.getD i Tt));exact R9 (h p _ _ hp hr (get?_update_seq Nf λ_=>TC (p.toList.map λi=>vs.getD i Tt)) λb o hb e=>(s2.2 b hb).trans (k1 b o hb e))
 rw[list_sort_plain];refine R3 (listItems_at ho rfl (R3 (listUpdate_at ho rfl (R3 (seqEpoch_at O2 rfl ?_)) (by rw[Si,Bw];omega) (SM _))));refine R3 (wpAny_newTuple (R3 (XO (Ut ?_) (SM _))) (by show vs.length<=_;rw[Bw];omega));show wpAny (model prog w) A _ P E {s with heap:=((s.heap.update a (Ua λ_=>(#[]:Array Value))).push (Uo "tuple" vs.toArray 0)).push (Uo "list" #[] 0)}
 dsimp only
 by_cases hs:vs.toArray.size<2
 ·rw[Yg hs,Yg hs];have HI:vs.length<2:=by simpa using hs
  refine R3 (R9 (R3 (R9 ?_)));refine fin (SortSt.mk' general' (vs.toArray.zip vs.toArray) #[] 7 none) (TC (Sn vs.length)) ⟨by simp,λi hi=>?_,λi j hi hj _=>by omega⟩ (λi j zl hj=>by omega) ?_ rfl
  ·rw[eU];simp[hi]
  ·show (vs.toArray.zip vs.toArray).map (·.2)=_;apply Array.toList_inj.mp;refine Wu (by simp) λi a1 a2=>?_;simp at a1;simp[a1]
 ·rw[Yh hs,Yh hs];have HI:2<=vs.length:=by
   have:¬vs.length<2:=by simpa using hs
   omega
  obtain⟨fs,q1,q2,q3⟩:=t3.firsts (M:=model prog w);refine R3 (kat_kind q1 (by omega) q3 rfl ?_);have hb:Lt vs.length (λi j=>ez (ks.getD i []) (ks.getD j [])):=⟨λi j k=>tU _ _ _,λi j=>kK _ _,λi j hi hj zl=>pE _ _ λz=>zl (by
   rw[ht.len] at hi hj;rw[Ss,Ss,R6 hi,R6 hj] at z;exact CV hd hi hj (by simpa using z))⟩
  obtain⟨r1,r2⟩:=D1 hb HI;have run:=kat_run (prog:=prog) (w:=w) (A:=A) (E:=E) (ks:=vs) (vs:=vs) (κ:=tuples' true) (Q:=λst s'=>s'={s with heap:=((s.heap.update a (Ua λ_=>(#[]:Array Value))).push (Uo "tuple" vs.toArray 0)).push (Uo "list" #[] 0)}/\∃p,PN vs.length p/\Ri (λi j=>ez (ks.getD i []) (ks.getD j [])) p vs.length/\(arrOf st).map (·.2)=TC (p.toList.map λi=>vs.getD i Tt)/\failedOf st=none)
   (G:=λp s'=>s'={s with heap:=((s.heap.update a (Ua λ_=>(#[]:Array Value))).push (Uo "tuple" vs.toArray 0)).push (Uo "list" #[] 0)}/\PN vs.length p/\Ri (λi j=>ez (ks.getD i []) (ks.getD j [])) p vs.length) rfl HI Bu
   (λp qx s' a1 a2 a3 a4=>⟨a4.1,p,a4.2.1,a4.2.2,kat_snds rfl a2,a3⟩)
   (wp_run (s:={s with heap:=((s.heap.update a (Ua λ_=>(#[]:Array Value))).push (Uo "tuple" vs.toArray 0)).push (Uo "list" #[] 0)}) (λi j C hi hj hC=>asked t3 i j C hi hj hC) (z9 (by omega)) ⟨rfl,r1,r2⟩)
  refine R3 (Ti run ?_ λ_ _ e=>e);rintro⟨⟨⟩,qx⟩ s' ⟨rfl,p,a1,a2,a3,a4⟩;exact fin qx p a1 a2 a3 a4
end
section
variable{prog:SJ}{w:World}{A:S1}{E:Value->R8->Prop}{s:R8}
theorem rS{d:Addr}{od:Obj}{es:Array T7}{ep:Nat}{Q:Value->R8->Prop}(lo:(d==Tx)=false)(ho:s.heap.get? d=some od)(hx:od.ExactDict)(hd:od.data= .dict es ep)
 (hQ:Q (.ref s.heap.objs.size) {s with heap:=s.heap.push {cls:= .type "dict_keyiterator",data:= .fields #[.ref d, .int 0 0, .int es.size 0, .int ep 0]} }):wpAny (model prog w) A (pyIter (.ref d)) Q E s:=by
 have hT:s.TypeIs (.ref d) "dict":=⟨od,ho,hx.1⟩
 refine wpAny_pyIter_slot hT F.slot_dict_iter (TX F.slot_dict_iter hT F.entry_dict_iter ?_ (F.args_dict_iter_1 _));unfold X3.«dict.__iter__» Builtin.Dict.dictSlotNone;refine R3 (R3 (wpAny_notOrdered_dict hT ?_));show wpAny _ _ (pure (SY d)) _ _ s;refine R9 ?_;show wpAny _ _ (Ve d>>=_) _ _ s;unfold Ve;rw[Yh (by rw[lo];exact SI)];refine R3 (R9 (R3 (TL ho hd (R3 (Vf ho hd ?_)))));refine R3 (To (R9 ⟨_,rfl,"dict_keyiterator",_,⟨_,Sx _ rfl,rfl⟩,F.slot_dict_keyiterator_next.lookup,?_⟩));simpa[rawInt] using hQ
theorem v3{it d:Addr}{od:Obj}{es:Array T7}{i ep:Nat}{e:T7}{Q:Option Value->R8->Prop}(Yr:s.heap.IsKeyIter it d i es.size ep)(Aw:s.heap.get? d=some od)(nQ:od.data= .dict es ep)(hx:es[i]? =some e)
 (hQ:∀h',h'.IsKeyIter it d (i+1) es.size ep->UD it s.heap h'->Q (some e.key) {s with heap:=h'}):wpAny (model prog w) A (XE (.ref it)) Q E s:=by
 obtain⟨o,ho,hc,hd⟩:=id Yr;have gk:i<es.size:=(Array.getElem?_eq_some_iff.mp hx).1;have HU:Vw "dict_keyiterator"=false:=by decide
 unfold XE;refine R3 (wpAny_attempt (UO (name:=TF "__next__") Yr.typeIs Ul
  (TX Ul Yr.typeIs WU ?_ (WJ _))))
 refine R3 (R9 (R3 (R3 ?_)))
 first | refine R3 (Uh Yr.typeIs (R9 ?_)) | refine R3 (UI Yr.typeIs (R9 ?_))
 refine R3 (wpAny_fieldsOf ho hd ?_);simp only[HU,S8,if_false];show wpAny _ _ (if (SY d==Tt)=true then _ else _) _ _ s;rw[Yh (show¬((SY d==Tt)=true) from SI)];refine R3 (R9 (R3 (TL Aw nQ ?_)));rw[Yh (by simp)];refine R3 (R9 (R3 (Vf Aw nQ ?_)));rw[Yh (by simp)];refine R9 ?_;simp only[show¬((i:Int)<0) from by omega,if_false,Vp,hx];refine R3 ?_
 first | refine R3 (Uh Yr.typeIs (R9 ?_)) | refine R3 (UI Yr.typeIs (R9 ?_))
 refine R3 (wpAny_isOneOf_keyiter Yr.typeIs ?_);show wpAny _ _ (setField (.ref it) 1 (rawInt ((i:Int)+1))>>=_) _ _ s;refine R3 (wpAny_setField ho hd (by simp) ?_);have EZ:(s.heap.update it (Obj.mapFields (·.setIfInBounds 1 (rawInt ((i:Int)+1))))).IsKeyIter it d (i+1) es.size ep:=
  ⟨_,UU _ ho (Obj.isFreed_of_fields (X8 hd _)),(Obj.cls_mapFields ..).trans hc,by rw[X8 hd];simp[rawInt]⟩
 refine R3 (Ut (R3 (wpAny_isOneOf_keyiter (s:={s with heap:=s.heap.update it (Obj.mapFields (·.setIfInBounds 1 (rawInt ((i:Int)+1))))}) EZ.typeIs ?_)));show wpAny _ _ (pure e.key) _ _ _;exact R9 (R9 ⟨_,rfl,R9 (hQ _ EZ (S3 ..))⟩)
theorem rH{it d:Addr}{od:Obj}{es:Array T7}{ep i:Nat}{Q:Option Value->R8->Prop}(hh:A.handled=none)(Yr:s.heap.IsKeyIter it d i es.size ep)(hi:es.size<=i)(Aw:s.heap.get? d=some od)(nQ:od.data= .dict es ep)
 (hQ:∀h',Heap.ExtBut it s.heap h'->Q none {s with heap:=h'}):wpAny (model prog w) A (XE (.ref it)) Q E s:=by
 obtain⟨o,ho,hc,hd⟩:=id Yr;have HU:Vw "dict_keyiterator"=false:=by decide
 unfold XE;refine R3 (wpAny_attempt (UO (name:=TF "__next__") Yr.typeIs Ul
  (TX Ul Yr.typeIs WU ?_ (WJ _))))
 refine R3 (R9 (R3 (R3 ?_)))
 first | refine R3 (Uh Yr.typeIs (R9 ?_)) | refine R3 (UI Yr.typeIs (R9 ?_))
 refine R3 (wpAny_fieldsOf ho hd ?_);simp only[HU,S8,if_false];show wpAny _ _ (if (SY d==Tt)=true then _ else _) _ _ s;rw[Yh (show¬((SY d==Tt)=true) from SI)];refine R3 (R9 (R3 (TL Aw nQ ?_)));rw[Yh (by simp)];refine R3 (R9 (R3 (Vf Aw nQ ?_)));rw[Yh (by simp)];refine R9 ?_;simp only[show¬((i:Int)<0) from by omega,if_false,Vp,Array.getElem?_eq_none hi];refine R3 ?_
 first | refine R3 (Uh Yr.typeIs (R9 ?_)) | refine R3 (UI Yr.typeIs (R9 ?_))
 show wpAny _ _ (setField (.ref it) 0 .none>>=_) _ _ s;refine R3 (wpAny_setField ho hd (by simp) ?_);show wpAny _ _ (newExc (.type "StopIteration") []>>=_) _ _ _;refine R3 ?_;simp only[newExc,newTuple];refine R3 (To ?_ (by size_fits));refine R3 (m:=firstArgMember _ _) (wpAny_of_eq (a:=Tt) (by first | rfl | (simp only[firstArgMember];rfl)) ?_);refine To ?_ (by size_fits);simp only[raiseNew];refine R3 (wpAny_handled ?_);rw[show A.in1.handled=none from hh];refine R3 (R9 (wpAny_throw ?_));refine R3 (wpAny_isInstance (T:="StopIteration") (b:=true) ⟨_,Sx _ rfl,rfl⟩ isSubtype_stop ?_);exact R9 (hQ _ (((S3 ..).extBut.push _).push _))
theorem B4{it d:Addr}{od:Obj}{es:Array T7}{ep:Nat}{Q:Option Value->R8->Prop}(hh:A.handled=none)(Yr:s.heap.IsKeyIter it d es.size es.size ep)(Aw:s.heap.get? d=some od)(nQ:od.data= .dict es ep)
 (hQ:∀h',Heap.ExtBut it s.heap h'->Q none {s with heap:=h'}):wpAny (model prog w) A (XE (.ref it)) Q E s:=rH hh Yr (R_ _) Aw nQ hQ
def Gy(es:Array T7):Nat->Value->Prop:=λi v=>∃e,es[i]? =some e/\v=e.key
theorem yQ(hh:A.handled=none)(I d:Addr)(eK:d≠I){od:Obj}{es:Array T7}{ep:Nat}(nQ:od.data= .dict es ep):
 Walks prog w A I [I,d] [I] es.size (Gy es) (λi h=>h.IsKeyIter I d i es.size ep/\h.get? d=some od) where
 sub:=λb hb=>by simp at hb;simp[hb]
 frame:=λ_ _ _ st hk=>⟨st.1.at λo e=>hk I (by simp) o e,hk d (by simp) _ st.2⟩
 item:=λi s Q E hi st hQ=>by
  have hx:es[i]? =some es[i]:=Vb hi;exact v3 st.1 st.2 nQ hx λh' EZ E4=>hQ _ h' s.toks ⟨_,hx,rfl⟩ ⟨EZ,(E4.2 d eK).trans st.2⟩ λb o hb e=>E4.extBut b o (λh=>hb (by simp[h])) e
 done:=λs Q E st hQ=>B4 hh st.1 st.2 nQ λh' Qn=>hQ h' s.toks λb o hb e=>Qn b o (λh=>hb (by simp[h])) e
 self:=λ_ _ _ _ st hQ=>wpAny_pyIter_keyiter st.1 hQ
theorem D2{d:Addr}{od:Obj}{es:Array T7}{ep:Nat}(lo:(d==Tx)=false)(hx:od.ExactDict)(nQ:od.data= .dict es ep):KdlSrc prog w "dict" d d es.size (Gy es) (λh=>h.get? d=some od) where
 type:=λ_ hm=>⟨od,hm,hx.1⟩
 there:=λ_ hm=>⟨Sq hm,Sq hm⟩
 keep:=λ_ _ hm hk=>hk d (.inl rfl) od hm
 notList:=by decide
 notTuple:=by decide
 hint:=λ_ _ s _ hm hq=>kdl_hint_dict ⟨od,hm,hx.1⟩ hq
 iter:=λ_ _ hh hm=>⟨_,_,(λ_ _ hq=>rS lo hm hx nQ hq),yQ hh _ d (SH (Sq hm)) nQ,⟨⟨_,Sx _ rfl,rfl,rfl⟩,R7 _ hm⟩⟩
end
end L3
namespace L3
open PySem
def insI(k:List Int):List (List Int)->List (List Int)
 |[]=>[k]
 |x::r=>if ez k x then k::x::r else x::insI k r
def sortI:List (List Int)->List (List Int)
 |[]=>[]
 |k::r=>insI k (sortI r)
def xA(l:List (List Int)):Prop:=l.Pairwise λa b=>ez a b=true
theorem pf{k x:List Int}:∀{l:List (List Int)},x∈insI k l↔x=k\/x∈l
 |[]=>by simp[insI]
 |y::r=>by
  unfold insI;split
  ·simp
  ·rw[Sf,pf,Sf];constructor
   ·rintro(h | h | h)<;>simp[h]
   ·rintro(h | h | h)<;>simp[h]
theorem rP{k:List Int}:∀{l:List (List Int)},xA l->k∉l->xA (insI k l)
 |[],_,_=>Xb _ _
 |x::r,h,hk=>by
  have h:=SO.mp h;unfold insI;split
  ·rename_i q;refine SO.mpr ⟨λy hy=>?_,SO.mpr h⟩;rcases Sf.mp hy with rfl | hy
   ·exact q
   ·exact tU _ _ _ q (h.1 y hy)
  ·rename_i q;have hx:ez x k=true:=by
    rcases pE k x (λz=>hk (by rw[z];exact R1 ..)) with z | z
    ·exact Ym z q
    ·exact z
   refine SO.mpr ⟨λy hy=>?_,rP h.2 λz=>hk (R4 _ z)⟩;rcases pf.mp hy with rfl | hy
   ·exact hx
   ·exact h.1 y hy
theorem gP{x:List Int}:∀{l:List (List Int)},x∈sortI l↔x∈l
 |[]=>VO
 |k::r=>by unfold sortI;rw[pf,gP,Sf]
theorem kq:∀{l:List (List Int)},l.Nodup->xA (sortI l)
 |[],_=>VB
 |k::r,h=>by
  have h:=S2.mp h;exact rP (kq h.2) λz=>h.1 (gP.mp z)
theorem gN:∀{a b:List (List Int)},xA a->xA b->(∀x,x∈a↔x∈b)->a=b
 |[],[],_,_,_=>rfl
 |[],y::b,_,_,h=>by have:=(h y).mpr (R1 ..);cases this
 |x::a,[],_,_,h=>by have:=(h x).mp (R1 ..);cases this
 |x::a,y::b,ha,hb,h=>by
  have ha:=SO.mp ha;have hb:=SO.mp hb;have e:x=y:=by
   rcases Sf.mp ((h x).mp (R1 ..)) with q | q
   ·exact q
   ·rcases Sf.mp ((h y).mpr (R1 ..)) with p | p
    ·exact p.symm
    ·have z1:=hb.1 x q;have z2:=ha.1 y p;rw[kK _ _ z1] at z2;cases z2
  subst e;have Pb:∀k,ez k k≠true:=λk z=>by have:=kK _ _ z;rw[z] at this;cases this
  rw[gN ha.2 hb.2 λz=>?_];constructor
  ·intro hz;rcases Sf.mp ((h z).mp (R4 _ hz)) with q | q
   ·subst q;exact Ym (ha.1 z hz) (Pb z)
   ·exact q
  ·intro hz;rcases Sf.mp ((h z).mpr (R4 _ hz)) with q | q
   ·subst q;exact Ym (hb.1 z hz) (Pb z)
   ·exact q
theorem yz:∀(n:Nat) (l:List Nat),l.Nodup->(∀x∈l,x<n)->l.length=n->∀k,k<n->k∈l
 |0,_,_,_,_,k,hk=>by omega
 |n+1,l,hd,hl,hn,k,hk=>by
  by_cases h:n∈l
  ·by_cases e:k=n
   ·subst e;exact h
   ·refine List.mem_of_mem_erase (yz n (l.erase n) (hd.erase n) (λx hx=>?_) (by rw[W8 h,hn];rfl) k (by omega));have hx:=hd.mem_erase_iff.mp hx;have:=hl x hx.2;have:=hx.1;omega
  ·cases l with
   |nil=>simp at hn
   |cons x r=>
    have hd:=S2.mp hd;have lt:∀y∈x::r,y<n:=λy hy=>by
     have:=hl y hy;have:y≠n:=λz=>h (by rw[<-z];exact hy);omega
    exact Ym (yz n r hd.2 (λy hy=>lt y (R4 _ hy)) (by simpa using hn) x (lt x (R1 ..))) hd.1
theorem Bf{ks:List (List Int)}{p:Array Nat}(hd:ks.Nodup)(P:PN ks.length p)(R:Ri (λi j=>ez (ks.getD i []) (ks.getD j [])) p ks.length):(p.toList.map λi=>ks.getD i [])=sortI ks:=by
 have hsz:p.toList.length=ks.length:=by rw[Sr];exact P.sz
 have GR:∀i (h:i<p.toList.length),p.toList[i]=at' p i:=λi h=>by
  have h':i<p.size:=by rw[Sr] at h;exact h
  rw[eU,Vb h'];simp
 refine gN ?_ (kq hd) λx=>?_
 ·refine Ur.mpr λi j hi hj zl=>?_;rw[R5] at hi hj;rw[List.getElem_map,List.getElem_map,GR i hi,GR j hj];exact R i j zl (by omega)
 ·rw[gP];constructor
  ·intro hx;obtain⟨i,hi,rfl⟩:=Sm.mp hx;obtain⟨j,hj,rfl⟩:=U1.mp hi;have:=P.lt j (by omega);rw[GR j hj,Ss,R6 this];exact T8 this
  ·intro hx;obtain⟨k,hk,rfl⟩:=U1.mp hx;have Kv:k∈p.toList:=by
    have hn:p.toList.Nodup:=Ur.mpr λi j hi hj zl z=>by
     rw[GR i hi,GR j hj] at z;have:=P.inj i j (by omega) (by omega) z;omega
    exact yz ks.length p.toList hn (λx hx=>by
     obtain⟨j,hj,rfl⟩:=U1.mp hx;rw[GR j hj];exact P.lt j (by omega)) hsz k hk
   refine Sm.mpr ⟨k,Kv,?_⟩;rw[Ss,R6 hk];rfl
end L3
namespace L3
open PySem PySem.Spec L2 SeqAt HT
open PyProof.Rows hiding St
def tupI(k:List Int):D:= .tup (k.map D.int)
def iY(ks:List (List Int)):Bool:=decide ks.Nodup&&decide (ks.length<64)&&ks.all λk=>!k.isEmpty
def eT(H:Hp):List V->List (List Int)->Prop:=Wz λv k=>∃a,v= .ref a/\H a=some (.tup (k.map V.int))
theorem wI{K:Se}{F:Hp}:∀{ws:List V}{ks:List (List Int)},eT F ws ks->(∀k∈ks,k.length<=lim)->DenL K F (ks.map tupI) ws
 |_,_, .nil,_=>rfl
 |_,_, .cons (b:=k) h t,hl=>by
  obtain⟨a,rfl,h⟩:=h;exact .cons ⟨a,_,rfl,h,DenL.ints k,by rw[R5];exact hl k (R1 ..)⟩ (wI t λk hk=>hl k (R4 _ hk))
theorem sF{X:Cx}{f8:List (Addr×Obj)}{σ:St}{H:Hp}{s:R8}(I:Inv X f8 σ H s):∀{vs:List V}{aS:List Value}{ks:List (List Int)},eT H vs ks->Vals vs aS->(∀k∈ks,k≠[])->TupsAt s.heap aS ks
 |_,_,_, .nil,r,_=>by cases r;exact trivial
 |_,_,_, .cons (b:=k) h t,r,hn=>by
  obtain⟨a,rfl,h⟩:=h;cases r with
  |cons r1 r2=>
   cases (show _=_ from r1);obtain⟨us,ru,pt,_⟩:=I.tuple (SqT.of (K:=X.K) h);obtain⟨o,q1,q2,m,q3⟩:=pt;exact⟨⟨a,o,us,m,rfl,q1,q2,q3,intsAre_of ru,hn k (R1 ..)⟩,sF I t r2 λk hk=>hn k (R4 _ hk)⟩
theorem wK{H:Hp}:∀{vs:List V}{ks:List (List Int)}{i:Nat},eT H vs ks->i<vs.length->∃a,vs.getD i .non= .ref a/\H a=some (.tup ((ks.getD i []).map V.int))
 |_,_,i, .nil,hi=>by simp at hi
 |_,_,0, .cons h t,_=>h
 |_,_,i+1, .cons h t,hi=>wK (i:=i) t (by simpa using hi)
theorem wL{H:Hp}:∀{vs:List V}{ks:List (List Int)},eT H vs ks->vs.length=ks.length
 |_,_, .nil=>rfl
 |_,_, .cons h t=>by rw[Sd,Sd,wL t]
theorem sE{H:Hp}{vs:List V}{ks:List (List Int)}(h:eT H vs ks):∀{is:List Nat},(∀i∈is,i<vs.length)->eT H (is.map λi=>vs.getD i .non) (is.map λi=>ks.getD i [])
 |[],_=> .nil
 |i::is,hi=> .cons (wK h (hi i (R1 ..))) (sE h λj hj=>hi j (R4 _ hj))
theorem sQ:∀{vs:List V}{us:List Value}(i:Nat),Vals vs us->i<vs.length->RelV (vs.getD i .non) (us.getD i Tt)
 |_,_,i, .nil,hi=>by simp at hi
 |_,_,0, .cons h t,_=>h
 |_,_,i+1, .cons h t,hi=>sQ i t (by simpa using hi)
theorem sS{vs:List V}{us:List Value}(h:Vals vs us):∀{is:List Nat},(∀i∈is,i<vs.length)->Vals (is.map λi=>vs.getD i .non) (is.map λi=>us.getD i Tt)
 |[],_=> .nil
 |i::is,hi=> .cons (sQ i h (hi i (R1 ..))) (sS h λj hj=>hi j (R4 _ hj))
section
theorem sJ:∀l:List (List Int),(sortI l).length=l.length
 |[]=>rfl
 |k::r=>by
  have ins:∀(k:List Int) (l:List (List Int)),(insI k l).length=l.length+1:=by
   intro k l;induction l with
   |nil=>rfl
   |cons x l ih=>
    unfold insI;split
    ·rfl
    ·rw[Sd,ih,Sd]
  unfold sortI;rw[ins,sJ r,Sd]
end
def jK(k:List Int):List Key:=k.map Wn
def Ls:List V->Hp->VK->Prop:=λxs H Q=>∃p kvs ks,xs=[.ref p]/\Rd H p (.dT kvs)/\kvs.map (·.1)=ks.map jK/\iY ks=true/\∀(q:Addr) (ws:List V),H q=none->eT H ws (sortI ks)->Q (.ref q) (upd H q (.lst ws))
theorem rV{H:Hp}:∀{kvs:List (List Key×V)}{xs:List (List Key×Addr×Value)}{ks:List (List Int)},Wz (λ(p:List Key×V) (q:List Key×Addr×Value)=>p.1=q.1/\H q.2.1=some (.tup (p.1.map kV))/\RelV p.2 q.2.2) kvs xs->
 kvs.map (·.1)=ks.map jK->eT H (xs.map λx=>V.ref x.2.1) ks
 |_,_,[], .nil,_=> .nil
 |_,_,_::_, .nil,e=>by simp at e
 |_,_,[], .cons h t,e=>by simp at e
 |_,_,k::ks, .cons h t,e=>by
  rw[Sa,Sa] at e;injection e with e1 e2
  refine .cons ⟨_,rfl,?_⟩ (rV t e2);have hk:(jK k).map kV=k.map V.int:=by unfold jK;rw[SF];rfl
  rw[h.2.1,e1,hk]
section
variable{X:Cx}{Xw:Nat->Hp->Prop}{e:Expr}{δs:DA}{pos p:Pos}
theorem Ah(hc:X.calm=true):CallR X (.builtin "sorted") Ls:=by
 intro f8 s σ H xs us Q I r h;obtain⟨a,kvs,ks,rfl,hH,En,hk,q⟩:=h;obtain⟨u,rfl,r1⟩:=r.one;cases (show u=_ from r1);obtain⟨z,lo,xs,rel,o,es,ep,g1,g2,g3,g4,g5⟩:=(show ObjOk X.prog X.w H s.heap a (.dT kvs) from hH.ok I.hok)
 unfold iY at hk;rw[SX,SX] at hk;have hd:ks.Nodup:=Yk hk.1.1;have Bu:ks.length<64:=Yk hk.1.2;have eK:∀k∈ks,k≠[]:=λk L_ z=>by have:=SA.mp hk.2 k L_;rw[z] at this;cases this
 have hr:=rV rel En;have Km:=wL hr;rw[R5] at Km;have HG:es.size=xs.length:=by rw[<-Sr,g4,R5]
 have Bw:Sv=16777216:=UZ;refine WV kind_sorted plain_sorted entry_sorted (args_sorted1 _) ?_;unfold X3.«sorted»;refine R3 (m:=checkCount "sorted" 1 1 _) (R9 (R3 (Xl (A:=X.A.in1) (D2 lo g2 g3) (I.ok.hd hc) g1 (by rw[HG,Bw];omega) λh1 tk P3 CF iL=>?_)));have GQ:P3.toList.length=xs.length:=by rw[Sr,<-HG];exact iL.1
 have I1:Inv X f8 σ H {s with heap:=h1,toks:=tk}:=I.kept (t':=tk) λb ob e=>CF b ob e;have rv:Vals (xs.map λx=>V.ref x.2.1) P3.toList:=by
  have ext:∀{vs:List V}{us:List Value},vs.length=us.length->(∀(i:Nat) (v:V) (u:Value),vs[i]? =some v->us[i]? =some u->RelV v u)->Vals vs us:=by
   intro vs;induction vs with
   |nil=>intro us h _;cases us with | nil=>exact .nil | cons _ _=>simp at h
   |cons v vs ih=>
    intro us h hh;cases us with
    |nil=>simp at h
    |cons u us=>exact .cons (hh 0 v u rfl rfl) (ih (by simpa using h) λi v u h1 h2=>hh (i+1) v u h1 h2)
  refine ext (by rw[R5,GQ]) λi v u e1 e2=>?_;rw[TU] at e2;obtain⟨en,q1,q2⟩:=iL.2 i u e2;rw[<-TU,g4,Sj] at q1;rw[Sj] at e1;cases w:xs[i]? with
  |none=>rw[w] at e1;cases e1
  |some x=>
   rw[w] at e1 q1;cases e1;cases q1;exact q2
 have ht:=sF I1 hr rv eK;refine R3 (XO ?_ (by rw[Bw];omega));have GZ:(h1.push (Uo "list" P3.toList.toArray 0)).get? h1.objs.size=some (Uo "list" P3.toList.toArray 0):=Sx _ rfl;refine R3 (Ut (TX slot_list_sort ⟨_,GZ,rfl⟩ entry_list_sort (Be (s:={s with heap:=h1.push (Uo "list" P3.toList.toArray 0),toks:=tk}) GZ
  (ht.keep (a:=h1.objs.size) (λb o _ e=>R7 _ e) (λo e=>Ym (Sq e) (Tf _))) hd (by omega) λP h' c' hP hR M0 Kk=>?_) (args_list_sort _)))
 have MQ:∀i∈P.toList,i<(xs.map λx=>V.ref x.2.1).length:=λi hi=>by
  obtain⟨j,hj,rfl⟩:=U1.mp hi;have h':j<P.size:=by rw[Sr] at hj;exact hj
  have:=hP.lt j (by rw[hP.sz] at h';exact h');rw[eU,Vb h'] at this;have e:P.toList[j]=P[j]:=by simp
  rw[e,R5];have:P[j]<P3.toList.length:=this;omega
 have Qa:PN ks.length P:=by rw[<-Km,<-GQ];exact hP
 have Qb:Ri (λi j=>ez (ks.getD i []) (ks.getD j [])) P ks.length:=by rw[<-Km,<-GQ];exact hR
 have Mg:=Bf hd Qa Qb;have O9:=sE hr MQ;rw[Mg] at O9;refine⟨_,rfl,R9 ⟨_,rfl,⟨.ref h1.objs.size,_,I1.laid (a:=h1.objs.size) (t':=tk) (o:= .lst (P.toList.map λi=>(xs.map λx=>V.ref x.2.1).getD i .non)) (λb ob e=>Kk b ob (SH (Sq e)) (R7 _ e)) (R_ _) ?_,rfl,q _ _ (I1.hok.fresh (R_ _)) O9⟩⟩⟩;exact⟨by rw[R5,Sr,hP.sz,Bw];omega,_,c',sS rv MQ,M0⟩
theorem sD{F F':Hp}(e:Same F F'):∀{ws:List V}{ks:List (List Int)},eT F ws ks->eT F' ws ks
 |_,_, .nil=> .nil
 |_,_, .cons ⟨b,q1,q2⟩ t=> .cons ⟨b,q1,e _ _ q2⟩ (sD e t)
theorem wJ{F H:Hp}(hs:Same F H):∀{ws:List V}{ks:List (List Int)},eT H ws ks->∃F',Ext F H F' H/\eT F' ws ks
 |_,_, .nil=>⟨F,Ext.refl hs, .nil⟩
 |_,_, .cons h t=>by
  obtain⟨a,rfl,h⟩:=h;obtain⟨F1,e1,r1⟩:=wJ hs t;have e2:=Ext.tup (F:=F1) e1.fh h;refine⟨_,e1.trans e2, .cons ⟨a,rfl,aH⟩ ?_⟩;exact sD e2.ff r1
def jR:List Key->Option (List Int)
 |[]=>some []
 | .inl i::r=>(jR r).map (i:: ·)
 |_=>none
def fK:List (List Key)->Option (List (List Int))
 |[]=>some []
 |k::r=>match jR k,fK r with
  |some x,some xs=>some (x::xs)
  |_,_=>none
theorem ph:∀{k:List Key}{x:List Int},jR k=some x->k=jK x
 |[],_,e=>by cases e;rfl
 | .inl i::r,_,e=>by
   unfold jR at e;cases q:jR r with
   |none=>rw[q] at e;cases e
   |some y=>rw[q] at e;cases e;rw[ph q];rfl
 | .inr _::r,_,e=>by cases e
theorem lV:∀{kk:List (List Key)}{ks:List (List Int)},fK kk=some ks->kk=ks.map jK
 |[],_,e=>by cases e;rfl
 |k::r,_,e=>by
  unfold fK at e;split at e
  ·rename_i x xs e1 e2;cases e;rw[Sa,<-ph e1,<-lV e2]
  ·cases e
def sL:List D->M D
 |[.dct kk ds]=>match fK kk with
  |some ks=>if iY ks&&ks.all (λk=>decide (k.length<=lim)) then aa (.lst ((sortI ks).map tupI)) else af
  |none=>af
 |_=>af
theorem ir{α β:Type}:∀{a:List α}{b:List β},a.length=b.length->(a.zip b).map (·.1)=a
 |[],[],_=>rfl
 |x::a,y::b,h=>by rw[TV,Sa,ir (by simpa using h)]
 |[],_::_,h=>by simp at h
 |_::_,[],h=>by simp at h
theorem FG(hc:X.calm=true)(hg:Gl X "sorted")(hm:X.mg "sorted"=none)(hb:S5 "sorted"=some (.builtin "sorted"))(ha:oe X Xw [e] δs)(he:Su [e] X.env=[(false,eval e X.env)]:=by rfl):PD X Xw (.Call (.Name "sorted" p) [e] [] pos) (dA sL δs):=
 eP (Ah hc) (λXw F H vs ds Q s h w=>by
  unfold sL at w;split at w
  ·rename_i kk ds;obtain⟨v,rfl,h1⟩:=h.one;obtain⟨a,ob,ws,rfl,h2,h3,h4,h5⟩:=h1;split at w
   ·rename_i ks GY;split at w
    ·rename_i hok;rw[SX] at hok;have hl:∀k∈ks,k.length<=lim:=λk hk=>Yk (SA.mp hok.2 k hk);have Bu:ks.length<64:=by
      have:=hok.1;unfold iY at this;rw[SX,SX] at this;exact Yk this.1.2
     refine⟨a,_,ks,rfl, .inr ⟨ob,s _ _ h2⟩,by rw[ir (by rw[h4];exact h3.len),lV GY],hok.1,λq us hq hr=>?_⟩;obtain⟨F1,e1,r1⟩:=wJ s hr;have e2:=Ext.lay (o:= .lst us) e1.fh hq;exact WP.fin w (e1.trans e2) ⟨q,_,rfl,aH,DenL.mono e2.ff (wI r1 λk hk=>hl k (gP.mp hk)),by rw[R5,sJ];unfold lim;omega⟩
    ·exact w.elim
   ·exact w.elim
  ·exact w.elim) hg hm hb ha (by decide) (by decide) he rfl
end
end L3
namespace L3
open PySem PySem.Spec L2
open PyProof.Rows hiding St
def orM{α:Type}(a b:M α):M α:=match a with
 |none=>b
 |some r=>some r
def HW(a b:DA):DA:=λZ=>orM (a Z) (b Z)
section
variable{X:Cx}{Xw:Nat->Hp->Prop}{e tg:Expr}{δi δi':DA}
theorem FI(h:xq X Xw tg e δi)(h':xq X Xw tg e δi'):xq X Xw tg e (HW δi δi'):=λf8 s σ H Q I ⟨F,Z,S,w⟩=>by
 unfold HW orM at w;cases q:δi Z with
 |none=>rw[q] at w;exact h' f8 s σ H Q I ⟨F,Z,S,w⟩
 |some r=>rw[q] at w;exact h f8 s σ H Q I ⟨F,Z,S,by rw[q];exact w⟩
theorem gJ{st:Stmt}:gT X Xw st (λ_=>af):=λu8 YC f8 s σ H D I ⟨F,Z,S,w⟩=>w.elim
end
def fgt:List Nat->aU->aU
 |[],Z=>Z
 |i::is,Z=>fgt is (Z.set i none)
def K7(f:aU->aU):Out->M Out
 | .nx Z=>aa (.nx (f Z))
 | .rt d=>aa (.rt d)
def b_(is:List Nat)(τ:DS):DS:=λZ=>τ Z>>=K7 (fgt is)
theorem StOk.fgt1{K:Se}{u8 YC F H:Hp}{σ:St}{Z:aU}(s:StOk K u8 YC F H σ Z)(i:Nat):StOk K u8 YC F H σ (Z.set i none):=by
 have get:∀(j:Nat) (sl:Sl),(Z.set i none)[j]? =some (some sl)->Z[j]? =some (some sl):=λj sl e=>by
  by_cases hj:j=i
  ·subst hj;by_cases hl:j<Z.length
   ·rw[So hl] at e;cases e
   ·rw[UR (by simpa using hl)] at e;cases e
  ·rw[Sh (S9 hj)] at e;exact e
 exact⟨s.ext,⟨s.st.fh,λj sl e=>s.st.den j sl (get j sl e)⟩,by simp[s.len],λj c a e e'=>s.own j c a (get j _ e) e',λj k c c' a e1 e2 e3 e4=>s.sep j k c c' a (get j _ e1) (get k _ e2) e3 e4⟩
theorem StOk.fgt{K:Se}{u8 YC F H:Hp}{σ:St}:∀(is:List Nat) {Z:aU},StOk K u8 YC F H σ Z->StOk K u8 YC F H σ (L3.fgt is Z)
 |[],_,s=>s
 |i::is,_,s=>StOk.fgt is (s.fgt1 i)
theorem WPS.fgt{K:Se}{Xw:Nat->Hp->Prop}{u8 YC:Hp}{is:List Nat}{m:M Out}{Dn:Ends}(w:WPS K Xw u8 YC (m>>=K7 (L3.fgt is)) Dn):WPS K Xw u8 YC m Dn:=by
 match m,w with
 |none,w=>exact w
 |some (.ok (.nx Z)),w=>exact λσ F H s=>w σ F H (s.fgt is)
 |some (.ok (.rt d)),w=>exact w
 |some (.ex n),w=>exact w
section
variable{X:Cx}{Xw:Nat->Hp->Prop}{Pt:List Stmt}{τ:DS}{is:List Nat}
theorem br(h:PSDs X Xw Pt τ):PSDs X Xw Pt (b_ is τ):=λu8 YC=>PSs.weak (h u8 YC) λD σ H ⟨F,Z,s,w⟩=>⟨F,Z,s,WPS.fgt w⟩
end
def P5:Option Sl->Option Sl
 |some (.ow c)=>some (.fz c.d)
 |x=>x
def Bt(Z:aU):aU:=Z.map P5
def refA(h:Heap)(P:Addr->Prop)[DecidablePred P](H:Hp):Hp:=λb=>if P b then(H b).map (nP ((h.get? b).getD {cls:= .none,data:= .fields #[]})) else H b
theorem xR(ob:Obj)(o:HO):nP ob o=o\/((∃k,o= .dT k)\/∃k,o= .dK k)/\nP ob o= .frz ob o:=by
 cases o<;>first | exact .inl rfl | exact .inr ⟨.inl ⟨_,rfl⟩,rfl⟩ | exact .inr ⟨.inr ⟨_,rfl⟩,rfl⟩
section
variable{X:Cx}{f8:List (Addr×Obj)}{σ:St}{H:Hp}{s:R8}{P:Addr->Prop}[DecidablePred P]
theorem gM{h:Heap}{b:Addr}(e:H b=none):refA h P H b=none:=by
 unfold refA;split
 ·rw[e];rfl
 ·exact e
theorem sA{h:Heap}{b:Addr}{o:HO}(e:H b=some o):refA h P H b=some o\/((∃k,o= .dT k)\/∃k,o= .dK k)/\P b/\refA h P H b=some (.frz ((h.get? b).getD {cls:= .none,data:= .fields #[]}) o):=by
 unfold refA;split
 ·rename_i hp;rw[e];rcases xR ((h.get? b).getD {cls:= .none,data:= .fields #[]}) o with q | ⟨q1,q2⟩
  ·exact .inl (by show some _=_;rw[q])
  ·exact .inr ⟨q1,hp,by show some _=_;rw[q2]⟩
 ·exact .inl e
theorem gL{h:Heap}{b:Addr}{o:HO}(e:H b=some o)(n1:∀k,o≠ .dT k)(n2:∀k,o≠ .dK k):refA h P H b=some o:=by
 rcases sA (P:=P) (h:=h) e with q | ⟨⟨k,q⟩ | ⟨k,q⟩,_⟩
 ·exact q
 ·exact Ym q (n1 k)
 ·exact Ym q (n2 k)
theorem Inv.refA(I:Inv X f8 σ H s):Inv X f8 σ (L3.refA s.heap P H) s:=by
 have obj:∀b o,H b=some o->((∃k,o=HO.dT k)\/∃k,o= .dK k)->∃ob,s.heap.get? b=some ob:=λb o e hu=>by
  have hk:=I.hok b o e;rcases hu with⟨k,h1⟩ | ⟨k,h1⟩
  ·subst h1;obtain⟨_,_,_,_,ob,_,_,q,_⟩:=hk;exact⟨ob,q⟩
  ·subst h1;obtain⟨_,_,_,_,ob,_,_,q,_⟩:=hk;exact⟨ob,q⟩
 refine⟨I.ok,I.os,I.bare,⟨I.base.keep,I.base.slot,λb q h1 h2 h3=>gM (I.base.free b q h1 h2 h3),I.base.there,λb xs q=>gL (I.base.tups b xs q) (λ_ z=>nomatch z) (λ_ z=>nomatch z),
  λb q1 v q=>gL (I.base.frzs b q1 v q) (λ_ z=>nomatch z) (λ_ z=>nomatch z),λb ps q=>?_⟩,I.loc,I.cell,gM I.free,λx c q=>gM (I.freeC x c q),λp hp=>?_,λb v q=>?_,I.len⟩
 ·obtain⟨m,this⟩:=I.base.tbls b ps q;exact⟨m,gL this (λ_ z=>nomatch z) (λ_ z=>nomatch z)⟩
 ·obtain⟨h1,h2,h3⟩:=I.pin p hp;exact⟨h1,gM h2,h3⟩
 ·have st:∀{c:Addr}{v:HO},ObjOk X.prog X.w H s.heap c v->ObjOk X.prog X.w (L3.refA s.heap P H) s.heap c v:=λ{c v} k=>k.stay (λ_ _ _ q=>q)
   (λc' q=>gL q (λ_ z=>nomatch z) (λ_ z=>nomatch z)) λc' xs q=>gL q (λ_ z=>nomatch z) (λ_ z=>nomatch z)
  cases e:H b with
  |none=>rw[gM e] at q;cases q
  |some o=>
   rcases sA (P:=P) (h:=s.heap) e with z | ⟨hu,hp,z⟩
   ·rw[z] at q;cases q;exact st (I.hok b _ e)
   ·rw[z] at q;cases q;obtain⟨ob,HQ⟩:=obj b o e hu;rw[HQ];exact⟨HQ,st (I.hok b o e)⟩
def unA(P:Addr->Prop)[DecidablePred P](H:Hp):Hp:=λb=>if P b then(match H b with | some (.frz _ u)=>some u | x=>x) else H b
theorem Inv.unA(I:Inv X f8 σ H s)(hP:∀b,P b->∀o u,X.YC b≠some (.frz o u))(hQ:∀b,P b->∀o u,H b=some (.frz o u)->(∃k,u= .dT k)\/∃k,u= .dK k):Inv X f8 σ (L3.unA P H) s:=by
 have non:∀b,H b=none->L3.unA P H b=none:=λb e=>by unfold L3.unA;rw[e];split<;>rfl
 have keep:∀b o,H b=some o->(∀q u,o≠ .frz q u)->L3.unA P H b=some o:=λb o e n=>by
  unfold L3.unA;split
  ·rw[e];cases o<;>first | rfl | exact Ym rfl (n _ _)
  ·exact e
 refine⟨I.ok,I.os,I.bare,⟨I.base.keep,I.base.slot,λb q h1 h2 h3=>non b (I.base.free b q h1 h2 h3),I.base.there,λb xs q=>keep b _ (I.base.tups b xs q) (λ_ _ z=>nomatch z),
  λb q1 v q=>?_,λb ps q=>?_⟩,I.loc,I.cell,non _ I.free,λx c q=>non _ (I.freeC x c q),λp hp=>?_,λb v q=>?_,I.len⟩
 ·have:=I.base.frzs b q1 v q;unfold L3.unA;rw[Yh (λhp=>hP b hp q1 v q)];exact this
 ·obtain⟨m,this⟩:=I.base.tbls b ps q;exact⟨m,keep b _ this (λ_ _ z=>nomatch z)⟩
 ·obtain⟨h1,h2,h3⟩:=I.pin p hp;exact⟨h1,non _ h2,h3⟩
 ·have st:∀{c:Addr}{v:HO},ObjOk X.prog X.w H s.heap c v->ObjOk X.prog X.w (L3.unA P H) s.heap c v:=λ{c v} k=>k.stay (λ_ _ _ q=>q)
   (λc' q=>keep c' _ q (λ_ _ z=>nomatch z)) λc' xs q=>keep c' _ q (λ_ _ z=>nomatch z)
  cases e:H b with
  |none=>rw[non b e] at q;cases q
  |some o=>
   have ko:=I.hok b o e;by_cases hf:∃ob u,o= .frz ob u
   ·obtain⟨ob,u,rfl⟩:=hf;unfold L3.unA at q;split at q
    ·rw[e] at q;cases q;obtain⟨_,k2⟩:=ko;exact st k2
    ·rw[e] at q;cases q;exact st ko
   ·rw[keep b o e (λq u z=>hf ⟨q,u,z⟩)] at q;cases q;exact st ko
end
mutual
def GK:D->Bool
 | .non=>true
 | .bl _=>true
 | .int _=>true
 | .str _=>true
 | .tup ds=>zh ds
 | .raw _=>false
 | .exc _=>false
 | .scr _=>false
 | .lst _=>false
 | .dct _ _=>false
 | .dci _ _=>false
def zh:List D->Bool
 |[]=>true
 |d::ds=>GK d&&zh ds
end
def OwnAt(σ:St)(Z:aU)(b:Addr):Prop:=∃(i:Nat) (c:C),Z[i]? =some (some (Sl.ow c))/\σ[i]? =some (some (V.ref b))
section
variable{K:Se}{F H F' H':Hp}{σ:St}{Z:aU}{h:Heap}{b:Addr}
theorem OwnAt.obj(S:StE K F H σ Z)(p:OwnAt σ Z b):F b=none/\∃o,H b=some o/\((∃x,o= .lst x)\/(∃x,o= .dT x)\/∃x,o= .dK x):=by
 obtain⟨i,c,h1,h2⟩:=p;obtain⟨v,h3,a,o,rfl,h4,h5,h6⟩:=S.den i _ h1;rw[h3] at h2;cases h2;refine⟨h5,o,h4,?_⟩;cases c with
 |lst ds=>obtain⟨vs,rfl,_⟩:=h6;exact .inl ⟨_,rfl⟩
 |dct ks ds=>obtain⟨vs,rfl,_⟩:=h6;exact .inr (.inl ⟨_,rfl⟩)
 |dci ks ds=>obtain⟨vs,rfl,_⟩:=h6;exact .inr (.inr ⟨_,rfl⟩)
open Classical in
noncomputable def fA(σ:St)(Z:aU)(H1 F:Hp):Hp:=λb=>if OwnAt σ Z b then H1 b else F b
open Classical in
theorem zg(S:StE K F H σ Z){H1:Hp}:Same F (fA σ Z H1 F):=λb u e=>by
 unfold fA;rw[Yh (λp=>by rw[(OwnAt.obj S p).1] at e;cases e)];exact e
open Classical in
theorem B9(S:StE K F H σ Z):StE K (fA σ Z (refA h (OwnAt σ Z) H) F) (refA h (OwnAt σ Z) H) σ (Bt Z):=by
 refine⟨λb u e=>?_,λj sl e=>?_⟩
 ·unfold fA at e;split at e
  ·exact e
  ·rename_i hp;unfold refA;rw[Yh hp];exact S.fh b u e
 ·unfold Bt at e;rw[Sj] at e;cases q:Z[j]? with
  |none=>rw[q] at e;cases e
  |some x=>
   rw[q] at e;cases x with
   |none=>cases e
   |some y=>
    cases y with
    |fz d=>
     cases e;obtain⟨v,h1,h2⟩:=S.den j _ q;exact⟨v,h1,Den.mono (zg S) h2⟩
    |ow c=>
     cases e;obtain⟨v,h1,a,o,rfl,h4,h5,h6⟩:=S.den j _ q;refine⟨_,h1,DenC.den (ob:=(h.get? a).getD {cls:= .none,data:= .fields #[]}) h6 (zg S) ?_⟩;have hp:OwnAt σ Z a:=⟨j,c,q,h1⟩
     unfold fA refA;rw[Yg hp,Yg hp,h4];rfl
open Classical in
theorem vI(S:StE K F H σ Z)(E:Ext (fA σ Z (refA h (OwnAt σ Z) H) F) (refA h (OwnAt σ Z) H) F' H'):
 Ext F H (λb=>if OwnAt σ Z b then none else F' b) (unA (OwnAt σ Z) H')/\∀b,OwnAt σ Z b->∀o u,H' b=some (.frz o u)->(∃k,u= .dT k)\/∃k,u= .dK k:=by
 have Oi:∀b,OwnAt σ Z b->∃o,H b=some o/\H' b=some (nP ((h.get? b).getD {cls:= .none,data:= .fields #[]}) o)/\((∃x,o= .lst x)\/(∃x,o= .dT x)\/∃x,o= .dK x):=λb hp=>by
  obtain⟨_,o,h1,h2⟩:=OwnAt.obj S hp;refine⟨o,h1,E.hh b _ ?_,h2⟩;unfold refA;rw[Yg hp,h1];rfl
 refine⟨⟨λb o e=>?_,λb u e=>?_,λb u e=>?_,λb hb=>?_⟩,λb hp o u e=>?_⟩
 ·unfold unA;by_cases hp:OwnAt σ Z b
  ·obtain⟨o',h1,h2,h3⟩:=Oi b hp;rw[e] at h1;cases h1;rw[Yg hp,h2];rcases h3 with⟨x,rfl⟩ | ⟨x,rfl⟩ | ⟨x,rfl⟩<;>rfl
  ·rw[Yh hp];refine E.hh b o ?_;unfold refA;rw[Yh hp];exact e
 ·have hp:¬OwnAt σ Z b:=λp=>by rw[(OwnAt.obj S p).1] at e;cases e
  show (if OwnAt σ Z b then none else F' b)=_;rw[Yh hp];refine E.ff b u ?_;unfold fA;rw[Yh hp];exact e
 ·have e:(if OwnAt σ Z b then none else F' b)=some u:=e;split at e
  ·cases e
  ·rename_i hp;unfold unA;rw[Yh hp];exact E.fh b u e
 ·show (if OwnAt σ Z b then none else F' b)=F b\/_;by_cases hp:OwnAt σ Z b
  ·rw[Yg hp];exact .inl (OwnAt.obj S hp).1.symm
  ·rw[Yh hp];have e1:refA h (OwnAt σ Z) H b=H b:=by unfold refA;rw[Yh hp]
   have e2:fA σ Z (refA h (OwnAt σ Z) H) F b=F b:=by unfold fA;rw[Yh hp]
   rcases E.new b (by rw[e1];exact hb) with q | q
   ·exact .inl (q.trans e2)
   ·rw[e1] at q;exact .inr q
 ·obtain⟨o',h1,h2,h3⟩:=Oi b hp;rw[e] at h2;rcases h3 with⟨x,rfl⟩ | ⟨x,rfl⟩ | ⟨x,rfl⟩
  ·cases h2
  ·cases h2;exact .inl ⟨_,rfl⟩
  ·cases h2;exact .inr ⟨_,rfl⟩
open Classical in
mutual
theorem B7(S:StE K F H σ Z)(E:Ext (fA σ Z (refA h (OwnAt σ Z) H) F) (refA h (OwnAt σ Z) H) F' H'):∀{d:D}{v:V},GK d=true->Den K F' d v->Den K (λb=>if OwnAt σ Z b then none else F' b) d v
 | .non,_,_,q=>q
 | .bl _,_,_,q=>q
 | .int _,_,_,q=>q
 | .str _,_,_,q=>q
 | .tup ds,_,f,⟨a,vs,h1,h2,h3,h4⟩=>by
   refine⟨a,vs,h1,?_,rK S E ?_ h3,h4⟩
   ·show (if OwnAt σ Z a then none else F' a)=_;rw[Yh,h2];intro hp;obtain⟨_,o,k1,k2⟩:=OwnAt.obj S hp;have k3:fA σ Z (refA h (OwnAt σ Z) H) F a=some (nP ((h.get? a).getD {cls:= .none,data:= .fields #[]}) o):=by
     unfold fA refA;rw[Yg hp,Yg hp,k1];rfl
    have k4:=E.ff a _ k3;rw[h2] at k4;rcases k2 with⟨x,rfl⟩ | ⟨x,rfl⟩ | ⟨x,rfl⟩<;>cases k4
   ·exact f
 | .raw _,_,f,_=>by cases f
 | .exc _,_,f,_=>by cases f
 | .scr _,_,f,_=>by cases f
 | .lst _,_,f,_=>by cases f
 | .dct _ _,_,f,_=>by cases f
 | .dci _ _,_,f,_=>by cases f
theorem rK(S:StE K F H σ Z)(E:Ext (fA σ Z (refA h (OwnAt σ Z) H) F) (refA h (OwnAt σ Z) H) F' H'):∀{ds:List D}{vs:List V},zh ds=true->DenL K F' ds vs->DenL K (λb=>if OwnAt σ Z b then none else F' b) ds vs
 |[],_,_,q=>q
 |d::ds,_,f,⟨v,r,h1,h2,h3⟩=>by
  unfold zh at f;rw[SX] at f;exact⟨v,r,h1,B7 S E f.1 h2,rK S E f.2 h3⟩
end
end
theorem oA{α:Type}{m:M α}{a:α}(h:noex m=aa a):m=aa a:=by
 match m,h with
 |some (.ok b),h=>exact h
section
variable{X:Cx}{Xw:Nat->Hp->Prop}{e:Expr}{τ:DT}
theorem sj{f8:List (Addr×Obj)}{s:R8}{F H:Hp}{σ:St}{Z:aU}(I:Inv X f8 σ H s)(S:StE X.K F H σ Z)(b:Addr)(p:OwnAt σ Z b)(o:Obj)(u:HO):X.YC b≠some (.frz o u):=λz=>by
 obtain⟨_,o',k1,k2⟩:=OwnAt.obj S p;have:=I.base.frzs b o u z;rw[k1] at this;rcases k2 with⟨x,rfl⟩ | ⟨x,rfl⟩ | ⟨x,rfl⟩<;>cases this
theorem g8{α:Type}(m:M α):noex m=af\/∃a,m=aa a/\noex m=aa a:=by
 rcases m.cs with h | ⟨n,h⟩ | ⟨a,h⟩
 ·subst h;exact .inl rfl
 ·subst h;exact .inl rfl
 ·subst h;exact .inr ⟨a,rfl,rfl⟩
theorem uw(h:nO X Xw e τ):nO X Xw e (λZ=>noex (τ (Bt Z))):=λf8 s σ H Q I ⟨F,Z,S,w⟩=>by
 classical
 rcases g8 (τ (Bt Z)) with q | ⟨b,q,q2⟩
 ·have w:WPB Xw F H (noex (τ (Bt Z))) Q:=w;rw[q] at w;exact w.elim
 ·have w:WPB Xw F H (noex (τ (Bt Z))) Q:=w;rw[q2] at w;refine bX (h f8 s σ _ (λb' H'=>Q b' (unA (OwnAt σ Z) H')/\∀c,OwnAt σ Z c->∀o u,H' c=some (.frz o u)->(∃k,u= .dT k)\/∃k,u= .dK k) (Inv.refA (P:=OwnAt σ Z) I) ⟨_,_,B9 (h:=s.heap) S,?_⟩) λb' s' ⟨H',I',q1,q3⟩=>⟨_,Inv.unA I' (sj I S) q3,q1⟩
  rw[q];intro H' F' E;obtain⟨E1,q3⟩:=vI S E;exact⟨w _ _ E1,q3⟩
end
abbrev DF:=aU->M C
def WPF(K:Se)(Xw:Nat->Hp->Prop)(F H:Hp)(m:M C)(Q:VK):Prop:=
 match m with
 |none=>False
 |some (.ok c)=>∀a o H' F',Ext F H F' H'->H' a=some o->F' a=none->H a=none->DenC K F' c o->Q (.ref a) H'
 |some (.ex n)=>∀F' H',Ext F H F' H'->Xw n H'
def RC(K:Se)(Xw:Nat->Hp->Prop)(δ:DF):TE:=λσ H Q=>∃F Z,StE K F H σ Z/\WPF K Xw F H (δ Z) Q
def Of(X:Cx)(Xw:Nat->Hp->Prop)(e:Expr)(δ:DF):Prop:=PE X e (RC X.K Xw δ)
def zU(i:Nat)(δ:DF):DS:=λZ=>δ Z>>=λc=>aa (.nx (Z.set i (some (.ow c))))
theorem StOk.setFresh{K:Se}{u8 YC F H F' H':Hp}{σ:St}{Z:aU}(s:StOk K u8 YC F H σ Z){i:Nat}{a:Addr}{o:HO}{c₀:C}(E:Ext F H F' H')(ho:H' a=some o)(nF:F' a=none)(n:H a=none)(h:DenC K F' c₀ o):
 StOk K u8 YC F' H' (σ.set i (some (.ref a))) (Z.set i (some (.ow c₀))):=by
 have hle:=s.len;have get:∀(j:Nat) (sl:Sl),(Z.set i (some (.ow c₀)))[j]? =some (some sl)->(j=i/\i<Z.length/\sl= .ow c₀)\/(j≠i/\Z[j]? =some (some sl)):=λj sl e=>by
  by_cases hj:j=i
  ·subst hj;have hi:j<Z.length:=by
    have:=(Sb.mp e).1;simpa using this
   rw[So hi] at e;cases e;exact .inl ⟨rfl,hi,rfl⟩
  ·rw[Sh (S9 hj)] at e;exact .inr ⟨hj,e⟩
 have old:∀(j:Nat) (c:C) (b:Addr),Z[j]? =some (some (.ow c))->σ[j]? =some (some (.ref b))->b≠a:=λj c b e e' z=>by
  obtain⟨u,h1,b',o,h2,h3,_⟩:=s.st.den j _ e;rw[h1] at e';cases e';cases h2;rw[z,n] at h3;cases h3
 refine⟨s.ext.trans E,⟨E.fh,λj sl e=>?_⟩,by simp[hle],λj c b e e'=>?_,λj k c c' b e1 e2 e3 e4=>?_⟩
 ·rcases get j sl e with⟨rfl,hi,rfl⟩ | ⟨hj,e⟩
  ·exact⟨.ref a,by rw[So (by omega)],a,_,rfl,ho,nF,h⟩
  ·obtain⟨u,h1,h2⟩:=s.st.den j sl e;exact⟨u,by rw[Sh (S9 hj)];exact h1,h2.ext E⟩
 ·rcases get j _ e with⟨rfl,hi,_⟩ | ⟨hj,e⟩
  ·rw[So (by omega)] at e';cases e';exact Same.free s.ext.hh n
  ·rw[Sh (S9 hj)] at e';exact s.own j c b e e'
 ·rcases get j _ e1 with⟨rfl,hi,_⟩ | ⟨hj,e1⟩
  ·rw[So (by omega)] at e3;cases e3;rcases get k _ e2 with⟨rfl,_,_⟩ | ⟨hk,e2⟩
   ·rfl
   ·rw[Sh (S9 hk)] at e4;exact Ym rfl (old k c' a e2 e4)
  ·rcases get k _ e2 with⟨M_,hi,_⟩ | ⟨hk,e2⟩
   ·rw[M_,So (by omega)] at e4;cases e4;rw[Sh (S9 hj)] at e3;exact Ym rfl (old j c a (by assumption) e3)
   ·rw[Sh (S9 hj)] at e3;rw[Sh (S9 hk)] at e4;exact s.sep j k c c' b e1 e2 e3 e4
theorem WPF.mono{K:Se}{Xw:Nat->Hp->Prop}{F H:Hp}{m:M C}{Q Q':VK}(h:WPF K Xw F H m Q)(k:∀v H',Q v H'->Q' v H'):WPF K Xw F H m Q':=by
 match m,h with
 |none,h=>exact h
 |some (.ok d),h=>exact λa o H' F' e h1 h2 h3 h4=>k _ _ (h a o H' F' e h1 h2 h3 h4)
 |some (.ex n),h=>exact h
theorem WPF.ext{K:Se}{Xw:Nat->Hp->Prop}{F H F1 H1:Hp}{m:M C}{Q:VK}(e:Ext F H F1 H1)(h:WPF K Xw F H m Q):WPF K Xw F1 H1 m Q:=by
 match m,h with
 |none,h=>exact h
 |some (.ok d),h=>exact λa o H' F' e' h1 h2 h3 h4=>h a o H' F' (e.trans e') h1 h2 (Same.free e.hh h3) h4
 |some (.ex n),h=>exact λF2 H2 e2=>h F2 H2 (e.trans e2)
theorem WPF.bind{K:Se}{Xw:Nat->Hp->Prop}{F H:Hp}{m:M D}{k:D->M C}{Q:VK}(h:WPF K Xw F H (m>>=k) Q):WP K Xw F H m λv H1=>∃F1 d,Ext F H F1 H1/\Den K F1 d v/\WPF K Xw F1 H1 (k d) Q:=by
 match m,h with
 |none,h=>exact h
 |some (.ok d),h=>exact λv H2 F2 e2 q=>⟨F2,d,e2,q,WPF.ext e2 (show WPF K Xw F H (k d) Q from h)⟩
 |some (.ex n),h=>exact h
section
variable{X:Cx}{Xw:Nat->Hp->Prop}{e k v a b:Expr}{es:List Expr}{δ:DF}{pos pos':Pos}{x:Str}{i:Nat}
theorem wy(hN:X.N.Nodup)(hi:X.N[i]? =some x)(hx:Loc X.env.scope x)(he:Of X Xw e δ)(hf:X.fn x=true\/X.env.scope.names.lookup x=some .local:=by first | exact .inl rfl | exact .inr rfl)
 (hs:Wv [.Name x pos'] e pos.line X.env=pure false:=by rfl):
 gT X Xw (.Assign [.Name x pos'] e pos) (zU i δ):=λu8 YC=>PS.weak (mj he (a8 hN hi hx hf) hs) λD σ H ⟨F,Z,s,w⟩=>by
 refine⟨F,Z,s.st,?_⟩;unfold zU at w
 match δ Z,w with
 |none,w=>exact w
 |some (.ok c),w=>exact λa o H' F' E h1 h2 h3 h4=>w _ F' H' (s.setFresh E h1 h2 h3 h4)
 |some (.ex n),w=>exact λF' H' e'=>w F' H' (s.ext.trans e')
theorem JV{f8:List (Addr×Obj)}{σ:St}{H H':Hp}{s:R8}{a:Addr}{y v:V}{u r:Value}{A:S1}{E:Value->R8->Prop}{Q:Unit->R8->Prop}(hu:A.units+1<cLine)(I:Inv X f8 σ H s)(g:DPut H a y v H')(ry:RelV y u)(rv:RelV v r)(h:∀s',Inv X f8 σ H' s'->Q () s'):
 wpAny (model X.prog X.w) A (dictSet a u r) Q E s:=by
 rcases g with⟨kvs,k,e,ey,l,eH⟩ | ⟨kvs,k,b,e,ey,eb,l,eH⟩
 ·subst ey eH;obtain⟨z,hd,vs,rel,dd⟩:=B0 I.hok e;have hz:vs.length<=Sv:=by rw[<-rel.length];exact z
  have hl:(putK kvs k v).length<=Sv:=by have:=dP kvs k v;omega
  refine wpAny_dictSet_pairs (hsz:=hz) (pz ry) dd λh' zb hs=>h _ ?_;have he:∃q,h'.get? a=some q:=let ⟨q,_,_,hq,_⟩:=zb;⟨q,hq⟩
  exact jv I (by rw[e];exact TZ) hs he (xK hl hd (rel.put k rv) zb)
 ·subst ey eH;cases (show u=SY b from ry);obtain⟨z,hd,xs,rel,dd⟩:=B2 I.hok e;have hz:xs.length<=Sv:=by rw[<-T4 rel];exact z
  have hl:(putK kvs k v).length<=Sv:=by have:=dP kvs k v;omega
  refine wpAny_dictSet_heap (knd:=Ui (ba X.prog X.w)) (hsz:=hz) (by exact(show A.units<cLine by omega)) (lY I.hok eb) dd λh' zb hs=>h _ ?_;obtain⟨q,es,ep,hq,h2,h3,h4,_,h5⟩:=zb;refine jv I (by rw[e];exact TZ) hs ⟨q,hq⟩ ⟨hl,hd,_,(rel.put k eb rv).keeps λc ys ec=>?_,q,es,ep,hq,h2,h3,h4,h5⟩;rw[ax (CP ec e (λz=>nomatch z))];exact ec
end
section
variable{X:Cx}{Xw:Nat->Hp->Prop}{e k v a b:Expr}{es:List Expr}{δk δv δa δb:DE}{pos p:Pos}{x:Str}{i:Nat}
theorem BY{o0:HO}{put:Hp->Addr->V->V->Hp->Prop}(hu:X.A.units+1<cLine)(h0:∀(H:Hp) (h:Heap),Tx<h.objs.size->ObjOk X.prog X.w H (h.push {cls:= .type "dict",data:= .dict #[]}) h.objs.size o0){tk tv:TE}(hk:PE X k tk)(hv:PE X v tv):
 PE X (.Dict [some k] [v] pos) (λσ H Q=>∀p,H p=none->tk σ (upd H p o0) λy H1=>tv σ H1 λz H2=>∃H3,DPut H2 p y z H3/\Q (.ref p) H3):=by
 intro f8 s σ H Q I q;have hn:=I.hok.fresh (R_ s.heap.objs.size);have I1:=I.laid (a:=s.heap.objs.size) (o:=o0) (h':=s.heap.push {cls:= .type "dict",data:= .dict #[]}) (t':=s.toks) (λ_ _ q=>R7 _ q) (R_ _) (h0 _ s.heap I.big);refine wpAny_Dict_any rfl rfl (by simp) (by simp) (bX (Dw hk hv FV f8 _ σ _ (λps H2=>∃y z H3,ps=[(y,z)]/\DPut H2 s.heap.objs.size y z H3/\Q (.ref s.heap.objs.size) H3) I1 ?_) λws s2 ⟨ps,H2,I2,rel,y,z,H3,ep,g,q2⟩=>?_)
 ·refine ?_;have:=q _ hn;show tk σ _ λy H1=>tv σ H1 λz H2=>∃y' z' H3,[(y,z)]=[(y',z')]/\DPut H2 s.heap.objs.size y' z' H3/\Q (.ref s.heap.objs.size) H3;have e:(λ(y:V) (H1:Hp)=>tv σ H1 λz H2=>∃y' z' H3,[(y,z)]=[(y',z')]/\DPut H2 s.heap.objs.size y' z' H3/\Q (.ref s.heap.objs.size) H3)=(λy H1=>tv σ H1 λz H2=>∃H3,DPut H2 s.heap.objs.size y z H3/\Q (.ref s.heap.objs.size) H3):=by
   funext y H1;congr 1;funext z H2;refine propext ⟨λ⟨y',z',H3,ee,r⟩=>?_,λ⟨H3,r⟩=>⟨y,z,H3,rfl,r⟩⟩;cases ee;exact⟨H3,r⟩
  rw[e];exact this
 ·subst ep;cases rel with
  | @cons a b as bs h t=>
    cases t;obtain⟨r1,r2⟩:=h;unfold storeAll;rw[VG];refine R3 (R3 (JV hu I2 g r1 r2 λs3 I3=>?_));refine R9 ?_;show wpAny _ _ (forIn ([]:List (Value×Value)) UK _) _ _ _;rw[List.forIn_nil];exact R9 ⟨V.ref s.heap.objs.size,_,I3,rfl,q2⟩
def kA(k v:D):M C:=match iP k with
 |some kk=>aa (.dct [kk] [v])
 |none=>af
def JW(k v:D):M C:=match pB k with
 |some kk=>aa (.dci [kk] [v])
 |none=>af
theorem sr(hu:X.A.units+64<cLine)(hk:PD X Xw k δk)(hv:PD X Xw v δv):Of X Xw (.Dict [some k] [v] pos) (λZ=>δk Z>>=λx=>δv Z>>=λy=>kA x y):=
 PE.weak (BY (o0:= .dT []) (put:=DPut) (by omega) (λH h hb=>vA h hb) hk hv) λσ H Q ⟨F,Z,s,w⟩ q hq=>by
  have e0:=Ext.free (o:= .dT []) s.fh hq;refine⟨F,Z,s.ext e0,?_⟩;have w:WPF X.K Xw F H (δk Z>>=λx=>δv Z>>=λy=>kA x y) Q:=w
  match L_:δk Z,w with
  |none,w=>exact w
  |some (.ex n),w=>exact λF' H' e'=>w F' H' (e0.trans e')
  |some (.ok kd),w=>
   intro y H1 F1 e1 q1;refine⟨F1,Z,(s.ext e0).ext e1,?_⟩;have w:WPF X.K Xw F H (δv Z>>=λy=>kA kd y) Q:=w
   match Np:δv Z,w with
   |none,w=>exact w
   |some (.ex n),w=>exact λF' H' e'=>w F' H' (e0.trans (e1.trans e'))
   |some (.ok vd),w=>
    intro z H2 F2 e2 q2;have w3:WPF X.K Xw F H (kA kd vd) Q:=w;clear w;unfold kA at w3;cases En:iP kd with
    |none=>rw[En] at w3;exact w3.elim
    |some kk=>
     rw[En] at w3;have E:=e1.trans e2;have Nk:H2 q=some (.dT []):=E.hh _ _ aH;have OG:F2 q=none:=by
      have:=E.old (a:=q) (o:= .dT []) aH (λ_ z=>nomatch z);rw[this];exact Same.free s.fh hq
     unfold iP at En;split at En
     ·rename_i es;obtain⟨b,ws,rfl,k2,k3,_⟩:=Den.mono e2.ff q1;have e5:=kH En k3;subst e5;refine⟨_,DPut.t (k:=kk) Nk (e2.fh _ _ k2) (by rw[UZ];decide),?_⟩;refine w3 q (.dT (putK [] kk z)) _ F2 ⟨λc u hc=>?_,(e0.trans E).ff,λc u hc=>?_,(e0.trans E).new⟩ aH OG hq ⟨[z],rfl, .cons q2 .nil,rfl,show 1<=lim by decide⟩
      ·rw[ax (λzz=>by rw[zz,hq] at hc;cases hc)];exact(e0.trans E).hh c u hc
      ·rw[ax (λzz=>by rw[zz,OG] at hc;cases hc)];exact e2.fh c u hc
     ·cases En
theorem y6{K:Se}{F H:Hp}{d k:D}{x y:V}{o:Option D}(s:Same F H)(hd:Den K F d x)(hk:Den K F k y)(e:Br d k=some o):
 ∃a ov,x= .ref a/\qL H a y ov/\ov.isSome=o.isSome/\∀d',o=some d'->∃v,ov=some v/\Den K F d' v:=by
 obtain⟨a,ov,h1,h2,h3,h4⟩:=y7 (σ:=[some x]) (Z:=[some (.fz d)]) (i:=0) (H:=H) ⟨s,λi sl q=>by
  match i,q with
  |0,q=>cases q;exact⟨x,rfl,hd⟩
  |i+1,q=>simp at q⟩ rfl hk e
 cases h1;exact⟨a,ov,rfl,h2,h3,h4⟩
def et(neg:Bool)(k d:D):M D:=match Br d k with
 |some o=>aa (.bl (if neg then !o.isSome else o.isSome))
 |none=>af
def Je(neg:Bool):R2:=λy x H Q=>∃a o,x= .ref a/\qL H a y o/\Q (.bl (if neg then !o.isSome else o.isSome)) H
theorem Iz(hu:X.A.units+64<cLine):OpR X (Te .In) (Je false):=λf8 s σ H y x v u Q I ry rx ⟨a,o,ex,g,q⟩=>by
 subst ex;obtain rfl:u=SY a:=rx;exact JU (by omega) I g ry λs' I'=>⟨.bl o.isSome,_,I',rfl,q⟩
theorem AX(hu:X.A.units+64<cLine):OpR X (Te .NotIn) (Je true):=λf8 s σ H y x v u Q I ry rx ⟨a,o,ex,g,q⟩=>by
 subst ex;obtain rfl:u=SY a:=rx;exact EE (by omega) I g ry λs' I'=>⟨.bl (!o.isSome),_,I',rfl,q⟩
theorem zG{K:Se}{neg:Bool}:xy K (Je neg) (et neg):=λXw F H y x dk dd Q s hk hd w=>by
 unfold et at w;cases he:Br dd dk with
 |none=>rw[he] at w;exact w.elim
 |some o=>
  rw[he] at w;obtain⟨a,ov,h1,h2,h3,_⟩:=y6 s hd hk he;refine⟨a,ov,h1,h2,?_⟩;rw[h3];exact WP.now w s rfl
theorem I9(hu:X.A.units+64<cLine)(ha:PD X Xw a δa)(hb:PD X Xw b δb)(hm:Th .In b=false:=by rfl):nO X Xw (.Compare a [.In] [b] pos) (cP (d2 (et false) δa δb)):=f6 (Iz hu) zG ha hb hm
theorem jE(hu:X.A.units+64<cLine)(ha:PD X Xw a δa)(hb:PD X Xw b δb)(hm:Th .NotIn b=false:=by rfl):nO X Xw (.Compare a [.NotIn] [b] pos) (cP (d2 (et true) δa δb)):=f6 (AX hu) zG ha hb hm
def fJ(d k:D):M D:=match Br d k with
 |some (some v)=>aa v
 |_=>af
theorem kc(hu:X.A.units+64<cLine)(ha:PD X Xw a δa)(hb:PD X Xw b δb)(hs:Hg b:=by intro _ _;rfl):PD X Xw (.Subscript a b pos) (d2 fJ δa δb):=
 PE.weak (FO (by omega) ha hb hs) λσ H Q ⟨F,Z,s,w⟩=>by
  refine⟨F,Z,s,WP.mono (WP.bind w) λx H1 ⟨F1,d,e1,q1,w1⟩=>?_⟩;refine⟨F1,Z,s.ext e1,WP.mono (WP.bind w1) λy H2 ⟨F2,k,e2,q2,w2⟩=>?_⟩;unfold fJ at w2;cases he:Br d k with
  |none=>rw[he] at w2;exact w2.elim
  |some o=>
   cases o with
   |none=>rw[he] at w2;exact w2.elim
   |some d'=>
    rw[he] at w2;obtain⟨a,ov,h1,h2,h3,h4⟩:=y6 e2.fh (Den.mono e2.ff q1) q2 he;obtain⟨v,rfl,hd⟩:=h4 d' rfl;exact⟨a,v,h1,h2,WP.now w2 e2.fh hd⟩
end
section
variable{X:Cx}{f8:List (Addr×Obj)}{σ:St}{H:Hp}{s:R8}{h':Heap}
theorem Inv.turnedLaid{t':Nat}{ch:List Addr}{a:Addr}{o:HO}(I:Inv X f8 σ H s)(k:∀b q,b∉ch->s.heap.get? b=some q->h'.get? b=some q)(hf:∀b∈ch,qM X f8 H b)(hp:s.heap.objs.size<=a)(new:ObjOk X.prog X.w (upd H a o) h' a o):
 Inv X f8 σ (upd H a o) {s with heap:=h',toks:=t'}:=by
 have hn:=I.hok.fresh hp;have G3:∀b u,H b=some u->b∉ch:=λb u e z=>by rw[(hf b z).1] at e;cases e
 refine I.step (g':=s.gens) (d':=s.drawn) (ch:=ch) (λb hb=>?_) (λb q _ _ hc e _=>k b q hc e) (λb q _ _ hc e _=>⟨q.slots,k b q hc e⟩) (λb q hc e n=>?_)
  (λb q hc e=>⟨q,k b q hc e⟩) (λb xs e=>?_) (λb q u e=>?_) (λb ps e=>⟨#[],?_⟩) (λm hm=>?_) (λb u e=>?_) I.bare
 ·obtain⟨f0,f1,f2,f3,f4,f5⟩:=hf b hb;exact⟨f3,f1,f4,f5⟩
 ·rw[ax (λz=>by rw[z] at e;exact Ym (Sq e) (Nat.not_lt.mpr hp))];exact n
 ·rw[ax (bf e hn)];exact e
 ·rw[ax (bf e hn)];exact e
 ·rw[ax (bf e hn),e];simp
 ·obtain⟨q,es,ep,ho,r⟩:=hm;exact⟨q,es,ep,k _ q (λz=>(hf _ z).2.1 rfl) ho,r⟩
 ·by_cases hb:b=a
  ·subst hb;rw[aH] at e;cases e;exact new
  ·rw[ax hb] at e;refine(I.hok b u e).stay (λc v hc q=>k c v ?_ q) (λc q=>by rw[ax (bf q hn)];exact q) λc xs q=>by rw[ax (bf q hn)];exact q
   rcases hc with z | z
   ·rw[z];exact G3 b u e
   ·exact G3 c _ z
theorem Inv.turnedL{t':Nat}{ch:List Addr}(I:Inv X f8 σ H s)(k:∀b q,b∉ch->s.heap.get? b=some q->h'.get? b=some q)(hf:∀b∈ch,qM X f8 H b):Inv X f8 σ H {s with heap:=h',toks:=t'}:=by
 have G3:∀b u,H b=some u->b∉ch:=λb u e z=>by rw[(hf b z).1] at e;cases e
 refine I.step (g':=s.gens) (d':=s.drawn) (ch:=ch) (λb hb=>?_) (λb q _ _ hc e _=>k b q hc e) (λb q _ _ hc e _=>⟨q.slots,k b q hc e⟩) (λb q hc e n=>n)
  (λb q hc e=>⟨q,k b q hc e⟩) (λb xs e=>e) (λb q u e=>e) (λb ps e=>⟨#[],by rw[e];simp⟩) (λm hm=>?_) (λb u e=>?_) I.bare
 ·obtain⟨f0,f1,f2,f3,f4,f5⟩:=hf b hb;exact⟨f3,f1,f4,f5⟩
 ·obtain⟨q,es,ep,ho,r⟩:=hm;exact⟨q,es,ep,k _ q (λz=>(hf _ z).2.1 rfl) ho,r⟩
 ·refine(I.hok b u e).stay (λc v hc q=>k c v ?_ q) (λc q=>q) λc xs q=>q;rcases hc with z | z
  ·rw[z];exact G3 b u e
  ·exact G3 c _ z
end
def Od(K:Se)(a:Addr):It:=
 ⟨λi H=>∃xs x,SqL K H a xs/\xs[i]? =some x,λi H x H'=>∃p,x= .ref p/\H p=none/\∃v,(∀xs,SqL K H a xs->xs[i]? =some v)/\H'=upd H p (.tup [.int (i:Int),v]),λi H=>∃xs,SqL K H a xs/\xs.length<=i⟩
theorem Bi{P:SJ}{w:World}{K:Se}{es:List Expr}{x1}{tp:Pos}(l e it:Addr)(OR:e≠it):
 Turn P w K (.Tuple es x1 tp) (Od K l) [e,it] e (λi h=>∃old,IsEnum h e it (i:Int) old/\h.IsListIter it l i) where
 mem:=by simp
 obj:=λi h ⟨old,uM,rf⟩ b hb=>by
  rcases Sf.mp hb with z | z
  ·subst z;exact⟨_,uM,λv z=>nomatch z⟩
  ·have z:b=it:=by simpa using z
   subst z;obtain⟨o,e1,c,d⟩:=rf;exact⟨o,e1,λv z=>by rw[d] at z;cases z⟩
 keep:=λi h h' ⟨old,uM,rf⟩ k=>⟨old,k e (by simp) _ uM,rf.at λo q=>k it (by simp) o q⟩
 item:=by
  intro X hP hw hK hc i f8 s σ H E I hf st hg;subst hP hw hK;obtain⟨old,uM,rf⟩:=st;obtain⟨xs,x,hq,hx⟩:=hg;obtain⟨aS,rv,p,hz⟩:=I.list hq;obtain⟨u,hu,ru⟩:=rv.get hx;refine wpAny_pyNext_enum_item uM rf p.isList (x:=u) (by simpa using hu) OR λh1 k1 k2 k3 k4 k5=>?_;refine⟨_,rfl,wpAny_letOwnedTupleGo_enum k1 λh2 m1 m2=>?_⟩;have eK:s.heap.objs.size≠e:=VL (Sq uM);have Oa:h2.get? s.heap.objs.size=some {cls:= .type "tuple",data:= .seq #[.int i s.toks,u]}:=(m2.2 _ eK).trans k3;have keep:∀b q,b∉[e,it]->s.heap.get? b=some q->h2.get? b=some q:=λb q hb e1=>by
   have OK:b≠e:=λz=>hb (by simp[z]);have Ka:b≠it:=λz=>hb (by simp[z]);exact(m2.2 b OK).trans (k5 b q OK Ka e1)
  have I2:Inv X f8 σ (upd H s.heap.objs.size (.tup [.int (i:Int),x])) {s with heap:=h2,toks:=s.toks+1}:=by
   refine Inv.turnedLaid (s:=s) I keep hf (R_ _) ⟨?_,[.int i s.toks,u], .cons ⟨_,rfl⟩ (.cons ru .nil),_,Oa,rfl,_,rfl⟩;rw[UZ];show 2<=_;decide
  refine⟨.ref s.heap.objs.size,_,I2,rfl,⟨_,rfl,I.hok.fresh (R_ _),x,λys hy=>by rw[I.list_inj hy hq];exact hx,rfl⟩,⟨u,?_,?_⟩,λb hb=>?_⟩
  ·have:((i+1:Nat):Int)=(i:Int)+1:=by push_cast;rfl
   rw[this];exact m1
  ·exact k2.at λo q=>(m2.2 it (S9 OR)).trans q
  ·rw[ax (λz=>by
    rcases Sf.mp hb with y | y
    ·exact Ym (Sq uM) (by rw[<-y,z];exact Tf _)
    ·have y:b=it:=by simpa using y
     obtain⟨o,q1,_⟩:=id rf;exact Ym (Sq q1) (by rw[<-y,z];exact Tf _))]
   exact(hf b hb).1
 done:=by
  intro X hP hw hK hc i f8 s σ H E I hf st hg;subst hP hw hK;obtain⟨old,uM,rf⟩:=st;obtain⟨xs,hq,hx⟩:=hg;obtain⟨aS,rv,p,hz⟩:=I.list hq;have hl:=rv.length;exact wpAny_pyNext_enum_end (I.ok.hd hc) uM rf p.isList (by simp;omega) λh' eb=>⟨rfl,Inv.turnedL (t':=s.toks) (ch:=[it]) I (λb q hb e1=>eb b q (λz=>hb (by simp[z])) e1) λb hb=>hf b (R4 _ hb)⟩
 self:=λA i s Q E st h=>by
  obtain⟨old,uM,rf⟩:=st;exact wpAny_pyIter_enum uM h
theorem CA{K:Se}{F:Hp}{a:Addr}{vs:List V}{ds:List D}(h:SqL K F a vs)(hd:DenL K F ds vs):ItD K F (Od K a) (ds.mapIdx λi d=> .tup [.int (i:Int),d]):=λF' H' i s1 s2=>by
 have hs:=Same.seq s2 (Same.seq s1 h);refine⟨λd e=>?_,λhl=>⟨vs,hs,by rw[List.length_mapIdx,hd.len] at hl;exact hl⟩⟩;rw[XB] at e;cases q:ds[i]? with
 |none=>rw[q] at e;cases e
 |some d0=>
  rw[q] at e;cases e;obtain⟨v,e1,q1⟩:=hd.get q;refine⟨⟨vs,v,hs,e1⟩,λx H'' ⟨p,y1,y2,u,y3,y4⟩=>?_⟩;subst y1 y4;have:=y3 vs hs;rw[e1] at this;cases this;have E:=Ext.lay (o:= .tup [.int (i:Int),v]) s2 y2;exact⟨_,E,p,_,rfl,aH, .cons rfl (.cons (Den.mono E.ff (Den.mono s1 q1)) .nil),by show 2<=lim;decide⟩
section
variable{X:Cx}{Xw:Nat->Hp->Prop}{e:Expr}{es:List Expr}{δs:DA}{pos p tp:Pos}{x1:Nat}
def rJ:List D->M (List D)
 |[.lst ds]=>aa (ds.mapIdx λi d=> .tup [.int (i:Int),d])
 |_=>af
theorem wq(hg:Gl X "enumerate")(hm:X.mg "enumerate"=none)(ha:oe X Xw [e] δs)(hs:Su [e] X.env=[(false,eval e X.env)]:=by rfl):xq X Xw (.Tuple es x1 tp) (.Call (.Name "enumerate" p) [e] [] pos) (λZ=>δs Z>>=rJ):=by
 intro f8 s σ H R I ⟨F,Z,S,w⟩;refine Call_ (iQ I hg hm (show S5 "enumerate"=some (.type "enumerate") from rfl) (Tj (bX (ha pos f8 s σ H (λvs H1=>∃F1 ds,Ext F H F1 H1/\DenL X.K F1 ds vs/\WPI X.K Xw F1 H1 (rJ ds) R) I ⟨F,Z,S,WPI.bindL w⟩) λus s1 ⟨vs,H1,I1,r1,F1,ds,e1,q1,w1⟩=>?_) hs rfl));unfold rJ at w1;split at w1
 ·rename_i ds;obtain⟨v,rfl,h1⟩:=q1.one;obtain⟨a,xs,rfl,h2,h3,h4⟩:=h1;obtain⟨u,rfl,r2⟩:=r1.one;cases (show u=_ from r2);obtain⟨aS,rv,pl,hz⟩:=I1.list (SqL.of (K:=X.K) (e1.fh _ _ h2));refine call_enumerate_list pl.isList λh' k1 k2 k3 k4=>?_;refine wpAny_pyIter_enum k1 ?_;refine⟨s1.heap.objs.size+1,[s1.heap.objs.size+1,s1.heap.objs.size],_,_,H1,rfl,I1.kept (t':=s1.toks) λb o e=>k4 b o e,Bi a _ _ (VL (WA _)),⟨.none,k1,k2⟩,λb hb=>?_,w1 _ _ _ (Ext.refl e1.fh) (CA (SqL.of h2) h3)⟩;have e:s1.heap.objs.size<=b:=by
   rcases Sf.mp hb with z | z
   ·rw[z];exact X0 _
   ·have z:b=s1.heap.objs.size:=by simpa using z
    rw[z];exact R_ _
  exact I1.fpOk e (I1.hok.fresh e)
 ·exact w1.elim
end
def CG:Key->D
 | .inl i=> .int i
 | .inr x=> .str x
def Gx(H:Hp)(d:Addr)(od:Obj)(i:Nat)(x:V):Prop:=
 (∃kvs k b,H d=some (.frz od (.dT kvs))/\(kvs.map (·.1))[i]? =some k/\x= .ref b/\H b=some (.tup (k.map kV)))\/
 ∃kvs k,H d=some (.frz od (.dK kvs))/\(kvs.map (·.1))[i]? =some k/\x=kV k
def Oc(d:Addr)(od:Obj):It:=
 ⟨λi H=>(∃kvs,H d=some (.frz od (.dT kvs))/\i<kvs.length)\/∃kvs,H d=some (.frz od (.dK kvs))/\i<kvs.length,λi H x H'=>H'=H/\Gx H d od i x,
  λi H=>(∃kvs,H d=some (.frz od (.dT kvs))/\kvs.length<=i)\/∃kvs,H d=some (.frz od (.dK kvs))/\kvs.length<=i⟩
theorem nj{α β γ:Type}{R:α->β->Prop}{f:α->γ}{g:β->γ}(h:∀a b,R a b->f a=g b):∀{l:List α}{m:List β},Wz R l m->l.map f=m.map g
 |_,_, .nil=>rfl
 |_,_, .cons r t=>by rw[Sa,Sa,h _ _ r,nj h t]
theorem j8{α β:Type}{R:α->β->Prop}:∀{l:List α}{m:List β}{i:Nat}{a:α},Wz R l m->l[i]? =some a->∃b,m[i]? =some b/\R a b
 |_,_,i,_, .nil,e=>by simp at e
 |_,_,0,_, .cons r t,e=>by simp at e;subst e;exact⟨_,rfl,r⟩
 |_,_,i+1,_, .cons r t,e=>by
  obtain⟨b,e1,e2⟩:=j8 (i:=i) t (by simpa using e);exact⟨b,by simpa using e1,e2⟩
theorem A0{prog:SJ}{w:World}{κ:Type}[DecidableEq κ]{knd:KeyKind prog w κ}:∀{es:List T7}{kvs:List (κ×Value)}{i:Nat}{kv:κ×Value},Pairs knd es kvs->kvs[i]? =some kv->∃e,es[i]? =some e/\knd.is kv.1 e.key=true:=by
 intro es kvs i kv h e;induction h generalizing i with
 |nil=>simp at e
 | @cons en RY Jy KP h1 h2 h3 ih=>
   cases i with
   |zero=>simp at e;subst e;exact⟨en,rfl,h1⟩
   |succ i=>
    obtain⟨q,e1,e2⟩:=ih (i:=i) (by simpa using e);exact⟨q,by simpa using e1,e2⟩
theorem Ig{k:Key}{u:Value}(h:mI k u=true):RelV (kV k) u:=by
 rcases bC h with⟨i,t,rfl,rfl⟩ | ⟨x,t,rfl,rfl⟩
 ·exact⟨t,rfl⟩
 ·exact⟨t,rfl⟩
theorem o4{X:Cx}{f8:List (Addr×Obj)}{σ:St}{H:Hp}{s:R8}{d:Addr}{od:Obj}{n:Nat}(I:Inv X f8 σ H s)
 (h:(∃kvs,H d=some (.frz od (.dT kvs))/\n=kvs.length)\/∃kvs,H d=some (.frz od (.dK kvs))/\n=kvs.length):
 ∃es ep,(d==Tx)=false/\s.heap.get? d=some od/\od.ExactDict/\od.data= .dict es ep/\es.size=n/\∀i,i<n->∃e x,es[i]? =some e/\RelV x e.key/\Gx H d od i x:=by
 rcases h with⟨kvs,e,rfl⟩ | ⟨kvs,e,rfl⟩
 ·obtain⟨ho,z,lo,xs,rel,o,es,ep,h1,h2,h3,h4,h5⟩:=(show ObjOk X.prog X.w H s.heap d (.frz od (.dT kvs)) from I.hok d _ e)
  rw[ho] at h1;cases h1;have hl:es.size=kvs.length:=by
   rw[<-Sr,h4,R5];exact(T4 rel).symm
  refine⟨es,ep,lo,ho,h2,h3,hl,λi hi=>?_⟩;obtain⟨q,e1,e2,e3,e4⟩:=j8 rel (R6 hi);refine⟨XF (Ui (ba X.prog X.w)) q, .ref q.2.1,?_,rfl, .inl ⟨kvs,kvs[i].1,q.2.1,e,?_,rfl,e3⟩⟩
  ·rw[<-TU,h4,Sj,e1];rfl
  ·rw[Sj,R6 hi];rfl
 ·obtain⟨ho,z,lo,vs,rel,o,es,ep,h1,h2,h3,h4,h5,h6⟩:=(show ObjOk X.prog X.w H s.heap d (.frz od (.dK kvs)) from I.hok d _ e)
  rw[ho] at h1;cases h1;have hl:es.size=kvs.length:=by
   rw[<-Sr,h5.length];exact(T4 rel).symm
  refine⟨es,ep,lo,ho,h2,h3,hl,λi hi=>?_⟩;obtain⟨q,e1,e2,e3⟩:=j8 rel (R6 hi);obtain⟨en,e4,e5⟩:=A0 h5 e1;refine⟨en,kV kvs[i].1,by rw[<-TU];exact e4,?_, .inr ⟨kvs,kvs[i].1,e,by rw[Sj,R6 hi];rfl,rfl⟩⟩;rw[e2];exact Ig e5
theorem Bj{P:SJ}{w:World}{K:Se}{tg:Expr}(d it:Addr)(od:Obj)(es:Array T7)(ep:Nat)(nQ:od.data= .dict es ep):
 Turn P w K tg (Oc d od) [it] it (λi h=>h.IsKeyIter it d i es.size ep) where
 mem:=by simp
 obj:=λi h st b hb=>by
  have e:b=it:=by simpa using hb
  subst e;obtain⟨o,e,c,dd⟩:=st;exact⟨o,e,λv z=>by rw[dd] at z;cases z⟩
 keep:=λi h h' st k=>st.at λo e=>k it (by simp) o e
 item:=by
  intro X hP hw hK hc i f8 s σ H E I hf st hg;subst hP hw hK;obtain⟨n,hn,hi⟩:∃n,((∃kvs,H d=some (.frz od (.dT kvs))/\n=kvs.length)\/∃kvs,H d=some (.frz od (.dK kvs))/\n=kvs.length)/\i<n:=by
   rcases hg with⟨kvs,e,hi⟩ | ⟨kvs,e,hi⟩
   ·exact⟨_, .inl ⟨kvs,e,rfl⟩,hi⟩
   ·exact⟨_, .inr ⟨kvs,e,rfl⟩,hi⟩
  obtain⟨Jy,EJ,lo,ho,hx,xu,hsz,hk⟩:=o4 I hn;rw[nQ] at xu;cases xu;obtain⟨en,x,e1,rx,ka⟩:=hk i hi;obtain⟨f0,f1,f2,f3,f4,f5⟩:=hf it (by simp);refine v3 st ho nQ e1 λh' qx sb=>?_;have I1:Inv X f8 σ H {s with heap:=h'}:=I.turned (t':=s.toks) (λb o hb e=>(sb.2 b hb).trans e) f0 f1 f3 f4 f5;obtain⟨o,e2,c,dd⟩:=id qx;exact⟨_,rfl,rN (s:={s with heap:=h'}) e2 c dd (by decide) ⟨x,H,I1,rx,⟨rfl,ka⟩,qx,λb hb=>(hf b hb).1⟩⟩
 done:=by
  intro X hP hw hK hc i f8 s σ H E I hf st hg;subst hP hw hK;obtain⟨n,hn,hi⟩:∃n,((∃kvs,H d=some (.frz od (.dT kvs))/\n=kvs.length)\/∃kvs,H d=some (.frz od (.dK kvs))/\n=kvs.length)/\n<=i:=by
   rcases hg with⟨kvs,e,hi⟩ | ⟨kvs,e,hi⟩
   ·exact⟨_, .inl ⟨kvs,e,rfl⟩,hi⟩
   ·exact⟨_, .inr ⟨kvs,e,rfl⟩,hi⟩
  obtain⟨Jy,EJ,lo,ho,hx,xu,hsz,hk⟩:=o4 I hn;rw[nQ] at xu;cases xu;obtain⟨f0,f1,f2,f3,f4,f5⟩:=hf it (by simp);exact rH (I.ok.hd hc) st (by omega) ho nQ λh' eb=>⟨rfl,I.turned (t':=s.toks) (λb o hb e=>eb b o hb e) f0 f1 f3 f4 f5⟩
 self:=λ_ _ _ _ _ st h=>wpAny_pyIter_keyiter st h
def tupK(k:List Key):D:= .tup (k.map CG)
def pY:Key->Bool
 | .inl _=>true
 | .inr x=>decide (x.length<=lim)
def fM:D->M (List D)
 | .dct ks _=>if ks.all (λk=>decide (k.length<=lim)&&k.all pY) then aa (ks.map tupK) else af
 | .dci ks _=>if ks.all pY then aa (ks.map CG) else af
 |_=>af
theorem vP{K:Se}{F:Hp}{k:Key}(h:pY k=true):Den K F (CG k) (kV k):=by
 cases k with
 |inl i=>exact rfl
 |inr x=>exact⟨rfl,Yk h⟩
theorem rT{K:Se}{F:Hp}:∀{k:List Key},k.all pY=true->DenL K F (k.map CG) (k.map kV)
 |[],_=>rfl
 |x::k,h=>by
  rw[UH,SX] at h;exact .cons (vP h.1) (rT h.2)
theorem CB{K:Se}{F:Hp}{a:Addr}{ob:Obj}{d:D}{ds:List D}(hd:Den K F d (.ref a))(hF:∃u,F a=some (.frz ob u))(e:fM d=aa ds):ItD K F (Oc a ob) ds:=λF' H' i s1 s2=>by
 unfold fM at e;split at e
 ·rename_i ks es;split at e
  ·rename_i hok;obtain rfl:=d_ e;obtain⟨a',Rw,vs,z,h2,h3,h4,h5⟩:=hd;cases z;obtain⟨u,hu⟩:=hF;rw[h2] at hu;cases hu;have hh:=s2 _ _ (s1 _ _ h2);have hz:=ir (a:=ks) (b:=vs) (by rw[h4];exact h3.len);have hl:(ks.zip vs).length=ks.length:=by rw[<-R5 (f:=(·.1)),hz]
   refine⟨λd e=>?_,λhle=> .inl ⟨_,hh,by rw[hl];simpa using hle⟩⟩;rw[Sj] at e;cases q:ks[i]? with
   |none=>rw[q] at e;cases e
   |some k=>
    rw[q] at e;cases e;have hi:=(Sb.mp q).1;refine⟨.inl ⟨_,hh,by rw[hl];exact hi⟩,λx H'' ⟨y1,y2⟩=>?_⟩;subst y1;have hk:=SA.mp hok k (Sz q);rw[SX] at hk;rcases y2 with⟨kvs,k',b,q1,q2,rfl,q3⟩ | ⟨kvs,k',q1,q2,rfl⟩
    ·rw[hh] at q1;cases q1;rw[hz,q] at q2;cases q2;have E:=Ext.tup (F:=F') s2 q3;exact⟨_,E,b,_,rfl,aH,rT hk.2,by rw[R5];exact Yk hk.1⟩
    ·rw[hh] at q1;cases q1
  ·exact(ek e).elim
 ·rename_i ks es;split at e
  ·rename_i hok;obtain rfl:=d_ e;obtain⟨a',Rw,vs,z,h2,h3,h4,h5⟩:=hd;cases z;obtain⟨u,hu⟩:=hF;rw[h2] at hu;cases hu;have hh:=s2 _ _ (s1 _ _ h2);have hz:=ir (a:=ks) (b:=vs) (by rw[h4];exact h3.len);have hl:(ks.zip vs).length=ks.length:=by rw[<-R5 (f:=(·.1)),hz]
   refine⟨λd e=>?_,λhle=> .inr ⟨_,hh,by rw[hl];simpa using hle⟩⟩;rw[Sj] at e;cases q:ks[i]? with
   |none=>rw[q] at e;cases e
   |some k=>
    rw[q] at e;cases e;have hi:=(Sb.mp q).1;refine⟨.inr ⟨_,hh,by rw[hl];exact hi⟩,λx H'' ⟨y1,y2⟩=>?_⟩;subst y1;have hk:=SA.mp hok k (Sz q);rcases y2 with⟨kvs,k',b,q1,q2,rfl,q3⟩ | ⟨kvs,k',q1,q2,rfl⟩
    ·rw[hh] at q1;cases q1
    ·rw[hh] at q1;cases q1;rw[hz,q] at q2;cases q2;exact⟨F',Ext.refl s2,vP hk⟩
  ·exact(ek e).elim
 ·exact(ek e).elim
section
variable{X:Cx}{Xw:Nat->Hp->Prop}{tg l:Expr}{δ:DE}
theorem wt(h:PD X Xw l δ):xq X Xw tg l (λZ=>δ Z>>=fM):=by
 intro f8 s σ H R I ⟨F,Z,S,w⟩;refine bX (h f8 s σ H (λv H1=>∃F1 d,Ext F H F1 H1/\Den X.K F1 d v/\WPI X.K Xw F1 H1 (fM d) R) I ⟨F,Z,S,WPI.bind w⟩) λu s1 ⟨v,H1,I1,r1,F1,d,e1,q1,w1⟩=>?_;rcases(fM d).cs with z | ⟨n,z⟩ | ⟨ds,z⟩
 ·rw[z] at w1;exact w1.elim
 ·exfalso
  unfold fM at z;split at z
  ·split at z<;>cases z
  ·split at z<;>cases z
  ·cases z
 ·rw[z] at w1;obtain⟨a,ob,u',rfl,hF,hn⟩:∃a ob u',v= .ref a/\F1 a=some (.frz ob u')/\∃n,((∃kvs,H1 a=some (.frz ob (.dT kvs))/\n=kvs.length)\/∃kvs,H1 a=some (.frz ob (.dK kvs))/\n=kvs.length):=by
   unfold fM at z;split at z
   ·obtain⟨a,ob,vs,e,h2,_⟩:=q1;exact⟨a,ob,_,e,h2,_, .inl ⟨_,e1.fh _ _ h2,rfl⟩⟩
   ·obtain⟨a,ob,vs,e,h2,_⟩:=q1;exact⟨a,ob,_,e,h2,_, .inr ⟨_,e1.fh _ _ h2,rfl⟩⟩
   ·exact(ek z).elim
  obtain⟨n,hn⟩:=hn;cases (show u=_ from r1);obtain⟨es,ep,lo,ho,hx,hd,hsz,hk⟩:=o4 I1 hn;refine rS lo ho hx hd ?_;refine⟨s1.heap.objs.size,[s1.heap.objs.size],_,_,H1,rfl,I1.kept (t':=s1.toks) λb o e=>R7 _ e,Bj a _ ob es ep hd,⟨_,Sx _ rfl,rfl,rfl⟩,λb hb=>?_,w1 _ _ _ (Ext.refl e1.fh) (CB q1 ⟨_,hF⟩ z)⟩;have e:b=s1.heap.objs.size:=by simpa using hb
  subst e;exact I1.fpOk (R_ _) (I1.hok.fresh (R_ _))
end
end L3
namespace L3
open PySem
section
variable{prog:SJ}{w:World}{K:Type}[DecidableEq K]{knd:HeapKind prog w K}{A:S1}{E:Value->R8->Prop}{s:R8}
theorem qt{d a:Addr}{xs:List (K×Addr×Value)}{k:K}{v:Value}{Q:Unit->R8->Prop}(hu:knd.room A)(E0:knd.is s.heap k a)(hm:s.heap.DictOfH knd d xs)(hsz:xs.length<=Sv)
 (hQ:∀h',h'.DictOfH knd d (VH xs k a v)->UD d s.heap h'->Q () {s with heap:=h'}):wpAny (model prog w) A (Ww d (.ref a) (knd.hash k) v) Q E s:=by
 obtain⟨o,es,ep,ho,hc,hd,he,M7,hn⟩:=hm;unfold Ww;refine Ut (R3 (wpAny_dictFind_heap hu E0 ho hd he M7 hn (λxT=>?_) λj p hj=>?_))
 ·have e0:=atKey_none_of_get xT;have hz:es.size<=Sv:=by rw[Xh he];exact hsz
  refine R3 (wpAny_rule (wpAny_updateDictKeys (hz:=hz) ho hd (hQ _ ?_ (S3 ..))));rw[storedH_new e0];refine⟨_,_,ep+1,UU _ ho (V8 (U3 hd _)),hc.mapDictKeys _,U3 hd _,by simp[he,XF],λx hx=>?_,?_⟩
  ·rcases SD.mp hx with hx | hx
   ·exact knd.keeps (M7 x hx) ho hd (S3 ..)
   ·obtain rfl:x=(k,a,v):=by simpa using hx
    exact knd.keeps E0 ho hd (S3 ..)
  ·rw[SE];refine Tb.mpr ⟨hn,by simp,λx hx y hy z=>?_⟩;have hy:y=k:=by simpa using hy
   exact not_mem_keys_of_get xT (by rw[<-hy,<-z];exact hx)
 ·have e0:=atKey_of_get hn hj;refine R3 (wpAny_rule (R3 (wpAny_updateDict ho hd (wpAny_point (hQ _ ?_ (S3 ..))))));rw[storedH_old e0];refine⟨_,_,ep,UU _ ho (V8 (Obj.data_mapDict hd _)),hc.mapDict _,Obj.data_mapDict hd _,?_,λx hx=>?_,by rw[keys_map_putAt];exact hn⟩
  ·have:=modify_map_putAt (XF knd) (λe:T7=>{e with val:=v}) k v (λ_ _=>rfl) hn hj;rw[<-he] at this;obtain⟨l⟩:=es;simpa using this
  ·obtain⟨y,hy,rfl⟩:=Sm.mp hx;unfold putAt;split<;>exact knd.keeps (M7 y hy) ho hd (S3 ..)
def cQ(xs ys:List (K×Addr×Value)):List (K×Addr×Value):=ys.foldl (λP3 y=>VH P3 y.1 y.2.1 y.2.2) xs
theorem w6(xs:List (K×Addr×Value))(k:K)(a:Addr)(v:Value):(VH xs k a v).length<=xs.length+1:=by
 unfold VH;split<;>simp
theorem mJ:∀(ys xs:List (K×Addr×Value)),(cQ xs ys).length<=xs.length+ys.length
 |[],xs=>R_ _
 |y::ys,xs=>by
  have h1:=mJ ys (VH xs y.1 y.2.1 y.2.2);have h2:=w6 xs y.1 y.2.1 y.2.2;show (cQ (VH xs y.1 y.2.1 y.2.2) ys).length<=_;rw[Sd];omega
theorem tW{xs ys:List (K×Addr×Value)}{i:Nat}{y:K×Addr×Value}(h:ys[i]? =some y):cQ xs (ys.take (i+1))=VH (cQ xs (ys.take i)) y.1 y.2.1 y.2.2:=by
 rw[List.take_add_one,h];unfold cQ;rw[Yc];rfl
theorem mK:∀(ys P3:List (K×Addr×Value)),((P3++ys).map (·.1)).Nodup->cQ P3 ys=P3++ys
 |[],P3,_=>by simp[cQ]
 |y::ys,P3,hn=>by
  show cQ (VH P3 y.1 y.2.1 y.2.2) ys=_;have Nd:y.1∉P3.map (·.1):=λh=>by
   rw[SE] at hn;exact(Tb.mp hn).2.2 _ h _ (by simp) rfl
  have e0:atKey P3 y.1=none:=atKey_none_of_get λj p hj=>Nd (Sm.mpr ⟨_,Sz hj,rfl⟩);rw[storedH_new e0,mK ys (P3++[(y.1,y.2.1,y.2.2)]) (by simpa using hn)];simp
theorem tB{id:String}{o:Addr}{ob:Obj}{es:Array T7}{ep:Nat}{Q:Array T7->R8->Prop}(ho:s.heap.get? o=some ob)(hd:ob.data= .dict es ep)
 (hq:∀e∈es.toList,∃a,e.key= .ref a/\s.TypeIs (.ref a) "tuple")(hh:∀e∈es.toList,(es.filter (·.hash==e.hash)).size<=1)(h:Q es s):wpAny (model prog w) A (VW id o) Q E s:=by
 unfold VW;refine R3 (TL ho hd ?_);rw[<-Array.forIn_toList];refine R3 (wpAny_forIn_list _ (λW1 _ s'=>s'=s/\∀e∈W1,e∈es.toList) _ ?_ ?_ _ _ ⟨rfl,λ_ h=>h⟩)
 ·rintro e W1 b s' ⟨rfl,hr⟩;obtain⟨a,ea,ta⟩:=hq e (hr e (R1 ..));have hf:=hh e (hr e (R1 ..));have gk:¬((es.filter (·.hash==e.hash)).size>1):=by omega
  rw[ea];unfold Builtin.Dict.quietEq;refine R3 (R3 (Xf ta F.slot_tuple_eq.lookup (R9 ?_)));simp only[gk,if_false];have:(some (Value.builtin "tuple.__eq__")==some (Value.builtin "object.__eq__"))=false:=by decide
  simp only[this,VX,if_true];exact R9 ⟨rfl,λx hx=>hr x (R4 _ hx)⟩
 ·rintro b s' ⟨rfl,_⟩;exact R9 h
theorem pL{nm:String}{d o:Addr}{xs ys:List (K×Addr×Value)}{Q:Unit->R8->Prop}(hu:knd.room A)(OP:d≠o)(QL:(o==Tx)=false)(hd:s.heap.DictOfH knd d xs)(ho:s.heap.DictOfH knd o ys)
 (QC:∀{h:Heap}{k:K}{a:Addr},knd.is h k a->∃ob,h.get? a=some ob/\ob.cls= .type "tuple")(hh:xs=[]->(ys.map λy=>knd.hash y.1).Nodup)(hsz:xs.length+ys.length<=Sv)
 (hQ:∀h',h'.DictOfH knd d (cQ xs ys)->UD d s.heap h'->Q () {s with heap:=h'}):wpAny (model prog w) A (Ws nm d o) Q E s:=by
 obtain⟨od,PZ,PX,Aw,xt,nQ,Qp,RT,Me⟩:=id hd;obtain⟨oo,xP,PY,Ku,OL,Au,Bv,M6,xT⟩:=id ho;have v6:=Xh Bv;unfold Ws;rw[Yh (by simpa using OP)];unfold Ve;rw[Yh (by rw[QL];exact SI)];refine R3 (R9 (R3 (TL Ku Au ?_)));have loop:∀(body:Nat->PUnit->Sem (ForInStep PUnit)),body=(λi (_:PUnit)=>(do
       let l'<-dictEntries o
       match l'[i]? with
        |some e=>do
         holding [e.key,e.val] (Ww d e.key e.hash e.val)
         let EJ<-dictEpoch o
         if (EJ !=PY)=true then do (unsupported (toString nm++toString ":source-changed-during-callback"):Sem PUnit);pure (Tg UK) else pure (Tg UK)
        |_=>do
         (unsupported "internal:dict-merge":Sem PUnit)
         pure (Tg UK):Sem (ForInStep PUnit)))->wpAny (model prog w) A (forIn [:xP.size] UK body) (λ_ s'=>Q () s') E s:=by
  rintro _ rfl;rw[Std.Legacy.Range.forIn_eq_forIn_range'];simp only[Std.Legacy.Range.size,Xy,Nat.add_sub_cancel,Nat.div_one];refine wpAny_forIn_list _ (λW1 _ s'=>∃h' i,s'={s with heap:=h'}/\W1=SQ i (xP.size - i)/\i<=xP.size/\h'.DictOfH knd d (cQ xs (ys.take i))/\h'.get? o=some oo/\UD d s.heap h') _ ?_ ?_ _ _
   ⟨s.heap,0,rfl,by simp,SM _,by simpa[cQ] using hd,Ku,W2 _ _⟩
  ·rintro x W1 b s' ⟨h',i,rfl,hr,hi,xu,HS,E4⟩;have gk:i<xP.size:=by
    by_cases h:i<xP.size
    ·exact h
    ·rw[show xP.size - i=0 by omega] at hr;simp at hr
   rw[show xP.size - i=(xP.size - (i+1))+1 by omega,Ux] at hr;injection hr with h1 h2
   subst h1;refine R3 (TL HS Au ?_);obtain⟨y,hy⟩:∃y,ys[x]? =some y:=⟨_,R6 (by omega)⟩
   rw[entry_at Bv x,hy];have QH:(cQ xs (ys.take x)).length<=Sv:=by
    have e1:=mJ (ys.take x) xs;rw[Tz] at e1;omega
   have QD:knd.is h' y.1 y.2.1:=knd.keeps (M6 y (Sz hy)) Aw nQ E4;refine R3 (Ut (qt hu QD xu QH λOA MV Ky=>?_));have G0:OA.get? o=some oo:=(Ky.2 o (S9 OP)).trans HS;refine R3 (Vf G0 Au ?_);rw[Yh (by simp)];exact R9 ⟨OA,x+1,rfl,h2,gk,by rw[tW hy];exact MV,G0,E4.trans Ky⟩
  ·rintro b s' ⟨h',i,rfl,hr,hi,xu,HS,E4⟩;have zm:i=xP.size:=by
    by_cases h:i<xP.size
    ·rw[show xP.size - i=(xP.size - (i+1))+1 by omega,Ux] at hr;exact nomatch hr
    ·omega
   refine hQ h' ?_ E4;rw[zm,v6,List.take_length] at xu;exact xu
 have go:wpAny (model prog w) A (do
  let JX<-dictEpoch o
  let l<-dictEntries o
  forIn [:l.size] UK λi (_:PUnit)=>(do
   let l'<-dictEntries o
   match l'[i]? with
    |some e=>do
     holding [e.key,e.val] (Ww d e.key e.hash e.val)
     let EJ<-dictEpoch o
     if (EJ !=JX)=true then do (unsupported (toString nm++toString ":source-changed-during-callback"):Sem PUnit);pure (Tg UK) else pure (Tg UK)
    |_=>do
     (unsupported "internal:dict-merge":Sem PUnit)
     pure (Tg UK):Sem (ForInStep PUnit))
  pure ()) Q E s:=by
  refine R3 (Vf Ku Au (R3 (TL Ku Au (R3 ?_))));exact Ti (loop _ rfl) (λ_ _ h=>R9 h) λ_ _ h=>h
 dsimp only
 split
 ·refine R3 (TL Aw nQ ?_);split
  ·rename_i MW;have Kz:xs=[]:=by
    have h0:PZ= #[]:=X5.mp MW;have:=Xh Qp;rw[h0] at this;exact TB.mp (by simpa using this.symm)
   subst Kz;have QJ:=hh rfl;refine R3 (tB Ku Au (λe he=>?_) (λe he=>?_) ?_)
   ·rw[Bv] at he;obtain⟨y,hy,rfl⟩:=Sm.mp he;obtain⟨ob,h1,h2⟩:=QC (M6 y hy);exact⟨y.2.1,rfl,ob,h1,h2⟩
   ·have:(xP.filter (·.hash==e.hash)).size=((ys.map λy=>knd.hash y.1).filter (· ==e.hash)).length:=by
     rw[<-Sr,Array.toList_filter,Bv,WH,WH,R5,R5];rfl
    rw[this];have hc:=List.nodup_iff_count.mp QJ e.hash;rw[List.count_eq_countP,U4] at hc;exact hc
   ·have hm:cQ ([]:List (K×Addr×Value)) ys=ys:=by
     rw[mK ys [] (by simpa using xT)];rfl
    rw[hm] at hQ;split
    ·have Q1:xP.size<=Sv+1:=by simp at hsz;omega
     refine R3 (wpAny_updateDictKeysTo Aw nQ (R9 (hQ _ ⟨_,_,PX+1,UU _ Aw (V8 (U3 nQ _)),xt.mapDictKeys _,U3 nQ _,Bv,λx hx=>?_,xT⟩ (S3 ..))) Q1);exact knd.keeps (M6 x hx) Aw nQ (S3 ..)
    ·rename_i eK;have h0:xP= #[]:=X5.mp (by simpa using eK);have Na:ys=[]:=TB.mp (by rw[<-v6,h0];rfl);subst Na;exact R9 (hQ _ hd (W2 _ _))
  ·exact go
 ·exact go
end
end L3
namespace L3
open PySem PySem.Spec L2
open PyProof.Rows hiding St
theorem Gu{P:SJ}{w:World}{h:Heap}{k:List Key}{a:Addr}(h1:(Ui (ba P w)).is h k a):∃ob,h.get? a=some ob/\ob.cls= .type "tuple":=by
 obtain⟨ob,aS,n,q1,q2,_⟩:=h1;exact⟨ob,q1,q2⟩
def iS(kvs more:List (List Key×V)):List (List Key×V):=more.foldl (λP3 kv=>putK P3 kv.1 kv.2) kvs
theorem zy{H:Hp}:∀{more:List (List Key×V)}{ys:List (List Key×Addr×Value)},KT H more ys->∀{kvs:List (List Key×V)}{xs:List (List Key×Addr×Value)},KT H kvs xs->KT H (iS kvs more) (cQ xs ys)
 |_,_, .nil,_,_,q=>q
 |_,_, .cons h t,kvs,xs,r=>by
  refine zy t ?_;have:=KT.put r _ h.2.1 h.2.2;rw[h.1] at this;show KT H (putK kvs _ _) (VH xs _ _ _);rw[h.1];exact this
theorem pD:∀(more kvs:List (List Key×V)),(iS kvs more).length<=kvs.length+more.length
 |[],kvs=>R_ _
 |p::r,kvs=>by
  have h1:=pD r (putK kvs p.1 p.2);have h2:=dP kvs p.1 p.2;show (iS (putK kvs p.1 p.2) r).length<=_;rw[Sd];omega
def fV(k:List Int):Int:=reduceHash (V9 (k.map hashInt))
theorem Ce{P:SJ}{w:World}(k:List Int):(Ui (ba P w)).hash (jK k)=fV k:=by
 show reduceHash (V9 ((jK k).map (KO w)))=_;unfold fV jK;rw[SF];rfl
section
variable{X:Cx}{f8:List (Addr×Obj)}{σ:St}{H:Hp}{s:R8}{a b:Addr}{A:S1}{E:Value->R8->Prop}
theorem BW{kvs more:List (List Key×V)}{ks:List (List Int)}{Q:Value->R8->Prop}(hu:A.units+2<cLine)(I:Inv X f8 σ H s)(ha:H a=some (.dT kvs))(hb:Rd H b (.dT more))(MR:a≠b)(hk:more.map (·.1)=ks.map jK)
 (hh:kvs=[]->(ks.map fV).Nodup)(hz:kvs.length+more.length<=Sv)(h:∀s',Inv X f8 σ (upd H a (.dT (iS kvs more))) s'->Q .none s'):
 wpAny (model X.prog X.w) A (call (.builtin "dict.update") [.ref a, .ref b]) Q E s:=by
 obtain⟨z1,lo1,xs,Lv,Ol⟩:=B2 I.hok ha;obtain⟨z2,Rq,ys,F_,EF⟩:=o6 I.hok hb;have l1:=T4 Lv;have l2:=T4 F_;have hT:=Ol.typeIs;refine TX WE hT PySem.F.entry_dict_update ?_ (PySem.F.args_dict_update_2 _ _);unfold X3.«dict.update»;refine R3 ?_;unfold Builtin.Dict.selfAndRest;refine R3 (wpAny_notOrdered_dict hT ?_);show wpAny _ _ (pure (a,[SY b])) _ _ s;refine R9 ?_;show wpAny _ _ (Wm "dict.update" a (.ref b) [] .none) _ _ s;unfold Wm;refine R3 (V1 EF.typeIs ?_);rw[Yh (by decide)];refine R3 ?_;unfold Builtin.Dict.merge;refine R3 ?_;unfold Builtin.Dict.readDirectly;refine R3 (wpAny_isInstance EF.typeIs isSubtype_dict_dict ?_);simp only[Bool.not_true,S8,if_false];refine R3 (Xf EF.typeIs PySem.F.slot_dict_iter.lookup (R9 ?_));simp only[beq_self_eq_true,if_true];refine R3 (R9 ?_);refine pL (knd:=Ui (ba X.prog X.w)) (show A.in1.units<cLine by show A.units+1<cLine;omega) MR Rq Ol EF Gu (λe0=>?_) (by omega) λh' zb E4=>?_
 ·have e1:kvs=[]:=TB.mp (by rw[l1,e0];rfl);have:=hh e1;have e2:(ys.map λy=>(Ui (ba X.prog X.w)).hash y.1)=ks.map fV:=by
   have e3:more.map (·.1)=ys.map (·.1):=nj (λ_ _ r=>r.1) F_;rw[show (λy:List Key×Addr×Value=>(Ui (ba X.prog X.w)).hash y.1)=(Ui (ba X.prog X.w)).hash∘(·.1) from rfl,<-SF,<-e3,hk,SF];exact TJ λk _=>Ce k
  rw[e2];exact this
 ·show wpAny _ _ (Builtin.Dict.addKeywords a []>>=_) _ _ _;refine R3 (R9 (R9 ⟨.none,rfl,h _ ?_⟩));obtain⟨q,es,ep,hq,h2,h3,h4,_,h5⟩:=zb;have hl:(iS kvs more).length<=Sv:=by have:=pD more kvs;omega
  refine jv I (t':=s.toks) (by rw[ha];exact TZ) E4 ⟨q,hq⟩ ⟨hl,lo1,_,(zy F_ Lv).keeps λc ys ec=>?_,q,es,ep,hq,h2,h3,h4,h5⟩;rw[ax (CP ec ha (λz=>nomatch z))];exact ec
end
def b9(ks:List (List Key))(ds:List D):List (List Key)->List D->List (List Key)×List D
 |k::ks',d::ds'=>b9 (b7 ks ds k) (bM ks ds k d) ks' ds'
 |_,_=>(ks,ds)
def Ed(ks:List (List Key))(ds:List D):D->Option C
 | .dct ks' ds'=>match fK ks' with
   |some ns=>if ds.length+ds'.length<=lim/\(ks.isEmpty=true->(ns.map fV).Nodup) then some (.dct (b9 ks ds ks' ds').1 (b9 ks ds ks' ds').2) else none
   |none=>none
 |_=>none
theorem pJ{K:Se}{F:Hp}:∀{ks':List (List Key)}{ds':List D}{vs':List V}{ks:List (List Key)}{ds:List D}{vs:List V},DenL K F ds' vs'->ks'.length=ds'.length->DenL K F ds vs->ks.length=ds.length->
 ∃ws,iS (ks.zip vs) (ks'.zip vs')=(b9 ks ds ks' ds').1.zip ws/\DenL K F (b9 ks ds ks' ds').2 ws/\(b9 ks ds ks' ds').1.length=(b9 ks ds ks' ds').2.length
 |[],[],vs',ks,ds,vs,h',_,h,hl=>⟨vs,rfl,h,hl⟩
 |k::ks',d::ds',vs',ks,ds,vs,⟨v,r,e,h1,h2⟩,Eo,h,hl=>by
  subst e;obtain⟨ws,e1,e2,e3⟩:=ux (K:=K) (F:=F) h1 k h hl;obtain⟨us,q1,q2,q3⟩:=pJ (ks':=ks') (ds':=ds') (vs':=r) h2 (by simpa using Eo) e2 e3;refine⟨us,?_,q2,q3⟩;show iS (putK (ks.zip vs) k v) (ks'.zip r)=_;rw[e1];exact q1
 |[],_::_,_,_,_,_,_,Eo,_,_=>by simp at Eo
 |_::_,[],_,_,_,_,_,Eo,_,_=>by simp at Eo
theorem DH{κ:Type}[DecidableEq κ]{ks:List κ}{ds:List D}{k:κ}{d:D}(hl:ks.length=ds.length):(bM ks ds k d).length<=ds.length+1:=by
 unfold bM;split
 ·rw[i9 ks ds k d hl];omega
 ·simp
theorem DI{κ:Type}[DecidableEq κ]{ks:List κ}{ds:List D}{k:κ}{d:D}(hl:ks.length=ds.length):(b7 ks ds k).length=(bM ks ds k d).length:=by
 unfold bM b7;split
 ·rw[i9 ks ds k d hl];exact hl
 ·simp[hl]
theorem pK:∀{ks':List (List Key)}{ds':List D}{ks:List (List Key)}{ds:List D},ks.length=ds.length->(b9 ks ds ks' ds').2.length<=ds.length+ds'.length
 |[],ds',ks,ds,_=>by show ds.length<=_;omega
 |_::_,[],ks,ds,_=>by show ds.length<=_;simp
 |k::ks',d::ds',ks,ds,hl=>by
  have h1:=pK (ks':=ks') (ds':=ds') (ks:=b7 ks ds k) (ds:=bM ks ds k d) (DI hl);have h2:=DH (k:=k) (d:=d) hl;show (b9 (b7 ks ds k) (bM ks ds k d) ks' ds').2.length<=_;rw[Sd];omega
section
variable{X:Cx}{Xw:Nat->Hp->Prop}{o e:Expr}{δ:DE}{pos p T0 bh:Pos}{x:Str}{i:Nat}
def Ba(i:Nat)(δ:DE):DS:=λZ=>match q9 Z i with
 |some (.dct ks ds)=>δ Z>>=λd=>match Ed ks ds d with
  |some c'=>aa (.nx (Z.set i (some (.ow c'))))
  |none=>af
 |_=>af
theorem IW{td ty:TE}(hu:X.A.units+2<cLine)(ho:PE X o td)(he:PE X e ty)(m:M1 X o "update" T0 e bh):
 PE X (.Call (.Attribute o "update" T0) [e] [] bh) (λσ H Q=>td σ H λx H1=>∃a,x= .ref a/\Mu H1 a/\ty σ H1 λy H2=>∃(b:Addr) (kvs more:List (List Key×V)) (ks:List (List Int)),y= .ref b/\H2 a=some (.dT kvs)/\Rd H2 b (.dT more)/\a≠b/\more.map (·.1)=ks.map jK/\(kvs=[]->(ks.map fV).Nodup)/\kvs.length+more.length<=Sv/\Q .non (upd H2 a (.dT (iS kvs more)))):=by
 intro f8 s σ H Q I h;refine wpAny_Call_method m.base m.few m.line WR WE (by rfl) (bX (ho f8 s σ H _ I h) λu s1 ⟨x,H1,I1,rx,a,ex,d,q1⟩=>?_);subst ex;obtain rfl:u=SY a:=rx;obtain⟨t1,t2,_⟩:=Cy I1 d;refine⟨t1,t2,?_⟩;rw[m.trees];refine Vv rfl (VP (Ud (bX (he f8 s1 σ H1 _ I1 q1) λiv s2 ⟨y,H2,I2,ry,b,kvs,more,ks,ey,k1,k2,k3,k4,k5,k6,q2⟩=>UL ?_)));subst ey;obtain rfl:iv=SY b:=ry;exact BW hu I2 k1 k2 k3 k4 k5 k6 λs3 I3=>⟨.non,_,I3,rfl,q2⟩
theorem FX(hu:X.A.units+64<cLine)(hv:PE X (.Name x p) (kr i))(he:PD X Xw e δ)(m:M1 X (.Name x p) "update" T0 e bh)(hs:Vg (.Call (.Attribute (.Name x p) "update" T0) [e] [] bh) none pos.line X.env=pure false:=by rfl):
 gT X Xw (.Expr (.Call (.Attribute (.Name x p) "update" T0) [e] [] bh) pos) (Ba i δ):=λu8 YC=>PS.weak (oC (IW (by omega) hv he m) hs) λD σ H ⟨F,Z,s,w⟩=>by
 unfold Ba at w;split at w
 ·rename_i ks ds HR;have hi:=ma HR;obtain⟨v,Np,a,oh,rfl,hH,hF,vs,rfl,hd,hl,hz⟩:=s.st.den i _ hi;refine⟨.ref a,Np,a,rfl, .inr ⟨_, .inl hH⟩,F,Z,s.st,?_⟩;rcases(δ Z).cs with q | ⟨n,q⟩ | ⟨d,q⟩
  ·rw[q] at w;exact w.elim
  ·rw[q] at w⊢;exact λF' H' e'=>w F' H' (s.ext.trans e')
  ·rw[q] at w⊢;intro u H1 F1 e1 hq;have w:WPS X.K Xw u8 YC (match Ed ks ds d with | some c'=>aa (.nx (Z.set i (some (.ow c')))) | none=>af) D:=w;cases d with
   |dct ks' ds'=>
    obtain⟨b,ob,vs',rfl,k2,k3,k4,k5⟩:=hq;cases hc:Ed ks ds (.dct ks' ds') with
    |none=>rw[hc] at w;exact w.elim
    |some c'=>
     rw[hc] at w;have hc:(match fK ks' with | some ns=>if ds.length+ds'.length<=lim/\(ks.isEmpty=true->(ns.map fV).Nodup) then some (C.dct (b9 ks ds ks' ds').1 (b9 ks ds ks' ds').2) else none | none=>none)=some c':=hc;cases hn:fK ks' with
     |none=>rw[hn] at hc;cases hc
     |some ns=>
      rw[hn] at hc;have hc:(if ds.length+ds'.length<=lim/\(ks.isEmpty=true->(ns.map fV).Nodup) then some (C.dct (b9 ks ds ks' ds').1 (b9 ks ds ks' ds').2) else none)=some c':=hc;split at hc
      ·rename_i Kc;cases hc;have OO:=DenL.mono e1.ff hd;have l1:=OO.len;have l2:=k3.len;have MR:a≠b:=λz=>by
        have:=e1.old hH (λ_ z=>nomatch z);rw[hF,z,k2] at this;cases this
       obtain⟨ws,m1,m2,m3⟩:=pJ k3 k4 OO hl;refine⟨b,ks.zip vs,ks'.zip vs',ns,rfl,e1.hh _ _ hH, .inr ⟨ob,e1.fh _ _ k2⟩,MR,by rw[ir (by rw[k4];exact l2),lV hn],λz=>Kc.2 ?_,?_,?_⟩
       ·have:=ir (a:=ks) (b:=vs) (by rw[hl];exact l1);rw[z] at this;rw[<-this];rfl
       ·rw[VE,VE];have:=cY;omega
       ·rw[m1];exact w σ F1 _ ((s.ext' e1).chg (c₀:= .dct (b9 ks ds ks' ds').1 (b9 ks ds ks' ds').2) hi Np ⟨ws,rfl,m2,m3,by have:=pK (ks':=ks') (ds':=ds') hl;omega⟩)
      ·cases hc
   |_=>exact w.elim
 ·exact w.elim
end
section
variable{x:Str}
def getM(d k v:D):M D:=match Br d k with
 |some (some x)=>aa x
 |some none=>aa v
 |none=>af
end
section
variable{a:Expr}
end
def xS:List Nat->Gz
 |[]=>J4
 |i::is=>GN (jQ i) (xS is)
def yG:List Nat->List D->aU->aU
 |i::is,d::ds,Z=>yG is ds (Z.set i (some (.fz d)))
 |_,_,Z=>Z
def sx(is:List Nat):D->aU->Option aU
 | .tup ds,Z=>if ds.length=is.length then some (yG is ds Z) else none
 |_,_=>none
theorem sI{K:Se}{u8 YC F H:Hp}{Q:St->Hp->Prop}:∀(is:List Nat) (ds:List D) (vs:List V) (σ:St) (Z:aU),ds.length=is.length->StOk K u8 YC F H σ Z->DenL K F ds vs->(∀σ',StOk K u8 YC F H σ' (yG is ds Z)->Q σ' H)->xS is vs σ H Q
 |[],[],vs,σ,Z,_,s,h,k=>⟨h,k σ s⟩
 |i::is,d::ds,vs,σ,Z,hl,s,⟨v,r,e,h1,h2⟩,k=>by
  subst e;exact⟨v,r,rfl,sI is ds r _ _ (by simpa using hl) (s.set h1) h2 k⟩
 |[],_::_,_,_,_,hl,_,_,_=>by simp at hl
 |_::_,[],_,_,_,hl,_,_,_=>by simp at hl
theorem zQ{K:Se}{is:List Nat}:By K (J5 K is.length (xS is)) (sx is):=λu8 YC F H σ Z Z' d v Q s q e k=>by
 unfold sx at e;split at e
 ·rename_i ds;split at e
  ·rename_i hl;cases e;obtain⟨a,vs,rfl,hs,hd,_⟩:=q;exact⟨a,vs,rfl,SqT.of (s.st.fh _ _ hs),by rw[<-hd.len];exact hl,sI is ds vs σ Z hl s hd k⟩
  ·cases e
 ·cases e
section
variable{prog:SJ}{w:World}
abbrev Pf(prog:SJ)(w:World):HeapKind prog w (List Key):=Ui (ba prog w)
theorem DictOfH.at'{h h':Heap}{d:Addr}{xs:List (List Key×Addr×Value)}(x:h.DictOfH (Pf prog w) d xs)(k:∀c o,h.get? c=some o->(c=d\/∃y∈xs,y.2.1=c)->h'.get? c=some o):h'.DictOfH (Pf prog w) d xs:=by
 obtain⟨o,es,ep,h1,h2,h3,h4,h5,h6⟩:=x;refine⟨o,es,ep,k _ _ h1 (.inl rfl),h2,h3,h4,λy hy=>?_,h6⟩;obtain⟨oa,items,n,a1,a2⟩:=h5 y hy;exact⟨oa,items,n,k _ _ a1 (.inr ⟨y,hy,rfl⟩),a2⟩
end
section
end
mutual
def rF:D->Bool
 | .non=>true
 | .bl _=>true
 | .int _=>true
 | .str _=>true
 | .tup ds=>o3 ds
 | .lst ds=>o3 ds
 | .raw _=>false
 | .exc _=>false
 | .scr _=>false
 | .dct _ _=>false
 | .dci _ _=>false
def o3:List D->Bool
 |[]=>true
 |d::ds=>rF d&&o3 ds
end
def BX(d:D):M D:=if rF d then aa d else af
def kX(Z:aU):Bool:=Z.all λx=>match x with
 |some (.ow (.lst _))=>false
 |_=>true
theorem C_{Z:aU}{i:Nat}{ds:List D}(h:kX Z=true)(e:Z[i]? =some (some (.ow (.lst ds)))):False:=by
 have:=SA.mp h _ (Sz e);cases this
def Jw(δ:DE):DE:=λZ=>if kX Z then noex (δ (Bt Z))>>=BX else af
section
variable{K:Se}{F H F' H':Hp}{σ:St}{Z:aU}{h:Heap}{b:Addr}
theorem OwnAt.dict(S:StE K F H σ Z)(hd:kX Z=true)(p:OwnAt σ Z b):∃o,H b=some o/\((∃x,o= .dT x)\/∃x,o= .dK x):=by
 obtain⟨i,c,h1,h2⟩:=p;obtain⟨v,h3,a,o,rfl,h4,h5,h6⟩:=S.den i _ h1;rw[h3] at h2;cases h2;refine⟨o,h4,?_⟩;cases c with
 |lst ds=>exact(C_ hd h1).elim
 |dct ks ds=>obtain⟨vs,rfl,_⟩:=h6;exact .inl ⟨_,rfl⟩
 |dci ks ds=>obtain⟨vs,rfl,_⟩:=h6;exact .inr ⟨_,rfl⟩
open Classical in
theorem zE(S:StE K F H σ Z)(hd:kX Z=true)(E:Ext (fA σ Z (refA h (OwnAt σ Z) H) F) (refA h (OwnAt σ Z) H) F' H'){a:Addr}{o:HO}(e:F' a=some o)(eK:∀q u,o≠ .frz q u):(if OwnAt σ Z a then none else F' a)=some o:=by
 rw[Yh,e];intro hp;obtain⟨o',k1,k2⟩:=OwnAt.dict S hd hp;have k3:fA σ Z (refA h (OwnAt σ Z) H) F a=some (nP ((h.get? a).getD {cls:= .none,data:= .fields #[]}) o'):=by
  unfold fA refA;rw[Yg hp,Yg hp,k1];rfl
 have k4:=E.ff a _ k3;rw[e] at k4;rcases k2 with⟨x,rfl⟩ | ⟨x,rfl⟩<;>cases k4<;>exact eK _ _ rfl
open Classical in
mutual
theorem vq(S:StE K F H σ Z)(hd:kX Z=true)(E:Ext (fA σ Z (refA h (OwnAt σ Z) H) F) (refA h (OwnAt σ Z) H) F' H'):∀{d:D}{v:V},rF d=true->Den K F' d v->Den K (λb=>if OwnAt σ Z b then none else F' b) d v
 | .non,_,_,q=>q
 | .bl _,_,_,q=>q
 | .int _,_,_,q=>q
 | .str _,_,_,q=>q
 | .tup ds,_,f,⟨a,vs,h1,h2,h3,h4⟩=>⟨a,vs,h1,zE S hd E h2 (λ_ _ z=>nomatch z),lQ S hd E f h3,h4⟩
 | .lst ds,_,f,⟨a,vs,h1,h2,h3,h4⟩=>⟨a,vs,h1,zE S hd E h2 (λ_ _ z=>nomatch z),lQ S hd E f h3,h4⟩
 | .raw _,_,f,_=>by cases f
 | .exc _,_,f,_=>by cases f
 | .scr _,_,f,_=>by cases f
 | .dct _ _,_,f,_=>by cases f
 | .dci _ _,_,f,_=>by cases f
theorem lQ(S:StE K F H σ Z)(hd:kX Z=true)(E:Ext (fA σ Z (refA h (OwnAt σ Z) H) F) (refA h (OwnAt σ Z) H) F' H'):∀{ds:List D}{vs:List V},o3 ds=true->DenL K F' ds vs->DenL K (λb=>if OwnAt σ Z b then none else F' b) ds vs
 |[],_,_,q=>q
 |d::ds,_,f,⟨v,r,h1,h2,h3⟩=>by
  unfold o3 at f;rw[SX] at f;exact⟨v,r,h1,vq S hd E f.1 h2,lQ S hd E f.2 h3⟩
end
end
section
variable{X:Cx}{Xw:Nat->Hp->Prop}{e:Expr}{δ:DE}
theorem Lc(h:PD X Xw e δ):PD X Xw e (Jw δ):=λf8 s σ H Q I ⟨F,Z,S,w⟩=>by
 classical
 have w:WP X.K Xw F H (if kX Z then noex (δ (Bt Z))>>=BX else af) Q:=w;by_cases hd:kX Z=true
 ·rw[Yg hd] at w;rcases g8 (δ (Bt Z)) with q | ⟨d,q,q2⟩
  ·rw[q] at w;exact w.elim
  ·rw[q2,av] at w;unfold BX at w;split at w
   ·rename_i hf;refine bX (h f8 s σ _ (λv H'=>Q v (unA (OwnAt σ Z) H')/\∀c,OwnAt σ Z c->∀o u,H' c=some (.frz o u)->(∃k,u= .dT k)\/∃k,u= .dK k) (Inv.refA (P:=OwnAt σ Z) I) ⟨_,_,B9 (h:=s.heap) S,?_⟩) λu s' ⟨v,H',I',r,q1,q3⟩=>⟨v,_,Inv.unA I' (sj I S) q3,r,q1⟩
    rw[q];intro v H' F' E k;obtain⟨E1,q3⟩:=vI S E;exact⟨w _ _ _ E1 (vq S hd E hf k),q3⟩
   ·exact w.elim
 ·rw[Yh hd] at w;exact w.elim
end
def zY(τ:DT):DT:=λZ=>noex (τ (Bt Z))
section
variable{a b:Expr}
theorem uX{x y:Str}(h:x.cps.toList=y.cps.toList):x=y:=by
 obtain⟨⟨a⟩⟩:=x;obtain⟨⟨b⟩⟩:=y;cases (show a=b from h);rfl
end
def xW(x:Int):List Int->List Int
 |[]=>[x]
 |y::r=>if x<=y then x::y::r else y::xW x r
def ji:List Int->List Int
 |[]=>[]
 |x::r=>xW x (ji r)
theorem lU(x:Int):∀l,(xW x l).Perm (x::l)
 |[]=>Wr _
 |y::r=>by
  unfold xW;split
  ·exact Wr _
  ·exact((lU x r).cons y).trans (List.Perm.swap ..)
theorem fR:∀l,(ji l).Perm l
 |[]=>Wr _
 |x::r=>(lU x (ji r)).trans ((fR r).cons x)
theorem vL{x:Int}:∀{l:List Int},l.Pairwise (· <= ·)->(xW x l).Pairwise (· <= ·)
 |[],_=>by simp[xW]
 |y::r,h=>by
  rw[SO] at h;unfold xW;split
  ·rename_i hx;refine SO.mpr ⟨λz hz=>?_,SO.mpr h⟩;rcases Sf.mp hz with rfl | hz
   ·exact hx
   ·exact Int.le_trans hx (h.1 z hz)
  ·rename_i hx;refine SO.mpr ⟨λz hz=>?_,vL h.2⟩;rcases Sf.mp ((lU x r).mem_iff.mp hz) with rfl | hz
   ·omega
   ·exact h.1 z hz
theorem mx:∀l,(ji l).Pairwise (· <= ·)
 |[]=>VB
 |x::r=>vL (mx r)
theorem ue:∀{a b:List Int},a.Perm b->a.Pairwise (· <= ·)->b.Pairwise (· <= ·)->a=b
 |[],b,h,_,_=>(List.nil_perm.mp h).symm
 |x::a,[],h,_,_=>Ym (List.perm_nil.mp h) (by simp)
 |x::a,y::b,h,h1,h2=>by
  rw[SO] at h1 h2;have e:x=y:=by
   have m1:x∈y::b:=h.mem_iff.mp (R1 ..);have m2:y∈x::a:=h.mem_iff.mpr (R1 ..);rcases Sf.mp m1 with z | z
   ·exact z
   ·rcases Sf.mp m2 with z' | z'
    ·exact z'.symm
    ·have:=h1.1 y z';have:=h2.1 x z;omega
  subst e;rw[ue (List.Perm.cons_inv h) h1.2 h2.2]
theorem nv:∀{us:List Value}{ns:List Int},U2 us ns->Vals (ns.map V.int) us
 |_,_, .nil=> .nil
 |_,_, .cons n t h=> .cons ⟨t,rfl⟩ (nv h)
section
theorem rG{K:Se}{F:Hp}:∀{xs:List Int},DenL K F (xs.map D.int) (xs.map V.int)
 |[]=> .nil
 |x::r=> .cons rfl rG
end
section
variable{a:Expr}
end
section
theorem qC:∀{xs:List V}{us:List Value},xs.length=us.length->(∀(i:Nat) x u,xs[i]? =some x->us[i]? =some u->RelV x u)->Vals xs us
 |[],[],_,_=> .nil
 |x::xs,u::us,hl,h=> .cons (h 0 x u rfl rfl) (qC (by simpa using hl) λi y v e1 e2=>h (i+1) y v (by simpa using e1) (by simpa using e2))
end
end L3
namespace L3
open PySem PySem.SetTable
def iK(m b:Nat):Nat->Nat×Nat
 |0=>(b % (m+1),b)
 |k+1=>leap m (iK m b k).1 (iK m b k).2
def JG(m i:Nat):Nat:=(i*5+1) % (m+1)
def it(m:Nat):Nat->Nat->Nat
 |0,x=>x
 |n+1,x=>JG m (it m n x)
theorem pq(m:Nat):∀a b x,it m (a+b) x=it m a (it m b x)
 |0,b,x=>by rw[VJ];rfl
 |a+1,b,x=>by rw[X9];show JG m _=JG m _;rw[pq m a b x]
theorem KD(m b:Nat):∀k,(iK m b k).2=b / 32 ^ k
 |0=>by simp[iK]
 |k+1=>by
  show (iK m b k).2 / 32=_;rw[KD m b k,Xr,Nat.pow_succ]
theorem zp{m b:Nat}(hb:b<2 ^ 64):∀k,(iK m b (k+13)).1=it m k (iK m b 13).1
 |0=>by rw[VJ];rfl
 |k+1=>by
  rw[X9];have hq:(iK m b (k+13)).2 / 32=0:=by
   rw[KD];refine Nat.div_eq_of_lt ?_;refine Ug (m:=b / 32 ^ 13) ?_ ?_
   ·rw[Nat.pow_add,Nat.mul_comm,<-Xr];exact Nat.div_le_self ..
   ·have:b / 32 ^ 13<1:=Nat.div_lt_of_lt_mul (by omega);omega
  show ((iK m b (k+13)).1*5+1+(iK m b (k+13)).2 / 32) % (m+1)=JG m _;rw[hq,zp hb k];rfl
def Mx(m:Nat):Prop:=m=7\/m=31\/m=127
def NP(m:Nat):Nat->Nat->List Nat
 |0,_=>[]
 |n+1,x=>x::NP m n (JG m x)
theorem yu(m:Nat):∀(n x j:Nat),j∈NP m n x->∃a,a<n/\it m a x=j
 |0,x,j,h=>by cases h
 |n+1,x,j,h=>by
  rcases Sf.mp h with rfl | h
  ·exact⟨0,by omega,rfl⟩
  ·obtain⟨a,ha,e⟩:=yu m n (JG m x) j h;exact⟨a+1,by omega,by rw[pq m a 1 x];exact e⟩
theorem Fz{m:Nat}(hm:Mx m):(∀j,j<m+1->j∈NP m (m+1) 0)/\it m (m+1) 0=0:=by
 rcases hm with rfl | rfl | rfl
 ·exact⟨by decide+kernel,by decide+kernel⟩
 ·exact⟨by decide+kernel,by decide+kernel⟩
 ·exact⟨by decide+kernel,by decide+kernel⟩
theorem PK{m:Nat}(hm:Mx m){i j:Nat}(hi:i<m+1)(hj:j<m+1):∃n,n<=m/\it m n i=j:=by
 obtain⟨h1,h2⟩:=Fz hm;obtain⟨a,ha,rfl⟩:=yu m _ 0 i (h1 i hi);obtain⟨b,hb,rfl⟩:=yu m _ 0 j (h1 j hj);by_cases h:a<=b
 ·exact⟨b - a,by omega,by rw[<-pq,Nat.sub_add_cancel h]⟩
 ·refine⟨m+1 - a+b,by omega,?_⟩;rw[<-pq,show m+1 - a+b+a=b+(m+1) by omega,pq,h2]
theorem KC(m b k:Nat):(iK m b k).1<m+1:=by
 cases k with
 |zero=>exact W_ _ (by omega)
 |succ k=>exact W_ _ (by omega)
theorem reach{m b:Nat}(hm:Mx m)(hb:b<2 ^ 64){j:Nat}(hj:j<m+1):∃k,k<=m+13/\(iK m b k).1=j:=by
 obtain⟨n,hn,e⟩:=PK hm (KC m b 13) hj;exact⟨n+13,by omega,by rw[zp hb,e]⟩
def vals(o:Array (Option Nat))(n:Nat):List Nat:=(Sn n).filterMap λj=>o.getD j none
end L3
namespace L3
open PySem PySem.Spec L2 HT
open PyProof.Rows hiding St
theorem items_int{P:SJ}{w:World}:∀{us:List Value}{ns:List Int},U2 us ns->ItemsAre (intKind P w) ns us
 |_,_, .nil=> .nil
 |_,_, .cons n t h=> .cons (intKind_is _ _ _ _) (items_int h)
section
theorem vw{K:Se}{F:Hp}:∀l:List Nat,DenL K F (l.map λ(i:Nat)=>D.int (i:Int)) (l.map λ(i:Nat)=>V.int (i:Int))
 |[]=> .nil
 |c::l=> .cons rfl (vw l)
end
end L3
namespace L3
open PySem PySem.Spec L2
open PyProof.Rows hiding St
section
end
end L3
namespace L3
open PySem PySem.Spec L2 SeqAt HT
open PyProof.Rows hiding St
section
end
section
variable{a:Expr}
end
end L3
namespace L3
open PySem PySem.Spec L2 HT
open PyProof.Rows hiding St
section
end
end L3
namespace L3
open PySem PySem.Spec L2 SeqAt HT
open PyProof.Rows hiding St
section
variable{X:Cx}{f8:List (Addr×Obj)}{σ:St}{H:Hp}{s:R8}{a:Addr}{kvs:List (Key×V)}{k:Key}{z:V}{u r:Value}{A:S1}{E:Value->R8->Prop}
theorem BV{Q:Value->R8->Prop}(I:Inv X f8 σ H s)(e:H a=some (.dK kvs))(ry:RelV (kV k) u)(rz:RelV z r)(hl:kvs.length<Sv)
 (h1:∀v w' s',eS kvs k=some v->Inv X f8 σ H s'->RelV v w'->Q w' s')
 (h2:∀s',eS kvs k=none->Inv X f8 σ (upd H a (.dK (putK kvs k z))) s'->Q r s'):
 wpAny (model X.prog X.w) A (call (.builtin "dict.setdefault") [.ref a,u,r]) Q E s:=by
 obtain⟨zz,hd,vs,rel,dd⟩:=B0 I.hok e;have hz:vs.length<=Sv:=by rw[<-rel.length];exact zz
 have Eo:(putK kvs k z).length<=Sv:=by have:=dP kvs k z;omega
 have rv:=rel.val k;refine call_meetsIn Wj dd.typeIs PySem.F.entry_dict_setdefault (PySem.F.args_dict_setdefault_3 _ _ _) (kt_meets_setdefault (ba X.prog X.w) a (pz ry) hd r) ⟨vs,dd,hz,λv hv=>?_,λhn h' zb hs=>?_⟩
 ·cases q:eS kvs k with
  |none=>rw[q] at rv;rw[RelO.none_of rv] at hv;cases hv
  |some v0=>
   rw[q] at rv;obtain⟨w',hw,zT⟩:=RelO.some_of rv;rw[hw] at hv;cases hv;exact h1 v0 _ _ q (I.tok _) zT
 ·cases q:eS kvs k with
  |some v0=>rw[q] at rv;obtain⟨w',hw,_⟩:=RelO.some_of rv;rw[hw] at hn;cases hn
  |none=>
   have he:∃q,h'.get? a=some q:=let ⟨q,_,_,hq,_⟩:=zb;⟨q,hq⟩
   exact h2 _ q (jv I (by rw[e];exact TZ) hs he (xK Eo hd (rel.put k rz) zb))
end
section
variable{X:Cx}{o e f:Expr}{T0 bh:Pos}{td ty tx:TE}
def Hc(td ty tx:TE):TE:=λσ H Q=>td σ H λx H1=>∃a,x= .ref a/\Mu H1 a/\ty σ H1 λy H2=>tx σ H2 λz H3=>∃kvs k,H3 a=some (.dK kvs)/\y=kV k/\kvs.length<Sv/\
 (∀v,eS kvs k=some v->Q v H3)/\(eS kvs k=none->Q z (upd H3 a (.dK (putK kvs k z))))
theorem FP(ho:PE X o td)(he:PE X e ty)(hf:PE X f tx)(m:M2 X o "setdefault" T0 e f bh):PE X (.Call (.Attribute o "setdefault" T0) [e,f] [] bh) (Hc td ty tx):=by
 intro f8 s σ H Q I h;refine wpAny_Call_method m.base m.few m.line WR Wj PySem.F.type_dict_setdefault (bX (ho f8 s σ H _ I h) λu s1 ⟨x,H1,I1,rx,a,ex,d,q1⟩=>?_);subst ex;obtain rfl:u=SY a:=rx;obtain⟨t1,t2,_⟩:=Cy I1 d;refine⟨t1,t2,?_⟩;rw[m.trees];refine Vv rfl (VP (Ud (bX (he f8 s1 σ H1 _ I1 q1) λiv s2 ⟨y,H2,I2,ry,q2⟩=>
  Ud (bX (hf f8 s2 σ H2 _ I2 q2) λfv s3 ⟨z,H3,I3,rz,kvs,k,e1,ey,hl,g1,g2⟩=>UL ?_))))
 subst ey;exact BV I3 e1 ry rz hl (λv w' s' q I4 r4=>⟨v,H3,I4,r4,g1 v q⟩) λs' q I4=>⟨z,_,I4,rz,g2 q⟩
end
abbrev oG:=List (Key×List Key)
def qT(ks:List Key)(k:Key):Bool:=ks.any λx=>decide (x=k)
theorem kG{ks:List Key}{k:Key}:qT ks k=true↔k∈ks:=by
 unfold qT;rw[List.any_eq_true];exact⟨λ⟨x,h1,h2⟩=>(Yk h2)▸h1,λh=>⟨k,h,Yi rfl⟩⟩
def uK(ps:oG)(k:Key):oG:=if qT (ps.map (·.1)) k then ps else ps++[(k,[])]
def oH(ps:oG)(k j:Key):oG:=ps.map λp=>if p.1=k then(p.1,if qT p.2 j then p.2 else p.2++[j]) else p
def vb(ps:oG):Bool:=decide (ps.length<lim)&&ps.all λp=>decide (p.2.length<lim)
def inD(ks:List Key):D:= .dci ks (ks.map λ_=> .bl true)
def eQ(ps:oG):D:= .dci (ps.map (·.1)) (ps.map λp=>inD p.2)
def j7(oi:Nat)(tc:DT)(δk:DE)(k:Key)(Z:aU):List D->oG->M oG
 |[],ps=>aa ps
 |d::ds,ps=>noex (tc (Z.set oi (some (.fz d))))>>=λb=>if b then noex (δk (Z.set oi (some (.fz d))))>>=λkd=>match pB kd with
   |some j=>if vb ps then j7 oi tc δk k Z ds (oH ps k j) else af
   |none=>af
  else j7 oi tc δk k Z ds ps
def fN(ci oi:Nat)(δk:DE)(δj:DA)(tc:DT)(δk2:DE)(Z:aU):List D->oG->M oG
 |[],ps=>aa ps
 |d::ds,ps=>noex (δk (Z.set ci (some (.fz d))))>>=λkd=>match pB kd with
   |some k=>if vb ps then noex (δj (Z.set ci (some (.fz d))))>>=λes=>j7 oi tc δk2 k (Z.set ci (some (.fz d))) es (uK ps k)>>=λjM=>fN ci oi δk δj tc δk2 Z ds jM else af
   |none=>af
def oI(Z:aU):Bool:=Z.all λx=>match x with | some (.ow _)=>false | _=>true
def wQ(ni ci mi oi:Nat)(δi:DA)(δk:DE)(δj:DA)(tc:DT)(δk2:DE):DS:=λZ=>match q9 Z ni with
 |some (.dci [] [])=>if oI (fgt [ni,ci,mi,oi] Z) then noex (δi (fgt [ni,ci,mi,oi] Z))>>=λds=>noex (fN ci oi δk δj tc δk2 (fgt [ni,ci,mi,oi] Z) ds [])>>=λps=>
   if vb ps then aa (.nx ((fgt [ni,ci,mi,oi] Z).set ni (some (.fz (eQ ps))))) else af else af
 |_=>af
theorem Ext.of_chg{u8 YC F H:Hp}{b:Addr}{o:HO}(e:Ext u8 YC F H)(h1:F b=none)(h2:YC b=none):Ext u8 YC F (upd H b o):=
 ⟨λc u q=>by rw[ax (λz=>by rw[z,h2] at q;cases q)];exact e.hh c u q,e.ff,λc u q=>by rw[ax (λz=>by rw[z,h1] at q;cases q)];exact e.fh c u q,e.new⟩
theorem StE.fzH{K:Se}{F H H':Hp}{σ:St}{Z:aU}(s:StE K F H σ Z)(h:oI Z=true)(e:Same F H'):StE K F H' σ Z:=
 ⟨e,λi sl q=>by
  obtain⟨v,h1,h2⟩:=s.den i sl q;refine⟨v,h1,?_⟩;cases sl with
  |fz d=>exact h2
  |ow c=>have:=SA.mp h _ (Sz q);cases this⟩
theorem get_set{α:Type}{l:List (Option α)}{i j:Nat}{x:Option α}{y:α}(h:(l.set i x)[j]? =some (some y)):(j=i/\x=some y)\/(j≠i/\l[j]? =some (some y)):=by
 by_cases hj:j=i
 ·subst hj;have hi:j<l.length:=by have:=(Sb.mp h).1;simpa using this
  rw[So hi] at h;exact .inl ⟨rfl,SS h⟩
 ·rw[Sh (S9 hj)] at h;exact .inr ⟨hj,h⟩
theorem lK{Z:aU}(h:oI Z=true)(i:Nat){x:Option Sl}(hx:∀c,x≠some (.ow c)):oI (Z.set i x)=true:=SA.mpr λy hy=>by
 rcases List.mem_or_eq_of_mem_set hy with q | q
 ·exact SA.mp h y q
 ·subst q
  match y,hx with
  |none,_=>rfl
  |some (.fz d),_=>rfl
  |some (.ow c),hx=>exact Ym rfl (hx c)
structure Nr (K:Se) (u8 YC G F H:Hp) (σ:St) (Z:aU) (ni:Nat) (a:Addr) (bs:List Addr) (ps:oG):Prop where
 ext:Ext u8 YC F H
 gf:Same G F
 st:StE K F H σ Z
 len:Z.length=σ.length
 near:σ[ni]? =some (some (.ref a))
 ha:H a=some (.dK ((ps.map (·.1)).zip (bs.map V.ref)))
 hb:∀(i:Nat) (b:Addr) (p:Key×List Key),bs[i]? =some b->ps[i]? =some p->H b=some (.dK (p.2.map λk=>(k,V.bl true)))
 sz:bs.length=ps.length
 nd:(a::bs).Nodup
 fr:∀b∈a::bs,F b=none/\YC b=none
 fz:oI Z=true
section
variable{K:Se}{u8 YC G G' F H F' H':Hp}{σ:St}{Z:aU}{ni:Nat}{a:Addr}{bs:List Addr}{ps:oG}
theorem Nr.at(n:Nr K u8 YC G F H σ Z ni a bs ps){b:Addr}(hb:b∈a::bs):∃kvs,H b=some (.dK kvs):=by
 rcases Sf.mp hb with rfl | hb
 ·exact⟨_,n.ha⟩
 ·obtain⟨i,hi,rfl⟩:=Uz hb;exact⟨_,n.hb i _ (ps[i]'(by rw[<-n.sz];exact hi)) (R6 hi) (R6 _)⟩
theorem Nr.ext'(n:Nr K u8 YC G F H σ Z ni a bs ps)(e:Ext F H F' H'):Nr K u8 YC G F' H' σ Z ni a bs ps:=
 ⟨n.ext.trans e,n.gf.trans e.ff,n.st.ext e,n.len,n.near,e.hh _ _ n.ha,λi b p h1 h2=>e.hh _ _ (n.hb i b p h1 h2),n.sz,n.nd,λb hb=>by
  obtain⟨kvs,hk⟩:=n.at hb;exact⟨by rw[e.old hk λts z=>nomatch z];exact(n.fr b hb).1,(n.fr b hb).2⟩,n.fz⟩
theorem Nr.rg(n:Nr K u8 YC G F H σ Z ni a bs ps)(e:Same G' F):Nr K u8 YC G' F H σ Z ni a bs ps:=⟨n.ext,e,n.st,n.len,n.near,n.ha,n.hb,n.sz,n.nd,n.fr,n.fz⟩
theorem Nr.put(n:Nr K u8 YC G F H σ Z ni a bs ps){j:Nat}(hj:j≠ni){d:D}{v:V}(h:Den K F d v):Nr K u8 YC G F H (σ.set j (some v)) (Z.set j (some (.fz d))) ni a bs ps:=
 ⟨n.ext,n.gf,⟨n.st.fh,λi sl q=>by
  rcases get_set q with⟨rfl,e⟩ | ⟨eK,q⟩
  ·cases e;have hi:i<Z.length:=by have:=(Sb.mp q).1;simpa using this
   exact⟨v,by rw[So (by rw[<-n.len];exact hi)],h⟩
  ·obtain⟨u,h1,h2⟩:=n.st.den i sl q;exact⟨u,by rw[Sh (S9 eK)];exact h1,h2⟩⟩,by simp[n.len],by rw[Sh hj];exact n.near,n.ha,n.hb,n.sz,n.nd,n.fr,lK n.fz _ (λc z=>nomatch z)⟩
theorem Nr.put0(n:Nr K u8 YC G F H σ Z ni a bs ps){j:Nat}(hj:j≠ni)(v:V):Nr K u8 YC G F H (σ.set j (some v)) (Z.set j none) ni a bs ps:=
 ⟨n.ext,n.gf,⟨n.st.fh,λi sl q=>by
  rcases get_set q with⟨rfl,e⟩ | ⟨eK,q⟩
  ·cases e
  ·obtain⟨u,h1,h2⟩:=n.st.den i sl q;exact⟨u,by rw[Sh (S9 eK)];exact h1,h2⟩⟩,by simp[n.len],by rw[Sh hj];exact n.near,n.ha,n.hb,n.sz,n.nd,n.fr,lK n.fz _ (λc z=>nomatch z)⟩
theorem Nr.fgt0(n:Nr K u8 YC G F H σ Z ni a bs ps)(j:Nat):Nr K u8 YC G F H σ (Z.set j none) ni a bs ps:=
 ⟨n.ext,n.gf,⟨n.st.fh,λi sl q=>by
  rcases get_set q with⟨rfl,e⟩ | ⟨eK,q⟩
  ·cases e
  ·exact n.st.den i sl q⟩,by simp[n.len],n.near,n.ha,n.hb,n.sz,n.nd,n.fr,lK n.fz _ (λc z=>nomatch z)⟩
theorem tV{α β:Type}{l:List α}{i:Nat}{f:α->β}{y:β}(h:(l.map f)[i]? =some y):∃x,l[i]? =some x/\f x=y:=by
 rw[Sj] at h;exact W7.mp h
theorem A8(ks:List Key)(j:Key):putK (ks.map λk=>(k,V.bl true)) j (V.bl true)=(if qT ks j then ks else ks++[j]).map λk=>(k,V.bl true):=by
 unfold putK;have e:((ks.map λk=>(k,V.bl true)).any λkv=>decide (kv.1=j))=qT ks j:=by
  rw[WL,List.any_eq_true,kG];constructor
  ·rintro⟨kv,h1,h2⟩;obtain⟨k,hk,rfl⟩:=Sm.mp h1;exact(Yk h2:k=j)▸hk
  ·exact λh=>⟨(j,V.bl true),Sm.mpr ⟨j,h,rfl⟩,by simp⟩
 rw[e];by_cases hj:qT ks j=true
 ·rw[Yg hj,Yg hj,SF];refine TJ λk _=>?_;show (if k=j then(k,V.bl true) else(k,V.bl true))=_;split<;>rfl
 ·rw[Yh hj,Yh hj,SE];rfl
theorem vf(ps:oG)(k j:Key):(oH ps k j).map (·.1)=ps.map (·.1):=by
 unfold oH;rw[SF];refine TJ λp _=>?_;show (if p.1=k then(p.1,_) else p).1=p.1;split<;>rfl
theorem Nr.add(n:Nr K u8 YC G F H σ Z ni a bs ps)(kn:(ps.map (·.1)).Nodup){i:Nat}{b:Addr}{p:Key×List Key}(hi:bs[i]? =some b)(hp:ps[i]? =some p)(j:Key):
 Nr K u8 YC G F (upd H b (.dK (putK (p.2.map λk=>(k,V.bl true)) j (V.bl true)))) σ Z ni a bs (oH ps p.1 j):=by
 have hm:b∈a::bs:=R4 _ (Sz hi);have eK:a≠b:=λz=>(S2.mp n.nd).1 (z▸Sz hi);have e:=n.ext.of_chg (o:= .dK (putK (p.2.map λk=>(k,V.bl true)) j (V.bl true))) (n.fr b hm).1 (n.fr b hm).2;refine⟨e,n.gf,n.st.fzH n.fz e.fh,n.len,n.near,?_,λi' b' p' h1 h2=>?_,by rw[n.sz];simp[oH],n.nd,n.fr,n.fz⟩
 ·rw[ax eK,vf];exact n.ha
 ·obtain⟨q,hq,rfl⟩:=tV (show (ps.map _)[i']? =_ from h2);by_cases M3:i'=i
  ·subst M3;rw[hi] at h1;cases h1;rw[hp] at hq;cases hq;rw[aH,Yg rfl,A8]
  ·have EV:b'≠b:=λz=>by
    subst z;exact M3 ((Wk (Sb.mp h1).1 (S2.mp n.nd).2).mp (h1.trans hi.symm))
   have QR:q.1≠p.1:=λz=>by
    exact M3 ((Wk (by simpa using (Sb.mp hq).1) kn).mp (by rw[Sj,Sj,hq,hp];exact Yo some z))
   rw[ax EV,Yh QR];exact n.hb i' b' q h1 hq
theorem qB{κ:Type}[DecidableEq κ]:∀{ks:List κ}{vs:List V}(k:κ),ks.length=vs.length->
 (match eS (ks.zip vs) k with | some v=>∃i:Nat,ks[i]? =some k/\vs[i]? =some v | none=>k∉ks)
 |[],[],k,_=>by simp[eS]
 |k'::ks,v::vs,k,hl=>by
  rw[TV];by_cases e:k'=k
  ·rw[jr (p:=(k',v)) e];exact⟨0,by simp[e],rfl⟩
  ·rw[jq (p:=(k',v)) e];have:=qB (ks:=ks) (vs:=vs) k (by simpa using hl);cases q:eS (ks.zip vs) k with
   |none=>rw[q] at this;exact λz=>(Sf.mp z).elim (λz=>e z.symm) this
   |some u=>rw[q] at this;obtain⟨i,h1,h2⟩:=this;exact⟨i+1,by simpa using h1,by simpa using h2⟩
 |[],_::_,_,hl=>by simp at hl
 |_::_,[],_,hl=>by simp at hl
theorem wF{κ:Type}[DecidableEq κ]{kvs:List (κ×V)}{k:κ}{v:V}(h:eS kvs k=none):putK kvs k v=kvs++[(k,v)]:=by
 unfold putK;rw[jo,h];rfl
theorem Nr.new(n:Nr K u8 YC G F H σ Z ni a bs ps){p:Addr}(hp:H p=none){k:Key}(hk:eS ((ps.map (·.1)).zip (bs.map V.ref)) k=none):
 Nr K u8 YC G F (upd (upd H p (.dK [])) a (.dK (putK ((ps.map (·.1)).zip (bs.map V.ref)) k (.ref p)))) σ Z ni a (bs++[p]) (ps++[(k,[])]):=by
 have eK:∀b∈a::bs,b≠p:=λb hb z=>by
  obtain⟨kvs,h⟩:=n.at hb;rw[z,hp] at h;cases h
 have ha:=eK a R1;have e0:=n.ext.trans (Ext.free (o:= .dK []) n.st.fh hp);have hF:F p=none:=Same.free n.st.fh hp;have hH:YC p=none:=Same.free n.ext.hh hp;have e:=e0.of_chg (o:= .dK (putK ((ps.map (·.1)).zip (bs.map V.ref)) k (.ref p))) (n.fr a R1).1 (n.fr a R1).2;have nd:=S2.mp n.nd;refine⟨e,n.gf,n.st.fzH n.fz e.fh,n.len,n.near,?_,λi b q h1 h2=>?_,by simp[n.sz],?_,λb hb=>?_,n.fz⟩
 ·rw[aH,wF hk,SE,SE,VD (by simp[n.sz])];rfl
 ·by_cases hi:i<bs.length
  ·rw[SW hi] at h1;rw[SW (by rw[<-n.sz];exact hi)] at h2;have hm:=Sz h1;rw[ax (λz:b=a=>nd.1 (z▸hm)),ax (eK b (R4 _ hm))];exact n.hb i b q h1 h2
  ·have Kj:i=bs.length:=by
    have:=(Sb.mp h1).1;simp at this;omega
   subst Kj;rw[Uk] at h1;cases h1;rw[n.sz,Uk] at h2;cases h2;rw[ax (S9 ha),aH];rfl
 ·rw[S2,SD];refine⟨λz=>z.elim nd.1 λz=>ha (Sw.mp z),?_⟩;rw[Tb];exact⟨nd.2,by simp,λx hx y hy z=>eK x (R4 _ hx) (by rw[z];exact Sw.mp hy)⟩
 ·rcases Sf.mp hb with rfl | hb
  ·exact n.fr _ R1
  ·rcases SD.mp hb with hb | hb
   ·exact n.fr b (R4 _ hb)
   ·cases Sw.mp hb;exact⟨hF,hH⟩
theorem Nr.gar(n:Nr K u8 YC G F H σ Z ni a bs ps){p:Addr}(hp:H p=none):Nr K u8 YC G F (upd H p (.dK [])) σ Z ni a bs ps:=n.ext' (Ext.free n.st.fh hp)
end
theorem sC{X:Cx}{f8:List (Addr×Obj)}{σ:St}{s:R8}:∀{bs:List Addr}{H:Hp},Inv X f8 σ H s->bs.Nodup->(∀b∈bs,∃kvs,H b=some (.dK kvs))->
 ∃H',Inv X f8 σ H' s/\(∀b∈bs,∀kvs,H b=some (.dK kvs)->∃ob,H' b=some (.frz ob (.dK kvs)))/\∀c,c∉bs->H' c=H c
 |[],H,I,_,_=>⟨H,I,λb hb=>(nomatch hb),λ_ _=>rfl⟩
 |b::bs,H,I,nd,h=>by
  obtain⟨kvs,e⟩:=h b R1;have nd:=S2.mp nd;obtain⟨H',I',h1,h2⟩:=sC (bs:=bs) (L3.Inv.refrz I e (o':= .frz _ (.dK kvs)) (.inr ⟨_,rfl, .inr ⟨_,rfl,rfl⟩⟩)) nd.2 λc hc=>by
   rw[ax (λz:c=b=>nd.1 (z▸hc))];exact h c (R4 _ hc)
  refine⟨H',I',λc hc KP e'=>?_,λc hc=>?_⟩
  ·rcases Sf.mp hc with rfl | hc
   ·rw[e] at e';cases e';exact⟨_,by rw[h2 _ nd.1,aH]⟩
   ·exact h1 c hc KP (by rw[ax (λz:c=b=>nd.1 (z▸hc))];exact e')
  ·rw[h2 c λz=>hc (R4 _ z),ax λz:c=b=>hc (z▸R1)]
theorem Ef(ks:List Key):ks.map (λk=>(k,V.bl true))=ks.zip (ks.map λ_=>V.bl true):=by
 induction ks with
 |nil=>rfl
 |cons k ks ih=>rw[Sa,Sa,TV,ih]
theorem DenL.trues{K:Se}{F:Hp}:∀(ks:List Key),DenL K F (ks.map λ_=>D.bl true) (ks.map λ_=>V.bl true)
 |[]=>rfl
 |_::ks=> .cons rfl (DenL.trues ks)
theorem DenL.ins{K:Se}{F:Hp}:∀{ps:oG}{bs:List Addr},bs.length=ps.length->(∀(i:Nat) (b:Addr) (p:Key×List Key),bs[i]? =some b->ps[i]? =some p->Den K F (inD p.2) (.ref b))->DenL K F (ps.map λp=>inD p.2) (bs.map V.ref)
 |[],[],_,_=>rfl
 |p::ps,b::bs,hl,h=> .cons (h 0 b p rfl rfl) (DenL.ins (by simpa using hl) λi b' p' h1 h2=>h (i+1) b' p' (by simpa using h1) (by simpa using h2))
 |[],_::_,hl,_=>by simp at hl
 |_::_,[],hl,_=>by simp at hl
theorem Nr.fin{X:Cx}{f8:List (Addr×Obj)}{s:R8}{u8 YC G F H:Hp}{σ:St}{Z:aU}{ni:Nat}{a:Addr}{bs:List Addr}{ps:oG}(n:Nr X.K u8 YC G F H σ Z ni a bs ps)(I:Inv X f8 σ H s)(ok:vb ps=true):
 ∃F' H',Inv X f8 σ H' s/\StOk X.K u8 YC F' H' σ (Z.set ni (some (.fz (eQ ps)))):=by
 obtain⟨Pm,Ry⟩:=TY.mp ok;have Pm:=Yk Pm;obtain⟨H',I',h1,h2⟩:=sC I n.nd λb hb=>n.at hb
 let F':Hp:=λc=>if c∈a::bs then H' c else F c
 have f1:∀c,c∈a::bs->F' c=H' c:=λc hc=>Yg hc;have f2:∀c,c∉a::bs->F' c=F c:=λc hc=>Yh hc;have ff:Same F F':=λc u q=>by rw[f2 c λz=>by rw[(n.fr c z).1] at q;cases q];exact q
 have fh:Same F' H':=λc u q=>by
  by_cases z:c∈a::bs
  ·rw[f1 c z] at q;exact q
  ·rw[f2 c z] at q;rw[h2 c z];exact n.st.fh c u q
 have e:Ext u8 YC F' H':=⟨λc u q=>by rw[h2 c λz=>by rw[(n.fr c z).2] at q;cases q];exact n.ext.hh c u q,n.ext.ff.trans ff,fh,λc hc=>by
  have z:c∉a::bs:=λz=>hc (n.fr c z).2;rw[f2 c z];exact n.ext.new c hc⟩
 have hd:Den X.K F' (eQ ps) (.ref a):=by
  obtain⟨ob,HQ⟩:=h1 a R1 _ n.ha;refine⟨a,ob,bs.map V.ref,rfl,by rw[f1 a R1];exact HQ,DenL.ins n.sz λi b p q1 q2=>?_,by simp,by simp;omega⟩;have hm:b∈a::bs:=R4 _ (Sz q1);obtain⟨Rx,Ng⟩:=h1 b hm _ (n.hb i b p q1 q2);have:=Yk (SA.mp Ry p (Sz q2));exact⟨b,Rx,p.2.map λ_=>V.bl true,rfl,by rw[f1 b hm,Ng,Ef],DenL.trues _,by simp,by simp;omega⟩
 have K0:∀(i:Nat) (c:C),(Z.set ni (some (.fz (eQ ps))))[i]? ≠some (some (.ow c)):=λi c q=>by
  rcases get_set q with⟨_,z⟩ | ⟨_,q⟩
  ·cases z
  ·have:=SA.mp n.fz _ (Sz q);cases this
 refine⟨F',H',I',e,⟨fh,λi sl q=>?_⟩,by simp[n.len],λi c b q=>Ym q (K0 i c),λi j c c' b q=>Ym q (K0 i c)⟩;rcases get_set q with⟨rfl,z⟩ | ⟨_,q⟩
 ·cases z;exact⟨.ref a,n.near,hd⟩
 ·obtain⟨v,q1,q2⟩:=n.st.den i sl q;refine⟨v,q1,?_⟩;cases sl with
  |fz d=>exact Den.mono ff q2
  |ow c=>have:=SA.mp n.fz _ (Sz q);cases this
theorem yH{ps:oG}{k:Key}(h:k∈ps.map (·.1)):uK ps k=ps:=by
 unfold uK;rw[Yg (kG.mpr h)]
theorem DX{ps:oG}{k:Key}(h:k∉ps.map (·.1)):uK ps k=ps++[(k,[])]:=by
 unfold uK;rw[Yh (λz=>h (kG.mp z))]
theorem DV{Z:aU}{j:Nat}(h:∀sl,Z[j]? ≠some (some sl)):Z.set j none=Z:=by
 refine Yd λi=>?_;by_cases hi:i=j
 ·subst hi;by_cases hl:i<Z.length
  ·rw[So hl];cases q:Z[i]? with
   |none=>rw[Vc] at q;omega
   |some x=>
    cases x with
    |none=>rfl
    |some sl=>exact Ym q (h sl)
  ·rw[Vc.mpr (by simp;omega),Vc.mpr (by omega)]
 ·rw[Sh (S9 hi)]
theorem zd{α:Type}{l:List α}{i:Nat}{d:α}(hd:l[i]? =some d):l.drop i=d::l.drop (i+1):=by
 obtain⟨hi,e⟩:=Sb.mp hd;rw[Vd hi,e]
theorem Iv{ps:oG}{i:Nat}{p:Key×List Key}(ok:vb ps=true)(h:ps[i]? =some p):p.2.length<lim:=Yk (SA.mp (TY.mp ok).2 p (Sz h))
theorem Fq{ps:oG}(ok:vb ps=true):ps.length<lim:=Yk (TY.mp ok).1
section
variable{X:Cx}{Xw:Nat->Hp->Prop}{D':Ends}{tc:DT}{δk δk2:DE}{δj:DA}{u8 YC G:Hp}{Z:aU}{ni ci mi oi:Nat}{a b:Addr}{bs:List Addr}{zM ps:oG}{J:It}{es ds:List D}{σ:St}{F H:Hp}
abbrev LI(X:Cx)(Xw:Nat->Hp->Prop)(tc:DT)(mi:Nat)(δk:DE):TS:=LG (Mp X.K Xw tc) (Hb (kr mi) (tD X.K Xw δk) (tC (.bl true))) Hd
theorem zD{i:Nat}{k:Key}(lH:oi≠ni)(Mf:oi≠mi)(Qe:Z.set oi none=Z)(hi:bs[i]? =some b)(it:ItD X.K G J es)
 (fin:∀σ F H,Nr X.K u8 YC G F H σ Z ni a bs zM->(zM.map (·.1)).Nodup->D'.nx σ H)
 (n:Nr X.K u8 YC G F H σ Z ni a bs ps)(kn:(ps.map (·.1)).Nodup)(hm:σ[mi]? =some (some (.ref b)))(hk:∃p,ps[i]? =some p/\p.1=k)(w:j7 oi tc δk k Z es ps=aa zM):
 ∃W:Nat->Nat->St->Hp->Prop,(∃m,W 0 m σ H)/\∀i m σ H,W i m σ H->(J.stop i H/\D'.nx σ H)\/(J.go i H/\∃N:St->Hp->Prop,(∀σ' H',N σ' H'->∃m',m'<m/\W (i+1) m' σ' H')/\∀x H',J.yld i H x H'->jQ oi x σ H' λσ2 H2=>LI X Xw tc mi δk {D' with nx:=N,ct:=N,bk:=D'.nx} σ2 H2):=by
 refine⟨λt m σ H=>m=es.length - t/\t<=es.length/\∃F ps,Nr X.K u8 YC G F H σ Z ni a bs ps/\(ps.map (·.1)).Nodup/\σ[mi]? =some (some (.ref b))/\(∃p,ps[i]? =some p/\p.1=k)/\j7 oi tc δk k Z (es.drop t) ps=aa zM,⟨es.length,by simp,SM _,F,ps,n,kn,hm,hk,by simpa using w⟩,?_⟩;rintro t m σ2 H2 ⟨rfl,O7,F2,Bx,n2,Im,E2,Ma,w2⟩;by_cases gk:t<es.length
 ·obtain⟨d,hd⟩:∃d,es[t]? =some d:=⟨_,R6 gk⟩
  obtain⟨HH,xV⟩:=(it F2 H2 t n2.gf n2.st.fh).1 d hd;rw[zd hd] at w2;unfold j7 at w2;obtain⟨bv,hb,w3⟩:=dr w2;have hb:=oA hb;refine .inr ⟨HH,λσ' H'=>∃F' jM,Nr X.K u8 YC G F' H' σ' Z ni a bs jM/\(jM.map (·.1)).Nodup/\σ'[mi]? =some (some (.ref b))/\(∃p,jM[i]? =some p/\p.1=k)/\j7 oi tc δk k Z (es.drop (t+1)) jM=aa zM,
   λσ' H' ⟨F',jM,h⟩=>⟨es.length - (t+1),by omega,rfl,gk,F',jM,h⟩,λx H3 y3=>?_⟩
  obtain⟨F3,zf,q3⟩:=xV x H3 y3;have n4:=(n2.ext' zf).put lH q3;have Nb:(σ2.set oi (some x))[mi]? =some (some (.ref b)):=by rw[Sh Mf];exact E2
  have back:∀{σ':St}{F' H':Hp}{jM:oG},Nr X.K u8 YC G F' H' σ' (Z.set oi (some (.fz d))) ni a bs jM->Nr X.K u8 YC G F' H' σ' Z ni a bs jM:=λ{σ' F' H' jM} n=>by
   have:=n.fgt0 oi;rw[List.set_set,Qe] at this;exact this
  refine⟨F3,Z.set oi (some (.fz d)),n4.st,?_⟩;rw[hb];intro H5 F5 e5;have n5:=n4.ext' e5;cases bv with
  |false=>exact⟨F5,Bx,back n5,Im,Nb,Ma,w3⟩
  |true=>
   obtain⟨kd,Em,w4⟩:=dr (show (noex (δk (Z.set oi (some (.fz d))))>>=_)=aa zM from w3);have Em:=oA Em;refine⟨.ref b,Nb,F5,Z.set oi (some (.fz d)),n5.st,?_⟩;rw[Em];intro v H6 F6 e6 q6;cases hj:pB kd with
   |none=>rw[hj] at w4;exact(ek w4).elim
   |some j=>
    rw[hj] at w4;have w4:(if vb Bx then j7 oi tc δk k Z (es.drop (t+1)) (oH Bx k j) else af)=aa zM:=w4;split at w4
    ·rename_i ok;obtain⟨p,hp,rfl⟩:=Ma;have n6:=n5.ext' e6;have e1:=iO hj q6;subst e1;have hl:=Iv ok hp;have:=cY;refine⟨b,_,rfl,DPut.k (n6.hb i b p hi hp) (by rw[R5];omega),F6,oH Bx p.1 j,back (n6.add Im hi hp j),by rw[vf];exact Im,Nb,?_,w4⟩;refine⟨(if p.1=p.1 then(p.1,if qT p.2 j then p.2 else p.2++[j]) else p),?_,by rw[Yg rfl]⟩;unfold oH;rw[Sj,hp];rfl
    ·exact(ek w4).elim
 ·have ht:t=es.length:=by omega
  subst ht;rw[Vu] at w2;have:=d_ (show aa Bx=aa zM from w2);subst this;exact .inl ⟨(it F2 H2 es.length n2.gf n2.st.fh).2 (R_ _),fin σ2 F2 H2 n2 Im⟩
abbrev N5(X:Cx)(Xw:Nat->Hp->Prop)(tc:DT)(ni mi oi:Nat)(δk:DE)(δj:DA)(δk2:DE):TS:=LL (LB (Hc (kr ni) (tD X.K Xw δk) D8) (jQ mi)) (LF (Px X.K Xw δj) (jQ oi) (LI X Xw tc mi δk2))
theorem CS(Qk:ci≠ni)(OZ:mi≠ni)(lH:oi≠ni)(Qj:ci≠mi)(OL:ci≠oi)(Mf:oi≠mi)(Zc:Z.set ci none=Z)(Zm:Z.set mi none=Z)(Zo:Z.set oi none=Z)(HM:mi<Z.length)(it:ItD X.K G J ds)
 (fin:∀σ F H bs,Nr X.K u8 YC G F H σ Z ni a bs zM->D'.nx σ H)
 (n:Nr X.K u8 YC G F H σ Z ni a bs ps)(kn:(ps.map (·.1)).Nodup)(w:fN ci oi δk δj tc δk2 Z ds ps=aa zM):
 ∃W:Nat->Nat->St->Hp->Prop,(∃m,W 0 m σ H)/\∀i m σ H,W i m σ H->(J.stop i H/\D'.nx σ H)\/(J.go i H/\∃N:St->Hp->Prop,(∀σ' H',N σ' H'->∃m',m'<m/\W (i+1) m' σ' H')/\∀x H',J.yld i H x H'->jQ ci x σ H' λσ2 H2=>N5 X Xw tc ni mi oi δk δj δk2 {D' with nx:=N,ct:=N,bk:=D'.nx} σ2 H2):=by
 refine⟨λt m σ H=>m=ds.length - t/\t<=ds.length/\∃F ps bs,Nr X.K u8 YC G F H σ Z ni a bs ps/\(ps.map (·.1)).Nodup/\fN ci oi δk δj tc δk2 Z (ds.drop t) ps=aa zM,⟨ds.length,by simp,SM _,F,ps,bs,n,kn,by simpa using w⟩,?_⟩;rintro t m σ2 H2 ⟨rfl,O7,F2,Bx,JO,n2,Im,w2⟩;by_cases gk:t<ds.length
 ·obtain⟨d,hd⟩:∃d,ds[t]? =some d:=⟨_,R6 gk⟩
  obtain⟨HH,xV⟩:=(it F2 H2 t n2.gf n2.st.fh).1 d hd;rw[zd hd] at w2;unfold fN at w2;obtain⟨kd,Em,w3⟩:=dr w2;have Em:=oA Em;cases hj:pB kd with
  |none=>rw[hj] at w3;exact(ek w3).elim
  |some k=>
  rw[hj] at w3;have w3:(if vb Bx then noex (δj (Z.set ci (some (.fz d))))>>=λes=>j7 oi tc δk2 k (Z.set ci (some (.fz d))) es (uK Bx k)>>=λjM=>fN ci oi δk δj tc δk2 Z (ds.drop (t+1)) jM else af)=aa zM:=w3;by_cases ok:vb Bx=true
  ·rw[Yg ok] at w3;obtain⟨es,HG,w4⟩:=dr w3;have HG:=oA HG;obtain⟨Po,h3,w5⟩:=dr w4;refine .inr ⟨HH,λσ' H'=>∃F' jM Ho,Nr X.K u8 YC G F' H' σ' Z ni a Ho jM/\(jM.map (·.1)).Nodup/\fN ci oi δk δj tc δk2 Z (ds.drop (t+1)) jM=aa zM,
    λσ' H' ⟨F',jM,Ho,h⟩=>⟨ds.length - (t+1),by omega,rfl,gk,F',jM,Ho,h⟩,λx H3 y3=>?_⟩
   obtain⟨F3,zf,q3⟩:=xV x H3 y3;have n4:=(n2.ext' zf).put Qk q3;generalize J9:Z.set ci (some (.fz d))=Z1 at*;have Z1m:Z1.set mi none=Z1:=by rw[<-J9,List.set_comm _ _ Qj,Zm]
   have Z1o:Z1.set oi none=Z1:=by rw[<-J9,List.set_comm _ _ OL,Zo]
   have back:∀{σ':St}{G' F' H':Hp}{Ho:List Addr}{jM:oG},Nr X.K u8 YC G' F' H' σ' Z1 ni a Ho jM->Nr X.K u8 YC G' F' H' σ' Z ni a Ho jM:=λ{σ' G' F' H' Ho jM} n=>by
    have:=n.fgt0 ci;rw[<-J9,List.set_set,Zc] at this;exact this
   refine⟨.ref a,n4.near,a,rfl, .inl ⟨_, .inl n4.ha⟩,F3,Z1,n4.st,?_⟩;rw[Em];intro v H5 F5 e5 q5;have e1:=iO hj q5;subst e1;have n5:=n4.ext' e5;intro p hp;have hsz:=Fq ok;have Cj:=cY;refine⟨_,k,(n5.gar hp).ha,rfl,by rw[VE,R5,R5,n5.sz,Xz];omega,λv hv=>?_,λhn=>?_⟩
   ·have hz:=qB (ks:=Bx.map (·.1)) (vs:=JO.map V.ref) k (by simp[n5.sz]);rw[hv] at hz;obtain⟨i,z1,z2⟩:=hz;obtain⟨pr,QP,QO⟩:=tV z1;obtain⟨b,hb,rfl⟩:=tV z2;rw[yH (Sz z1)] at h3;have n7:=(n5.gar hp).put0 OZ (.ref b);rw[Z1m] at n7;refine⟨F5,Z1,n7.st,?_⟩;rw[HG];intro J' H8 F8 e8 ND;have n8:=(n7.ext' e8).rg (Same.refl _);have hG:Same G F8:=(n7.ext' e8).gf;exact zD lH Mf Z1o hb ND (λσ' F' H' n' NG=>⟨F',Po,JO,back (n'.rg (hG.trans n'.gf)),NG,w5⟩) n8 Im (So (by rw[<-n4.len,<-J9];simpa using HM)) ⟨pr,QP,QO⟩ h3
   ·have hz:=qB (ks:=Bx.map (·.1)) (vs:=JO.map V.ref) k (by simp[n5.sz]);rw[hn] at hz;rw[DX hz] at h3;have n7:=(n5.new hp hn).put0 OZ (.ref p);rw[Z1m] at n7;refine⟨F5,Z1,n7.st,?_⟩;rw[HG];intro J' H8 F8 e8 ND;have n8:=(n7.ext' e8).rg (Same.refl _);have hG:Same G F8:=(n7.ext' e8).gf;refine zD (i:=JO.length) lH Mf Z1o Uk ND (λσ' F' H' n' NG=>⟨F',Po,_,back (n'.rg (hG.trans n'.gf)),NG,w5⟩) n8 ?_ (So (by rw[<-n4.len,<-J9];simpa using HM)) ⟨(k,[]),by rw[n5.sz];exact Uk,rfl⟩ h3;rw[SE,Tb];exact⟨Im,by simp,λx hx y hy z=>hz (by rw[z] at hx;cases Sw.mp hy;exact hx)⟩
  ·rw[Yh ok] at w3;exact(ek w3).elim
 ·have ht:t=ds.length:=by omega
  subst ht;rw[Vu] at w2;have:=d_ (show aa Bx=aa zM from w2);subst this;exact .inl ⟨(it F2 H2 ds.length n2.gf n2.st.fh).2 (R_ _),fin σ2 F2 H2 JO n2⟩
theorem Dz{δi:DA}{N9 N_ iter CD k1 k2 test:Expr}{x y:Str}{p q q2 T0 B1 bh p1 p2 p3 p4 p5 p6 p7:Pos}{j0:Nat}(hp:Xm (model X.prog X.w) X.A X.env X.xe)(hc:X.calm=true)(hu:X.A.units+64<cLine)
 (hi:xq X Xw N9 iter δi)(Qt:PG X N9 (jQ ci))(hv:PE X (.Name x p) (kr ni))(hk:PD X Xw k1 δk)(m:M2 X (.Name x p) "setdefault" T0 k1 (.Dict [] [] B1) bh)(Qv:PG X (.Name y q) (jQ mi))
 (hj:xq X Xw N_ CD δj)(MZ:PG X N_ (jQ oi))(ht:nO X Xw test tc)(Q5:PE X (.Name y q2) (kr mi))(Ma:PD X Xw k2 δk2)
 (HM:X.N[mi]? =some y:=by rfl)
 (eK:[ni,ci,mi,oi].Nodup:=by decide)
 (hs:∀x,Uu iter X.env x=pure x:=by intro _;rfl)(JD:∀x,Uu CD X.env x=pure x:=by intro _;rfl)
 (Q7:Wv [.Name y q] (.Call (.Attribute (.Name x p) "setdefault" T0) [k1, .Dict [] [] B1] [] bh) p1.line X.env=pure false:=by rfl)
 (Q8:swappedStores [.Name y q] (.Call (.Attribute (.Name x p) "setdefault" T0) [k1, .Dict [] [] B1] [] bh) X.env=pure none:=by rfl)
 (Q9:(VA [.Name y q] X.env).map (·.2)=[assign (.Name y q) X.env]:=by rfl)
 (Q_:Vg (.Constant (.bool true) j0 p3) (some (.Subscript (.Name y q2) k2 p2)) p4.line X.env=pure false:=by rfl):
 gT X Xw (.For N9 iter [.Assign [.Name y q] (.Call (.Attribute (.Name x p) "setdefault" T0) [k1, .Dict [] [] B1] [] bh) p1,
  .For N_ CD [.If test [.Assign [.Subscript (.Name y q2) k2 p2] (.Constant (.bool true) j0 p3) p4] [] p5] [] p6] [] p7) (wQ ni ci mi oi δi δk δj tc δk2):=λu8 YC f8 sh σ H D I ⟨F,Z,s,w⟩=>by
 have QQ:=yA (pos:=p7) hp hc hi Qt (wA (mj (pos:=p1) (FP hv hk (wu (pos:=B1)) m) Qv Q7 Q8 Q9) (oD (yA (pos:=p6) hp hc hj MZ (oD (G_ (pos:=p5) ht (oD (zN (by omega) Q5 Ma (G8 (b:=true) (j:=j0) (pos:=p3)) Q_)) zO)) JD))) hs;have Kt:=eK;simp only[S2,Sf,List.not_mem_nil,or_false,not_or] at Kt;obtain⟨⟨n1,n2,n3⟩,⟨n4,n5⟩,n6,_⟩:=Kt;unfold wQ at w;split at w
 ·rename_i ho;have HR:=ma ho;obtain⟨u,OJ,a,o,rfl,Qf,Qg,vs,rfl,Q6,_,_⟩:=s.st.den ni _ HR;cases (show vs=[] from Q6);have h0:=s.own ni _ a HR OJ;have s0:=s.fgt [ni,ci,mi,oi];have v6:(fgt [ni,ci,mi,oi] Z).length=Z.length:=by simp[fgt]
  have gn:∀j∈[ni,ci,mi,oi],(fgt [ni,ci,mi,oi] Z).set j none=fgt [ni,ci,mi,oi] Z:=λj hj=>DV λsl q=>by
   have hj:j=ni\/j=ci\/j=mi\/j=oi:=by simpa using hj
   rcases get_set q with⟨_,z⟩ | ⟨h4,q⟩
   ·cases z
   rcases get_set q with⟨_,z⟩ | ⟨h3,q⟩
   ·cases z
   rcases get_set q with⟨_,z⟩ | ⟨h2,q⟩
   ·cases z
   rcases get_set q with⟨_,z⟩ | ⟨h1,q⟩
   ·cases z
   rcases hj with z | z | z | z
   ·exact h1 z
   ·exact h2 z
   ·exact h3 z
   ·exact h4 z
  generalize fgt [ni,ci,mi,oi] Z=Z0 at*;split at w
  ·rename_i Qs;rcases g8 (δi Z0) with q | ⟨ds,q,q'⟩
   ·rw[q] at w;exact w.elim
   rw[q'] at w;have w:WPS X.K Xw u8 YC (noex (fN ci oi δk δj tc δk2 Z0 ds [])>>=λps=>if vb ps then aa (.nx (Z0.set ni (some (.fz (eQ ps))))) else af) D:=w;rcases g8 (fN ci oi δk δj tc δk2 Z0 ds []) with q2 | ⟨ps,q2,RA⟩
   ·rw[q2] at w;exact w.elim
   rw[RA] at w;have w:WPS X.K Xw u8 YC (if vb ps then aa (.nx (Z0.set ni (some (.fz (eQ ps))))) else af) D:=w;by_cases ok:vb ps=true
   ·rw[Yg ok] at w;have Ru:Nr X.K u8 YC F F H σ Z0 ni a [] []:=⟨s0.ext,Same.refl _,s0.st,s0.len,OJ,Qf,λi b p z=>by simp at z,rfl,by simp,λb hb=>by
     cases Sw.mp hb;exact⟨Qg,h0⟩,Qs⟩
    have hD:=QQ f8 sh σ H {D with nx:=λσ H=>∃F bs G,Nr X.K u8 YC G F H σ Z0 ni a bs ps} I ⟨F,Z0,s0.st,by
     rw[q];intro J H1 F1 e1 it;have Rt:=(Ru.ext' e1).rg (Same.refl _);exact CS (S9 n1) (S9 n2) (S9 n3) n4 n5 (S9 n6) (gn ci (by simp)) (gn mi (by simp)) (gn oi (by simp)) (by rw[v6,s.len,I.len];exact(Sb.mp HM).1) it (λσ F H bs n=>⟨F,bs,F1,n⟩) Rt (by simp) q2⟩
    refine bX hD λf s' hq=>?_;cases f with
    |next=>
     obtain⟨σ',H',I',F',bs,G,n⟩:=hq;obtain⟨F2,H2,I2,so⟩:=n.fin I' ok;exact⟨σ',H2,I2,w σ' F2 H2 so⟩
    |brk=>exact hq
    |cont=>exact hq
    |ret u=>exact hq
   ·rw[Yh ok] at w;exact w.elim
  ·exact w.elim
 ·exact w.elim
end
end L3
namespace L3
open PySem
open AutoSeq1 (wpAny_loadPart')
section
variable{prog:SJ}{w:World}{A:S1}{E:Value->R8->Prop}{s:R8}
theorem qP{Q:List Value->R8->Prop}{r:Addr}{a b c:Int}{t u v:Tok}{n:Nat}(hh:A.handled=none)(hr:IsRange s.heap r a b c t u v)(pe:Vq a b c=true)(hn:Tu a b c=n)(v6:n<=2 ^ 24)
 (hQ:∀h' tk cV,(∀b o',s.heap.get? b=some o'->h'.get? b=some o')->ItemsOf (λi v=>∃t,v= .int (a+i*c) t) cV n->Q cV.toList {s with heap:=h',toks:=tk}):
 wpAny (model prog w) A (collect (.ref r)) Q E s:=by
 unfold collect;refine R3 (wpAny_runValue (codeAny_builtin F.entry_proto_collect ?_));rw[Xq F.plain_proto_collect _];show wpAny _ A.in1 (newList []>>=λl=>again (.builtin "list.__iadd__" ⟨[l, .ref r],[]⟩)) _ _ s;refine R3 (To ?_);refine R9 ⟨plainId_quiet F.plain_list_iadd _,codeAny_builtin F.entry_list_iadd ?_⟩;rw[Xq F.plain_list_iadd _];show wpAny _ A.in1 (Builtin.List.listExtendWith (.ref s.heap.objs.size) (.ref r) (.ref s.heap.objs.size)) _ _ _;have hS:(s.heap.push {cls:= .type "list",data:= .seq ([]:List Value).toArray}).get? s.heap.objs.size=some {cls:= .type "list",data:= .seq #[] 0}:=Sx _ rfl;have J1:∀(h':Heap) (tk:Nat) (cV:Array Value) (c':Nat),(∀b o,s.heap.get? b=some o->h'.get? b=some o)->h'.get? s.heap.objs.size=some {cls:= .type "list",dict:=none,data:= .seq cV c',slots:= #[]}->ItemsOf (λi v=>∃t,v= .int (a+i*c) t) cV n->
  wpAny (model prog w) A (match SY s.heap.objs.size with
  |SY a=>do
   match (<-load a).data with
    |Data.seq xs _=>pure xs.toList
    |_=>unsupported "internal:collect"
  |_=>unsupported "internal:collect") Q E {s with heap:=h',toks:=tk}:=λh' tk cV c' hk hg iL=>by
  show wpAny _ A (load s.heap.objs.size>>=_) _ _ _;refine R3 (wpAny_load hg ?_);exact R9 (hQ h' tk cV hk iL)
 refine Ti (wpAny_extend_range (A:=A) (s:={s with heap:=s.heap.push {cls:= .type "list",data:= .seq ([]:List Value).toArray} }) (R:=λq s'=>q= .ok (.ret (.ref s.heap.objs.size))/\∃h' tk cV c',s'={s with heap:=h',toks:=tk}/\(∀b o,s.heap.get? b=some o->h'.get? b=some o)/\h'.get? s.heap.objs.size=some {cls:= .type "list",dict:=none,data:= .seq cV c',slots:= #[]}/\ItemsOf (λi v=>∃t,v= .int (a+i*c) t) cV n)
  hh (R7 _ hr) pe hn v6 _ _ 0 hS λh' tk cV c' hk hg iL=>⟨rfl,h',tk,cV,c',rfl,λb o e=>hk b o (SH (Sq e)) (R7 _ e),hg,iL⟩) (λfin s' h=>?_) (λe s' h=>?_)
 ·cases fin with
  |done f=>
   obtain⟨e,h',tk,cV,c',rfl,k1,k2,k3⟩:=h;cases e;exact J1 h' tk cV c' k1 k2 k3
  |again c'=>exact⟨h.1,WW h.2 λq Mn hq=>by
    obtain⟨rfl,h',tk,cV,c',rfl,k1,k2,k3⟩:=hq;exact J1 h' tk cV c' k1 k2 k3⟩
 ·exact Ym h.1 (by simp)
theorem n0(r:Addr){a b c:Int}{t u v:Tok}{n:Nat}(pe:Vq a b c=true)(hn:Tu a b c=n)(v6:n<=2 ^ 24)(hz:n<=Sv):
 MeetsIn prog w (X3.«tuple.__new__» ⟨[.type "tuple", .ref r],[]⟩)
  (λA R s=>A.handled=none/\IsRange s.heap r a b c t u v/\∀(h':Heap) (tk:Nat) (cV:Array Value),(∀b o',s.heap.get? b=some o'->h'.get? b=some o')->ItemsOf (λi v=>∃t,v= .int (a+i*c) t) cV n->R (.ok (.ret (.ref h'.objs.size))) {s with heap:=h'.push {cls:= .type "tuple",data:= .seq cV},toks:=tk}):=
 .of_wp λA R s h=>by
  obtain⟨hp,g,d,tk,os⟩:=s;obtain⟨hh,ht,h⟩:=h;have QX:=sub_tuple_self;have OU:=init_tuple_lookup;have RV:=madeHere_tuple;have hT:Shared.TypeIs ⟨hp,g,d,tk,os⟩ (.ref r) "range":=⟨_,ht,rfl⟩
  have Qy:A.in1.handled=none:=by simp[hh]
  wp_walk using wpAny_loadPart' ht,V1 hT,qP Qy ht pe hn v6
  intro h' RJ cV hk iL;show wpAny _ _ (Ts cV.toList.toArray>>=λv=>ret v) _ _ _;unfold Ts;refine R3 (To ?_ (by show cV.toList.toArray.size<=Sv;have:=iL.1;simp;omega));refine R9 ⟨_,rfl,?_⟩;have e:cV.toList.toArray=cV:=by simp
  rw[e];exact h h' RJ cV hk iL
theorem lM{r:Addr}{a b c:Int}{t u v:Tok}{n:Nat}{Q:Value->R8->Prop}(hh:A.handled=none)(hr:IsRange s.heap r a b c t u v)(pe:Vq a b c=true)(hn:Tu a b c=n)(v6:n<=2 ^ 24)(hz:n<=Sv)
 (h:∀(h':Heap) (tk:Nat) (cV:Array Value),(∀b o',s.heap.get? b=some o'->h'.get? b=some o')->ItemsOf (λi v=>∃t,v= .int (a+i*c) t) cV n->Q (.ref h'.objs.size) {s with heap:=h'.push {cls:= .type "tuple",data:= .seq cV},toks:=tk}):
 wpAny (model prog w) A (call (.type "tuple") [.ref r]) Q E s:=
 callType_newIn F.called_tuple (by decide) (F.typeCall_tuple_1 _) (F.newCall_tuple_1 _) (λobj=>F.args_object_init_2 obj _) F.entry_tuple_new (n0 r pe hn v6 hz) ⟨by simp[hh],hr,λh' tk cV hk iL=>⟨⟨_,Sx _ rfl,rfl⟩,h h' tk cV hk iL⟩⟩
end
open PySem.Spec L2 SeqAt HT
open PyProof.Rows hiding St
section
variable{X:Cx}{Xw:Nat->Hp->Prop}{e:Expr}{δ:DE}{pos wx p p2:Pos}
def sP:D->M D
 | .int n=>if 0<=n/\n<=4096 then aa (.tup ((Sn n.toNat).map λ(i:Nat)=>D.int (i:Int))) else af
 |_=>af
theorem A3(hc:X.calm=true)(hg:Gl X "tuple")(hm:X.mg "tuple"=none)(MZ:Gl X "range")(E2:X.mg "range"=none)(hb:S5 "tuple"=some (.type "tuple"))(Ka:S5 "range"=some (.type "range"))(ha:PD X Xw e δ)
 (OQ:Su [e] X.env=[(false,eval e X.env)]:=by rfl)(he:Su [.Call (.Name "range" p2) [e] [] wx] X.env=[(false,eval (.Call (.Name "range" p2) [e] [] wx) X.env)]:=by rfl):
 PD X Xw (.Call (.Name "tuple" p) [.Call (.Name "range" p2) [e] [] wx] [] pos) (d1 sP δ):=λf8 s σ H Q I ⟨F,Z,S,w⟩=>by
 have w:WP X.K Xw F H (δ Z>>=sP) Q:=w;refine UP (iQ I hg hm hb ?_ (by decide) (by decide));refine Tj ?_ he rfl;rw[he];refine Ud (UP (iQ I MZ E2 Ka ?_ (by decide) (by decide)));refine Tj ?_ OQ rfl;rw[OQ];refine Ud (bX (ha f8 s σ H _ I ⟨F,Z,S,WP.bind w⟩) λu s1 ⟨v,H1,I1,r,F1,d,e1,q1,w1⟩=>UL ?_);unfold sP at w1;split at w1
 ·rename_i n;split at w1
  ·rename_i hn;cases (show v=_ from q1);obtain⟨t,rfl⟩:=r;refine call_range_1 (UL ?_);have hsz:Tu 0 n 1=(n.toNat:Int):=by
    unfold Tu;rw[Yg (by decide)];split
    ·rw[Int.ediv_one];omega
    ·omega
   have Cj:=cY;refine lM (n:=n.toNat) (I1.ok.hd hc) (IsRange.new ..) (small_one (by decide) (by decide) (by omega) (by omega)) hsz (by omega) (by unfold lim at Cj;omega) λh' tk cV kp hi=>?_;have hv:Vals ((Sn n.toNat).map λ(i:Nat)=>V.int (i:Int)) cV.toList:=by
    obtain⟨k1,k2⟩:=hi;refine qC (by simp[k1]) λi v u q1 q2=>?_;obtain⟨t',rfl⟩:=k2 i u (by rw[<-TU];exact q2);rw[Sj] at q1;by_cases zm:i<n.toNat
    ·rw[UA zm] at q1;cases q1;exact⟨t',by simp⟩
    ·rw[UR (by simpa using zm)] at q1;cases q1
   have Ro:∀b o,s1.heap.get? b=some o->h'.get? b=some o:=λb o q=>kp b o (R7 _ q);have v6:((Sn n.toNat).map λ(i:Nat)=>V.int (i:Int)).length<=lim:=by rw[R5,T1];unfold lim;omega
   have I2:Inv X f8 σ H1 {s1 with heap:=h',toks:=tk}:=I1.kept (t':=tk) Ro;have I3:=I2.laid (a:=h'.objs.size) (t':=tk) (o:= .tup ((Sn n.toNat).map λ(i:Nat)=>V.int (i:Int))) (h':=h'.push {cls:= .type "tuple",data:= .seq cV}) (λb o e=>R7 _ e) (R_ _) (show ObjOk X.prog X.w _ _ _ (.tup _) from⟨by have:=cY;omega,cV.toList,hv,by have:=Xo h' cV;simpa using this⟩);exact⟨.ref h'.objs.size,_,I3,rfl,WP.fin w1 (Ext.lay e1.fh (I2.hok.fresh (R_ _))) ⟨_,_,rfl,aH,vw _,by simpa using v6⟩⟩
  ·exact w1.elim
 ·exact w1.elim
end
end L3
namespace L3
open PySem PySem.Spec L2 SeqAt HT
open PyProof.Rows hiding St
theorem zq:∀{us:List Value}{ns:List Int},us.length=ns.length->(∀(i:Nat) (u:Value) (n:Int),us[i]? =some u->ns[i]? =some n->∃t,u= .int n t)->U2 us ns
 |[],[],_,_=> .nil
 |u::us,n::ns,hl,h=>by
  obtain⟨t,rfl⟩:=h 0 u n rfl rfl;exact .cons n t (zq (by simpa using hl) λi u n h1 h2=>h (i+1) u n (by simpa using h1) (by simpa using h2))
 |[],_::_,hl,_=>by simp at hl
 |_::_,[],hl,_=>by simp at hl
def Lu:List V->Hp->VK->Prop:=λxs H Q=>∃p kvs ns,xs=[.ref p]/\Rd H p (.dK kvs)/\kvs.map (·.1)=jK ns/\ns.length<64/\∀q:Addr,H q=none->Q (.ref q) (upd H q (.lst ((ji ns).map V.int)))
section
variable{X:Cx}{Xw:Nat->Hp->Prop}{e:Expr}{δs:DA}{pos p:Pos}
theorem Ai(hc:X.calm=true):CallR X (.builtin "sorted") Lu:=by
 intro f8 s σ H xs us Q I r h;obtain⟨a,kvs,ns,rfl,hH,En,Bu,q⟩:=h;obtain⟨u,rfl,r1⟩:=r.one;cases (show u=_ from r1);obtain⟨z,lo,vs,rel,dd⟩:=o5 I.hok hH;obtain⟨ep,GR⟩:=dd.dictAt;have O8:vs.map (·.1)=jK ns:=rel.keys.symm.trans En;have Nt:vs.length=ns.length:=by
  have:=Yo XM O8;simpa[jK] using this
 have Bw:Sv=16777216:=UZ;refine WV kind_sorted plain_sorted entry_sorted (args_sorted1 _) ?_;unfold X3.«sorted»;refine R3 (m:=checkCount "sorted" 1 1 _) (R9 (R3 (Xl (A:=X.A.in1) (PySem.W.kdl_dict (knd:=ba X.prog X.w) (kvs:=vs) (ep:=ep) lo) (I.ok.hd hc) GR (by rw[Bw];omega) λh1 tk P3 CF iL=>?_)));have I1:Inv X f8 σ H {s with heap:=h1,toks:=tk}:=I.kept (t':=tk) λb ob e=>CF b ob e;have GQ:P3.toList.length=ns.length:=by rw[Sr,<-Nt];exact iL.1
 have hi:U2 P3.toList ns:=zq GQ λi u n h1 h2=>by
  obtain⟨k,x,q1,q2⟩:=iL.2 i u (by rw[<-TU];exact h1);have q3:(vs.map (·.1))[i]? =some k:=by rw[Sj,q1];rfl
  rw[O8] at q3;have q4:(jK ns)[i]? =some (.inl n):=by unfold jK;rw[Sj,h2];rfl
  rw[q4] at q3;cases q3;rcases bC (show mI (.inl n) u=true from q2) with⟨j,t,e1,e2⟩ | ⟨y,t,e1,_⟩
  ·cases e1;exact⟨t,e2⟩
  ·cases e1
 refine R3 (XO ?_ (by rw[Bw,GQ];omega));have GZ:(h1.push (Uo "list" P3.toList.toArray 0)).get? h1.objs.size=some (Uo "list" P3.toList.toArray 0):=Sx _ rfl;refine R3 (Ut (TX slot_list_sort ⟨_,GZ,rfl⟩ entry_list_sort (list_sort_tree (s:={s with heap:=h1.push (Uo "list" P3.toList.toArray 0),toks:=tk}) GZ hi (by omega) λout Rv a1 a2 a3=>⟨_,rfl,?_⟩) (args_list_sort _)));have e:Rv=ji ns:=ue (a2.trans (fR ns).symm) a3 (mx ns);subst e;obtain⟨c,JB⟩:=sortedHeap_at (out:=out) GZ;refine R9 ⟨_,rfl,⟨.ref h1.objs.size,_,I1.laid (a:=h1.objs.size) (t':=tk) (o:= .lst ((ji ns).map V.int)) (λb ob e=>?_) (R_ _) ?_,rfl,q _ (I1.hok.fresh (R_ _))⟩⟩
 ·have gk:=Sq e;show (sortedHeap (h1.push (Uo "list" P3.toList.toArray 0)) h1.objs.size P3.toList out).get? b=some ob;rw[sortedHeap_old (SH gk) (by rw[Heap.size_push];exact Nat.lt_succ_of_lt gk)];exact R7 _ e
 ·exact⟨by rw[R5,(fR ns).length_eq,Bw];omega,out.toList,c,nv a1,by simpa using JB⟩
def D4:List D->M D
 |[.dci kk ds]=>match jR kk with
  |some ns=>if ns.length<64 then aa (.lst ((ji ns).map D.int)) else af
  |none=>af
 |_=>af
theorem FH(hc:X.calm=true)(hg:Gl X "sorted")(hm:X.mg "sorted"=none)(hb:S5 "sorted"=some (.builtin "sorted"))(ha:oe X Xw [e] δs)(he:Su [e] X.env=[(false,eval e X.env)]:=by rfl):PD X Xw (.Call (.Name "sorted" p) [e] [] pos) (dA D4 δs):=
 eP (Ai hc) (λXw F H vs ds Q s h w=>by
  unfold D4 at w;split at w
  ·rename_i kk ds;obtain⟨v,rfl,h1⟩:=h.one;obtain⟨a,ob,ws,rfl,h2,h3,h4,h5⟩:=h1;split at w
   ·rename_i ns GY;split at w
    ·rename_i hok;exact⟨a,_,ns,rfl, .inr ⟨ob,s _ _ h2⟩,by rw[ir (by rw[h4];exact h3.len),ph GY],hok,λq hq=>WP.fin w (Ext.lay s hq) ⟨q,_,rfl,aH,rG,by rw[R5,(fR ns).length_eq];unfold lim;omega⟩⟩
    ·exact w.elim
   ·exact w.elim
  ·exact w.elim) hg hm hb ha (by decide) (by decide) he rfl
end
end L3
namespace L3
open PySem PySem.Spec L2
open PyProof.Rows hiding St
theorem StE.fgt1{K:Se}{F H:Hp}{σ:St}{Z:aU}(s:StE K F H σ Z)(i:Nat):StE K F H σ (Z.set i none):=
 ⟨s.fh,λj sl q=>by
  rcases get_set q with⟨_,e⟩ | ⟨_,q⟩
  ·cases e
  ·exact s.den j sl q⟩
theorem StE.fgt{K:Se}{F H:Hp}{σ:St}:∀(is:List Nat) {Z:aU},StE K F H σ Z->StE K F H σ (L3.fgt is Z)
 |[],_,s=>s
 |i::is,_,s=>StE.fgt is (s.fgt1 i)
def LV(is:List Nat)(δ:DE):DE:=λZ=>δ (fgt is Z)
theorem K_{X:Cx}{Xw:Nat->Hp->Prop}{e:Expr}{δ:DE}{is:List Nat}(h:PD X Xw e δ):PD X Xw e (LV is δ):=PE.weak h λσ H Q ⟨F,Z,s,w⟩=>⟨F,fgt is Z,s.fgt is,w⟩
end L3
namespace L3
def Lx(n:Nat)(δs:DA):DS:=λ_=>af
end L3
namespace K1
open PySem PySem.Spec L2 L3
open PyProof.Rows hiding St
def yU:DS:=(bj (fB (dA gZ (aC (dV 0) (aC (dC (.raw (.ty "int"))) aN))) (GD (dA gZ (aC (dV 0) (aC (dC (.raw (.ty "bool"))) aN))))))
def bw:List D->M D:=cj 1 (yU)
def xj:DS:=(bj (fB (dA gZ (aC (dV 0) (aC (dC (.raw (.ty "str"))) aN))) (fB (d2 kx (dA bq (aC (dV 0) aN)) (dC (.int 1))) (d2 (qS false) (dV 0) (dC (.str "abcdef"))))))
def bA:List D->M D:=cj 1 (xj)
def qE:DS:=(bj (bx 0 (λZ=>(aC (dA bq (aC (d2 bP (dV 0) (dC (.int 0))) aN)) aN) Z>>=iz) bW (dA cB (aC (dV 2) (aC (dV 0) aN)))))
def bp:List D->M D:=cj 2 (qE)
def xn:DS:=(bj (d2 kE (d2 bP (dV 0) (d2 bP (dV 1) (dC (.int 0)))) (d2 bP (dV 1) (dC (.int 1)))))
def aO:List D->M D:=cj 2 (xn)
def yR:DS:=(aA (bF 3 (dA BB (aC (d2 tG (d2 bP (dV 0) (dC (.int 0))) (d2 bP (dV 1) (dC (.int 0)))) aN))) (aA (bF 4 (dA BB (aC (d2 tG (d2 bP (dV 0) (dC (.int 1))) (d2 bP (dV 1) (dC (.int 1)))) aN))) (aA (fj (cP (d2 kx (dV 2) (dC (.int 4)))) (bj (d2 kx (d2 dg (dV 3) (dV 4)) (dC (.int 1)))) cb) (bj (d2 kx (dA yd (aC (dV 3) (aC (dV 4) aN))) (dC (.int 1)))))))
def dG:List D->M D:=cj 5 (yR)
def Gw:DS:=(aA (zV 1) (aA (λZ=>noex ((dS (putN 2) (HW (eO (dV 0)) (λZ=>(dV 0) Z>>=fM)) (b_ [2] (dR 1 (dV 2) (dC (.bl true))))) Z)) (xx 1 (bj (dV 1)))))
def e_:List D->M D:=cj 3 (Gw)
def qG:DS:=(aA (fj (cP (d2 kx (dV 0) (dA de aN))) (bj (d2 iJ (dC (.int 7)) (dV 1))) cb) (bj (d2 dg (d2 Ca (dV 0) (d2 kF (dV 1) (dA bq (aC (dV 0) aN)))) (d2 iJ (dC (.int 6553)) (d2 qR (dV 1) (dA bq (aC (dV 0) aN)))))))
def fI:List D->M D:=cj 2 (qG)
def xk:DS:=(aA (fj (oY (cN (cw (dA gZ (aC (dV 0) (aC (dC (.raw (.ty "str"))) aN))))) (cN (cP (xr (λi j=>decide (i<=j)) (λi j=>decide (i<=j)) (dC (.int 1)) (dA bq (aC (dV 0) aN)) (dC (.int 8)))))) (bj (dC (.bl false))) cb) (bj (dA allM (aC (bx 0 (λZ=>(dV 0) Z>>=Bc) bW (ao 1 bA (aC (dV 0) aN))) aN))))
def fH:List D->M D:=cj 1 (xk)
def sU:DS:=(aA (fj (oY (cN (cw (dA gZ (aC (dV 1) (aC (dC (.raw (.ty "tuple"))) aN))))) (cP (d2 lG (dA bq (aC (dV 1) aN)) (dC (.int 2))))) (bj (dC (.bl false))) cb) (aA (fj (oY (cN (cw (ao 1 bw (aC (d2 bP (dV 1) (dC (.int 0))) aN)))) (cN (cw (ao 1 bw (aC (d2 bP (dV 1) (dC (.int 1))) aN))))) (bj (dC (.bl false))) cb) (bj (fB (xr (λi j=>decide (i<=j)) (λi j=>decide (i<j)) (dC (.int 0)) (d2 bP (dV 1) (dC (.int 0))) (dA bq (aC (dV 0) aN))) (xr (λi j=>decide (i<=j)) (λi j=>decide (i<j)) (dC (.int 0)) (d2 bP (dV 1) (dC (.int 1))) (dA bq (aC (d2 bP (dV 0) (dC (.int 0))) aN)))))))
def jw:List D->M D:=cj 2 (sU)
def xp:DS:=(fj (oY (cN (cw (ao 1 bw (aC (dV 0) aN)))) (cP (d2 (ER true) (dV 0) (dA cB (aC (dC (.int 4)) (aC (dC (.int 8)) aN)))))) (Lx 1 (aC (dC (.str "ways are 4 or 8")) aN)) cb)
def bQ:List D->M D:=cj 1 (xp)
def xi:DS:=(aA (uD 1) (aA (λZ=>noex ((dS (putN 2) (λZ=>(aC (dA bq (aC (dV 0) aN)) aN) Z>>=iz) (b_ [2] (DP 1 (ao 2 bp (aC (dV 0) (aC (dV 2) aN)))))) Z)) (xx 1 (bj (dV 1)))))
def dJ:List D->M D:=cj 3 (xi)
def u9:DS:=(aA (uD 3) (aA (λZ=>noex ((dS (putN 4) (λZ=>(aC (dA yd (aC (d2 tG (d2 bP (dV 1) (dC (.int 0))) (dC (.int 1))) (aC (dC (.int 0)) aN))) (aC (dA AO (aC (d2 dg (d2 bP (dV 1) (dC (.int 0))) (dC (.int 2))) (aC (dA bq (aC (dV 0) aN)) aN))) aN)) Z>>=sH) (b_ [4,5] (dS (putN 5) (λZ=>(aC (dA yd (aC (d2 tG (d2 bP (dV 1) (dC (.int 1))) (dC (.int 1))) (aC (dC (.int 0)) aN))) (aC (dA AO (aC (d2 dg (d2 bP (dV 1) (dC (.int 1))) (dC (.int 2))) (aC (dA bq (aC (d2 bP (dV 0) (dC (.int 0))) aN)) aN))) aN)) Z>>=sH) (b_ [5] (fj (cw (ao 3 dG (aC (dV 1) (aC (dA cB (aC (dV 4) (aC (dV 5) aN))) (aC (dV 2) aN))))) (ll 3 (dA cB (aC (dV 4) (aC (dV 5) aN)))) cb))))) Z)) (xx 3 (bj (dV 3)))))
def bO:List D->M D:=cj 6 (u9)
def ny:DS:=(aA (bF 3 (d2 kF (d2 dg (d2 iJ (d2 kF (ao 2 fI (aC (dV 0) (aC (dV 1) aN))) (dC (.int 2147483563))) (dC (.int 69069))) (d2 iJ (dC (.int 104723)) (d2 dg (dV 1) (dC (.int 1))))) (dC (.int 2147483563)))) (aA (bF 3 (d2 kF (d2 dg (d2 iJ (dV 3) (dV 3)) (d2 qR (dV 3) (dC (.int 3)))) (dC (.int 2147483399)))) (bj (d2 kF (d2 qR (d2 kF (d2 dg (d2 iJ (dV 3) (dV 3)) (d2 qR (dV 3) (dC (.int 7)))) (dC (.int 2147483647))) (dC (.int 11))) (dV 2)))))
def aG:List D->M D:=cj 4 (ny)
def qF:DS:=(aA (fj (oY (cN (cw (dA gZ (aC (dV 0) (aC (dC (.raw (.ty "tuple"))) aN))))) (cN (cP (xr (λi j=>decide (i<=j)) (λi j=>decide (i<=j)) (dC (.int 1)) (dA bq (aC (dV 0) aN)) (dC (.int 8)))))) (bj (dC (.bl false))) cb) (aA (fj (cN (cw (dA allM (aC (bx 0 (oW (dV 0)) bW (ao 1 fH (aC (dV 0) aN))) aN)))) (bj (dC (.bl false))) cb) (bj (dA allM (aC (bx 0 (oW (dV 0)) bW (d2 kx (dA bq (aC (dV 0) aN)) (dA bq (aC (d2 bP (dV 1) (dC (.int 0))) aN)))) aN)))))
def gX:List D->M D:=cj 1 (qF)
def xo:DS:=(fj (cN (cw (ao 2 jw (aC (dV 0) (aC (dV 1) aN))))) (Lx 2 (aC (dC (.str "a tuple (row, column) on the board is asked for")) aN)) cb)
def dO:List D->M D:=cj 2 (xo)
def u0:DS:=(aA (bF 3 (ao 2 aO (aC (dV 0) (aC (dV 1) aN)))) (bj (bx 0 (eO (ao 3 bO (aC (dV 0) (aC (dV 1) (aC (dV 2) aN))))) (cP (d2 kx (ao 2 aO (aC (dV 1) (aC (dV 0) aN))) (dV 4))) (dV 0))))
def cC:List D->M D:=cj 4 (u0)
def xl:DS:=(aA (bF 3 (d2 dg (dC (.int 1)) (ao 3 aG (aC (dV 0) (aC (dV 1) (aC (dV 2) aN)))))) (aA (bF 4 (d2 dg (dC (.int 1)) (ao 3 aG (aC (dV 0) (aC (d2 dg (dV 1) (dC (.int 1))) (aC (dV 2) aN)))))) (aA (bF 5 (d2 iI (dA de (aC (dC (.str "ab")) (aC (dC (.str "abc")) (aC (dC (.str "aab")) (aC (dC (.str "fa")) aN))))) (ao 3 aG (aC (dV 0) (aC (d2 dg (dV 1) (dC (.int 2))) (aC (dC (.int 4)) aN)))))) (aA (bF 6 (dA cB aN)) (aA (λZ=>noex ((dS (putN 7) (λZ=>(aC (dV 3) aN) Z>>=iz) (b_ [7,8] (aA (bF 8 (bx 0 (λZ=>(aC (dV 4) aN) Z>>=iz) bW (d2 kE (dV 6) (ao 3 aG (aC (dV 1) (aC (d2 dg (d2 dg (d2 dg (dV 2) (dC (.int 3))) (d2 iJ (dC (.int 7)) (dV 8))) (dV 0)) (aC (dA bq (aC (dV 6) aN)) aN))))))) (bF 6 (d2 vJ (dV 6) (dA cB (aC (dM tN joinM (dC (.str "")) (aC (dV 8) aN)) aN))))))) Z)) (bj (dV 6)))))))
def cX:List D->M D:=cj 9 (xl)
def u6:DS:=(fj (cN (cw (ao 1 gX (aC (dV 0) aN)))) (Lx 0 (aC (dC (.str "a tuple of 1 to 8 texts of 1 to 8 letters, all as long, is asked for")) aN)) cb)
def aZ:List D->M D:=cj 1 (u6)
def va:DS:=(aA (zU 3 (λZ=>(dV 1) Z>>=λx=>(dC .non) Z>>=λy=>kA x y)) (aA (bF 4 (dA de (aC (dV 1) aN))) (aA (λZ=>noex ((yD (cw (dV 4)) (b_ [5,6,7] (aA (uD 5) (aA (dS (putN 6) (eO (dV 4)) (b_ [6,7] (dS (putN 7) (eO (ao 3 cC (aC (dV 0) (aC (dV 6) (aC (dV 2) aN))))) (b_ [7] (fj (zY (cP (d2 (et true) (dV 7) (dV 3)))) (aA (dR 3 (dV 7) (dV 6)) (ll 5 (dV 7))) cb))))) (xx 5 (bF 4 (dV 5))))))) Z)) (xx 3 (bj (dV 3))))))
def a7:List D->M D:=cj 8 (va)
def u_:DS:=(aA (zV 1) (aA (λZ=>noex ((dS (sx [2,3]) (λZ=>(aC (dV 0) aN) Z>>=rJ) (b_ [2,3,4] (dS (putN 4) (eO (dV 3)) (b_ [4] (dR 1 (dV 4) (dV 2)))))) Z)) (xx 1 (bj (dV 1)))))
def d5:List D->M D:=cj 5 (u_)
def yS:DS:=(aA (DR 4) (aA (λZ=>noex ((dS (putN 5) (oW (dV 0)) (b_ [5,6] (aA (dR 4 (dV 5) (dC (.bl true))) (dS (putN 6) (λZ=>(d2 fJ (dV 1) (dV 5)) Z>>=fM) (b_ [6] (fj (cP (d2 kx (d2 iI (dV 2) (dV 6)) (dV 3))) (dR 4 (dV 6) (dC (.bl true))) cb)))))) Z)) (xx 4 (bj (dA sO (aC (dA D4 (aC (dV 4) aN)) aN))))))
def er:List D->M D:=cj 7 (yS)
def ro:DS:=(fj (cN (cw (ao 1 bA (aC (dV 0) aN)))) (Lx 3 (aC (dC (.str "one of the letters a to f is asked for")) aN)) cb)
def eJ:List D->M D:=cj 1 (ro)
def qI:DS:=(fj (oY (cN (cw (dA gZ (aC (dV 0) (aC (dC (.raw (.ty "list"))) aN))))) (cN (cw (dA allM (aC (bx 0 (eO (dV 0)) bW (ao 1 bA (aC (dV 0) aN))) aN))))) (Lx 3 (aC (dC (.str "a list of letters from a to f is asked for")) aN)) cb)
def d4:List D->M D:=cj 1 (qI)
def qJ:DS:=(aA (bF 3 (ao 1 e_ (aC (dV 1) aN))) (aA (uD 4) (aA (λZ=>noex ((dS (putN 5) (λZ=>(aC (dA bq (aC (dV 0) aN)) aN) Z>>=iz) (b_ [5,6] (aA (bF 6 (ao 2 bp (aC (dV 0) (aC (dV 5) aN)))) (ll 4 (dM tN joinM (dC (.str "")) (aC (bx 0 (eO (dV 6)) bW (GC (cP (d2 (et false) (dV 0) (dV 4))) (dV 3) (ao 2 aO (aC (dV 1) (aC (dV 0) aN))))) aN)))))) Z)) (xx 4 (bj (dA sO (aC (dV 4) aN)))))))
def bB:List D->M D:=cj 7 (qJ)
def qH:DS:=(aA (bF 3 (ao 1 d5 (aC (dV 2) aN))) (aA (DR 4) (aA (λZ=>noex ((wQ 4 5 6 7 (eO (ao 1 dJ (aC (dV 0) aN))) (d2 fJ (dV 3) (dV 5)) (eO (ao 3 bO (aC (dV 0) (aC (dV 5) (aC (dV 1) aN))))) (cP (d2 lG (d2 fJ (dV 3) (dV 7)) (d2 fJ (dV 3) (dV 5)))) (d2 fJ (dV 3) (dV 7))) Z)) (xx 4 (bj (dV 4))))))
def d3:List D->M D:=cj 8 (qH)
def xm:DS:=(aA (h7 (ao 1 aZ (aC (dV 0) aN))) (aA (h7 (ao 2 dO (aC (dV 0) (aC (dV 1) aN)))) (bj (ao 2 aO (aC (dV 0) (aC (dV 1) aN))))))
def dN:List D->M D:=cj 2 (xm)
def Bp:DS:=(aA (h7 (ao 1 aZ (aC (dV 0) aN))) (aA (bF 1 (dM tN joinM (dC (.str "")) (aC (dV 0) aN))) (bj (bx 0 (λZ=>(dC (.str "abcdef")) Z>>=Bc) (cP (d2 (qS false) (dV 0) (dV 2))) (dA cB (aC (dV 0) (aC (dM tN vk (dV 2) (aC (dV 0) aN)) aN)))))))
def bS:List D->M D:=cj 2 (Bp)
def rn:DS:=(aA (uD 2) (aA (zV 3) (aA (λZ=>noex ((dS (putN 4) (eO (ao 1 dJ (aC (dV 0) aN))) (b_ [4,5] (fj (zY (cP (d2 (et true) (dV 4) (dV 3)))) (aA (bF 5 (dA sL (aC (ao 3 a7 (aC (dV 0) (aC (dV 4) (aC (dV 1) aN)))) aN))) (aA (ll 2 (dV 5)) (Ba 3 (ao 1 e_ (aC (dV 5) aN))))) cb))) Z)) (xx 2 (bj (dV 2))))))
def cJ:List D->M D:=cj 6 (rn)
def u7:DS:=(aA (h7 (ao 1 aZ (aC (dV 0) aN))) (aA (h7 (ao 2 dO (aC (dV 0) (aC (dV 1) aN)))) (aA (h7 (ao 1 bQ (aC (dV 2) aN))) (h7 (ao 1 eJ (aC (dV 3) aN))))))
def fb:List D->M D:=cj 4 (u7)
def yT:DS:=(aA (h7 (ao 1 aZ (aC (dV 0) aN))) (aA (h7 (ao 1 bQ (aC (dV 1) aN))) (bj (dA bq (aC (ao 2 cJ (aC (dV 0) (aC (dV 1) aN))) aN)))))
def bJ:List D->M D:=cj 2 (yT)
def Bq:DS:=(aA (h7 (ao 4 fb (aC (dV 0) (aC (dV 1) (aC (dV 2) (aC (dV 3) aN)))))) (bj (ao 3 bB (aC (dV 0) (aC (ao 3 a7 (aC (dV 0) (aC (dV 1) (aC (dV 2) aN)))) (aC (dV 3) aN))))))
def cK:List D->M D:=cj 4 (Bq)
def mC:DS:=(aA (h7 (ao 1 aZ (aC (dV 0) aN))) (aA (h7 (ao 1 bQ (aC (dV 1) aN))) (aA (h7 (ao 1 d4 (aC (dV 2) aN))) (aA (bF 3 (dV 0)) (aA (λZ=>noex ((dS (putN 4) (eO (dV 2)) (b_ [4] (bF 3 (ao 3 bB (aC (dV 3) (aC (ao 3 a7 (aC (dV 3) (aC (dA cB (aC (dC (.int 0)) (aC (dC (.int 0)) aN))) (aC (dV 1) aN)))) (aC (dV 4) aN))))))) Z)) (bj (dV 3)))))))
def ay:List D->M D:=cj 5 (mC)
def n_:DS:=(aA (h7 (ao 1 aZ (aC (dV 0) aN))) (aA (h7 (ao 1 bQ (aC (dV 1) aN))) (aA (bF 2 (ao 2 cJ (aC (dV 0) (aC (dV 1) aN)))) (aA (bF 3 (ao 3 d3 (aC (dV 0) (aC (dV 1) (aC (dV 2) aN))))) (aA (bF 4 (bx 0 (eO (dV 2)) bW (ao 2 aO (aC (dV 1) (aC (d2 iI (dV 0) (dC (.int 0))) aN))))) (aA (bF 5 (d1 sP (dA bq (aC (dV 2) aN)))) (aA (zU 6 (λZ=>(dA cB (aC (dC (.int 0)) aN)) Z>>=λx=>(dA de aN) Z>>=λy=>kA x y)) (aA (bF 7 (dA de (aC (dA cB (aC (dC (.int 0)) aN)) aN))) (aA (λZ=>noex ((yD (zY (cP (d2 (et true) (dV 5) (dV 6)))) (b_ [8,9,10,11] (aA (uD 8) (aA (dS (putN 9) (eO (dV 7)) (b_ [9,10,11] (dS (putN 10) (λZ=>(dC (.str "abcdef")) Z>>=Bc) (b_ [10,11] (aA (bF 11 (ao 4 er (aC (dV 9) (aC (dV 3) (aC (dV 4) (aC (dV 10) aN)))))) (fj (zY (cP (d2 (et true) (dV 11) (dV 6)))) (aA (dR 6 (dV 11) (LV [8] (Jw (d2 rM (d2 fJ (dV 6) (dV 9)) (dA de (aC (dV 10) aN)))))) (ll 8 (dV 11))) cb)))))) (xx 8 (bF 7 (dV 8))))))) Z)) (xx 6 (bj (d2 fJ (dV 6) (dV 5)))))))))))))
def bI:List D->M D:=cj 12 (n_)
def nz:DS:=(bF 1 (ao 3 cX (aC (dV 0) (aC (dC (.int 0)) (aC (dC (.int 5)) aN)))))
def nA:DS:=(bF 2 (d2 iI (dA de (aC (dC (.int 4)) (aC (dC (.int 8)) aN))) (ao 3 aG (aC (dV 0) (aC (dC (.int 60)) (aC (dC (.int 2)) aN))))))
def nB:DS:=(bF 3 (bx 0 (λZ=>(aC (ao 3 aG (aC (dV 0) (aC (dC (.int 70)) (aC (dC (.int 6)) aN)))) aN) Z>>=iz) bW (d2 kE (dC (.str "abcf")) (ao 3 aG (aC (dV 1) (aC (d2 dg (dC (.int 61)) (dV 0)) (aC (dC (.int 4)) aN)))))))
def nE:DS:=(bF 4 (dV 1))
def nG:DS:=(λZ=>noex ((dS (sx [5,6]) (λZ=>(aC (dV 3) aN) Z>>=rJ) (b_ [5,6,7] (aA (bF 7 (ao 4 cK (aC (dV 4) (aC (dA cB (aC (dC (.int 0)) (aC (dC (.int 0)) aN))) (aC (dV 2) (aC (dV 6) aN)))))) (aA (fj (cP (d2 lG (ao 3 ay (aC (dV 1) (aC (dV 2) (aC (An (dV 3) oN (oS (d2 dg (dV 5) (dC (.int 1))))) aN)))) (dV 7))) (bj (dC (.bl false))) cb) (aA (fj (cP (d2 lG (ao 2 dN (aC (dV 7) (aC (dA cB (aC (dC (.int 0)) (aC (dC (.int 0)) aN))) aN))) (dV 6))) (bj (dC (.bl false))) cb) (aA (fj (cP (d2 L4 (ao 2 bJ (aC (dV 7) (aC (dV 2) aN))) (ao 2 bJ (aC (dV 4) (aC (dV 2) aN))))) (bj (dC (.bl false))) cb) (aA (fj (cP (d2 lG (ao 3 ay (aC (dV 4) (aC (dV 2) (aC (dA de (aC (dV 6) (aC (dV 6) aN))) aN)))) (dV 7))) (bj (dC (.bl false))) cb) (aA (fj (cP (d2 lG (ao 4 cK (aC (dV 7) (aC (dA cB (aC (dC (.int 0)) (aC (dC (.int 0)) aN))) (aC (dV 2) (aC (dV 6) aN))))) (dV 7))) (bj (dC (.bl false))) cb) (bF 4 (dV 7)))))))))) Z))
def nH:DS:=(fj (oY (cP (d2 lG (ao 3 ay (aC (dV 1) (aC (dV 2) (aC (dV 3) aN)))) (dV 4))) (cP (d2 lG (ao 3 ay (aC (dV 1) (aC (dV 2) (aC (dA de aN) aN)))) (dV 1)))) (bj (dC (.bl false))) cb)
def nJ:DS:=(bF 8 (dA sO (aC (bx 0 (oW (An (dV 1) oN (oS (dC (.int 3))))) bW (An (dV 0) oN (oS (dC (.int 3))))) aN)))
def nK:DS:=(bF 9 (ao 2 bI (aC (dV 8) (aC (dV 2) aN))))
def nM:DS:=(fj (cP (d2 lG (dA bq (aC (ao 1 bS (aC (ao 3 ay (aC (dV 8) (aC (dV 2) (aC (dV 9) aN)))) aN)) aN)) (dC (.int 1)))) (bj (dC (.bl false))) cb)
def nN:DS:=(fj (cP (d2 Oy (dA bq (aC (dV 9) aN)) (d2 tG (dA bq (aC (ao 1 bS (aC (dV 8) aN)) aN)) (dC (.int 1))))) (bj (dC (.bl false))) cb)
def lu:DS:=(fj (Al (cP (d2 lG (dV 9) (dA de aN))) (cP (d2 kx (dA bq (aC (ao 1 bS (aC (ao 3 ay (aC (dV 8) (aC (dV 2) (aC (An (dV 9) oN (oS (d1 KY (dC (.int 1))))) aN)))) aN)) aN)) (dC (.int 1))))) (bj (dC (.bl false))) cb)
def lB:DS:=(fj (cP (d2 lG (d2 kx (dV 9) (dA de aN)) (d2 kx (dA bq (aC (ao 1 bS (aC (dV 8) aN)) aN)) (dC (.int 1))))) (bj (dC (.bl false))) cb)
def lC:DS:=(fj (cP (xr (λi j=>decide (j<=i)) (λi j=>decide (j<i)) (dA bq (aC (dV 9) aN)) (ao 2 bJ (aC (dV 8) (aC (dV 2) aN))) (dC (.int 1)))) (bj (dC (.bl false))) cb)
def lD:DS:=(bF 10 (ao 3 ay (aC (dV 8) (aC (dV 2) (aC (An (dV 9) oN (oS (dC (.int 1)))) aN)))))
def lF:DS:=(bj (Am (d2 kx (dV 9) (dA de aN)) (d2 kx (dA bq (aC (ao 2 bI (aC (dV 10) (aC (dV 2) aN))) aN)) (d2 tG (dA bq (aC (dV 9) aN)) (dC (.int 1))))))
def mB:DS:=(aA nz (aA nA (aA nB (aA nE (aA nG (aA nH (aA nJ (aA nK (aA nM (aA nN (aA lu (aA lB (aA lC (aA lD lF))))))))))))))
def jx:List D->M D:=cj 11 mB
structure Bl (K:Se) (mg:Str->Option Value) (base:Heap) (cv:Nat->Value) (cA:Nat->Addr) (Cp:Addr):Prop where
 len:mg "len"=none
 isinstance:mg "isinstance"=none
 all:mg "all"=none
 abs:mg "abs"=none
 max:mg "max"=none
 min:mg "min"=none
 range:mg "range"=none
 str:mg "str"=none
 int:mg "int"=none
 bool:mg "bool"=none
 tuple:mg "tuple"=none
 list:mg "list"=none
 sorted:mg "sorted"=none
 enumerate:mg "enumerate"=none
 LETTERS:∃t,mg "LETTERS"=some (.str "abcdef" t)
 MOST_ROWS:∃t,mg "MOST_ROWS"=some (.int 8 t)
 MOST_COLUMNS:∃t,mg "MOST_COLUMNS"=some (.int 8 t)
section
variable{P:SJ}{w:World}{K:Se}{mg:Str->Option Value}{base:Heap}{cv:Nat->Value}{cA:Nat->Addr}{Cp:Addr}{f:Addr}
abbrev kl:Stmt:=top 10
def pQ:List Str:=["thing"]
def qb:List Str:=["thing"]
theorem mR{j k:Nat}{A:S1}(r:Room k A)(h:j<=k:=by decide):Room j A:=r.mono h
theorem c8{N Q:List Str}{sc:Scope}(k:sc.kind= .function:=by rfl)(c:sc.isCoroutine=false:=by rfl)(g:sc.isGenerator=false:=by rfl)(p:N.take Q.length=Q:=by rfl)(h:N.Nodup/\(∀x∈Q,sc.names.lookup x=some .local\/sc.names.lookup x=some .cell)/\∀y∈sc.names,y.2≠ .free:=by decide+kernel):FnScope N Q sc:=⟨k,c,g,h.1,p,h.2.1,h.2.2⟩
theorem wW:FnScope pQ qb (ah kl):=c8
theorem wg(B:Bl K mg base cv cA Cp)(T:bz K mg "is_whole" kl f):ak P w K mg base cv 1 "is_whole" 1 (bw):=
 aD (N:=pQ) (ps:=qb) T wW (λ_ _ _ _ _ _ us hl=>match us,hl with | [_],_=>rfl) λ_ _ _ _ _ _ hr=>
  (au (aE (uk (j_ rfl B.isinstance rfl (ab (ae (pv 0)) (ab (qh rfl B.int rfl) ag))) (ur (IK (j_ rfl B.isinstance rfl (ab (ae (pv 0)) (ab (qh rfl B.bool rfl) ag))))))))
abbrev jb:Stmt:=top 11
def mM:List Str:=["thing"]
def mZ:List Str:=["thing"]
theorem uF:FnScope mM mZ (ah jb):=c8
theorem t7(B:Bl K mg base cv cA Cp)(T:bz K mg "is_letter" jb f):ak P w K mg base cv 1 "is_letter" 1 (bA):=
 aD (N:=mM) (ps:=mZ) T uF (λ_ _ _ _ _ _ us hl=>match us,hl with | [_],_=>rfl) λ_ _ _ _ _ _ hr=>
  (au (aE (uk (j_ rfl B.isinstance rfl (ab (ae (pv 0)) (ab (qh rfl B.str rfl) ag))) (uk (nk hr.units (bE rfl B.len (ab (ae (pv 0)) ag)) aw) (ur (IG (ae (pv 0)) (uu rfl B.LETTERS (by decide))))))))
abbrev eh:Stmt:=top 20
def d6:List Str:=["board","row"]
def iZ:List Str:=["board","row"]
theorem nY:FnScope d6 iZ (ah eh):=c8
theorem nS(B:Bl K mg base cv cA Cp)(T:bz K mg "cells_of_row" eh f):ak P w K mg base cv 1 "cells_of_row" 2 (bp):=
 aD (N:=d6) (ps:=iZ) T nY (λ_ _ _ _ _ _ us hl=>match us,hl with | [_,_],_=>rfl) λ_ _ _ _ _ _ hr=>
  (au (aE (fe (tn:=["column"]) (n:=0) (bZ (N:=d6) (osc:=(ah eh)) rfl rfl (by decide+kernel)) rfl rfl (eD rfl B.range (ab (bE rfl B.len (ab (cF (ae (pv 0)) aw) ag)) ag)) (λ_ _ _ _ _ _ _=>dD (show TR (((["column"]:List Str))++di ["column"] d6) by decide+kernel) rfl rfl) (λ_ _ _ _ _ _=>dq) (λ_ _ _ _ _ _=>(eC (ab (ae (pv 2)) (ab (ae (pv 0)) ag)))))))
abbrev je:Stmt:=top 22
def mP:List Str:=["board","cell"]
def m9:List Str:=["board","cell"]
theorem uH:FnScope mP m9 (ah je):=c8
theorem ua(B:Bl K mg base cv cA Cp)(T:bz K mg "letter_of" je f):ak P w K mg base cv 1 "letter_of" 2 (aO):=
 aD (N:=mP) (ps:=m9) T uH (λ_ _ _ _ _ _ us hl=>match us,hl with | [_,_],_=>rfl) λ_ _ _ _ _ _ hr=>
  (au (aE (yx (cF (ae (pv 0)) (cF (ae (pv 1)) aw)) (cF (ae (pv 1)) aw))))
abbrev kh:Stmt:=top 23
def pN:List Str:=["one","other","ways","down","along"]
def p8:List Str:=["one","other","ways"]
theorem jh:FnScope pN p8 (ah kh):=c8
theorem wa(B:Bl K mg base cv cA Cp)(T:bz K mg "are_next" kh f):ak P w K mg base cv 1 "are_next" 3 (dG):=
 aD (N:=pN) (ps:=p8) T jh (λ_ _ _ _ _ _ us hl=>match us,hl with | [_,_,_],_=>rfl) λ_ _ _ _ _ _ hr=>
  (ai (aP jh.nd rfl (.inl rfl) (Df rfl B.abs (ab (mf (cF (ae (pv 0)) aw) (cF (ae (pv 1)) aw)) ag) rfl)) (ai (aP jh.nd rfl (.inl rfl) (Df rfl B.abs (ab (mf (cF (ae (pv 0)) aw) (cF (ae (pv 1)) aw)) ag) rfl)) (ai (bu (wB hr.units (ae (pv 2)) aw) (au (aE (nk hr.units (c0 (ae (pv 3)) (ae (pv 4))) aw))) a5) (au (aE (nk hr.units (yy rfl rfl B.max rfl (ab (ae (pv 3)) (ab (ae (pv 4)) ag))) aw))))))
abbrev uE:Stmt:=top 25
def zA:List Str:=["things","found","thing"]
def zH:List Str:=["things"]
theorem qp:FnScope zA zH (ah uE):=c8
theorem C5(B:Bl K mg base cv cA Cp)(T:bz K mg "keyed" uE f):ak P w K mg base cv 1 "keyed" 1 (e_):=
 aD (N:=zA) (ps:=zH) T qp (λ_ _ _ _ _ _ us hl=>match us,hl with | [_],_=>rfl) λ_ _ _ _ _ _ hr=>
  (ai (ql qp.nd rfl (.inl rfl)) (ai (da (b6 SK rfl (FI (cq (ae (pv 0))) (wt (ae (pv 0)))) (a8 qp.nd rfl (.inl rfl)) bU (br (au (gH hr.units (pv 1) (ae (pv 2)) d9))))) (au (dz (i:=1) (aE (ae (pv 1)))))))
abbrev ij:Stmt:=top 33
def kQ:List Str:=["found","numbers","number","patch","cell"]
def k8:List Str:=["found"]
theorem dn:FnScope kQ k8 (ah ij):=c8
theorem qZ(B:Bl K mg base cv cA Cp)(T:bz K mg "numbers_of" ij f):ak P w K mg base cv 1 "numbers_of" 1 (d5):=
 aD (N:=kQ) (ps:=k8) T dn (λ_ _ _ _ _ _ us hl=>match us,hl with | [_],_=>rfl) λ_ _ _ _ _ _ hr=>
  (ai (ql dn.nd rfl (.inl rfl)) (ai (da (b6 SK rfl (wq rfl B.enumerate (ab (ae (pv 0)) ag)) (Dv rfl (la (a8 dn.nd rfl (.inl rfl)) (la (a8 dn.nd rfl (.inl rfl)) zL))) (zQ (is:=[2,3])) (br (au (b6 SK rfl (cq (ae (pv 3))) (a8 dn.nd rfl (.inl rfl)) bU (br (au (gH hr.units (pv 1) (ae (pv 4)) (ae (pv 2)))))))))) (au (dz (i:=1) (aE (ae (pv 1)))))))
abbrev ki:Stmt:=top 38
def pO:List Str:=["taken","near","signs","letter","more","number","other"]
def p9:List Str:=["taken","near","signs","letter"]
theorem f9:FnScope pO p9 (ah ki):=c8
theorem wb(B:Bl K mg base cv cA Cp)(T:bz K mg "drawn_in" ki f):ak P w K mg base cv 1 "drawn_in" 4 (er):=
 aD (N:=pO) (ps:=p9) T f9 (λ_ _ _ _ _ _ us hl=>match us,hl with | [_,_,_,_],_=>rfl) λ_ _ _ _ _ _ hr=>
  (ai (wz f9.nd rfl (.inl rfl)) (ai (da (b6 SK rfl (oB (ae (pv 0))) (a8 f9.nd rfl (.inl rfl)) bU (br (ai (gH hr.units (pv 4) (ae (pv 5)) d9) (au (b6 SK rfl (wt (kc hr.units (ae (pv 1)) (ae (pv 5)))) (a8 f9.nd rfl (.inl rfl)) bU (br (au (bu (wB hr.units (uo (ae (pv 2)) (ae (pv 6))) (ae (pv 3))) (au (gH hr.units (pv 4) (ae (pv 6)) d9)) a5))))))))) (au (dz (i:=4) (aE (qg rfl B.tuple rfl (ab (FH rfl rfl B.sorted rfl (ab (ae (pv 4)) ag)) ag)))))))
abbrev km:Stmt:=top 43
def pS:List Str:=["_law_script","_law_k"]
def qc:List Str:=["_law_script","_law_k"]
theorem wX:FnScope pS qc (ah km):=c8
theorem wj(B:Bl K mg base cv cA Cp)(T:bz K mg "_law_cell" km f):ak P w K mg base cv 1 "_law_cell" 2 (fI):=
 aD (N:=pS) (ps:=qc) T wX (λ_ _ _ _ _ _ us hl=>match us,hl with | [_,_],_=>rfl) λ_ _ _ _ _ _ hr=>
  (ai (bu (wB hr.units (ae (pv 0)) (eV ag)) (au (aE (ke aw (ae (pv 1))))) a5) (au (aE (c0 (IH (ae (pv 0)) (me (ae (pv 1)) (bE rfl B.len (ab (ae (pv 0)) ag)))) (ke aw (um (ae (pv 1)) (bE rfl B.len (ab (ae (pv 0)) ag))))))))
abbrev lq:Stmt:=top 12
def kL:List Str:=["thing"]
def wm:List Str:=["thing"]
theorem Bb:FnScope kL wm (ah lq):=c8
theorem AW(B:Bl K mg base cv cA Cp)(eN:ak P w K mg base cv 1 "is_letter" 1 bA)(T:bz K mg "is_row" lq f):ak P w K mg base cv 2 "is_row" 1 (fH):=
 aD (N:=kL) (ps:=wm) T Bb (λ_ _ _ _ _ _ us hl=>match us,hl with | [_],_=>rfl) λ_ _ _ _ _ _ hr=>
  (ai (bu (PDW.t (kf (cR (cS (j_ rfl B.isinstance rfl (ab (ae (pv 0)) (ab (qh rfl B.str rfl) ag))))) (g_ (cR (yB sf sf aw (bE rfl B.len (ab (ae (pv 0)) ag)) (zJ rfl B.MOST_COLUMNS)))))) (au (aE d9)) a5) (au (aE (uh rfl rfl B.all rfl (ab (fe (tn:=["sign"]) (n:=0) (bZ (N:=kL) (osc:=(ah lq)) rfl rfl (by decide+kernel)) rfl rfl (uv (ae (pv 0))) (λ_ _ _ _ _ _ _=>dD (show TR (((["sign"]:List Str))++di ["sign"] kL) by decide+kernel) rfl rfl) (λ_ _ _ _ _ _=>dq) (λ_ _ _ _ _ _=>(aV eN (mR hr) rfl cp (ab (ae (pv 0)) ag) rfl))) ag)))))
abbrev mr:Stmt:=top 14
def r9:List Str:=["board","thing"]
def sk:List Str:=["board","thing"]
theorem yE:FnScope r9 sk (ah mr):=c8
theorem yo(B:Bl K mg base cv cA Cp)(gU:ak P w K mg base cv 1 "is_whole" 1 bw)(T:bz K mg "is_cell" mr f):ak P w K mg base cv 2 "is_cell" 2 (jw):=
 aD (N:=r9) (ps:=sk) T yE (λ_ _ _ _ _ _ us hl=>match us,hl with | [_,_],_=>rfl) λ_ _ _ _ _ _ hr=>
  (ai (bu (PDW.t (kf (cR (cS (j_ rfl B.isinstance rfl (ab (ae (pv 1)) (ab (qh rfl B.tuple rfl) ag))))) (g_ (i8 hr.units (bE rfl B.len (ab (ae (pv 1)) ag)) aw)))) (au (aE d9)) a5) (ai (bu (PDW.t (kf (cR (cS (aV gU (mR hr) rfl aW (ab (cF (ae (pv 1)) aw) ag) rfl))) (g_ (cR (cS (aV gU (mR hr) rfl aW (ab (cF (ae (pv 1)) aw) ag) rfl)))))) (au (aE d9)) a5) (au (aE (uk (Dg sf C8 aw (cF (ae (pv 1)) aw) (bE rfl B.len (ab (ae (pv 0)) ag))) (ur (Dg sf C8 aw (cF (ae (pv 1)) aw) (bE rfl B.len (ab (cF (ae (pv 0)) aw) ag)))))))))
abbrev gj:Stmt:=top 17
def jT:List Str:=["thing"]
def jX:List Str:=["thing"]
theorem qr:FnScope jT jX (ah gj):=c8
theorem p0(B:Bl K mg base cv cA Cp)(eN:ak P w K mg base cv 1 "is_letter" 1 bA)(T:bz K mg "need_letter" gj f):ak P w K mg base cv 2 "need_letter" 1 (eJ):=
 aD (N:=jT) (ps:=jX) T qr (λ_ _ _ _ _ _ us hl=>match us,hl with | [_],_=>rfl) λ_ _ _ _ _ _ hr=>
  (au (bu (cR (cS (aV eN (mR hr) rfl aW (ab (ae (pv 0)) ag) rfl))) (au gJ) a5))
abbrev ei:Stmt:=top 18
def d7:List Str:=["thing"]
def i2:List Str:=["thing"]
theorem nZ:FnScope d7 i2 (ah ei):=c8
theorem nV(B:Bl K mg base cv cA Cp)(eN:ak P w K mg base cv 1 "is_letter" 1 bA)(T:bz K mg "need_letters" ei f):ak P w K mg base cv 2 "need_letters" 1 (d4):=
 aD (N:=d7) (ps:=i2) T nZ (λ_ _ _ _ _ _ us hl=>match us,hl with | [_],_=>rfl) λ_ _ _ _ _ _ hr=>
  (au (bu (PDW.t (kf (cR (cS (j_ rfl B.isinstance rfl (ab (ae (pv 0)) (ab (qh rfl B.list rfl) ag))))) (g_ (cR (cS (uh rfl rfl B.all rfl (ab (fe (tn:=["part"]) (n:=0) (bZ (N:=d7) (osc:=(ah ei)) rfl rfl (by decide+kernel)) rfl rfl (cq (ae (pv 0))) (λ_ _ _ _ _ _ _=>dD (show TR (((["part"]:List Str))++di ["part"] d7) by decide+kernel) rfl rfl) (λ_ _ _ _ _ _=>dq) (λ_ _ _ _ _ _=>(aV eN (mR hr) rfl cp (ab (ae (pv 0)) ag) rfl))) ag))))))) (au gJ) a5))
abbrev jg:Stmt:=top 19
def mS:List Str:=["thing"]
def ng:List Str:=["thing"]
theorem uJ:FnScope mS ng (ah jg):=c8
theorem uc(B:Bl K mg base cv cA Cp)(gU:ak P w K mg base cv 1 "is_whole" 1 bw)(T:bz K mg "need_ways" jg f):ak P w K mg base cv 2 "need_ways" 1 (bQ):=
 aD (N:=mS) (ps:=ng) T uJ (λ_ _ _ _ _ _ us hl=>match us,hl with | [_],_=>rfl) λ_ _ _ _ _ _ hr=>
  (au (bu (PDW.t (kf (cR (cS (aV gU (mR hr) rfl aW (ab (ae (pv 0)) ag) rfl))) (g_ (A7 (ae (pv 0)) (eC (ab aw (ab aw ag))))))) (au gJ) a5))
abbrev ja:Stmt:=top 21
def mL:List Str:=["board","found","row"]
def mY:List Str:=["board"]
theorem il:FnScope mL mY (ah ja):=c8
theorem t6(B:Bl K mg base cv cA Cp)(fq:ak P w K mg base cv 1 "cells_of_row" 2 bp)(T:bz K mg "all_cells" ja f):ak P w K mg base cv 2 "all_cells" 1 (dJ):=
 aD (N:=mL) (ps:=mY) T il (λ_ _ _ _ _ _ us hl=>match us,hl with | [_],_=>rfl) λ_ _ _ _ _ _ hr=>
  (ai (jD il.nd rfl (.inl rfl)) (ai (da (b6 SK rfl (eD rfl B.range (ab (bE rfl B.len (ab (ae (pv 0)) ag)) ag)) (a8 il.nd rfl (.inl rfl)) bU (br (au (FW (pv 1) (aV fq (mR hr) rfl cp (ab (ae (pv 0)) (ab (ae (pv 2)) ag)) rfl)))))) (au (dz (i:=1) (aE (ae (pv 1)))))))
abbrev ig:Stmt:=top 24
def kP:List Str:=["board","cell","ways","found","row","column"]
def k7:List Str:=["board","cell","ways"]
theorem eM:FnScope kP k7 (ah ig):=c8
theorem qY(B:Bl K mg base cv cA Cp)(xF:ak P w K mg base cv 1 "are_next" 3 dG)(T:bz K mg "next_cells" ig f):ak P w K mg base cv 2 "next_cells" 3 (bO):=
 aD (N:=kP) (ps:=k7) T eM (λ_ _ _ _ _ _ us hl=>match us,hl with | [_,_,_],_=>rfl) λ_ _ _ _ _ _ hr=>
  (ai (jD eM.nd rfl (.inl rfl)) (ai (da (b6 SK rfl (qi rfl B.range (ab (yy rfl rfl B.max rfl (ab (mf (cF (ae (pv 1)) aw) aw) (ab aw ag))) (ab (Di rfl rfl B.min rfl (ab (c0 (cF (ae (pv 1)) aw) aw) (ab (bE rfl B.len (ab (ae (pv 0)) ag)) ag))) ag))) (a8 eM.nd rfl (.inl rfl)) bU (br (au (b6 SK rfl (qi rfl B.range (ab (yy rfl rfl B.max rfl (ab (mf (cF (ae (pv 1)) aw) aw) (ab aw ag))) (ab (Di rfl rfl B.min rfl (ab (c0 (cF (ae (pv 1)) aw) aw) (ab (bE rfl B.len (ab (cF (ae (pv 0)) aw) ag)) ag))) ag))) (a8 eM.nd rfl (.inl rfl)) bU (br (au (bu (cS (aV xF (mR hr) rfl cp (ab (ae (pv 1)) (ab (eC (ab (ae (pv 4)) (ab (ae (pv 5)) ag))) (ab (ae (pv 2)) ag))) rfl)) (au (lg (pv 3) (eC (ab (ae (pv 4)) (ab (ae (pv 5)) ag))))) a5)))))))) (au (dz (i:=3) (aE (ae (pv 3)))))))
abbrev ej:Stmt:=top 26
def d8:List Str:=["board","some","letter","marked","told","row","places"]
def i3:List Str:=["board","some","letter"]
theorem cI:FnScope d8 i3 (ah ej):=c8
theorem nW(B:Bl K mg base cv cA Cp)(s9:ak P w K mg base cv 1 "keyed" 1 e_)(fq:ak P w K mg base cv 1 "cells_of_row" 2 bp)(cy:ak P w K mg base cv 1 "letter_of" 2 aO)(T:bz K mg "with_letters" ej f):ak P w K mg base cv 2 "with_letters" 3 (bB):=
 aD (N:=d8) (ps:=i3) T cI (λ_ _ _ _ _ _ us hl=>match us,hl with | [_,_,_],_=>rfl) λ_ _ _ _ _ _ hr=>
  (ai (aP cI.nd rfl (.inr rfl) (aV s9 (mR hr) rfl aW (ab (ae (pv 1)) ag) rfl)) (ai (jD cI.nd rfl (.inl rfl)) (ai (da (b6 SK rfl (eD rfl B.range (ab (bE rfl B.len (ab (ae (pv 0)) ag)) ag)) (a8 cI.nd rfl (.inl rfl)) bU (br (ai (aP cI.nd rfl (.inl rfl) (aV fq (mR hr) rfl cp (ab (ae (pv 0)) (ab (ae (pv 5)) ag)) rfl)) (au (lg (pv 4) (uq i4 (ab (fe (tn:=["cell"]) (n:=0) (bZ (N:=d8) (osc:=(ah ej)) rfl rfl (by decide+kernel)) rfl rfl (cq (ae (pv 6))) (λ_ _ _ _ _ _ _=>dD (show TR (((["cell"]:List Str))++di ["cell"] d8) by decide+kernel) rfl rfl) (λ_ _ _ _ _ _=>dq) (λ_ _ _ _ _ _=>(La (I9 hr.units (ae (pv 0)) (ae (pv 4))) (ae (pv 3)) (aV cy (mR hr) rfl cp (ab (ae (pv 1)) (ab (ae (pv 0)) ag)) rfl)))) ag)))))))) (au (dz (i:=4) (aE (qg rfl B.tuple rfl (ab (ae (pv 4)) ag))))))))
abbrev jc:Stmt:=top 44
def mN:List Str:=["_law_script","_law_k","_law_many","_law_cell_here"]
def m7:List Str:=["_law_script","_law_k","_law_many"]
theorem ip:FnScope mN m7 (ah jc):=c8
theorem t9(B:Bl K mg base cv cA Cp)(xI:ak P w K mg base cv 1 "_law_cell" 2 fI)(T:bz K mg "_law_drawn" jc f):ak P w K mg base cv 2 "_law_drawn" 3 (aG):=
 aD (N:=mN) (ps:=m7) T ip (λ_ _ _ _ _ _ us hl=>match us,hl with | [_,_,_],_=>rfl) λ_ _ _ _ _ _ hr=>
  (ai (aP ip.nd rfl (.inl rfl) (me (c0 (ke (me (aV xI (mR hr) rfl aW (ab (ae (pv 0)) (ab (ae (pv 1)) ag)) rfl) aw) aw) (ke aw (c0 (ae (pv 1)) aw))) aw)) (ai (aP ip.nd rfl (.inl rfl) (me (c0 (ke (ae (pv 3)) (ae (pv 3))) (um (ae (pv 3)) aw)) aw)) (au (aE (me (um (me (c0 (ke (ae (pv 3)) (ae (pv 3))) (um (ae (pv 3)) aw)) aw) aw) (ae (pv 2)))))))
abbrev fP:Stmt:=top 13
def eB:List Str:=["thing"]
def qa:List Str:=["thing"]
theorem wV:FnScope eB qa (ah fP):=c8
theorem we(B:Bl K mg base cv cA Cp)(BJ:ak P w K mg base cv 2 "is_row" 1 fH)(T:bz K mg "is_board" fP f):ak P w K mg base cv 3 "is_board" 1 (gX):=
 aD (N:=eB) (ps:=qa) T wV (λ_ _ _ _ _ _ us hl=>match us,hl with | [_],_=>rfl) λ_ _ _ _ _ _ hr=>
  (ai (bu (PDW.t (kf (cR (cS (j_ rfl B.isinstance rfl (ab (ae (pv 0)) (ab (qh rfl B.tuple rfl) ag))))) (g_ (cR (yB sf sf aw (bE rfl B.len (ab (ae (pv 0)) ag)) (zJ rfl B.MOST_ROWS)))))) (au (aE d9)) a5) (ai (bu (cR (cS (uh rfl rfl B.all rfl (ab (fe (tn:=["row"]) (n:=0) (bZ (N:=eB) (osc:=(ah fP)) rfl rfl (by decide+kernel)) rfl rfl (oB (ae (pv 0))) (λ_ _ _ _ _ _ _=>dD (show TR (((["row"]:List Str))++di ["row"] eB) by decide+kernel) rfl rfl) (λ_ _ _ _ _ _=>dq) (λ_ _ _ _ _ _=>(aV BJ (mR hr) rfl cp (ab (ae (pv 0)) ag) rfl))) ag)))) (au (aE d9)) a5) (au (aE (uh rfl rfl B.all rfl (ab (fe (tn:=["row"]) (n:=0) (bZ (N:=eB) (osc:=(ah fP)) rfl rfl (by decide+kernel)) rfl rfl (oB (ae (pv 0))) (λ_ _ _ _ _ _ _=>dD (show TR (((["row"]:List Str))++di ["row"] eB) by decide+kernel) rfl rfl) (λ_ _ _ _ _ _=>dq) (λ_ _ _ _ _ _=>(nk hr.units (bE rfl B.len (ab (ae (pv 0)) ag)) (bE rfl B.len (ab (cF (ae (pv 1)) aw) ag))))) ag))))))
abbrev jf:Stmt:=top 16
def mQ:List Str:=["board","thing"]
def m_:List Str:=["board","thing"]
theorem uI:FnScope mQ m_ (ah jf):=c8
theorem ub(B:Bl K mg base cv cA Cp)(Ac:ak P w K mg base cv 2 "is_cell" 2 jw)(T:bz K mg "need_cell" jf f):ak P w K mg base cv 3 "need_cell" 2 (dO):=
 aD (N:=mQ) (ps:=m_) T uI (λ_ _ _ _ _ _ us hl=>match us,hl with | [_,_],_=>rfl) λ_ _ _ _ _ _ hr=>
  (au (bu (cR (cS (aV Ac (mR hr) rfl aW (ab (ae (pv 0)) (ab (ae (pv 1)) ag)) rfl))) (au gJ) a5))
abbrev fg:Stmt:=top 30
def fc:List Str:=["board","cell","ways","letter"]
def kY:List Str:=["board","cell","ways"]
theorem jY:FnScope fc kY (ah fg):=c8
theorem qV(B:Bl K mg base cv cA Cp)(cy:ak P w K mg base cv 1 "letter_of" 2 aO)(gV:ak P w K mg base cv 2 "next_cells" 3 bO)(T:bz K mg "like_cells" fg f):ak P w K mg base cv 3 "like_cells" 3 (cC):=
 aD (N:=fc) (ps:=kY) T jY (λ_ _ _ _ _ _ us hl=>match us,hl with | [_,_,_],_=>rfl) λ_ _ _ _ _ _ hr=>
  (ai (aP jY.nd rfl (.inr rfl) (aV cy (mR hr) rfl aW (ab (ae (pv 0)) (ab (ae (pv 1)) ag)) rfl)) (au (aE (fe (tn:=["near"]) (n:=0) (bZ (N:=fc) (osc:=(ah fg)) rfl rfl (by decide+kernel)) rfl rfl (cq (aV gV (mR hr) rfl aW (ab (ae (pv 0)) (ab (ae (pv 1)) (ab (ae (pv 2)) ag))) rfl)) (λ_ _ _ _ _ _ _=>dD (show TR (((["near"]:List Str))++di ["near"] fc) by decide+kernel) rfl rfl) (λ_ _ _ _ _ _=>(w_ (wB hr.units (aV cy (mR hr) rfl cp (ab (ae (pv 1)) (ab (ae (pv 0)) ag)) rfl) (ae (pv 4))))) (λ_ _ _ _ _ _=>(ae (pv 0)))))))
abbrev fQ:Stmt:=top 34
def iT:List Str:=["board","ways","found","numbers","near","cell","mine","other"]
def i1:List Str:=["board","ways","found"]
theorem b5:FnScope iT i1 (ah fQ):=c8
theorem nU(B:Bl K mg base cv cA Cp)(tj:ak P w K mg base cv 1 "numbers_of" 1 d5)(iB:ak P w K mg base cv 2 "all_cells" 1 dJ)(gV:ak P w K mg base cv 2 "next_cells" 3 bO)(T:bz K mg "near_numbers" fQ f):ak P w K mg base cv 3 "near_numbers" 3 (d3):=
 aD (N:=iT) (ps:=i1) T b5 (λ_ _ _ _ _ _ us hl=>match us,hl with | [_,_,_],_=>rfl) λ_ _ _ _ _ _ hr=>
  (ai (aP b5.nd rfl (.inl rfl) (aV tj (mR hr) rfl aW (ab (ae (pv 2)) ag) rfl)) (ai (wz b5.nd rfl (.inl rfl)) (ai (da (Dz SK rfl hr.units (cq (aV iB (mR hr) rfl cp (ab (ae (pv 0)) ag) rfl)) (a8 b5.nd rfl (.inl rfl)) (pv 4) (kc hr.units (ae (pv 3)) (ae (pv 5))) ⟨rfl,rfl,rfl,rfl⟩ (a8 b5.nd rfl (.inl rfl)) (cq (aV gV (mR hr) rfl cp (ab (ae (pv 0)) (ab (ae (pv 5)) (ab (ae (pv 1)) ag))) rfl)) (a8 b5.nd rfl (.inl rfl)) (i8 hr.units (kc hr.units (ae (pv 3)) (ae (pv 7))) (kc hr.units (ae (pv 3)) (ae (pv 5)))) (pv 6) (kc hr.units (ae (pv 3)) (ae (pv 7))))) (au (dz (i:=4) (aE (ae (pv 4))))))))
abbrev f7:Stmt:=top 45
def fX:List Str:=["_law_script","_law_at","_law_most","_law_rows","_law_wide","_law_alphabet","_law_found","_law_row","_law_signs"]
def m6:List Str:=["_law_script","_law_at","_law_most"]
theorem b8:FnScope fX m6 (ah f7):=c8
theorem t8(B:Bl K mg base cv cA Cp)(bt:ak P w K mg base cv 2 "_law_drawn" 3 aG)(T:bz K mg "_law_board" f7 f):ak P w K mg base cv 3 "_law_board" 3 (cX):=
 aD (N:=fX) (ps:=m6) T b8 (λ_ _ _ _ _ _ us hl=>match us,hl with | [_,_,_],_=>rfl) λ_ _ _ _ _ _ hr=>
  (ai (aP b8.nd rfl (.inl rfl) (c0 aw (aV bt (mR hr) rfl aW (ab (ae (pv 0)) (ab (ae (pv 1)) (ab (ae (pv 2)) ag))) rfl))) (ai (aP b8.nd rfl (.inl rfl) (c0 aw (aV bt (mR hr) rfl aW (ab (ae (pv 0)) (ab (c0 (ae (pv 1)) aw) (ab (ae (pv 2)) ag))) rfl))) (ai (aP b8.nd rfl (.inr rfl) (uo (eV (ab i4 (ab i4 (ab i4 (ab i4 ag))))) (aV bt (mR hr) rfl aW (ab (ae (pv 0)) (ab (c0 (ae (pv 1)) aw) (ab aw ag))) rfl))) (ai (aP b8.nd rfl (.inl rfl) (eC ag)) (ai (da (b6 SK rfl (eD rfl B.range (ab (ae (pv 3)) ag)) (a8 b8.nd rfl (.inr rfl)) bU (br (ai (i7 (tn:=["_law_k"]) (n:=0) b8.nd rfl (.inl rfl) (bZ (N:=fX) (osc:=(ah f7)) rfl rfl (by decide+kernel)) rfl rfl (eD rfl B.range (ab (ae (pv 4)) ag)) (λ_ _ _ _ _ _ _=>dD (show TR (((["_law_k"]:List Str))++di ["_law_k"] fX) by decide+kernel) rfl rfl) (λ_ _ _ _ _ _=>dq) (λ_ _ _ _ _ _=>(yx (ae (pv 6)) (aV bt (mR hr) rfl cp (ab (ae (pv 1)) (ab (c0 (c0 (c0 (ae (pv 2)) aw) (ke aw (ae (pv 8)))) (ae (pv 0))) (ab (bE rfl B.len (ab (ae (pv 6)) ag)) ag))) rfl)))) (au (aP b8.nd rfl (.inl rfl) (FE (ae (pv 6)) (eC (ab (uq i4 (ab (ae (pv 8)) ag)) ag))))))))) (au (aE (ae (pv 6)))))))))
abbrev ib:Stmt:=top 15
def kM:List Str:=["thing"]
def kZ:List Str:=["thing"]
theorem q_:FnScope kM kZ (ah ib):=c8
theorem qW(B:Bl K mg base cv cA Cp)(xH:ak P w K mg base cv 3 "is_board" 1 gX)(T:bz K mg "need_board" ib f):ak P w K mg base cv 4 "need_board" 1 (aZ):=
 aD (N:=kM) (ps:=kZ) T q_ (λ_ _ _ _ _ _ us hl=>match us,hl with | [_],_=>rfl) λ_ _ _ _ _ _ hr=>
  (au (bu (cR (cS (aV xH (mR hr) rfl aW (ab (ae (pv 0)) ag) rfl))) (au gJ) a5))
abbrev ik:Stmt:=top 31
def kR:List Str:=["board","start","ways","back","ring","further","cell","near"]
def k9:List Str:=["board","start","ways"]
theorem cf:FnScope kR k9 (ah ik):=c8
theorem q0(B:Bl K mg base cv cA Cp)(s_:ak P w K mg base cv 3 "like_cells" 3 cC)(T:bz K mg "steps_back" ik f):ak P w K mg base cv 4 "steps_back" 3 (a7):=
 aD (N:=kR) (ps:=k9) T cf (λ_ _ _ _ _ _ us hl=>match us,hl with | [_,_,_],_=>rfl) λ_ _ _ _ _ _ hr=>
  (ai (wy cf.nd rfl (.inl rfl) (sr hr.units (ae (pv 1)) IJ)) (ai (aP cf.nd rfl (.inl rfl) (eV (ab (ae (pv 1)) ag))) (ai (da (su SK (cS (ae (pv 4))) (br (ai (jD cf.nd rfl (.inl rfl)) (ai (b6 SK rfl (cq (ae (pv 4))) (a8 cf.nd rfl (.inl rfl)) bU (br (au (b6 SK rfl (cq (aV s_ (mR hr) rfl cp (ab (ae (pv 0)) (ab (ae (pv 6)) (ab (ae (pv 2)) ag))) rfl)) (a8 cf.nd rfl (.inl rfl)) bU (br (au (bu (uw (jE hr.units (ae (pv 7)) (ae (pv 3)))) (ai (gH hr.units (pv 3) (ae (pv 7)) (ae (pv 6))) (au (lg (pv 5) (ae (pv 7))))) a5))))))) (au (dz (i:=5) (aP cf.nd rfl (.inl rfl) (ae (pv 5)))))))))) (au (dz (i:=3) (aE (ae (pv 3))))))))
abbrev jd:Stmt:=top 27
def mO:List Str:=["board","cell"]
def m8:List Str:=["board","cell"]
theorem uG:FnScope mO m8 (ah jd):=c8
theorem t_(B:Bl K mg base cv cA Cp)(bo:ak P w K mg base cv 4 "need_board" 1 aZ)(iE:ak P w K mg base cv 3 "need_cell" 2 dO)(cy:ak P w K mg base cv 1 "letter_of" 2 aO)(T:bz K mg "letter_at" jd f):ak P w K mg base cv 5 "letter_at" 2 (dN):=
 aD (N:=mO) (ps:=m8) T uG (λ_ _ _ _ _ _ us hl=>match us,hl with | [_,_],_=>rfl) λ_ _ _ _ _ _ hr=>
  (ai (cG (aV bo (mR hr) rfl aW (ab (ae (pv 0)) ag) rfl)) (ai (cG (aV iE (mR hr) rfl aW (ab (ae (pv 0)) (ab (ae (pv 1)) ag)) rfl)) (au (aE (aV cy (mR hr) rfl aW (ab (ae (pv 0)) (ab (ae (pv 1)) ag)) rfl)))))
abbrev jG:Stmt:=top 28
def jC:List Str:=["board","signs"]
def sm:List Str:=["board"]
theorem qq:FnScope jC sm (ah jG):=c8
theorem yp(B:Bl K mg base cv cA Cp)(bo:ak P w K mg base cv 4 "need_board" 1 aZ)(T:bz K mg "letters" jG f):ak P w K mg base cv 5 "letters" 1 (bS):=
 aD (N:=jC) (ps:=sm) T qq (λ_ _ _ _ _ _ us hl=>match us,hl with | [_],_=>rfl) λ_ _ _ _ _ _ hr=>
  (ai (cG (aV bo (mR hr) rfl aW (ab (ae (pv 0)) ag) rfl)) (ai (aP qq.nd rfl (.inr rfl) (uq i4 (ab (ae (pv 0)) ag))) (au (aE (fe (tn:=["letter"]) (n:=0) (bZ (N:=jC) (osc:=(ah jG)) rfl rfl (by decide+kernel)) rfl rfl (uv (uu rfl B.LETTERS (by decide))) (λ_ _ _ _ _ _ _=>dD (show TR (((["letter"]:List Str))++di ["letter"] jC) by decide+kernel) rfl rfl) (λ_ _ _ _ _ _=>(w_ (I_ (ae (pv 0)) (ae (pv 2))))) (λ_ _ _ _ _ _=>(eC (ab (ae (pv 0)) (ab (FF (ae (pv 2)) (ab (ae (pv 0)) ag)) ag)))))))))
abbrev gi:Stmt:=top 32
def jS:List Str:=["board","ways","found","seen","cell","patch"]
def jW:List Str:=["board","ways"]
theorem c6:FnScope jS jW (ah gi):=c8
theorem pZ(B:Bl K mg base cv cA Cp)(iB:ak P w K mg base cv 2 "all_cells" 1 dJ)(dY:ak P w K mg base cv 4 "steps_back" 3 a7)(s9:ak P w K mg base cv 1 "keyed" 1 e_)(T:bz K mg "all_patches" gi f):ak P w K mg base cv 5 "all_patches" 2 (cJ):=
 aD (N:=jS) (ps:=jW) T c6 (λ_ _ _ _ _ _ us hl=>match us,hl with | [_,_],_=>rfl) λ_ _ _ _ _ _ hr=>
  (ai (jD c6.nd rfl (.inl rfl)) (ai (ql c6.nd rfl (.inl rfl)) (ai (da (b6 SK rfl (cq (aV iB (mR hr) rfl cp (ab (ae (pv 0)) ag) rfl)) (a8 c6.nd rfl (.inl rfl)) bU (br (au (bu (uw (jE hr.units (ae (pv 4)) (ae (pv 3)))) (ai (aP c6.nd rfl (.inl rfl) (FG rfl rfl B.sorted rfl (ab (aV dY (mR hr) rfl cp (ab (ae (pv 0)) (ab (ae (pv 4)) (ab (ae (pv 1)) ag))) rfl) ag))) (ai (lg (pv 2) (ae (pv 5))) (au (FX hr.units (pv 3) (aV s9 (mR hr) rfl cp (ab (ae (pv 5)) ag) rfl) ⟨rfl,rfl,rfl,rfl⟩)))) a5))))) (au (dz (i:=2) (aE (ae (pv 2))))))))
abbrev ie:Stmt:=top 37
def kO:List Str:=["board","cell","ways","letter"]
def k0:List Str:=["board","cell","ways","letter"]
theorem ra:FnScope kO k0 (ah ie):=c8
theorem qX(B:Bl K mg base cv cA Cp)(bo:ak P w K mg base cv 4 "need_board" 1 aZ)(iE:ak P w K mg base cv 3 "need_cell" 2 dO)(cW:ak P w K mg base cv 2 "need_ways" 1 bQ)(qN:ak P w K mg base cv 2 "need_letter" 1 eJ)(T:bz K mg "need_paint" ie f):ak P w K mg base cv 5 "need_paint" 4 (fb):=
 aD (N:=kO) (ps:=k0) T ra (λ_ _ _ _ _ _ us hl=>match us,hl with | [_,_,_,_],_=>rfl) λ_ _ _ _ _ _ hr=>
  (ai (cG (aV bo (mR hr) rfl aW (ab (ae (pv 0)) ag) rfl)) (ai (cG (aV iE (mR hr) rfl aW (ab (ae (pv 0)) (ab (ae (pv 1)) ag)) rfl)) (ai (cG (aV cW (mR hr) rfl aW (ab (ae (pv 2)) ag) rfl)) (au (cG (aV qN (mR hr) rfl aW (ab (ae (pv 3)) ag) rfl))))))
abbrev kj:Stmt:=top 35
def pP:List Str:=["board","ways"]
def p_:List Str:=["board","ways"]
theorem wU:FnScope pP p_ (ah kj):=c8
theorem wc(B:Bl K mg base cv cA Cp)(bo:ak P w K mg base cv 4 "need_board" 1 aZ)(cW:ak P w K mg base cv 2 "need_ways" 1 bQ)(f_:ak P w K mg base cv 5 "all_patches" 2 cJ)(T:bz K mg "how_many" kj f):ak P w K mg base cv 6 "how_many" 2 (bJ):=
 aD (N:=pP) (ps:=p_) T wU (λ_ _ _ _ _ _ us hl=>match us,hl with | [_,_],_=>rfl) λ_ _ _ _ _ _ hr=>
  (ai (cG (aV bo (mR hr) rfl aW (ab (ae (pv 0)) ag) rfl)) (ai (cG (aV cW (mR hr) rfl aW (ab (ae (pv 1)) ag) rfl)) (au (aE (bE rfl B.len (ab (aV f_ (mR hr) rfl aW (ab (ae (pv 0)) (ab (ae (pv 1)) ag)) rfl) ag))))))
abbrev mv:Stmt:=top 39
def r_:List Str:=["board","cell","ways","letter"]
def sq:List Str:=["board","cell","ways","letter"]
theorem yF:FnScope r_ sq (ah mv):=c8
theorem yq(B:Bl K mg base cv cA Cp)(tf:ak P w K mg base cv 5 "need_paint" 4 fb)(ft:ak P w K mg base cv 2 "with_letters" 3 bB)(dY:ak P w K mg base cv 4 "steps_back" 3 a7)(T:bz K mg "painted" mv f):ak P w K mg base cv 6 "painted" 4 (cK):=
 aD (N:=r_) (ps:=sq) T yF (λ_ _ _ _ _ _ us hl=>match us,hl with | [_,_,_,_],_=>rfl) λ_ _ _ _ _ _ hr=>
  (ai (cG (aV tf (mR hr) rfl aW (ab (ae (pv 0)) (ab (ae (pv 1)) (ab (ae (pv 2)) (ab (ae (pv 3)) ag)))) rfl)) (au (aE (aV ft (mR hr) rfl aW (ab (ae (pv 0)) (ab (aV dY (mR hr) rfl aW (ab (ae (pv 0)) (ab (ae (pv 1)) (ab (ae (pv 2)) ag))) rfl) (ab (ae (pv 3)) ag))) rfl))))
abbrev eE:Stmt:=top 40
def gB:List Str:=["board","ways","letters","now","letter"]
def gE:List Str:=["board","ways","letters"]
theorem cU:FnScope gB gE (ah eE):=c8
theorem kW(B:Bl K mg base cv cA Cp)(bR:ak P w K mg base cv 5 "letters" 1 bS)(bo:ak P w K mg base cv 4 "need_board" 1 aZ)(cW:ak P w K mg base cv 2 "need_ways" 1 bQ)(oR:ak P w K mg base cv 2 "need_letters" 1 d4)(ft:ak P w K mg base cv 2 "with_letters" 3 bB)(dY:ak P w K mg base cv 4 "steps_back" 3 a7)(T:bz K mg "paints_over" eE f):ak P w K mg base cv 6 "paints_over" 3 (ay):=
 aD (N:=gB) (ps:=gE) T cU (λ_ _ _ _ _ _ us hl=>match us,hl with | [_,_,_],_=>rfl) λ_ _ _ _ _ _ hr=>
  (ai (cG (aV bo (mR hr) rfl aW (ab (ae (pv 0)) ag) rfl)) (ai (cG (aV cW (mR hr) rfl aW (ab (ae (pv 1)) ag) rfl)) (ai (cG (aV oR (mR hr) rfl aW (ab (ae (pv 2)) ag) rfl)) (ai (aP cU.nd rfl (.inl rfl) (ae (pv 0))) (ai (da (b6 SK rfl (cq (ae (pv 2))) (a8 cU.nd rfl (.inl rfl)) bU (br (au (aP cU.nd rfl (.inl rfl) (aV ft (mR hr) rfl cp (ab (ae (pv 3)) (ab (aV dY (mR hr) rfl cp (ab (ae (pv 3)) (ab (eC (ab aw (ab aw ag))) (ab (ae (pv 1)) ag))) rfl) (ab (ae (pv 4)) ag))) rfl)))))) (au (aE (ae (pv 3)))))))))
abbrev dB:Stmt:=top 41
def dw:List Str:=["board","ways","found","near","signs","whole","paints","ring","further","taken","letter","more"]
def iy:List Str:=["board","ways"]
theorem aK:FnScope dw iy (ah dB):=c8
theorem l_(B:Bl K mg base cv cA Cp)(bo:ak P w K mg base cv 4 "need_board" 1 aZ)(cW:ak P w K mg base cv 2 "need_ways" 1 bQ)(f_:ak P w K mg base cv 5 "all_patches" 2 cJ)(oQ:ak P w K mg base cv 3 "near_numbers" 3 d3)(cy:ak P w K mg base cv 1 "letter_of" 2 aO)(xG:ak P w K mg base cv 1 "drawn_in" 4 er)(T:bz K mg "fewest_paints" dB f):ak P w K mg base cv 6 "fewest_paints" 2 (bI):=
 aD (N:=dw) (ps:=iy) T aK (λ_ _ _ _ _ _ us hl=>match us,hl with | [_,_],_=>rfl) λ_ _ _ _ _ _ hr=>
  (ai (cG (aV bo (mR hr) rfl aW (ab (ae (pv 0)) ag) rfl)) (ai (cG (aV cW (mR hr) rfl aW (ab (ae (pv 1)) ag) rfl)) (ai (aP aK.nd rfl (.inl rfl) (aV f_ (mR hr) rfl aW (ab (ae (pv 0)) (ab (ae (pv 1)) ag)) rfl)) (ai (aP aK.nd rfl (.inl rfl) (aV oQ (mR hr) rfl aW (ab (ae (pv 0)) (ab (ae (pv 1)) (ab (ae (pv 2)) ag))) rfl)) (ai (i7 (tn:=["patch"]) (n:=0) aK.nd rfl (.inl rfl) (bZ (N:=dw) (osc:=(ah dB)) rfl rfl (by decide+kernel)) rfl rfl (cq (ae (pv 2))) (λ_ _ _ _ _ _ _=>dD (show TR (((["patch"]:List Str))++di ["patch"] dw) by decide+kernel) rfl rfl) (λ_ _ _ _ _ _=>dq) (λ_ _ _ _ _ _=>(aV cy (mR hr) rfl cp (ab (ae (pv 1)) (ab (uo (ae (pv 0)) aw) ag)) rfl))) (ai (aP aK.nd rfl (.inl rfl) (A3 rfl rfl B.tuple rfl B.range rfl rfl (bE rfl B.len (ab (ae (pv 2)) ag)))) (ai (wy aK.nd rfl (.inl rfl) (sr hr.units (eC (ab aw ag)) (eV ag))) (ai (aP aK.nd rfl (.inl rfl) (eV (ab (eC (ab aw ag)) ag))) (ai (da (su SK (uw (jE hr.units (ae (pv 5)) (ae (pv 6)))) (br (ai (jD aK.nd rfl (.inl rfl)) (ai (b6 SK rfl (cq (ae (pv 7))) (a8 aK.nd rfl (.inl rfl)) bU (br (au (b6 SK rfl (uv (uu rfl B.LETTERS (by decide))) (a8 aK.nd rfl (.inl rfl)) bU (br (ai (aP aK.nd rfl (.inl rfl) (aV xG (mR hr) rfl cp (ab (ae (pv 9)) (ab (ae (pv 3)) (ab (ae (pv 4)) (ab (ae (pv 10)) ag)))) rfl)) (au (bu (uw (jE hr.units (ae (pv 11)) (ae (pv 6)))) (ai (gH hr.units (pv 6) (ae (pv 11)) (K_ (Lc (FD (kc hr.units (ae (pv 6)) (ae (pv 9))) (eV (ab (ae (pv 10)) ag)))))) (au (lg (pv 8) (ae (pv 11))))) a5)))))))) (au (dz (i:=8) (aP aK.nd rfl (.inl rfl) (ae (pv 8)))))))))) (au (dz (i:=6) (aE (kc hr.units (ae (pv 6)) (ae (pv 5)))))))))))))))
abbrev ar:Stmt:=top 46
def aT:List Str:=["_law_script","_law_board_here","_law_ways","_law_row","_law_here","_law_k","_law_letter","_law_new","_law_small","_law_best","_law_again"]
def md:List Str:=["_law_script"]
theorem bK:FnScope aT md (ah ar):=c8
theorem uN(B:Bl K mg base cv cA Cp)(iC:ak P w K mg base cv 3 "_law_board" 3 cX){cu:Value}{A:S1}{outer:List Env}{s:R8}{H:Hp}{E:XK}(hr:Room 6 (A.deeper (T_ "law" (ah ar) s.heap.objs.size f cu))):
 Box (gT (dF (jZ P w cv) P w K mg base aT "law" (ah ar) f cu A outer s H E) (λn H'=>E (cv n) none H') ((aY ar).getD 0 (.Pass ⟨0,0,0,0⟩)) nz):=
 ⟨(aP bK.nd rfl (.inl rfl) (aV iC (mR hr) rfl aW (ab (ae (pv 0)) (ab aw (ab aw ag))) rfl))⟩
theorem uO(B:Bl K mg base cv cA Cp)(bt:ak P w K mg base cv 2 "_law_drawn" 3 aG){cu:Value}{A:S1}{outer:List Env}{s:R8}{H:Hp}{E:XK}(hr:Room 6 (A.deeper (T_ "law" (ah ar) s.heap.objs.size f cu))):
 Box (gT (dF (jZ P w cv) P w K mg base aT "law" (ah ar) f cu A outer s H E) (λn H'=>E (cv n) none H') ((aY ar).getD 1 (.Pass ⟨0,0,0,0⟩)) nA):=
 ⟨(aP bK.nd rfl (.inl rfl) (uo (eV (ab aw (ab aw ag))) (aV bt (mR hr) rfl aW (ab (ae (pv 0)) (ab aw (ab aw ag))) rfl)))⟩
theorem uP(B:Bl K mg base cv cA Cp)(bt:ak P w K mg base cv 2 "_law_drawn" 3 aG){cu:Value}{A:S1}{outer:List Env}{s:R8}{H:Hp}{E:XK}(hr:Room 6 (A.deeper (T_ "law" (ah ar) s.heap.objs.size f cu))):
 Box (gT (dF (jZ P w cv) P w K mg base aT "law" (ah ar) f cu A outer s H E) (λn H'=>E (cv n) none H') ((aY ar).getD 2 (.Pass ⟨0,0,0,0⟩)) nB):=
 ⟨(i7 (tn:=["_law_k"]) (n:=0) bK.nd rfl (.inl rfl) (bZ (N:=aT) (osc:=(ah ar)) rfl rfl (by decide+kernel)) rfl rfl (eD rfl B.range (ab (aV bt (mR hr) rfl aW (ab (ae (pv 0)) (ab aw (ab aw ag))) rfl) ag)) (λ_ _ _ _ _ _ _=>dD (show TR (((["_law_k"]:List Str))++di ["_law_k"] aT) by decide+kernel) rfl rfl) (λ_ _ _ _ _ _=>dq) (λ_ _ _ _ _ _=>(yx i4 (aV bt (mR hr) rfl cp (ab (ae (pv 1)) (ab (c0 aw (ae (pv 0))) (ab aw ag))) rfl))))⟩
theorem uQ(B:Bl K mg base cv cA Cp){cu:Value}{A:S1}{outer:List Env}{s:R8}{H:Hp}{E:XK}(hr:Room 6 (A.deeper (T_ "law" (ah ar) s.heap.objs.size f cu))):
 Box (gT (dF (jZ P w cv) P w K mg base aT "law" (ah ar) f cu A outer s H E) (λn H'=>E (cv n) none H') ((aY ar).getD 3 (.Pass ⟨0,0,0,0⟩)) nE):=
 ⟨(aP bK.nd rfl (.inl rfl) (ae (pv 1)))⟩
theorem uR(B:Bl K mg base cv cA Cp)(az:ak P w K mg base cv 6 "paints_over" 3 ay)(ju:ak P w K mg base cv 6 "painted" 4 cK)(dE:ak P w K mg base cv 6 "how_many" 2 bJ)(iD:ak P w K mg base cv 5 "letter_at" 2 dN){cu:Value}{A:S1}{outer:List Env}{s:R8}{H:Hp}{E:XK}(hr:Room 6 (A.deeper (T_ "law" (ah ar) s.heap.objs.size f cu))):
 Box (gT (dF (jZ P w cv) P w K mg base aT "law" (ah ar) f cu A outer s H E) (λn H'=>E (cv n) none H') ((aY ar).getD 4 (.Pass ⟨0,0,0,0⟩)) nG):=
 ⟨(da (b6 SK rfl (wq rfl B.enumerate (ab (ae (pv 3)) ag)) (Dv rfl (la (a8 bK.nd rfl (.inl rfl)) (la (a8 bK.nd rfl (.inl rfl)) zL))) (zQ (is:=[5,6])) (br (ai (aP bK.nd rfl (.inl rfl) (aV ju (mR hr) rfl cp (ab (ae (pv 4)) (ab (eC (ab aw (ab aw ag))) (ab (ae (pv 2)) (ab (ae (pv 6)) ag)))) rfl)) (ai (bu (i8 hr.units (aV az (mR hr) rfl cp (ab (ae (pv 1)) (ab (ae (pv 2)) (ab (wo (ae (pv 3)) i5 (i6 (c0 (ae (pv 5)) aw))) ag))) rfl) (ae (pv 7))) (au (aE d9)) a5) (ai (bu (i8 hr.units (aV iD (mR hr) rfl cp (ab (ae (pv 7)) (ab (eC (ab aw (ab aw ag))) ag)) rfl) (ae (pv 6))) (au (aE d9)) a5) (ai (bu (Lh (aV dE (mR hr) rfl cp (ab (ae (pv 7)) (ab (ae (pv 2)) ag)) rfl) (aV dE (mR hr) rfl cp (ab (ae (pv 4)) (ab (ae (pv 2)) ag)) rfl)) (au (aE d9)) a5) (ai (bu (i8 hr.units (aV az (mR hr) rfl cp (ab (ae (pv 4)) (ab (ae (pv 2)) (ab (eV (ab (ae (pv 6)) (ab (ae (pv 6)) ag))) ag))) rfl) (ae (pv 7))) (au (aE d9)) a5) (ai (bu (i8 hr.units (aV ju (mR hr) rfl cp (ab (ae (pv 7)) (ab (eC (ab aw (ab aw ag))) (ab (ae (pv 2)) (ab (ae (pv 6)) ag)))) rfl) (ae (pv 7))) (au (aE d9)) a5) (au (aP bK.nd rfl (.inl rfl) (ae (pv 7)))))))))))))⟩
theorem uS(B:Bl K mg base cv cA Cp)(az:ak P w K mg base cv 6 "paints_over" 3 ay){cu:Value}{A:S1}{outer:List Env}{s:R8}{H:Hp}{E:XK}(hr:Room 6 (A.deeper (T_ "law" (ah ar) s.heap.objs.size f cu))):
 Box (gT (dF (jZ P w cv) P w K mg base aT "law" (ah ar) f cu A outer s H E) (λn H'=>E (cv n) none H') ((aY ar).getD 5 (.Pass ⟨0,0,0,0⟩)) nH):=
 ⟨(bu (PDW.t (kf (i8 hr.units (aV az (mR hr) rfl aW (ab (ae (pv 1)) (ab (ae (pv 2)) (ab (ae (pv 3)) ag))) rfl) (ae (pv 4))) (g_ (i8 hr.units (aV az (mR hr) rfl aW (ab (ae (pv 1)) (ab (ae (pv 2)) (ab (eV ag) ag))) rfl) (ae (pv 1)))))) (au (aE d9)) a5)⟩
theorem uT(B:Bl K mg base cv cA Cp){cu:Value}{A:S1}{outer:List Env}{s:R8}{H:Hp}{E:XK}(hr:Room 6 (A.deeper (T_ "law" (ah ar) s.heap.objs.size f cu))):
 Box (gT (dF (jZ P w cv) P w K mg base aT "law" (ah ar) f cu A outer s H E) (λn H'=>E (cv n) none H') ((aY ar).getD 6 (.Pass ⟨0,0,0,0⟩)) nJ):=
 ⟨(aP bK.nd rfl (.inl rfl) (qg rfl B.tuple rfl (ab (fe (tn:=["_law_line"]) (n:=0) (bZ (N:=aT) (osc:=(ah ar)) rfl rfl (by decide+kernel)) rfl rfl (oB (wo (ae (pv 1)) i5 (i6 aw))) (λ_ _ _ _ _ _ _=>dD (show TR (((["_law_line"]:List Str))++di ["_law_line"] aT) by decide+kernel) rfl rfl) (λ_ _ _ _ _ _=>dq) (λ_ _ _ _ _ _=>(wo (ae (pv 0)) i5 (i6 aw)))) ag)))⟩
theorem uU(B:Bl K mg base cv cA Cp)(bY:ak P w K mg base cv 6 "fewest_paints" 2 bI){cu:Value}{A:S1}{outer:List Env}{s:R8}{H:Hp}{E:XK}(hr:Room 6 (A.deeper (T_ "law" (ah ar) s.heap.objs.size f cu))):
 Box (gT (dF (jZ P w cv) P w K mg base aT "law" (ah ar) f cu A outer s H E) (λn H'=>E (cv n) none H') ((aY ar).getD 7 (.Pass ⟨0,0,0,0⟩)) nK):=
 ⟨(aP bK.nd rfl (.inl rfl) (aV bY (mR hr) rfl aW (ab (ae (pv 8)) (ab (ae (pv 2)) ag)) rfl))⟩
theorem uV(B:Bl K mg base cv cA Cp)(az:ak P w K mg base cv 6 "paints_over" 3 ay)(bR:ak P w K mg base cv 5 "letters" 1 bS){cu:Value}{A:S1}{outer:List Env}{s:R8}{H:Hp}{E:XK}(hr:Room 6 (A.deeper (T_ "law" (ah ar) s.heap.objs.size f cu))):
 Box (gT (dF (jZ P w cv) P w K mg base aT "law" (ah ar) f cu A outer s H E) (λn H'=>E (cv n) none H') ((aY ar).getD 8 (.Pass ⟨0,0,0,0⟩)) nM):=
 ⟨(bu (i8 hr.units (bE rfl B.len (ab (aV bR (mR hr) rfl aW (ab (aV az (mR hr) rfl aW (ab (ae (pv 8)) (ab (ae (pv 2)) (ab (ae (pv 9)) ag))) rfl) ag) rfl) ag)) aw) (au (aE d9)) a5)⟩
theorem uW(B:Bl K mg base cv cA Cp)(bR:ak P w K mg base cv 5 "letters" 1 bS){cu:Value}{A:S1}{outer:List Env}{s:R8}{H:Hp}{E:XK}(hr:Room 6 (A.deeper (T_ "law" (ah ar) s.heap.objs.size f cu))):
 Box (gT (dF (jZ P w cv) P w K mg base aT "law" (ah ar) f cu A outer s H E) (λn H'=>E (cv n) none H') ((aY ar).getD 9 (.Pass ⟨0,0,0,0⟩)) nN):=
 ⟨(bu (Li (bE rfl B.len (ab (ae (pv 9)) ag)) (mf (bE rfl B.len (ab (aV bR (mR hr) rfl aW (ab (ae (pv 8)) ag) rfl) ag)) aw)) (au (aE d9)) a5)⟩
theorem rh(B:Bl K mg base cv cA Cp)(az:ak P w K mg base cv 6 "paints_over" 3 ay)(bR:ak P w K mg base cv 5 "letters" 1 bS){cu:Value}{A:S1}{outer:List Env}{s:R8}{H:Hp}{E:XK}(hr:Room 6 (A.deeper (T_ "law" (ah ar) s.heap.objs.size f cu))):
 Box (gT (dF (jZ P w cv) P w K mg base aT "law" (ah ar) f cu A outer s H E) (λn H'=>E (cv n) none H') ((aY ar).getD 10 (.Pass ⟨0,0,0,0⟩)) lu):=
 ⟨(bu (PDW.t (FJ (i8 hr.units (ae (pv 9)) (eV ag)) (Dj (wB hr.units (bE rfl B.len (ab (aV bR (mR hr) rfl aW (ab (aV az (mR hr) rfl aW (ab (ae (pv 8)) (ab (ae (pv 2)) (ab (wo (ae (pv 9)) i5 (i6 (II aw))) ag))) rfl) ag) rfl) ag)) aw)))) (au (aE d9)) a5)⟩
theorem rj(B:Bl K mg base cv cA Cp)(bR:ak P w K mg base cv 5 "letters" 1 bS){cu:Value}{A:S1}{outer:List Env}{s:R8}{H:Hp}{E:XK}(hr:Room 6 (A.deeper (T_ "law" (ah ar) s.heap.objs.size f cu))):
 Box (gT (dF (jZ P w cv) P w K mg base aT "law" (ah ar) f cu A outer s H E) (λn H'=>E (cv n) none H') ((aY ar).getD 11 (.Pass ⟨0,0,0,0⟩)) lB):=
 ⟨(bu (i8 hr.units (nk hr.units (ae (pv 9)) (eV ag)) (nk hr.units (bE rfl B.len (ab (aV bR (mR hr) rfl aW (ab (ae (pv 8)) ag) rfl) ag)) aw)) (au (aE d9)) a5)⟩
theorem rk(B:Bl K mg base cv cA Cp)(dE:ak P w K mg base cv 6 "how_many" 2 bJ){cu:Value}{A:S1}{outer:List Env}{s:R8}{H:Hp}{E:XK}(hr:Room 6 (A.deeper (T_ "law" (ah ar) s.heap.objs.size f cu))):
 Box (gT (dF (jZ P w cv) P w K mg base aT "law" (ah ar) f cu A outer s H E) (λn H'=>E (cv n) none H') ((aY ar).getD 12 (.Pass ⟨0,0,0,0⟩)) lC):=
 ⟨(bu (yB K6 G6 (bE rfl B.len (ab (ae (pv 9)) ag)) (aV dE (mR hr) rfl aW (ab (ae (pv 8)) (ab (ae (pv 2)) ag)) rfl) aw) (au (aE d9)) a5)⟩
theorem rl(B:Bl K mg base cv cA Cp)(az:ak P w K mg base cv 6 "paints_over" 3 ay){cu:Value}{A:S1}{outer:List Env}{s:R8}{H:Hp}{E:XK}(hr:Room 6 (A.deeper (T_ "law" (ah ar) s.heap.objs.size f cu))):
 Box (gT (dF (jZ P w cv) P w K mg base aT "law" (ah ar) f cu A outer s H E) (λn H'=>E (cv n) none H') ((aY ar).getD 13 (.Pass ⟨0,0,0,0⟩)) lD):=
 ⟨(aP bK.nd rfl (.inl rfl) (aV az (mR hr) rfl aW (ab (ae (pv 8)) (ab (ae (pv 2)) (ab (wo (ae (pv 9)) i5 (i6 aw)) ag))) rfl))⟩
theorem rm(B:Bl K mg base cv cA Cp)(bY:ak P w K mg base cv 6 "fewest_paints" 2 bI){cu:Value}{A:S1}{outer:List Env}{s:R8}{H:Hp}{E:XK}(hr:Room 6 (A.deeper (T_ "law" (ah ar) s.heap.objs.size f cu))):
 Box (gT (dF (jZ P w cv) P w K mg base aT "law" (ah ar) f cu A outer s H E) (λn H'=>E (cv n) none H') ((aY ar).getD 14 (.Pass ⟨0,0,0,0⟩)) lF):=
 ⟨(aE (Lb (nk hr.units (ae (pv 9)) (eV ag)) (ur (nk hr.units (bE rfl B.len (ab (aV bY (mR hr) rfl aW (ab (ae (pv 10)) (ab (ae (pv 2)) ag)) rfl) ag)) (mf (bE rfl B.len (ab (ae (pv 9)) ag)) aw)))))⟩
theorem v_{fd:Uy}(B:Bl K mg base cv cA Cp)(iC:ak P w K mg base cv 3 "_law_board" 3 cX)(bY:ak P w K mg base cv 6 "fewest_paints" 2 bI)(az:ak P w K mg base cv 6 "paints_over" 3 ay)(bt:ak P w K mg base cv 2 "_law_drawn" 3 aG)(ju:ak P w K mg base cv 6 "painted" 4 cK)(dE:ak P w K mg base cv 6 "how_many" 2 bJ)(iD:ak P w K mg base cv 5 "letter_at" 2 dN)(bR:ak P w K mg base cv 5 "letters" 1 bS)(Fn:Fun K "law" "law" ar f fd):FnOk P w K mg base (jZ P w cv) 7 f fd md (JE K cv 1 jx):=
 J2 (N:=aT) (ps:=md) (τ:=mB) Fn bK λcu A outer s H E hr=>by
  obtain⟨RQ⟩:Box (PSDs (dF (jZ P w cv) P w K mg base aT "law" (ah ar) f cu A outer s H E) (λn H'=>E (cv n) none H') (aY ar) mB):=(dX (uN B iC hr) (dX (uO B bt hr) (dX (uP B bt hr) (dX (uQ B hr) (dX (uR B az ju dE iD hr) (dX (uS B az hr) (dX (uT B hr) (dX (uU B bY hr) (dX (uV B az bR hr) (dX (uW B bR hr) (dX (rh B az bR hr) (dX (rj B bR hr) (dX (rk B dE hr) (dX (rl B az hr) (Hq (rm B bY hr))))))))))))))))
  assumption
end
end K1
namespace K1
open PySem L2 L3
theorem CM{ds:List D}(h:ds.length<=lim):de ds=aa (.lst ds):=Yg h
theorem cO:lim=4096:=rfl
theorem fk{α:Type}{xs:List α}{i:Nat}{x:α}(h:xs[i]? =some x):L2.atI xs (i:Int)=some x:=by
 obtain⟨hi,e⟩:=Sb.mp h;unfold L2.atI Et;rw[Yg (Int.natCast_nonneg i),Yg (by exact Int.ofNat_lt.mpr hi)];exact h
theorem aq{m:Nat}{g:List D->M D}{δs:DA}{Z:aU}{ds:List D}(h:δs Z=aa ds)(hl:ds.length=m):ao m g δs Z=g ds:=by
 unfold ao;rw[h];exact Yg hl
theorem aJ{a:DE}{r:DA}{Z:aU}{x:D}{xs:List D}(h1:a Z=aa x)(h2:r Z=aa xs):aC a r Z=aa (x::xs):=by
 unfold aC;rw[h1,av,h2];rfl
theorem aQ{g:D->D->M D}{a b:DE}{Z:aU}{x y:D}(h1:a Z=aa x)(h2:b Z=aa y):d2 g a b Z=g x y:=by
 unfold d2;rw[h1,av,h2];rfl
theorem ck{g:List D->M D}{a:DA}{Z:aU}{xs:List D}(h:a Z=aa xs):dA g a Z=g xs:=by
 unfold dA;rw[h];rfl
theorem gw{i j:Int}(h:0<j):kF (.int i) (.int j)=aa (.int (i % j)):=by
 show (if decide (0<j)=true then _ else _)=_;rw[Yg (Yi h)]
theorem kD{i j:Int}(h:0<j)(h2:j<1073741824):qR (.int i) (.int j)=aa (.int (i / j)):=by
 show (if decide (0<j/\j<1073741824)=true then _ else _)=_;rw[Yg (Yi ⟨h,h2⟩)]
theorem gx{i j:Int}(h:(-(2 ^ 64)<i/\i<2 ^ 64)\/(-(2 ^ 64)<j/\j<2 ^ 64)):iJ (.int i) (.int j)=aa (.int (i*j)):=by
 show (if decide _=true then _ else _)=_;rw[Yg (Yi h)]
theorem iH{i j:Int}:dg (.int i) (.int j)=aa (.int (i+j)):=rfl
theorem BM(ns:List Int)(hl:ns.length<=63)(k:Nat):∃v,fI [.scr ns, .int (k:Int)]=aa (.int v):=by
 cases ns with
 |nil=>
  refine⟨7*(k:Int),?_⟩;rfl
 |cons n r=>
  have hp:0<(n::r).length:=Nat.succ_pos _;generalize e:(n::r)=ns at*;have he:vB 6 (.scr ns) (.lst [])=some false:=by subst e;rfl
  obtain⟨y,hy⟩:∃y,ns[k % ns.length]? =some y:=⟨_,R6 (W_ _ hp)⟩
  have O3:(0:Int)<(ns.length:Int):=by omega
  have h1:kF (.int (k:Int)) (.int (ns.length:Int))=aa (.int ((k % ns.length:Nat):Int)):=gw O3;have h2:qR (.int (k:Int)) (.int (ns.length:Int))=aa (.int ((k:Int) / (ns.length:Int))):=kD O3 (by omega);have h3:Ca (.scr ns) (.int ((k % ns.length:Nat):Int))=aa (.int y):=by
   show (match L2.atI ns ((k % ns.length:Nat):Int) with | some n=>aa (D.int n) | none=>af)=_;rw[fk hy]
  have h4:iJ (.int 6553) (.int ((k:Int) / (ns.length:Int)))=aa (.int (6553*((k:Int) / (ns.length:Int)))):=gx (.inl ⟨by decide,by decide⟩);refine⟨y+6553*((k:Int) / (ns.length:Int)),?_⟩;simp only[fI,qG,cj,aA,fj,bj,cb,cP,d2,dV,dC,dA,aC,aN,de,bq,z_,kx,he,av,h1,h2,h3,h4,Sa,UB,UY,Tv,Sd,T2,SR,Ta,cO,Nat.reduceAdd,SM,if_true,S8,if_false,dg,gI]
theorem eo(ns:List Int)(hl:ns.length<=63)(k m:Nat)(hm:0<m):∃v:Nat,v<m/\aG [.scr ns, .int (k:Int), .int (m:Int)]=aa (.int (v:Int)):=by
 obtain⟨c,hc⟩:=BM ns hl k;have b1:=WT (c % 2147483563*69069+104723*((k:Int)+1)) (b:=2147483563) (by decide);have b2:=Wi (c % 2147483563*69069+104723*((k:Int)+1)) (b:=2147483563) (by decide);generalize hx:(c % 2147483563*69069+104723*((k:Int)+1)) % 2147483563=x at b1 b2;have b3:=WT (x*x+x / 3) (b:=2147483399) (by decide);have b4:=Wi (x*x+x / 3) (b:=2147483399) (by decide);generalize hy:(x*x+x / 3) % 2147483399=y at b3 b4;have m1:iJ (.int (c % 2147483563)) (.int 69069)=_:=gx (.inr ⟨by decide,by decide⟩);have m2:iJ (.int 104723) (.int ((k:Int)+1))=_:=gx (.inl ⟨by decide,by decide⟩);have m3:iJ (.int x) (.int x)=_:=gx (.inl ⟨by omega,by omega⟩);have m4:iJ (.int y) (.int y)=_:=gx (.inl ⟨by omega,by omega⟩);have hM:(0:Int)<(m:Int):=Int.ofNat_lt.mpr hm;have n1:=WT ((y*y+y / 7) % 2147483647 / 11) (b:=(m:Int)) (by omega);have n2:=Wi ((y*y+y / 7) % 2147483647 / 11) hM;have q1:kF (.int c) (.int 2147483563)=_:=gw (by decide);have q2:kF (.int (c % 2147483563*69069+104723*((k:Int)+1))) (.int 2147483563)=_:=gw (by decide);have q3:qR (.int x) (.int 3)=_:=kD (by decide) (by decide);have q4:kF (.int (x*x+x / 3)) (.int 2147483399)=_:=gw (by decide);have q5:qR (.int y) (.int 7)=_:=kD (by decide) (by decide);have q6:kF (.int (y*y+y / 7)) (.int 2147483647)=_:=gw (by decide);have q7:qR (.int ((y*y+y / 7) % 2147483647)) (.int 11)=_:=kD (by decide) (by decide);have q8:kF (.int ((y*y+y / 7) % 2147483647 / 11)) (.int (m:Int))=_:=gw hM;refine⟨((y*y+y / 7) % 2147483647 / 11 % (m:Int)).toNat,by omega,?_⟩;rw[Int.toNat_of_nonneg n1];rw[hx] at q2;rw[hy] at q4;simp only[aG,ny,cj,aA,bF,bj,ao,d2,dV,dC,dA,aC,aN,av,hc,Sa,UB,UY,Tv,Sd,T2,SR,Ta,S6,We,Wf,Nat.reduceAdd,Nat.reduceSub,if_true,iH,m1,m2,m3,m4,q1,q2,q3,q4,q5,q6,q7,q8]
theorem CW{α:Type}(a:α):noex (aa a)=aa a:=rfl
theorem vG{put:D->aU->Option aU}{body:DS}{I:Nat->aU->Prop}:∀(ds:List D) (i:Nat) (Z:aU),I i Z->
 (∀j d,ds[j]? =some d->∀Z,I (i+j) Z->∃Z1 Z2,put d Z=some Z1/\body Z1=aa (.nx Z2)/\I (i+j+1) Z2)->∃Z',forL put body ds Z=aa (.nx Z')/\I (i+ds.length) Z'
 |[],i,Z,h,_=>⟨Z,rfl,h⟩
 |d::ds,i,Z,h,step=>by
  obtain⟨Z1,Z2,e1,e2,h2⟩:=step 0 d rfl Z h;obtain⟨Z',e3,h3⟩:=vG (I:=I) ds (i+1) Z2 h2 λj d' hd Z hI=>by
   have:=step (j+1) d' hd Z (by rw[show i+(j+1)=i+1+j by omega];exact hI);rw[show i+(j+1)+1=i+1+j+1 by omega] at this;exact this
  refine⟨Z',?_,?_⟩
  ·show (match put d Z with | none=>af | some Z1=>body Z1>>=λo=>match o with | .nx Z2=>forL put body ds Z2 | .rt v=>aa (.rt v))=_;rw[e1];show (body Z1>>=λo=>match o with | .nx Z2=>forL put body ds Z2 | .rt v=>aa (.rt v))=_;rw[e2];exact e3
  ·rw[show i+(d::ds).length=i+1+ds.length by simp;omega];exact h3
theorem lO{f:D->M (Option D)}{Pr:D->Prop}:∀(ds:List D),(∀d∈ds,∃y,f d=aa (some y)/\Pr y)->∃ys,dh f ds=aa ys/\ys.length=ds.length/\∀y∈ys,Pr y
 |[],_=>⟨[],rfl,rfl,λ_ h=>by cases h⟩
 |d::ds,h=>by
  obtain⟨y,e,hy⟩:=h d (R1 ..);obtain⟨ys,e2,hl,hp⟩:=lO ds λd' hd=>h d' (R4 _ hd);refine⟨y::ys,?_,by simp[hl],λz hz=>?_⟩
  ·rw[el,e,av,e2];rfl
  ·cases hz with
   |head=>exact hy
   |tail _ hz=>exact hp z hz
theorem gr{f:D->M (Option D)}{g:D->D}:∀(ds:List D),(∀d∈ds,f d=aa (some (g d)))->dh f ds=aa (ds.map g)
 |[],_=>rfl
 |d::ds,h=>by
  rw[el,h d (R1 ..),av,gr ds λd' hd=>h d' (R4 _ hd)];rfl
def Cu(x:Str):Bool:=!(Tc ("abcdef":Str) x 0 ("abcdef":Str).length 1).isEmpty
structure Row (W:Nat) (r:Str):Prop where
 len:r.length=W
 let':∀c∈r.cps.toList,Cu ⟨#[c]⟩=true
structure Good (bd:List Str) (W:Nat):Prop where
 r1:1<=bd.length
 r5:bd.length<=5
 w1:1<=W
 w5:W<=5
 rows:∀r∈bd,Row W r
abbrev lE(c:Nat):Prop:=Cu ⟨#[c]⟩=true/\c≠101/\c≠100
def PJ(r:Str):Prop:=∀c∈r.cps.toList,c≠101
def LQ(r:Str):Prop:=∀c∈r.cps.toList,c≠101/\c≠100
theorem xc:∀(ys:List D),(∀y∈ys,∃c,y= .str ⟨#[c]⟩/\lE c)->∃xs,ku ys=some xs/\xs.length=ys.length/\(xs.map (·.length)).sum=ys.length/\Row ys.length (df xs)/\LQ (df xs)
 |[],_=>⟨[],rfl,rfl,rfl,⟨rfl,λc h=>by cases h⟩,λc h=>by cases h⟩
 |y::ys,h=>by
  obtain⟨c,e,hc⟩:=h y (R1 ..);obtain⟨xs,e1,e2,e3,e4,e5⟩:=xc ys λz hz=>h z (R4 _ hz);subst e;have zm:∀z,z∈((⟨#[c]⟩:Str)++df xs).cps.toList->z=c\/z∈(df xs).cps.toList:=λz hz=>by
   have:((⟨#[c]⟩:Str)++df xs).cps= #[c]++(df xs).cps:=rfl;rw[this] at hz;simpa using hz
  refine⟨⟨#[c]⟩::xs,?_,by simp[e2],?_,⟨?_,λz hz=>?_⟩,λz hz=>?_⟩
  ·show (ku ys).map _=_;rw[e1];rfl
  ·rw[Sa,Vt,e3];show 1+ys.length=_;simp;omega
  ·show ((⟨#[c]⟩:Str)++df xs).length=_;rw[jk,e4.len];show 1+ys.length=_;simp;omega
  ·rcases zm z hz with rfl | q
   ·exact hc.1
   ·exact e4.let' z q
  ·rcases zm z hz with rfl | q
   ·exact hc.2
   ·exact e5 z q
theorem DN{lo:Int}{n:Nat}{d:D}(h:d∈gO lo n):∃i:Nat,i<n/\d= .int (lo+(i:Int)):=by
 unfold gO at h;obtain⟨i,hi,e⟩:=Sm.mp h;exact⟨i,S7.mp hi,e.symm⟩
theorem Gb{lo:Int}{n j:Nat}{d:D}(h:(gO lo n)[j]? =some d):j<n/\d= .int (lo+(j:Int)):=by
 unfold gO at h;rw[Sj] at h;by_cases hj:j<n
 ·rw[UA hj] at h;cases h;exact⟨hj,rfl⟩
 ·rw[UR (by simpa using hj)] at h;cases h
theorem i_(lo:Int)(n:Nat):(gO lo n).length=n:=by simp[gO]
abbrev fz(d:D):Option Sl:=some (.fz d)
theorem gW{δe:DE}{Z:aU}{d:D}:gq 0 bW δe Z d=(δe (fz d::Z)>>=λy=>aa (some y)):=rfl
theorem BR{δt:DT}{δe:DE}{Z:aU}{d:D}:gq 0 δt δe Z d=(δt (fz d::Z)>>=λb=>if b then δe (fz d::Z)>>=λy=>aa (some y) else aa none):=rfl
theorem aj{a b:DS}{Z Z':aU}{o:M Out}(h:a Z=aa (.nx Z'))(h2:b Z'=o):aA a b Z=o:=by
 unfold aA;rw[h];exact h2
theorem eg{a b:DS}{Z:aU}{d:D}(h:a Z=aa (.rt d)):aA a b Z=aa (.rt d):=by
 unfold aA;rw[h];rfl
theorem aR{i:Nat}{δ:DE}{Z:aU}{d:D}(h:δ Z=aa d):bF i δ Z=aa (.nx (Z.set i (fz d))):=by
 unfold bF;rw[h];rfl
theorem e9{c:DT}{a b:DS}{Z:aU}{o:M Out}(h:c Z=aa true)(h2:a Z=o):fj c a b Z=o:=by
 unfold fj;rw[h];exact h2
theorem e7{c:DT}{a b:DS}{Z:aU}{o:M Out}(h:c Z=aa false)(h2:b Z=o):fj c a b Z=o:=by
 unfold fj;rw[h];exact h2
theorem aM{δ:DE}{Z:aU}{d:D}(h:δ Z=aa d):bj δ Z=aa (.rt d):=by
 unfold bj;rw[h];rfl
theorem bV{δ:DE}{Z:aU}{d:D}(h:δ Z=aa d):h7 δ Z=aa (.nx Z):=by
 unfold h7;rw[h];rfl
theorem a9{n:Nat}{τ:DS}{ds:List D}{d:D}(h:τ (ds.map (λd=>some (Sl.fz d))++S6 (n - ds.length) none)=aa (.rt d)):cj n τ ds=aa d:=by
 unfold cj;rw[h];rfl
theorem lj{n:Nat}{τ:DS}{ds:List D}{Z:aU}(h:τ (ds.map (λd=>some (Sl.fz d))++S6 (n - ds.length) none)=aa (.nx Z)):cj n τ ds=aa .non:=by
 unfold cj;rw[h];rfl
theorem DQ{put:D->aU->Option aU}{δi:DA}{b:DS}{Z:aU}{ds:List D}{o:Out}(h:δi Z=aa ds)(h2:forL put b ds Z=aa o):noex (dS put δi b Z)=aa o:=by
 unfold dS;rw[h,av,h2];rfl
theorem bc{is:List Nat}{τ:DS}{Z Z':aU}(h:τ Z=aa (.nx Z')):b_ is τ Z=aa (.nx (fgt is Z')):=by
 unfold b_;rw[h];rfl
theorem b0{n:Nat}{δi:DA}{δt:DT}{δe:DE}{Z:aU}{ds ys:List D}(h:δi Z=aa ds)(h2:dh (gq n δt δe Z) ds=aa ys)(h3:ys.length<=lim):bx n δi δt δe Z=aa (.lst ys):=by
 unfold bx;rw[h,av,h2,CW,av,CM h3]
theorem mq{n:Nat}(h:n<=4096):iz [.int (n:Int)]=aa (gO 0 n):=by
 show (if -4096<=(n:Int)/\(n:Int)<=4096 then aa (gO 0 (n:Int).toNat) else af)=_;rw[Yg ⟨by omega,by omega⟩];rfl
structure Alpha (al:Str):Prop where
 pos:0<al.length
 ok:∀c∈al.cps.toList,lE c
theorem Hj:Alpha "ab"/\Alpha "abc"/\Alpha "aab"/\Alpha "fa":=by
 refine⟨⟨by decide+kernel,?_⟩,⟨by decide+kernel,?_⟩,⟨by decide+kernel,?_⟩,⟨by decide+kernel,?_⟩⟩<;>decide+kernel
theorem Cb{x:Str}{i:Nat}(h:i<x.length):∃c,c∈x.cps.toList/\x.cps.toList[i]? =some c/\kE (.str x) (.int (i:Int))=aa (.str ⟨#[c]⟩):=by
 have h:i<x.cps.toList.length:=by rw[Sr];exact h
 refine⟨x.cps.toList[i],T8 h,R6 h,?_⟩;show (match L2.atI x.cps.toList (i:Int) with | some c=>aa (D.str ⟨#[c]⟩) | none=>af)=_;rw[fk (R6 h)]
abbrev brd(bd:List Str):D:= .tup (bd.map D.str)
abbrev sgn(at' mo:Nat)(ns:List Int)(W:Nat)(al:Str)(bd:List Str)(R:Nat)(x7 x8:Option Sl):aU:=[fz (.scr ns),fz (.int (at':Int)),fz (.int (mo:Int)),fz (.int (R:Int)),fz (.int (W:Int)),fz (.str al),fz (brd bd),x7,x8]
def PB:DE:=bx 0 (λZ=>(aC (dV 4) aN) Z>>=iz) bW (d2 kE (dV 6) (ao 3 aG (aC (dV 1) (aC (d2 dg (d2 dg (d2 dg (dV 2) (dC (.int 3))) (d2 iJ (dC (.int 7)) (dV 8))) (dV 0)) (aC (dA bq (aC (dV 6) aN)) aN)))))
theorem Bd(at' mo:Nat)(ns:List Int)(hl:ns.length<=63)(al:Str)(ha:Alpha al)(j W R:Nat)(hW:W<=5)(bd:List Str)(x8:Option Sl):
 ∃ys,PB (sgn at' mo ns W al bd R (fz (.int (0+(j:Int)))) x8)=aa (.lst ys)/\ys.length=W/\∀y∈ys,∃c,y= .str ⟨#[c]⟩/\lE c:=by
 obtain⟨ys,e,Eo,hp⟩:=lO (f:=gq 0 bW (d2 kE (dV 6) (ao 3 aG (aC (dV 1) (aC (d2 dg (d2 dg (d2 dg (dV 2) (dC (.int 3))) (d2 iJ (dC (.int 7)) (dV 8))) (dV 0)) (aC (dA bq (aC (dV 6) aN)) aN)))))
  (sgn at' mo ns W al bd R (fz (.int (0+(j:Int)))) x8)) (Pr:=λy=>∃c,y= .str ⟨#[c]⟩/\lE c) (gO 0 W) λd hd=>by
  obtain⟨i,hi,rfl⟩:=DN hd;obtain⟨v,hv,e⟩:=eo ns hl (at'+3+7*j+i) al.length ha.pos;obtain⟨c,hc,_,e2⟩:=Cb hv;refine⟨.str ⟨#[c]⟩,?_,c,rfl,ha.ok c hc⟩;rw[gW];have k:(at':Int)+3+7*(0+(j:Int))+(0+(i:Int))=((at'+3+7*j+i:Nat):Int):=by omega
  have m1:iJ (.int 7) (.int (0+(j:Int)))=aa (.int (7*(0+(j:Int)))):=gx (.inl ⟨by decide,by decide⟩);simp only[ao,d2,dV,dC,dA,aC,aN,av,Sd,T2,SR,Ta,Nat.reduceAdd,if_true,iH,m1,k,bq,e,e2]
 refine⟨ys,b0 (mq (n:=W) (by omega)) e (by rw[Eo,i_,cO];omega),by rw[Eo,i_],hp⟩
def PF:DS:=bF 6 (d2 vJ (dV 6) (dA cB (aC (dM tN joinM (dC (.str "")) (aC (dV 8) aN)) aN)))
theorem Ez(at' mo:Nat)(ns:List Int)(W:Nat)(al:Str)(bd:List Str)(R:Nat)(x7:Option Sl)(ys:List D)(hb:bd.length<=5)(hy:ys.length<=5)(s3:∀y∈ys,∃c,y= .str ⟨#[c]⟩/\lE c):
 ∃r,(Row ys.length r/\LQ r)/\PF (sgn at' mo ns W al bd R x7 (fz (.lst ys)))=aa (.nx (sgn at' mo ns W al (bd++[r]) R x7 (fz (.lst ys)))):=by
 obtain⟨xs,t1,t2,t3,t4⟩:=xc ys s3;refine⟨df xs,t4,?_⟩;have jn:joinM (.str "") [.lst ys]=aa (.str (df xs)):=by
  show (match ku ys with | some (xs:List Str)=>if ("":Str).length=0/\(xs.map (λx:Str=>x.length)).sum<=lim then aa (D.str (df xs)) else af | none=>af)=_;rw[t1];show (if ("":Str).length=0/\(xs.map (λx:Str=>x.length)).sum<=lim then aa (D.str (df xs)) else af)=_;rw[Yg ⟨rfl,by rw[t3,cO];omega⟩]
 have ct:vJ (brd bd) (.tup [.str (df xs)])=aa (brd (bd++[df xs])):=by
  show (if (bd.map D.str).length+1<=lim then aa (D.tup (bd.map D.str++[.str (df xs)])) else af)=_;rw[Yg (by rw[R5,cO];omega)];simp[brd]
 refine(aR (d:=brd (bd++[df xs])) ?_).trans rfl;simp only[d2,dV,dC,dA,aC,aN,dM,tN,av,SR,Ta,if_true,jn,cB,Sd,T2,cO,Nat.reduceAdd,Nat.reduceLeDiff,ct]
theorem xD(ns:List Int)(hl:ns.length<=63)(at' mo:Nat)(m0:0<mo)(m5:mo<=5):∃bd W,Good bd W/\(∀r∈bd,LQ r)/\bd.length<=mo/\W<=mo/\cX [.scr ns, .int (at':Int), .int (mo:Int)]=aa (brd bd):=by
 obtain⟨r,hr,e1⟩:=eo ns hl at' mo m0;obtain⟨c,hc,e2⟩:=eo ns hl (at'+1) mo m0;obtain⟨a,ha,e3⟩:=eo ns hl (at'+2) 4 (by decide);obtain⟨al,GQ,e4⟩:∃al,Alpha al/\iI (.lst [.str "ab", .str "abc", .str "aab", .str "fa"]) (.int (a:Int))=aa (.str al):=by
  obtain⟨a1,a2,a3,a4⟩:=Hj
  match a,ha with
  |0,_=>exact⟨_,a1,rfl⟩
  |1,_=>exact⟨_,a2,rfl⟩
  |2,_=>exact⟨_,a3,rfl⟩
  |3,_=>exact⟨_,a4,rfl⟩
 have k1:(1:Int)+(r:Int)=((r+1:Nat):Int):=by omega
 have k2:(1:Int)+(c:Int)=((c+1:Nat):Int):=by omega
 have Bs:aG [.scr ns, .int (at':Int), .int (mo:Int)]=aa (.int (r:Int)):=e1;have Jx:aG [.scr ns, .int ((at':Int)+1), .int (mo:Int)]=aa (.int (c:Int)):=e2;have LW:aG [.scr ns, .int ((at':Int)+2), .int 4]=aa (.int (a:Int)):=e3;obtain⟨Z',f1,bd,f2,f3,f4⟩:=vG (put:=putN 7) (body:=b_ [7,8] (aA (bF 8 PB) PF))
  (I:=λi Z=>∃bd,Z=sgn at' mo ns (c+1) al bd (r+1) none none/\bd.length=i/\∀z∈bd,Row (c+1) z/\LQ z)
  (gO 0 (r+1)) 0 (sgn at' mo ns (c+1) al [] (r+1) none none) ⟨[],rfl,rfl,λ_ h=>by cases h⟩ λj d hd Z ⟨bd,hZ,hb,hw⟩=>by
   obtain⟨hj,rfl⟩:=Gb hd;subst hZ;obtain⟨ys,s1,s2,s3⟩:=Bd at' mo ns hl al GQ j (c+1) (r+1) (by omega) bd none;obtain⟨zT,t1,t2⟩:=Ez at' mo ns (c+1) al bd (r+1) (fz (.int (0+(j:Int)))) ys (by omega) (by omega) s3;refine⟨_,_,rfl,bc (aj (aR s1) t2),bd++[zT],rfl,by simp[hb],λz hz=>?_⟩;rcases SD.mp hz with h | h
   ·exact hw z h
   ·have h:z=zT:=by simpa using h
    subst h;rw[s2] at t1;exact t1
 refine⟨bd,c+1,⟨by rw[f3,i_];omega,by rw[f3,i_];omega,by omega,by omega,λr q=>(f4 r q).1⟩,λr q=>(f4 r q).2,by rw[f3,i_];omega,by omega,?_⟩;subst f2;refine a9 ?_;refine aj (aR (d:= .int ((r+1:Nat):Int)) ?_) ?_
 ·simp only[ao,d2,dV,dC,aC,aN,av,Sa,UB,UY,Tv,Sd,T2,SR,Ta,Nat.reduceAdd,if_true,iH,Bs,k1]
 refine aj (aR (d:= .int ((c+1:Nat):Int)) ?_) ?_
 ·simp only[ao,d2,dV,dC,aC,aN,av,Sa,UB,UY,Tv,Sd,T2,S6,We,Wf,Nat.reduceSub,SR,Ta,Nat.reduceAdd,if_true,iH,Jx,k2]
 refine aj (aR (d:= .str al) ?_) ?_
 ·simp only[ao,d2,dV,dC,dA,aC,aN,av,Sa,UB,UY,Tv,Sd,T2,S6,We,Wf,Nat.reduceSub,SR,Ta,Nat.reduceAdd,if_true,iH,LW,de,cO,Nat.reduceLeDiff,e4]
 refine aj (aR (d:= .tup []) rfl) ?_;refine aj (DQ (mq (n:=r+1) (by omega)) f1) ?_;exact aM rfl
theorem xC(ns:List Int)(hl:ns.length<=63)(at' mo:Nat)(m0:0<mo)(m5:mo<=5):∃bd W,Good bd W/\(∀r∈bd,PJ r)/\bd.length<=mo/\W<=mo/\cX [.scr ns, .int (at':Int), .int (mo:Int)]=aa (brd bd):=
 let ⟨bd,W,h1,h3,h2⟩:=xD ns hl at' mo m0 m5
 ⟨bd,W,h1,λr hr c hc=>(h3 r hr c hc).1,h2⟩
theorem xE(ns:List Int)(hl:ns.length<=63)(at' mo:Nat)(m0:0<mo)(m5:mo<=5):∃bd W,Good bd W/\bd.length<=mo/\W<=mo/\cX [.scr ns, .int (at':Int), .int (mo:Int)]=aa (brd bd):=
 let ⟨bd,W,h1,_,h2⟩:=xC ns hl at' mo m0 m5
 ⟨bd,W,h1,h2⟩
def Plain:D->Prop
 | .non | .bl _ | .int _ | .str _ | .tup _ | .lst _=>True
 |_=>False
def isStr:D->Bool
 | .str _=>true
 |_=>false
def isTup:D->Bool
 | .tup _=>true
 |_=>false
theorem fW{d:D}(h:Plain d):gZ [d, .raw (.ty "str")]=aa (.bl (isStr d)):=by
 cases d<;>first | rfl | exact h.elim
theorem ou{d:D}(h:Plain d):gZ [d, .raw (.ty "tuple")]=aa (.bl (isTup d)):=by
 cases d<;>first | rfl | exact h.elim
def tT:D->Bool
 | .str x=>(x.length==1)&&Cu x
 |_=>false
theorem fC{Z:aU}{i:Nat}{d:D}(h:Z[i]? =some (fz d)):dV i Z=aa d:=by
 unfold dV;rw[h]
theorem eq_int(i j:Int):kx (.int i) (.int j)=aa (.bl (i==j)):=rfl
theorem ne_int(i j:Int):lG (.int i) (.int j)=aa (.bl (!(i==j))):=rfl
theorem len_str(x:Str):bq [.str x]=aa (.int (x.length:Int)):=rfl
theorem in_str(x:Str):qS false (.str x) (.str "abcdef")=aa (.bl (Cu x)):=rfl
theorem kS(a b:Nat):((a:Int)==(b:Int))=(a==b):=by
 by_cases h:a=b
 ·subst h;simp
 ·have h2:¬(a:Int)=(b:Int):=by omega
  rw[Yn.mpr h,Yn.mpr h2]
theorem Fg{d:D}(h:Plain d){i:Nat}{Z:aU}(hZ:Z[i]? =some (fz d)):
 fB (dA gZ (aC (dV i) (aC (dC (.raw (.ty "str"))) aN))) (fB (d2 kx (dA bq (aC (dV i) aN)) (dC (.int 1))) (d2 (qS false) (dV i) (dC (.str "abcdef")))) Z=aa (.bl (tT d)):=by
 have hv:=fC hZ;have e1:=kS;cases d with
 |str x=>
  have k:((x.length:Int)==1)=(x.length==1):=kS x.length 1;simp only[fB,dA,aC,aN,dC,d2,hv,av,fW h,isStr,z_,if_true,len_str,eq_int,k,in_str,tT];cases x.length==1<;>rfl
 |non=>simp only[fB,dA,aC,aN,dC,d2,hv,av,fW h,isStr,z_,if_false,S8,tT]
 |bl b=>simp only[fB,dA,aC,aN,dC,d2,hv,av,fW h,isStr,z_,if_false,S8,tT]
 |int b=>simp only[fB,dA,aC,aN,dC,d2,hv,av,fW h,isStr,z_,if_false,S8,tT]
 |tup b=>simp only[fB,dA,aC,aN,dC,d2,hv,av,fW h,isStr,z_,if_false,S8,tT]
 |lst b=>simp only[fB,dA,aC,aN,dC,d2,hv,av,fW h,isStr,z_,if_false,S8,tT]
 |raw _=>exact h.elim
 |exc _=>exact h.elim
 |scr _=>exact h.elim
 |dct _ _=>exact h.elim
 |dci _ _=>exact h.elim
theorem gc{d:D}(h:Plain d):bA [d]=aa (.bl (tT d)):=a9 (aM (Fg h rfl))
def jA(x:Str):Bool:=x.cps.toList.all λc=>Cu ⟨#[c]⟩
def nX:D->Bool
 | .str x=>(decide (1<=x.length)&&decide (x.length<=8))&&jA x
 |_=>false
theorem Aa(l:List Bool):bools (l.map D.bl)=some l:=by
 induction l with
 |nil=>rfl
 |cons b r ih=>show (bools (r.map D.bl)).map _=_;rw[ih];rfl
theorem all_map(l:List Bool):allM [.lst (l.map D.bl)]=aa (.bl (l.all id)):=by
 show (match bools (l.map D.bl) with | some bs=>aa (D.bl (bs.all id)) | none=>af)=_;rw[Aa]
theorem BN{δ:DE}{Z:aU}{n:Nat}(h:δ Z=aa (.int (n:Int))):
 cP (xr (λi j=>decide (i<=j)) (λi j=>decide (i<=j)) (dC (.int 1)) δ (dC (.int 8))) Z=aa (decide (1<=n)&&decide (n<=8)):=by
 have k1:decide ((1:Int)<=(n:Int))=decide (1<=n):=by by_cases h:1<=n<;>simp[h]<;>omega
 have k2:decide ((n:Int)<=8)=decide (n<=8):=by by_cases h:n<=8<;>simp[h]<;>omega
 simp only[cP,xr,dC,h,av,k1,k2,gI,z_];cases decide (1<=n)<;>rfl
theorem xY{d:D}(h:Plain d):fH [d]=aa (.bl (nX d)):=by
 refine a9 ?_;have hZ:([d].map (λd=>some (Sl.fz d))++S6 (1 - [d].length) none)=[fz d]:=rfl;rw[hZ];have hv:dV 0 [fz d]=aa d:=rfl;have no:isStr d=false->xk [fz d]=aa (.rt (.bl false)):=λhs=>by
  refine eg (e9 ?_ (aM rfl));simp only[oY,cN,cw,dA,aC,aN,dC,hv,av,fW h,hs,xb,VX,if_true]
 cases d with
 |str x=>
  have hi:cw (dA gZ (aC (dV 0) (aC (dC (.raw (.ty "str"))) aN))) [fz (.str x)]=aa true:=by
   simp only[cw,dA,aC,aN,dC,hv,av,fW h,isStr,xb]
  have hl:dA bq (aC (dV 0) aN) [fz (.str x)]=aa (.int (x.length:Int)):=rfl;have hc:=BN hl;by_cases hr:(decide (1<=x.length)&&decide (x.length<=8))=true
  ·rw[hr] at hc;refine aj (e7 ?_ (Z:=[fz (.str x)]) rfl) (aM ?_)
   ·unfold oY cN;rw[hi,av,av,hc];rfl
   ·have hb:x.length<=8:=by simp only[SX,Yj] at hr;exact hr.2
    have cm:bx 0 (λZ=>(dV 0) Z>>=Bc) bW (ao 1 bA (aC (dV 0) aN)) [fz (.str x)]=aa (.lst ((x.cps.toList.map λc=>Cu ⟨#[c]⟩).map D.bl)):=by
     refine b0 (ds:=signs x) rfl ?_ ?_
     ·have:=gr (f:=gq 0 bW (ao 1 bA (aC (dV 0) aN)) [fz (.str x)]) (g:=λd=>D.bl (tT d)) (signs x) λd hd=>by
       rw[gW];obtain⟨c,_,rfl⟩:=Sm.mp hd;show (bA [.str ⟨#[c]⟩]>>=λy=>aa (some y))=_;rw[gc (d:= .str ⟨#[c]⟩) trivial];rfl
      rw[this];unfold signs;rw[SF,SF];congr 1
     ·rw[R5,R5,Sr,cO];exact Sy hb (by decide)
    rw[ck (aJ cm rfl),all_map];show aa (D.bl ((x.cps.toList.map λc=>Cu ⟨#[c]⟩).all id))=aa (D.bl ((decide (1<=x.length)&&decide (x.length<=8))&&jA x));rw[hr];unfold jA;rw[UC];rfl
  ·have hr:(decide (1<=x.length)&&decide (x.length<=8))=false:=by simpa using hr
   rw[hr] at hc;have:nX (.str x)=false:=by
    show ((decide (1<=x.length)&&decide (x.length<=8))&&jA x)=false;rw[hr];rfl
   rw[this];refine eg (e9 ?_ (aM rfl));unfold oY cN;rw[hi,av,av,hc];rfl
 |non=>exact no rfl
 |bl b=>exact no rfl
 |int b=>exact no rfl
 |tup b=>exact no rfl
 |lst b=>exact no rfl
 |raw _=>exact h.elim
 |exc _=>exact h.elim
 |scr _=>exact h.elim
 |dct _ _=>exact h.elim
 |dci _ _=>exact h.elim
def j5:D->Nat
 | .str x=>x.length
 |_=>0
def oP:D->Bool
 | .tup ds=>(decide (1<=ds.length)&&decide (ds.length<=8))&&(ds.all nX&&ds.all λd=>j5 d==j5 (ds.headD .non))
 |_=>false
def Plain2:D->Prop
 | .tup ds=>∀d∈ds,Plain d
 |d=>Plain d
theorem Plain2.plain{d:D}(h:Plain2 d):Plain d:=by
 cases d<;>first | exact h | exact trivial
theorem Ff{ds:List D}:bq [.tup ds]=aa (.int (ds.length:Int)):=rfl
theorem NF{ds:List D}{d:D}{r:List D}(h:ds=d::r):bP (.tup ds) (.int 0)=aa d:=by
 subst h;show (match L2.atI (d::r) ((0:Nat):Int) with | some d=>aa d | none=>af)=_;rw[fk (x:=d) rfl]
theorem Ge{d:D}(h:nX d=true):∃x,d= .str x:=by
 cases d<;>first | exact⟨_,rfl⟩ | cases h
theorem Aq{d:D}(h:Plain d):oY (cN (cw (dA gZ (aC (dV 0) (aC (dC (.raw (.ty "tuple"))) aN))))) (cN (cP (xr (λi j=>decide (i<=j)) (λi j=>decide (i<=j)) (dC (.int 1)) (dA bq (aC (dV 0) aN)) (dC (.int 8))))) [fz d]=
 aa (match d with | .tup ds=>!(decide (1<=ds.length)&&decide (ds.length<=8)) | _=>true):=by
 have hv:dV 0 [fz d]=aa d:=rfl;have no:isTup d=false->oY (cN (cw (dA gZ (aC (dV 0) (aC (dC (.raw (.ty "tuple"))) aN))))) (cN (cP (xr (λi j=>decide (i<=j)) (λi j=>decide (i<=j)) (dC (.int 1)) (dA bq (aC (dV 0) aN)) (dC (.int 8))))) [fz d]=aa true:=λhs=>by
  simp only[oY,cN,cw,dA,aC,aN,dC,hv,av,ou h,hs,xb,VX,if_true]
 cases d with
 |tup ds=>
  have hi:cw (dA gZ (aC (dV 0) (aC (dC (.raw (.ty "tuple"))) aN))) [fz (.tup ds)]=aa true:=by
   simp only[cw,dA,aC,aN,dC,hv,av,ou h,isTup,xb]
  have hl:dA bq (aC (dV 0) aN) [fz (.tup ds)]=aa (.int (ds.length:Int)):=rfl;unfold oY cN;rw[hi,av,av,BN hl];rfl
 |non=>exact no rfl
 |bl b=>exact no rfl
 |int b=>exact no rfl
 |str b=>exact no rfl
 |lst b=>exact no rfl
 |raw _=>exact h.elim
 |exc _=>exact h.elim
 |scr _=>exact h.elim
 |dct _ _=>exact h.elim
 |dci _ _=>exact h.elim
theorem all_rows{ds:List D}(h:∀d∈ds,Plain d)(hl:ds.length<=8):dA allM (aC (bx 0 (oW (dV 0)) bW (ao 1 fH (aC (dV 0) aN))) aN) [fz (.tup ds)]=aa (.bl (ds.all nX)):=by
 have cm:bx 0 (oW (dV 0)) bW (ao 1 fH (aC (dV 0) aN)) [fz (.tup ds)]=aa (.lst ((ds.map nX).map D.bl)):=by
  refine b0 (ds:=ds) rfl ?_ (by rw[R5,R5,cO];omega);rw[SF];refine gr (g:=D.bl∘nX) ds λd hd=>?_;rw[gW];show (fH [d]>>=λy=>aa (some y))=_;rw[xY (h d hd)];rfl
 rw[ck (aJ cm rfl),all_map,UC];rfl
theorem all_lens{ds:List D}(hs:∀d∈ds,∃x,d= .str x)(h0:1<=ds.length)(hl:ds.length<=8):
 dA allM (aC (bx 0 (oW (dV 0)) bW (d2 kx (dA bq (aC (dV 0) aN)) (dA bq (aC (d2 bP (dV 1) (dC (.int 0))) aN)))) aN) [fz (.tup ds)]=aa (.bl (ds.all λd=>j5 d==j5 (ds.headD .non))):=by
 obtain⟨d0,r,e0⟩:∃d0 r,ds=d0::r:=by
  cases ds with
  |nil=>simp at h0
  |cons a r=>exact⟨a,r,rfl⟩
 have hh:ds.headD .non=d0:=by rw[e0];rfl
 obtain⟨x0,O_⟩:=hs d0 (by rw[e0];exact R1 ..);have cm:bx 0 (oW (dV 0)) bW (d2 kx (dA bq (aC (dV 0) aN)) (dA bq (aC (d2 bP (dV 1) (dC (.int 0))) aN))) [fz (.tup ds)]=aa (.lst ((ds.map λd=>j5 d==j5 (ds.headD .non)).map D.bl)):=by
  refine b0 (ds:=ds) rfl ?_ (by rw[R5,R5,cO];omega);rw[SF];refine gr (g:=D.bl∘λd=>j5 d==j5 (ds.headD .non)) ds λd hd=>?_;rw[gW];obtain⟨x,rfl⟩:=hs d hd;have k:((x.length:Int)==(x0.length:Int))=(x.length==x0.length):=kS _ _;have i0:bP (.tup ds) (.int 0)=aa (.str x0):=by rw[NF e0,O_]
  have Qx:ds.headD .non= .str x0:=by rw[hh,O_]
  simp only[d2,dA,aC,aN,dC,dV,av,SR,Ta,len_str,i0,eq_int,k,WI,j5,Qx]
 rw[ck (aJ cm rfl),all_map,UC];rfl
theorem tO{d:D}(h:Plain2 d):gX [d]=aa (.bl (oP d)):=by
 refine a9 ?_;have hZ:([d].map (λd=>some (Sl.fz d))++S6 (1 - [d].length) none)=[fz d]:=rfl;rw[hZ];have hf:=Aq h.plain;have no:(∀ds,d≠ .tup ds)->qF [fz d]=aa (.rt (.bl (oP d))):=λhn=>by
  cases d<;>first | exact Ym rfl (hn _) | exact eg (e9 hf (aM rfl))
 cases d with
 |tup ds=>
  have hf:_=aa (!(decide (1<=ds.length)&&decide (ds.length<=8))):=hf;by_cases hr:(decide (1<=ds.length)&&decide (ds.length<=8))=true
  ·rw[hr] at hf;have hb:=hr;simp only[SX,Yj] at hb;have e:oP (.tup ds)=(ds.all nX&&ds.all λd=>j5 d==j5 (ds.headD .non)):=by
    show ((decide (1<=ds.length)&&decide (ds.length<=8))&&_)=_;rw[hr,Xe]
   rw[e];have a1:=all_rows h hb.2;refine aj (e7 hf rfl) ?_;cases hc:ds.all nX with
   |false=>
    rw[hc] at a1;refine eg (e9 ?_ (aM rfl));unfold cN cw;rw[a1];rfl
   |true=>
    rw[hc] at a1;refine aj (e7 ?_ rfl) (aM ?_)
    ·unfold cN cw;rw[a1];rfl
    ·rw[Xe];exact all_lens (λd hd=>Ge (SA.mp hc d hd)) hb.1 hb.2
  ·have hr:(decide (1<=ds.length)&&decide (ds.length<=8))=false:=by simpa using hr
   rw[hr] at hf;have e:oP (.tup ds)=false:=by
    show ((decide (1<=ds.length)&&decide (ds.length<=8))&&_)=_;rw[hr];rfl
   rw[e];exact eg (e9 hf (aM rfl))
 |non=>exact no λ_ z=>by cases z
 |bl b=>exact no λ_ z=>by cases z
 |int b=>exact no λ_ z=>by cases z
 |str b=>exact no λ_ z=>by cases z
 |lst b=>exact no λ_ z=>by cases z
 |raw _=>exact h.elim
 |exc _=>exact h.elim
 |scr _=>exact h.elim
 |dct _ _=>exact h.elim
 |dci _ _=>exact h.elim
structure Brd (ob:List Str) (V:Nat):Prop where
 r1:1<=ob.length
 r8:ob.length<=8
 w1:1<=V
 w8:V<=8
 rows:∀r∈ob,Row V r
theorem Good.brd{bd:List Str}{W:Nat}(hg:Good bd W):Brd bd W:=⟨hg.r1,by have:=hg.r5;omega,hg.w1,by have:=hg.w5;omega,hg.rows⟩
theorem Brd.board{ob:List Str}{V:Nat}(h:Brd ob V):oP (brd ob)=true:=by
 have Nm:∀r∈ob,nX (.str r)=true:=λr hr=>by
  have q:=h.rows r hr;show ((decide (1<=r.length)&&decide (r.length<=8))&&jA r)=true;rw[q.len];have a:decide (1<=V)=true:=Yi h.w1;have b:decide (V<=8)=true:=Yi h.w8;rw[a,b];show jA r=true;exact SA.mpr λc hc=>q.let' c hc
 have h0:j5 ((ob.map D.str).headD .non)=V:=by
  have:=h.r1;have hr:=h.rows;cases ob with
  |nil=>simp at this
  |cons x l=>exact(hr x (R1 ..)).len
 show ((decide (1<=(ob.map D.str).length)&&decide ((ob.map D.str).length<=8))&&((ob.map D.str).all nX&&(ob.map D.str).all λd=>j5 d==j5 ((ob.map D.str).headD .non)))=true;rw[h0,R5,Yi h.r1,Yi h.r8];have a:(ob.map D.str).all nX=true:=SA.mpr λd hd=>by
  obtain⟨r,hr,rfl⟩:=Sm.mp hd;exact Nm r hr
 have b:((ob.map D.str).all λd=>j5 d==V)=true:=SA.mpr λd hd=>by
  obtain⟨r,hr,rfl⟩:=Sm.mp hd;show (r.length==V)=true;rw[(h.rows r hr).len];simp
 rw[a,b];rfl
theorem Ab{bd:List Str}:Plain2 (brd bd):=λd hd=>by
 obtain⟨r,_,rfl⟩:=Sm.mp hd;trivial
theorem lP{δ:DE}{Z:aU}{b:Bool}(h:δ Z=aa (.bl b)):cw δ Z=aa b:=by
 unfold cw;rw[h];rfl
theorem eX{δ:DE}{Z:aU}{b:Bool}(h:δ Z=aa (.bl b)):cP δ Z=aa b:=by
 unfold cP;rw[h];rfl
theorem oX{τ:DT}{Z:aU}{b:Bool}(h:τ Z=aa b):cN τ Z=aa (!b):=by
 unfold cN;rw[h];rfl
theorem GF{a c:DT}{Z:aU}{p q:Bool}(h1:a Z=aa p)(h2:c Z=aa q):oY a c Z=aa (p||q):=by
 unfold oY;rw[h1,av];cases p
 ·exact h2
 ·rfl
theorem Ht{a c:DT}{Z:aU}{p q:Bool}(h1:a Z=aa p)(h2:c Z=aa q):Al a c Z=aa (p&&q):=by
 unfold Al;rw[h1,av];cases p
 ·rfl
 ·exact h2
theorem Hs{a c:DT}{Z:aU}(h1:a Z=aa false):Al a c Z=aa false:=by
 unfold Al;rw[h1];rfl
theorem Hu{a c:DE}{Z:aU}{p q:Bool}(h1:a Z=aa (.bl p))(h2:c Z=aa (.bl q)):Am a c Z=aa (.bl (p||q)):=by
 unfold Am;rw[h1,av];cases p
 ·exact h2
 ·rfl
theorem JS{c:DT}{a b:DE}{Z:aU}{p:Bool}(h:c Z=aa p):GC c a b Z=if p then a Z else b Z:=by
 unfold GC;rw[h];rfl
theorem Brd.nb{ob:List Str}{V:Nat}(h:Brd ob V):aZ [brd ob]=aa .non:=by
 refine lj (Z:=[fz (brd ob)]) (e7 (oX (lP (b:=true) ?_)) rfl);refine(aq (ds:=[brd ob]) rfl rfl).trans ?_;rw[tO Ab,h.board]
structure Ln (V:Nat) (r:Str):Prop where
 len:r.length=V
structure Wd (ob:List Str) (V:Nat):Prop where
 r1:1<=ob.length
 r8:ob.length<=8
 w1:1<=V
 w8:V<=8
 rows:∀r∈ob,Ln V r
theorem Brd.wd{ob:List Str}{V:Nat}(h:Brd ob V):Wd ob V:=⟨h.r1,h.r8,h.w1,h.w8,λr hr=>⟨(h.rows r hr).len⟩⟩
theorem Wd.len0{ob:List Str}{V:Nat}(h:Wd ob V){i:Nat}{Z:aU}(hZ:Z[i]? =some (fz (brd ob))):dA bq (aC (d2 bP (dV i) (dC (.int 0))) aN) Z=aa (.int (V:Int)):=by
 have h1:=h.r1;have hr:=h.rows;obtain⟨x,l,e⟩:∃x l,ob=x::l:=by
  cases ob with
  |nil=>simp at h1
  |cons x l=>exact⟨x,l,rfl⟩
 have hx:x.length=V:=(hr x (by rw[e];exact R1 ..)).len;have i0:bP (brd ob) (.int 0)=aa (.str x):=NF (show ob.map D.str=D.str x::l.map D.str by rw[e];rfl);have k:=aQ (g:=bP) (fC hZ) (show dC (.int 0) Z=aa (.int 0) from rfl);rw[i0] at k;rw[ck (aJ (xs:=[]) k rfl)];show aa (D.int (x.length:Int))=_;rw[hx]
theorem Brd.len0{ob:List Str}{V:Nat}(h:Brd ob V){i:Nat}{Z:aU}(hZ:Z[i]? =some (fz (brd ob))):dA bq (aC (d2 bP (dV i) (dC (.int 0))) aN) Z=aa (.int (V:Int)):=h.wd.len0 hZ
theorem Io{bd:List Str}{i:Nat}{Z:aU}(hZ:Z[i]? =some (fz (brd bd))):dA bq (aC (dV i) aN) Z=aa (.int (bd.length:Int)):=by
 have:bq [brd bd]=aa (.int (bd.length:Int)):=by
  show aa (D.int ((bd.map D.str).length:Int))=_;rw[R5]
 simp only[dA,aC,aN,fC hZ,av,this]
def iq:D->Bool
 | .int _=>true
 |_=>false
theorem sT{d:D}(h:Plain d):bw [d]=aa (.bl (iq d)):=by
 cases d<;>first | rfl | exact h.elim
def JP(R W:Nat):D->D->Bool
 | .int a, .int b=>(decide (0<=a)&&decide (a<(R:Int)))&&(decide (0<=b)&&decide (b<(W:Int)))
 |_,_=>false
def GA(R W:Nat):D->Bool
 | .tup [u,v]=>JP R W u v
 |_=>false
theorem JR{δ ε:DE}{Z:aU}{i n:Int}(h:δ Z=aa (.int i))(h2:ε Z=aa (.int n)):
 xr (λi j=>decide (i<=j)) (λi j=>decide (i<j)) (dC (.int 0)) δ ε Z=aa (.bl (decide (0<=i)&&decide (i<n))):=by
 simp only[xr,dC,h,h2,av,gI];cases decide (0<=i)<;>rfl
theorem vO{bd:List Str}{W:Nat}(hg:Brd bd W){d:D}(h:Plain2 d):jw [brd bd,d]=aa (.bl (GA bd.length W d)):=by
 refine a9 ?_;have hZ:([brd bd,d].map (λd=>some (Sl.fz d))++S6 (2 - [brd bd,d].length) none)=[fz (brd bd),fz d]:=rfl;rw[hZ];have hv:dV 1 [fz (brd bd),fz d]=aa d:=rfl;have no:isTup d=false->sU [fz (brd bd),fz d]=aa (.rt (.bl false)):=λhs=>by
  refine eg (e9 ?_ (aM rfl));simp only[oY,cN,cw,dA,aC,aN,dC,hv,av,ou h.plain,hs,xb,VX,if_true]
 cases d with
 |tup ds=>
  have hi:cN (cw (dA gZ (aC (dV 1) (aC (dC (.raw (.ty "tuple"))) aN)))) [fz (brd bd),fz (.tup ds)]=aa false:=by
   simp only[cN,cw,dA,aC,aN,dC,hv,av,ou h.plain,isTup,xb,Bool.not_true]
  have k:((ds.length:Int)==2)=(ds.length==2):=kS ds.length 2;have hl:oY (cN (cw (dA gZ (aC (dV 1) (aC (dC (.raw (.ty "tuple"))) aN))))) (cP (d2 lG (dA bq (aC (dV 1) aN)) (dC (.int 2)))) [fz (brd bd),fz (.tup ds)]=aa (!(ds.length==2)):=by
   unfold oY;rw[hi];simp only[cP,d2,dA,aC,aN,dC,hv,av,Ff,ne_int,k,z_,S8,if_false]
  match ds,h,hl with
  |[],h,hl=>exact eg (e9 hl (aM rfl))
  |[_],h,hl=>exact eg (e9 hl (aM rfl))
  |_::_::_::_,h,hl=>
   refine eg (e9 (hl.trans ?_) (aM rfl));simp
  |[u,v],h,hl=>
   refine aj (e7 hl rfl) ?_;have pu:Plain u:=h u (by simp);have pv:Plain v:=h v (by simp);have w1:ao 1 bw (aC (d2 bP (dV 1) (dC (.int 0))) aN) [fz (brd bd),fz (.tup [u,v])]=aa (.bl (iq u)):=sT pu;have w2:ao 1 bw (aC (d2 bP (dV 1) (dC (.int 1))) aN) [fz (brd bd),fz (.tup [u,v])]=aa (.bl (iq v)):=sT pv;have hw:oY (cN (cw (ao 1 bw (aC (d2 bP (dV 1) (dC (.int 0))) aN)))) (cN (cw (ao 1 bw (aC (d2 bP (dV 1) (dC (.int 1))) aN)))) [fz (brd bd),fz (.tup [u,v])]=aa (!(iq u&&iq v)):=by
    unfold oY cN cw;rw[w1,w2];simp only[av,xb];cases iq u<;>cases iq v<;>rfl
   have bad:(iq u&&iq v)=false->aA (fj (oY (cN (cw (ao 1 bw (aC (d2 bP (dV 1) (dC (.int 0))) aN)))) (cN (cw (ao 1 bw (aC (d2 bP (dV 1) (dC (.int 1))) aN))))) (bj (dC (.bl false))) cb) (bj (fB (xr (λi j=>decide (i<=j)) (λi j=>decide (i<j)) (dC (.int 0)) (d2 bP (dV 1) (dC (.int 0))) (dA bq (aC (dV 0) aN))) (xr (λi j=>decide (i<=j)) (λi j=>decide (i<j)) (dC (.int 0)) (d2 bP (dV 1) (dC (.int 1))) (dA bq (aC (d2 bP (dV 0) (dC (.int 0))) aN))))) [fz (brd bd),fz (.tup [u,v])]=aa (.rt (.bl false)):=λhz=>by
    rw[hz] at hw;exact eg (e9 hw (aM rfl))
   match u,v,hw,bad with
   | .int a, .int b,hw,bad=>
     refine aj (e7 hw rfl) (aM ?_);obtain⟨x0,r,e0⟩:∃x0 r,bd=x0::r:=by
      have:=hg.r1;cases bd with
      |nil=>simp at this
      |cons x r=>exact⟨x,r,rfl⟩
     have hx:x0.length=W:=(hg.rows x0 (by rw[e0];simp)).len;have l0:dA bq (aC (dV 0) aN) [fz (brd bd),fz (.tup [.int a, .int b])]=aa (.int (bd.length:Int)):=by
      show aa (D.int ((bd.map D.str).length:Int))=_;rw[R5]
     have l1:dA bq (aC (d2 bP (dV 0) (dC (.int 0))) aN) [fz (brd bd),fz (.tup [.int a, .int b])]=aa (.int (W:Int)):=by
      have i0:bP (brd bd) (.int 0)=aa (.str x0):=NF (r:=r.map D.str) (by rw[e0];rfl);simp only[dA,aC,aN,d2,dC,dV,SR,av,i0,len_str,hx]
     have c1:=JR (δ:=d2 bP (dV 1) (dC (.int 0))) (i:=a) rfl l0;have c2:=JR (δ:=d2 bP (dV 1) (dC (.int 1))) (i:=b) rfl l1;unfold fB;rw[c1,av];show (if (decide (0<=a)&&decide (a<(bd.length:Int)))=true then _ else _)=aa (D.bl ((decide (0<=a)&&decide (a<(bd.length:Int)))&&(decide (0<=b)&&decide (b<(W:Int)))));cases (decide (0<=a)&&decide (a<(bd.length:Int)))
     ·rfl
     ·rw[Yg rfl,c2,Xe]
   | .non,_,_,bad=>exact bad rfl
   | .bl _,_,_,bad=>exact bad rfl
   | .str _,_,_,bad=>exact bad rfl
   | .tup _,_,_,bad=>exact bad rfl
   | .lst _,_,_,bad=>exact bad rfl
   | .raw _,_,_,_=>exact pu.elim
   | .exc _,_,_,_=>exact pu.elim
   | .scr _,_,_,_=>exact pu.elim
   | .int a, .non,_,bad=>exact bad rfl
   | .int a, .bl _,_,bad=>exact bad rfl
   | .int a, .str _,_,bad=>exact bad rfl
   | .int a, .tup _,_,bad=>exact bad rfl
   | .int a, .lst _,_,bad=>exact bad rfl
   | .int a, .raw _,_,_=>exact pv.elim
   | .int a, .exc _,_,_=>exact pv.elim
   | .int a, .scr _,_,_=>exact pv.elim
 |non=>exact no rfl
 |bl b=>exact no rfl
 |int b=>exact no rfl
 |str b=>exact no rfl
 |lst b=>exact no rfl
 |raw _=>exact h.elim
 |exc _=>exact h.elim
 |scr _=>exact h.elim
 |dct _ _=>exact h.elim
 |dci _ _=>exact h.elim
abbrev Cell:=Nat×Nat
def cD(c:Cell):D:= .tup [.int (c.1:Int), .int (c.2:Int)]
def On(R W:Nat)(c:Cell):Prop:=c.1<R/\c.2<W
instance {R W:Nat}{c:Cell}:Decidable (On R W c):=by unfold On;infer_instance
theorem BI{c:Cell}:Plain2 (cD c):=λd hd=>by
 have:d= .int (c.1:Int)\/d= .int (c.2:Int):=by simpa[cD] using hd
 rcases this with rfl | rfl<;>trivial
theorem EA{R W:Nat}{c:Cell}(h:On R W c):GA R W (cD c)=true:=by
 show ((decide ((0:Int)<=(c.1:Int))&&decide ((c.1:Int)<(R:Int)))&&(decide ((0:Int)<=(c.2:Int))&&decide ((c.2:Int)<(W:Int))))=true;obtain⟨h1,h2⟩:=h;simp;omega
theorem Brd.nc{bd:List Str}{W:Nat}(hg:Brd bd W){c:Cell}(h:On bd.length W c):dO [brd bd,cD c]=aa .non:=by
 refine lj (Z:=[fz (brd bd),fz (cD c)]) (e7 (oX (lP (b:=true) ?_)) rfl);refine(aq (ds:=[brd bd,cD c]) rfl rfl).trans ?_;rw[vO hg BI,EA h]
def Ways(w:Nat):Prop:=w=4\/w=8
theorem Ways.nw{w:Nat}(h:Ways w):bQ [.int (w:Int)]=aa .non:=by
 rcases h with rfl | rfl<;>rfl
def ch(x:Str)(j:Nat):Nat:=x.cps.toList.getD j 0
def at2(bd:List Str)(i j:Nat):Nat:=ch (bd.getD i ⟨#[]⟩) j
abbrev lt(bd:List Str)(c:Cell):Nat:=at2 bd c.1 c.2
def sg(n:Nat):D:= .str ⟨#[n]⟩
theorem Gi{x:Str}{c:Nat}(h:c<x.length):kE (.str x) (.int (c:Int))=aa (sg (ch x c)):=by
 have h':c<x.cps.toList.length:=by rw[Sr];exact h
 show (match L2.atI x.cps.toList (c:Int) with | some c=>aa (D.str ⟨#[c]⟩) | none=>af)=_;rw[fk (R6 h')];unfold sg ch;rw[Ss,R6 h'];rfl
theorem getD_mem{bd:List Str}{i:Nat}(h:i<bd.length):bd.getD i ⟨#[]⟩∈bd:=by
 rw[Ss,R6 h];exact T8 h
theorem Ib{bd:List Str}{i:Nat}(h:i<bd.length):bP (brd bd) (.int (i:Int))=aa (.str (bd.getD i ⟨#[]⟩)):=by
 show (match L2.atI (bd.map D.str) (i:Int) with | some d=>aa d | none=>af)=_;rw[fk (x:= .str (bd.getD i ⟨#[]⟩)) ?_];rw[Sj,R6 h,Ss,R6 h];rfl
theorem dj{bd:List Str}{W:Nat}(hg:Brd bd W){c:Cell}(h:On bd.length W c):aO [brd bd,cD c]=aa (sg (lt bd c)):=by
 refine a9 (aM ?_);refine(aQ (x:= .str (bd.getD c.1 ⟨#[]⟩)) (y:= .int (c.2:Int)) ((aQ (x:=brd bd) (y:= .int (c.1:Int)) rfl rfl).trans (Ib h.1)) rfl).trans ?_;exact Gi (by rw[(hg.rows _ (getD_mem h.1)).len];exact h.2)
theorem GJ(a b:Nat):kx (sg a) (sg b)=aa (.bl (decide (a=b))):=by
 show aa (D.bl (decide ((⟨#[a]⟩:Str)=⟨#[b]⟩)))=_;congr 2;by_cases h:a=b
 ·subst h;simp
 ·have:¬((⟨#[a]⟩:Str)=⟨#[b]⟩):=λz=>by
   injection z with z
   exact h (by simpa using z)
  rw[Yl h,Yl this]
def bN(a b:Nat):Nat:=max a b - min a b
def mU(w:Nat)(a b:Cell):Bool:=if w=4 then decide (bN a.1 b.1+bN a.2 b.2=1) else decide (max (bN a.1 b.1) (bN a.2 b.2)=1)
theorem yY(a b:Nat):BB [.int ((a:Int) - (b:Int))]=aa (.int (bN a b:Int)):=by
 show aa (D.int _)=_;congr 2;unfold bN;omega
theorem sW{w:Nat}(hw:Ways w)(a b:Cell):dG [cD a,cD b, .int (w:Int)]=aa (.bl (mU w a b)):=by
 refine a9 ?_;refine aj (Z':=[fz (cD a),fz (cD b),fz (.int (w:Int)),fz (.int (bN a.1 b.1:Int)),none]) ((aR (d:= .int (bN a.1 b.1:Int)) (yY a.1 b.1)).trans rfl) ?_;refine aj (Z':=[fz (cD a),fz (cD b),fz (.int (w:Int)),fz (.int (bN a.1 b.1:Int)),fz (.int (bN a.2 b.2:Int))]) ((aR (d:= .int (bN a.2 b.2:Int)) (yY a.2 b.2)).trans rfl) ?_;rcases hw with rfl | rfl
 ·refine eg (e9 (eX rfl) (aM ?_));show aa (D.bl (((bN a.1 b.1:Int)+(bN a.2 b.2:Int))==1))=_;unfold mU;rw[Yg rfl];congr 2;have:((bN a.1 b.1:Int)+(bN a.2 b.2:Int))=((bN a.1 b.1+bN a.2 b.2:Nat):Int):=by omega
  rw[this];have e:=kS (bN a.1 b.1+bN a.2 b.2) 1;exact e.trans rfl
 ·refine aj (e7 (eX rfl) rfl) (aM ?_);show aa (D.bl ((if (bN a.1 b.1:Int)<(bN a.2 b.2:Int) then(bN a.2 b.2:Int) else(bN a.1 b.1:Int))==1))=_;have hn:mU 8 a b=decide (max (bN a.1 b.1) (bN a.2 b.2)=1):=rfl;rw[hn];congr 2;have:(if (bN a.1 b.1:Int)<(bN a.2 b.2:Int) then(bN a.2 b.2:Int) else(bN a.1 b.1:Int))=((max (bN a.1 b.1) (bN a.2 b.2):Nat):Int):=by split<;>omega
  rw[this];have e:=kS (max (bN a.1 b.1) (bN a.2 b.2)) 1;exact e.trans rfl
theorem C3(w:Nat)(a b:Cell):mU w a b=mU w b a:=by
 have e:∀x y:Nat,bN x y=bN y x:=λx y=>by unfold bN;omega
 unfold mU;rw[e a.1,e a.2]
theorem cM{put:D->aU->Option aU}{body:DS}{d:D}{ds:List D}{Z Z1 Z2:aU}(h1:put d Z=some Z1)(h2:body Z1=aa (.nx Z2)):forL put body (d::ds) Z=forL put body ds Z2:=by
 show (match put d Z with | none=>af | some Z1=>body Z1>>=λo=>match o with | .nx Z2=>forL put body ds Z2 | .rt v=>aa (.rt v))=_;rw[h1];show (body Z1>>=λo=>match o with | .nx Z2=>forL put body ds Z2 | .rt v=>aa (.rt v))=_;rw[h2];rfl
section
variable{α σ:Type}{put:D->aU->Option aU}{body:DS}
theorem gu(enc:α->D)(mk:σ->aU)(step:σ->α->σ)(I:σ->Prop):∀(xs:List α) (s:σ),I s->(∀s,I s->∀x∈xs,I (step s x)/\∃Z1,put (enc x) (mk s)=some Z1/\body Z1=aa (.nx (mk (step s x))))->
 I (xs.foldl step s)/\forL put body (xs.map enc) (mk s)=aa (.nx (mk (xs.foldl step s)))
 |[],s,h,_=>⟨h,rfl⟩
 |x::xs,s,h,st=>by
  obtain⟨h2,Z1,e1,e2⟩:=st s h x (R1 ..);obtain⟨h3,e3⟩:=gu enc mk step I xs (step s x) h2 λs hs y hy=>st s hs y (R4 _ hy);exact⟨h3,(cM e1 e2).trans e3⟩
theorem iG(enc:α->D)(mk:List D->aU)(g:α->List D){B:Nat}:∀(xs:List α) (P3:List D),(P3++xs.flatMap g).length<=B->(∀x∈xs,∀P3,(P3++g x).length<=B->∃Z1,put (enc x) (mk P3)=some Z1/\body Z1=aa (.nx (mk (P3++g x))))->
 forL put body (xs.map enc) (mk P3)=aa (.nx (mk (P3++xs.flatMap g)))
 |[],P3,_,_=>by simp;rfl
 |x::xs,P3,hB,st=>by
  have OD:((P3++g x)++xs.flatMap g).length<=B:=by simpa[T3,Wl] using hB
  obtain⟨Z1,e1,e2⟩:=st x (R1 ..) P3 (Sy (by simp only[Sg];omega) OD);have e3:=iG enc mk g xs (P3++g x) OD λy hy=>st y (R4 _ hy);rw[Sa,cM e1 e2,e3,T3,Wl]
end
theorem eR{put:D->aU->Option aU}{δi:DA}{b:DS}{Z:aU}{ds:List D}{m:M Out}(h:δi Z=aa ds)(h2:forL put b ds Z=m):dS put δi b Z=m:=by
 unfold dS;rw[h];exact h2
theorem c9{τ:DS}{Z:aU}{o:Out}(h:τ Z=aa o):(λZ=>noex (τ Z)) Z=aa o:=by
 show noex (τ Z)=_;rw[h];rfl
theorem wO(lo n:Nat):gO (lo:Int) n=(SQ lo n).map λ(k:Nat)=>D.int (k:Int):=by
 unfold gO;rw[VS];have:∀(n a:Nat),(SQ a n).map (λ(i:Nat)=>D.int ((lo:Int)+(i:Int)))=(SQ (lo+a) n).map λ(k:Nat)=>D.int (k:Int):=by
  intro n;induction n with
  |zero=>intro a;rfl
  |succ n ih=>
   intro a;rw[Ux,Ux,Sa,Sa,ih (a+1)];rfl
 exact this n 0
theorem Ga{δ:DE}{Z:aU}{n:Nat}(h:δ Z=aa (.int (n:Int)))(hn:n<=4096):(aC δ aN Z>>=iz)=aa ((Sn n).map λ(k:Nat)=>D.int (k:Int)):=by
 rw[aJ h rfl,av,mq hn,show gO 0 n=gO ((0:Nat):Int) n from rfl,wO,VS]
theorem Lw{δ ε:DE}{Z:aU}{i j:Nat}(h:δ Z=aa (.int (i:Int)))(h2:ε Z=aa (.int (j:Int)))(hi:i<=4096)(hj:j<=4096):(aC δ (aC ε aN) Z>>=sH)=aa ((SQ i (j - i)).map λ(k:Nat)=>D.int (k:Int)):=by
 rw[aJ h (aJ h2 rfl),av];show (if (-4096<=(i:Int)/\(i:Int)<=4096)/\(-4096<=(j:Int)/\(j:Int)<=4096) then aa (gO (i:Int) ((j:Int) - (i:Int)).toNat) else af)=_;rw[Yg ⟨⟨by omega,by omega⟩,by omega,by omega⟩,show ((j:Int) - (i:Int)).toNat=j - i by omega,wO]
def cT(W r:Nat):List Cell:=(Sn W).map λk=>(r,k)
def a6(R W:Nat):List Cell:=(Sn R).flatMap (cT W)
theorem aX{R W:Nat}{c:Cell}:c∈a6 R W↔On R W c:=by
 unfold a6 cT On;simp only[List.mem_flatMap,S7,Sm];constructor
 ·rintro⟨r,hr,k,hk,rfl⟩;exact⟨hr,hk⟩
 ·rintro⟨h1,h2⟩;exact⟨c.1,h1,c.2,h2,rfl⟩
theorem dH(R W:Nat):(a6 R W).length=R*W:=by
 unfold a6;have:∀l:List Nat,(l.flatMap (cT W)).length=l.length*W:=by
  intro l;induction l with
  |nil=>simp
  |cons a l ih=>rw[T3,Sg,ih,Sd,Nat.succ_mul];simp[cT];omega
 rw[this,T1]
theorem gm{bd:List Str}{W:Nat}(hg:Brd bd W)(r:Nat):bp [brd bd, .int (r:Int)]=aa (.lst ((cT W r).map cD)):=by
 have:=hg.w8;refine a9 (aM (b0 (Ga (n:=W) (hg.len0 rfl) (by omega)) ?_ (by simp[cT,cO];omega)));rw[show (cT W r).map cD=((Sn W).map λ(k:Nat)=>D.int (k:Int)).map (λe=> .tup [.int (r:Int),e]) by simp[cT,SF];intro a _;rfl];exact gr (g:=λe=> .tup [.int (r:Int),e]) _ λe _=>rfl
theorem jO{bd:List Str}{W:Nat}(hg:Brd bd W):dJ [brd bd]=aa (.lst ((a6 bd.length W).map cD)):=by
 have h8:=hg.r8;have w8:=hg.w8;have hm:bd.length*W<=64:=Ub h8 w8;have L9:(Sn bd.length).flatMap (λr=>(cT W r).map cD)=(a6 bd.length W).map cD:=by
  unfold a6;rw[List.map_flatMap]
 have e:=iG (put:=putN 2) (body:=b_ [2] (DP 1 (ao 2 bp (aC (dV 0) (aC (dV 2) aN))))) (λ(k:Nat)=>D.int (k:Int)) (λP3=>[fz (brd bd),some (.ow (.lst P3)),none]) (λr=>(cT W r).map cD) (B:=64) (Sn bd.length) []
  (by rw[Tv,L9,R5,dH];exact hm) λr hr P3 hB=>by
   refine⟨[fz (brd bd),some (.ow (.lst P3)),fz (.int (r:Int))],rfl,?_⟩;refine(bc (Z':=[fz (brd bd),some (.ow (.lst (P3++(cT W r).map cD))),fz (.int (r:Int))]) ?_).trans rfl;show (bp [brd bd, .int (r:Int)]>>=λd=>lstM d>>=λes=>if P3.length+es.length<=lim then aa (Out.nx (List.set [fz (brd bd),some (.ow (.lst P3)),fz (.int (r:Int))] 1 (some (.ow (.lst (P3++es)))))) else af)=_;rw[gm hg,av];show (if P3.length+((cT W r).map cD).length<=lim then aa (Out.nx [fz (brd bd),some (.ow (.lst (P3++(cT W r).map cD))),fz (.int (r:Int))]) else af)=_;rw[Yg (by rw[Sg] at hB;rw[cO];omega)]
 rw[Tv,L9] at e;refine a9 (aj (Z':=[fz (brd bd),some (.ow (.lst [])),none]) rfl (aj (Z':=[fz (brd bd),some (.ow (.lst ((a6 bd.length W).map cD))),none]) (c9 (eR (Ga (n:=bd.length) (Io rfl) (by omega)) e)) ?_));rfl
def iw(R W w:Nat)(c:Cell):List Cell:=
 (SQ (c.1 - 1) (min (c.1+2) R - (c.1 - 1))).flatMap λr=>((SQ (c.2 - 1) (min (c.2+2) W - (c.2 - 1))).map λk=>(r,k)).filter (mU w c)
theorem gz{R W w:Nat}(hw:Ways w){c x:Cell}:x∈iw R W w c↔On R W x/\mU w c x=true:=by
 unfold iw On;simp only[List.mem_flatMap,Td,Sm,Yb];constructor
 ·rintro⟨r,⟨h1,h2⟩,⟨k,⟨h3,h4⟩,rfl⟩,h5⟩;refine⟨⟨?_,?_⟩,h5⟩
  ·show r<R;omega
  ·show k<W;omega
 ·rintro⟨⟨h1,h2⟩,h5⟩;have h6:bN c.1 x.1<=1/\bN c.2 x.2<=1:=by
   unfold mU at h5;rcases hw with rfl | rfl
   ·rw[Yg rfl] at h5;have:=Yk h5;omega
   ·rw[Yh (by decide)] at h5;have:=Yk h5;omega
  unfold bN at h6;exact⟨x.1,⟨by omega,by omega⟩,⟨x.2,⟨by omega,by omega⟩,rfl⟩,h5⟩
theorem rY(R W w:Nat)(c:Cell):(iw R W w c).length<=9:=by
 unfold iw;rw[XJ];have h:∀r,(((SQ (c.2 - 1) (min (c.2+2) W - (c.2 - 1))).map λk=>(r,k)).filter (mU w c)).length<=3:=λr=>by
  refine Sy (Uj ..) ?_;rw[R5,Wg];omega
 have:∀(l:List Nat),(l.map λr=>(((SQ (c.2 - 1) (min (c.2+2) W - (c.2 - 1))).map λk=>(r,k)).filter (mU w c)).length).sum<=3*l.length:=by
  intro l;induction l with
  |nil=>simp
  |cons a l ih=>rw[Sa,Vt,Sd];have:=h a;omega
 refine Sy (this _) ?_;rw[Wg];omega
abbrev nc(b c w:D)(P3:List D)(x4 x5:Option Sl):aU:=[fz b,fz c,fz w,some (.ow (.lst P3)),x4,x5]
theorem iU{bd:List Str}{W w:Nat}(hg:Brd bd W)(hw:Ways w){c:Cell}(hc:On bd.length W c):bO [brd bd,cD c, .int (w:Int)]=aa (.lst ((iw bd.length W w c).map cD)):=by
 have h8:=hg.r8;have w8:=hg.w8;obtain⟨c1,c2⟩:=hc;have Kr:∀n:Nat,yd [.int ((n:Int) - 1), .int 0]=aa (.int ((n - 1:Nat):Int)):=λn=>by
  show aa (D.int (if (0:Int)>(n:Int) - 1 then 0 else(n:Int) - 1))=_;congr 2;split<;>omega
 have Ck:∀n m:Nat,AO [.int ((n:Int)+2), .int (m:Int)]=aa (.int ((min (n+2) m:Nat):Int)):=λn m=>by
  show aa (D.int (if (m:Int)<(n:Int)+2 then(m:Int) else(n:Int)+2))=_;congr 2;split<;>omega
 have inner:∀(r:Nat) (P3:List D),P3.length<=16->forL (putN 5) (b_ [5] (fj (cw (ao 3 dG (aC (dV 1) (aC (dA cB (aC (dV 4) (aC (dV 5) aN))) (aC (dV 2) aN))))) (ll 3 (dA cB (aC (dV 4) (aC (dV 5) aN)))) cb))
  ((SQ (c.2 - 1) (min (c.2+2) W - (c.2 - 1))).map λ(k:Nat)=>D.int (k:Int)) (nc (brd bd) (cD c) (.int (w:Int)) P3 (fz (.int (r:Int))) none)=
  aa (.nx (nc (brd bd) (cD c) (.int (w:Int)) (P3++(SQ (c.2 - 1) (min (c.2+2) W - (c.2 - 1))).flatMap λk=>if mU w c (r,k) then [cD (r,k)] else []) (fz (.int (r:Int))) none)):=λr P3 iL=>by
  refine iG (λ(k:Nat)=>D.int (k:Int)) (λP3=>nc (brd bd) (cD c) (.int (w:Int)) P3 (fz (.int (r:Int))) none) (λk=>if mU w c (r,k) then [cD (r,k)] else []) (B:=64) _ P3 ?_ λk hk P3 hB=>?_
  ·rw[Sg,XJ];have:∀l:List Nat,(l.map λk=>(if mU w c (r,k) then [cD (r,k)] else []).length).sum<=l.length:=by
    intro l;induction l with
    |nil=>simp
    |cons a l ih=>rw[Sa,Vt,Sd];split<;>simp<;>omega
   have h2:=this (SQ (c.2 - 1) (min (c.2+2) W - (c.2 - 1)));rw[Wg] at h2;omega
  ·refine⟨nc (brd bd) (cD c) (.int (w:Int)) P3 (fz (.int (r:Int))) (fz (.int (k:Int))),rfl,?_⟩;have ht:cw (ao 3 dG (aC (dV 1) (aC (dA cB (aC (dV 4) (aC (dV 5) aN))) (aC (dV 2) aN)))) (nc (brd bd) (cD c) (.int (w:Int)) P3 (fz (.int (r:Int))) (fz (.int (k:Int))))=aa (mU w c (r,k)):=
    lP ((aq (ds:=[cD c,cD (r,k), .int (w:Int)]) rfl rfl).trans (sW hw c (r,k)))
   cases hn:mU w c (r,k) with
   |true=>
    rw[hn] at ht;rw[hn,Yg rfl,Sg] at hB;refine(bc (Z':=nc (brd bd) (cD c) (.int (w:Int)) (P3++[cD (r,k)]) (fz (.int (r:Int))) (fz (.int (k:Int)))) (e9 ht ?_)).trans rfl;show (if P3.length<lim then aa (Out.nx (nc (brd bd) (cD c) (.int (w:Int)) (P3++[cD (r,k)]) (fz (.int (r:Int))) (fz (.int (k:Int))))) else af)=_;rw[Yg (by rw[cO];simp at hB;omega)]
   |false=>
    rw[hn] at ht;refine(bc (Z':=nc (brd bd) (cD c) (.int (w:Int)) P3 (fz (.int (r:Int))) (fz (.int (k:Int)))) (e7 ht rfl)).trans ?_;simp;rfl
 have flt:∀r,((SQ (c.2 - 1) (min (c.2+2) W - (c.2 - 1))).flatMap λk=>if mU w c (r,k) then [cD (r,k)] else [])=(((SQ (c.2 - 1) (min (c.2+2) W - (c.2 - 1))).map λk=>(r,k)).filter (mU w c)).map cD:=λr=>by
  generalize SQ (c.2 - 1) (min (c.2+2) W - (c.2 - 1))=l;induction l with
  |nil=>rfl
  |cons a l ih=>
   rw[T3,ih,Sa,UX];cases mU w c (r,a)<;>rfl
 have tot:(SQ (c.1 - 1) (min (c.1+2) bd.length - (c.1 - 1))).flatMap (λr=>(((SQ (c.2 - 1) (min (c.2+2) W - (c.2 - 1))).map λk=>(r,k)).filter (mU w c)).map cD)=(iw bd.length W w c).map cD:=by
  unfold iw;rw[List.map_flatMap]
 have outer:=iG (put:=putN 4) (body:=b_ [4,5] (dS (putN 5) (λZ=>(aC (dA yd (aC (d2 tG (d2 bP (dV 1) (dC (.int 1))) (dC (.int 1))) (aC (dC (.int 0)) aN))) (aC (dA AO (aC (d2 dg (d2 bP (dV 1) (dC (.int 1))) (dC (.int 2))) (aC (dA bq (aC (d2 bP (dV 0) (dC (.int 0))) aN)) aN))) aN)) Z>>=sH) (b_ [5] (fj (cw (ao 3 dG (aC (dV 1) (aC (dA cB (aC (dV 4) (aC (dV 5) aN))) (aC (dV 2) aN))))) (ll 3 (dA cB (aC (dV 4) (aC (dV 5) aN)))) cb))))
  (λ(k:Nat)=>D.int (k:Int)) (λP3=>nc (brd bd) (cD c) (.int (w:Int)) P3 none none) (λr=>(((SQ (c.2 - 1) (min (c.2+2) W - (c.2 - 1))).map λk=>(r,k)).filter (mU w c)).map cD) (B:=16) (SQ (c.1 - 1) (min (c.1+2) bd.length - (c.1 - 1))) []
  (by rw[Tv,tot,R5];have:=rY bd.length W w c;omega) λr hr P3 hB=>by
   refine⟨nc (brd bd) (cD c) (.int (w:Int)) P3 (fz (.int (r:Int))) none,rfl,?_⟩;have e:=inner r P3 (by rw[Sg] at hB;omega);rw[flt r] at e;refine(bc (eR (Lw (i:=c.2 - 1) (j:=min (c.2+2) W) ?_ ?_ (by omega) (by omega)) e)).trans rfl
   ·exact(ck (xs:=[.int ((c.2:Int) - 1), .int 0]) rfl).trans (Kr c.2)
   ·refine(ck (xs:=[.int ((c.2:Int)+2), .int (W:Int)]) ?_).trans (Ck c.2 W);exact aJ (show d2 dg (d2 bP (dV 1) (dC (.int 1))) (dC (.int 2)) (nc (brd bd) (cD c) (.int (w:Int)) P3 (fz (.int (r:Int))) none)=aa (.int ((c.2:Int)+2)) from rfl) (aJ (hg.len0 rfl) rfl)
 rw[Tv,tot] at outer;refine a9 (aj (Z':=nc (brd bd) (cD c) (.int (w:Int)) [] none none) rfl (aj (Z':=nc (brd bd) (cD c) (.int (w:Int)) ((iw bd.length W w c).map cD) none none) (c9 (eR (Lw (i:=c.1 - 1) (j:=min (c.1+2) bd.length) ?_ ?_ (by omega) (by omega)) outer)) ?_))
 ·exact(ck (xs:=[.int ((c.1:Int) - 1), .int 0]) rfl).trans (Kr c.1)
 ·refine(ck (xs:=[.int ((c.1:Int)+2), .int (bd.length:Int)]) ?_).trans (Ck c.1 bd.length);exact aJ (show d2 dg (d2 bP (dV 1) (dC (.int 0))) (dC (.int 2)) (nc (brd bd) (cD c) (.int (w:Int)) [] none none)=aa (.int ((c.1:Int)+2)) from rfl) (aJ (Io rfl) rfl)
 ·rfl
def a_(bd:List Str)(W w:Nat)(c:Cell):List Cell:=(iw bd.length W w c).filter λx=>decide (lt bd x=lt bd c)
theorem bT{bd:List Str}{W w:Nat}(hw:Ways w){c x:Cell}:x∈a_ bd W w c↔On bd.length W x/\mU w c x=true/\lt bd x=lt bd c:=by
 unfold a_;rw[Td,gz hw,Yj,and_assoc]
theorem AK(bd:List Str)(W w:Nat)(c:Cell):(a_ bd W w c).length<=9:=Sy (Uj ..) (rY ..)
theorem rE{α:Type}{f:D->M (Option D)}(enc:α->D)(p:α->Bool):∀(xs:List α),(∀x∈xs,f (enc x)=aa (if p x then some (enc x) else none))->dh f (xs.map enc)=aa ((xs.filter p).map enc)
 |[],_=>rfl
 |x::xs,h=>by
  rw[Sa,el,h x (R1 ..),av,rE enc p xs λy hy=>h y (R4 _ hy),UX];cases p x<;>rfl
theorem pF{bd:List Str}{W w:Nat}(hg:Brd bd W)(hw:Ways w){c:Cell}(hc:On bd.length W c):cC [brd bd,cD c, .int (w:Int)]=aa (.lst ((a_ bd W w c).map cD)):=by
 refine a9 (aj (Z':=[fz (brd bd),fz (cD c),fz (.int (w:Int)),fz (sg (lt bd c))]) ((aR (d:=sg (lt bd c)) ((aq (ds:=[brd bd,cD c]) rfl rfl).trans (dj hg hc))).trans rfl) (aM ?_));refine b0 (ds:=(iw bd.length W w c).map cD) ?_ (rE cD _ _ λx hx=>?_) (by rw[R5,cO];exact Sy (AK bd W w c) (by decide))
 ·show (ao 3 bO _ _>>=lstM)=_;have e:ao 3 bO (aC (dV 0) (aC (dV 1) (aC (dV 2) aN))) [fz (brd bd),fz (cD c),fz (.int (w:Int)),fz (sg (lt bd c))]=aa (.lst ((iw bd.length W w c).map cD)):=iU hg hw hc;rw[e];rfl
 ·have Ra:=(gz hw).mp hx;rw[BR];have e:cP (d2 kx (ao 2 aO (aC (dV 1) (aC (dV 0) aN))) (dV 4)) (fz (cD x)::[fz (brd bd),fz (cD c),fz (.int (w:Int)),fz (sg (lt bd c))])=aa (decide (lt bd x=lt bd c)):=by
   refine eX ?_;exact(aQ (x:=sg (lt bd x)) (y:=sg (lt bd c)) ((aq (ds:=[brd bd,cD x]) rfl rfl).trans (dj hg Ra.1)) rfl).trans (GJ _ _)
  rw[e,av];cases decide (lt bd x=lt bd c)<;>rfl
end K1
namespace K1
section
variable{α:Type}[DecidableEq α]
structure Bk (α:Type) where
 ks:List α
 ps:List (Option α)
 fu:List α
def cx(c:α)(s:Bk α)(x:α):Bk α:=if x∈s.ks then s else⟨s.ks++[x],s.ps++[some c],s.fu++[x]⟩
variable(nb:α->List α)
def eZ(s:Bk α)(c:α):Bk α:=(nb c).foldl (cx c) s
def bL(s:Bk α)(v2:List α):Bk α:=v2.foldl (eZ nb) s
def Rb(a:α):Nat->α->Prop
 |0,x=>x=a
 |k+1,x=>Rb a k x\/∃y,Rb a k y/\x∈nb y
variable{nb}{a:α}
theorem Rb.mono{i j:Nat}{x:α}(h:i<=j)(r:Rb nb a i x):Rb nb a j x:=by
 induction h with
 |refl=>exact r
 |step _ ih=>exact .inl ih
structure Grown (P:α->α->Prop) (s t:Bk α):Prop where
 ex:∃fs:List (α×α),t.ks=s.ks++fs.map (·.1)/\t.ps=s.ps++fs.map (λp=>some p.2)/\t.fu=s.fu++fs.map (·.1)/\(∀p∈fs,P p.2 p.1)
 nd:s.ks.Nodup->t.ks.Nodup
theorem Grown.refl{P:α->α->Prop}(s:Bk α):Grown P s s:=⟨⟨[],by simp,by simp,by simp,λ_ h=>by cases h⟩,id⟩
theorem Grown.trans{P:α->α->Prop}{s t u:Bk α}(h1:Grown P s t)(h2:Grown P t u):Grown P s u:=by
 obtain⟨fs,a1,a2,a3,a4⟩:=h1.ex;obtain⟨gs,b1,b2,b3,b4⟩:=h2.ex;refine⟨⟨fs++gs,by rw[b1,a1];simp,by rw[b2,a2];simp,by rw[b3,a3];simp,λp hp=>?_⟩,λh=>h2.nd (h1.nd h)⟩;rcases SD.mp hp with h | h
 ·exact a4 p h
 ·exact b4 p h
theorem vi{P:α->α->Prop}{c x:α}(s:Bk α)(h:P c x):Grown P s (cx c s x):=by
 unfold cx;split
 ·exact Grown.refl s
 ·rename_i hx;refine⟨⟨[(x,c)],rfl,rfl,rfl,λp hp=>?_⟩,λhn=>?_⟩
  ·have:p=(x,c):=by simpa using hp
   subst this;exact h
  ·refine Tb.mpr ⟨hn,by simp,λy hy z hz e=>?_⟩;have hz:z=x:=by simpa using hz
   rw[e,hz] at hy;exact hx hy
theorem lL{c x y:α}(s:Bk α):y∈(cx c s x).ks↔y∈s.ks\/y=x:=by
 unfold cx;split
 ·rename_i hx;exact⟨.inl,λh=>h.elim id λe=>by rw[e];exact hx⟩
 ·simp
theorem foldStep{P:α->α->Prop}{c:α}:∀(l:List α) (s:Bk α),(∀x∈l,P c x)->Grown P s (l.foldl (cx c) s)/\∀y,y∈(l.foldl (cx c) s).ks↔y∈s.ks\/y∈l
 |[],s,_=>⟨Grown.refl s,λy=>by simp⟩
 |x::l,s,h=>by
  obtain⟨h1,h2⟩:=foldStep l (cx c s x) λy hy=>h y (R4 _ hy);refine⟨(vi s (h x (R1 ..))).trans h1,λy=>?_⟩;rw[U7,h2 y,lL];simp[or_assoc]
theorem vF{P:α->α->Prop}:∀(l:List α) (s:Bk α),(∀c∈l,∀x∈nb c,P c x)->Grown P s (bL nb s l)/\∀y,y∈(bL nb s l).ks↔y∈s.ks\/∃c∈l,y∈nb c
 |[],s,_=>⟨Grown.refl s,λy=>by simp[bL]⟩
 |c::l,s,h=>by
  obtain⟨g1,m1⟩:=foldStep (P:=P) (c:=c) (nb c) s (h c (R1 ..));obtain⟨g2,m2⟩:=vF l (eZ nb s c) λc' hc=>h c' (R4 _ hc);refine⟨g1.trans g2,λy=>?_⟩;show y∈(bL nb (eZ nb s c) l).ks↔_;rw[m2 y];show (y∈((nb c).foldl (cx c) s).ks\/_)↔_;rw[m1 y];simp[or_assoc]
structure Rng (nb:α->List α) (a:α) (k:Nat) (ks:List α) (ps:List (Option α)) (v2:List α):Prop where
 len:ks.length=ps.length
 nd:ks.Nodup
 mem:∀x,x∈ks↔Rb nb a k x
 rg:∀x,x∈v2↔Rb nb a k x/\∀j,Rb nb a j x->k<=j
 par:∀x p,(x,some p)∈ks.zip ps->x∈nb p/\p∈ks/\∀j,Rb nb a j x->∃i,j=i+1/\Rb nb a i p
 non:∀x,(x,none)∈ks.zip ps->x=a
 sz:k<=ks.length/\(v2≠[]->k+1<=ks.length)
theorem Rng.zero(nb:α->List α)(a:α):Rng nb a 0 [a] [none] [a] where
 len:=rfl
 nd:=by simp
 mem:=λx=>by simp[Rb]
 rg:=λx=>by simp[Rb]
 par:=λx p h=>by simp at h
 non:=λx h=>by simpa using h
 sz:=⟨by simp,λ_=>by simp⟩
theorem Rng.next{k:Nat}{ks:List α}{ps:List (Option α)}{v2:List α}(h:Rng nb a k ks ps v2)(hr:v2≠[]):Rng nb a (k+1) (bL nb ⟨ks,ps,[]⟩ v2).ks (bL nb ⟨ks,ps,[]⟩ v2).ps (bL nb ⟨ks,ps,[]⟩ v2).fu:=by
 obtain⟨g,m⟩:=vF (nb:=nb) (P:=λc x=>c∈v2/\x∈nb c) v2 ⟨ks,ps,[]⟩ λc hc x hx=>⟨hc,hx⟩
 obtain⟨fs,e1,e2,e3,e4⟩:=g.ex;have Me:=g.nd h.nd;have hm:∀x,x∈(bL nb ⟨ks,ps,[]⟩ v2).ks↔Rb nb a (k+1) x:=λx=>by
  rw[m x];show (x∈ks\/_)↔(Rb nb a k x\/_);constructor
  ·rintro(q | ⟨c,hc,hx⟩)
   ·exact .inl ((h.mem x).mp q)
   ·exact .inr ⟨c,((h.rg c).mp hc).1,hx⟩
  ·rintro(q | ⟨y,hy,hx⟩)
   ·exact .inl ((h.mem x).mpr q)
   ·by_cases hk:∀j,Rb nb a j y->k<=j
    ·exact .inr ⟨y,(h.rg y).mpr ⟨hy,hk⟩,hx⟩
    ·refine .inl ((h.mem x).mpr ?_);obtain⟨j,hj⟩:=W3.mp hk;obtain⟨M8,QA⟩:=Xp.mp hj;exact Rb.mono (i:=j+1) (by omega) (.inr ⟨y,M8,hx⟩)
 have Bs:(bL nb ⟨ks,ps,[]⟩ v2).ks=ks++fs.map (·.1):=e1;have Jx:(bL nb ⟨ks,ps,[]⟩ v2).ps=ps++fs.map (λp=>some p.2):=e2;have LW:(bL nb ⟨ks,ps,[]⟩ v2).fu=fs.map (·.1):=e3;have new:∀x,x∈fs.map (·.1)->¬Rb nb a k x:=λx hx hk=>by
  rw[Bs] at Me;exact(Tb.mp Me).2.2 x ((h.mem x).mpr hk) x hx rfl
 have KQ:∀x,¬Rb nb a k x->∀j,Rb nb a j x->k+1<=j:=λx hx j hj=>by
  by_cases QB:k+1<=j
  ·exact QB
  ·exact Ym (Rb.mono (by omega) hj) hx
 have KA:(bL nb ⟨ks,ps,[]⟩ v2).ks.zip (bL nb ⟨ks,ps,[]⟩ v2).ps=ks.zip ps++fs.map λp=>(p.1,some p.2):=by
  rw[Bs,Jx,VD h.len];congr 1;rw[Xa]
 refine⟨?_,Me,hm,λx=>?_,λx p hp=>?_,λx hx=>?_,?_⟩
 ·rw[Bs,Jx,Sg,Sg,R5,R5,h.len]
 ·rw[LW];constructor
  ·intro hx;exact⟨(hm x).mp (by rw[Bs];exact SV _ hx),KQ x (new x hx)⟩
  ·rintro⟨h1,h2⟩;have h3:=(hm x).mpr h1;rw[Bs] at h3;rcases SD.mp h3 with q | q
   ·have:=h2 k ((h.mem x).mp q);omega
   ·exact q
 ·rw[KA] at hp;rcases SD.mp hp with q | q
  ·obtain⟨q1,q2,q3⟩:=h.par x p q;exact⟨q1,by rw[Bs];exact Tq _ q2,q3⟩
  ·obtain⟨f,hf,e⟩:=Sm.mp q;cases e;obtain⟨f1,f2⟩:=e4 f hf;have hc:=(h.rg f.2).mp f1;refine⟨f2,by rw[Bs];exact Tq _ ((h.mem _).mpr hc.1),λj hj=>?_⟩;have:=KQ f.1 (new f.1 (Sm.mpr ⟨f,hf,rfl⟩)) j hj;exact⟨j - 1,by omega,Rb.mono (by omega) hc.1⟩
 ·rw[KA] at hx;rcases SD.mp hx with q | q
  ·exact h.non x q
  ·obtain⟨f,hf,e⟩:=Sm.mp q;cases e
 ·have hs:=h.sz.2 hr;rw[Bs,Sg,R5];refine⟨by omega,λeK=>?_⟩;have:fs≠[]:=λz=>eK (by rw[LW,z];rfl);have:=XI.mpr this;omega
theorem Rng.last{k:Nat}{ks:List α}{ps:List (Option α)}(h:Rng nb a k ks ps []):∀x,x∈ks↔∃j,Rb nb a j x:=by
 have none:∀x,¬(Rb nb a k x/\∀j,Rb nb a j x->k<=j):=λx q=>by
  have:=(h.rg x).mpr q;cases this
 have hk:∀x,Rb nb a k x->∃i,i<k/\Rb nb a i x:=λx hx=>by
  by_cases q:∀j,Rb nb a j x->k<=j
  ·exact Ym ⟨hx,q⟩ (none x)
  ·obtain⟨j,hj⟩:=W3.mp q;obtain⟨M8,QA⟩:=Xp.mp hj;exact⟨j,by omega,M8⟩
 have all:∀j x,Rb nb a j x->Rb nb a k x:=by
  intro j;induction j with
  |zero=>intro x hx;exact Rb.mono (SM _) hx
  |succ j ih=>
   rintro x (q | ⟨y,hy,hx⟩)
   ·exact ih x q
   ·obtain⟨i,hi,hr⟩:=hk y (ih y hy);exact Rb.mono (i:=i+1) (by omega) (.inr ⟨y,hr,hx⟩)
 exact λx=>⟨λq=>⟨k,(h.mem x).mp q⟩,λ⟨j,hj⟩=>(h.mem x).mpr (all j x hj)⟩
theorem cZ{l U:List α}(hn:l.Nodup)(h:∀x∈l,x∈U):l.length<=U.length:=by
 induction l generalizing U with
 |nil=>simp
 |cons a l ih=>
  rw[S2] at hn;have hl:∀x∈l,x∈U.erase a:=λx hx=>by
   have eK:x≠a:=λz=>hn.1 (by rw[<-z];exact hx);exact(List.mem_erase_of_ne eK).mpr (h x (R4 _ hx))
  have h1:=ih hn.2 hl;have h2:=W8 (h a (R1 ..));have h3:=Vy (h a (R1 ..));rw[Sd];omega
end
end K1
namespace K1
open PySem L2 L3
def keyOf(c:Cell):List Key:=[.inl (c.1:Int), .inl (c.2:Int)]
theorem jz{a b:Cell}(h:keyOf a=keyOf b):a=b:=by
 unfold keyOf at h;injection h with h1 h2
 injection h1 with h1
 injection h2 with h2 _
 injection h2 with h2
 exact W9 (Va h1) (Va h2)
theorem kI(c:Cell):iP (cD c)=some (keyOf c):=rfl
theorem gR{c:Cell}:∀{ks:List Cell}{ds:List D},c∉ks->dI (ks.map keyOf) ds (keyOf c)=none
 |[],_,_=>by simp[dI]
 |k::ks,[],_=>by simp[dI]
 |k::ks,d::ds,h=>by
  rw[Sa];unfold dI;rw[Yh (λz=>h (by rw[jz z];exact R1 ..))];exact gR λz=>h (R4 _ z)
theorem mz{c:Cell}:∀{ks:List Cell}{ds:List D},ks.length=ds.length->c∈ks->∃d,dI (ks.map keyOf) ds (keyOf c)=some d/\(c,d)∈ks.zip ds
 |[],_,_,h=>by cases h
 |k::ks,[],hl,_=>by simp at hl
 |k::ks,d::ds,hl,h=>by
  rw[Sa];unfold dI;by_cases hk:k=c
  ·subst hk;rw[Yg rfl];exact⟨d,rfl,by simp⟩
  ·rw[Yh (λz=>hk (jz z))];have hc:c∈ks:=by
    rcases Sf.mp h with q | q
    ·exact Ym q.symm hk
    ·exact q
   obtain⟨d',e1,e2⟩:=mz (ds:=ds) (by simpa using hl) hc;exact⟨d',e1,by simp[e2]⟩
theorem tM{neg:Bool}{ks:List Cell}{ds:List D}{c:Cell}(hl:ks.length=ds.length):et neg (cD c) (.dct (ks.map keyOf) ds)=aa (.bl (if neg then !decide (c∈ks) else decide (c∈ks))):=by
 show (match (iP (cD c)).map (dI (ks.map keyOf) ds) with | some o=>aa (D.bl (if neg then !o.isSome else o.isSome)) | none=>af)=_;rw[kI];show aa (D.bl (if neg then !(dI (ks.map keyOf) ds (keyOf c)).isSome else(dI (ks.map keyOf) ds (keyOf c)).isSome))=_;by_cases h:c∈ks
 ·obtain⟨d,e,_⟩:=mz hl h;rw[e,Yi h];rfl
 ·rw[gR h,Yl h];rfl
theorem wD{ks:List Cell}{ds:List D}{c:Cell}{d:D}(h:c∉ks)(hl:ds.length<lim):hX (.dct (ks.map keyOf) ds) (cD c) d=some (.dct ((ks++[c]).map keyOf) (ds++[d])):=by
 show (match iP (cD c) with | some kk=>if ds.length<lim then some (C.dct (b7 (ks.map keyOf) ds kk) (bM (ks.map keyOf) ds kk d)) else none | none=>none)=_;rw[kI];show (if ds.length<lim then some (C.dct (b7 (ks.map keyOf) ds (keyOf c)) (bM (ks.map keyOf) ds (keyOf c) d)) else none)=_;rw[Yg hl];unfold b7 bM;rw[gR h];simp
theorem zZ{τ:DT}{Z:aU}{b:Bool}(h:τ (Bt Z)=aa b):zY τ Z=aa b:=by
 unfold zY;rw[h];rfl
theorem xh{c:DT}{body:DS}{n:Nat}{Z Z':aU}{m:M Out}(h1:c Z=aa true)(h2:body Z=aa (.nx Z'))(h3:eG c body n Z'=m):eG c body (n+1) Z=m:=by
 show (c Z>>=λb=>if b then body Z>>=λo=>match o with | .nx Z'=>eG c body n Z' | .rt d=>aa (.rt d) else aa (.nx Z))=_;rw[h1,av,Yg rfl,h2];exact h3
theorem xg{c:DT}{body:DS}{n:Nat}{Z:aU}(h1:c Z=aa false):eG c body (n+1) Z=aa (.nx Z):=by
 show (c Z>>=λb=>if b then body Z>>=λo=>match o with | .nx Z'=>eG c body n Z' | .rt d=>aa (.rt d) else aa (.nx Z))=_;rw[h1];rfl
def De:Option Cell->D
 |none=> .non
 |some c=>cD c
abbrev BG(ks:List Cell)(ps:List (Option Cell)):C:= .dct (ks.map keyOf) (ps.map De)
abbrev fm(ks:List Cell)(ps:List (Option Cell)):D:= .dct (ks.map keyOf) (ps.map De)
abbrev sb(b s w:D)(ks:List Cell)(ps:List (Option Cell))(x4 x5 x6 x7:Option Sl):aU:=[fz b,fz s,fz w,some (.ow (BG ks ps)),x4,x5,x6,x7]
structure Bok (R W:Nat) (s:Bk Cell):Prop where
 len:s.ks.length=s.ps.length
 nd:s.ks.Nodup
 on:∀x∈s.ks,On R W x
 fu:s.fu.length<=s.ks.length
theorem Bok.le{R W:Nat}{s:Bk Cell}(h:Bok R W s):s.ks.length<=R*W:=by
 rw[<-dH R W];exact cZ h.nd λx hx=>aX.mpr (h.on x hx)
theorem Bok.step{R W:Nat}{s:Bk Cell}(h:Bok R W s){c x:Cell}(hx:On R W x):Bok R W (cx c s x):=by
 unfold cx;split
 ·exact h
 ·rename_i hn;refine⟨by simp[h.len],?_,λy hy=>?_,by simp;exact h.fu⟩
  ·refine Tb.mpr ⟨h.nd,by simp,λy hy z hz e=>?_⟩;have hz:z=x:=by simpa using hz
   rw[e,hz] at hy;exact hn hy
  ·rcases SD.mp hy with q | q
   ·exact h.on y q
   ·have:y=x:=by simpa using q
    rw[this];exact hx
def Ji:DS:=b_ [7] (fj (zY (cP (d2 (et true) (dV 7) (dV 3)))) (aA (dR 3 (dV 7) (dV 6)) (ll 5 (dV 7))) cb)
theorem Gg{bd:List Str}{W:Nat}(hg:Brd bd W){a c x:Cell}{w:D}{r:Option Sl}{s:Bk Cell}(h:Bok bd.length W s):
 Ji (sb (brd bd) (cD a) w s.ks s.ps r (some (.ow (.lst (s.fu.map cD)))) (fz (cD c)) (fz (cD x)))=aa (.nx (sb (brd bd) (cD a) w (cx c s x).ks (cx c s x).ps r (some (.ow (.lst ((cx c s x).fu.map cD)))) (fz (cD c)) none)):=by
 have hle:=h.le;have hm:bd.length*W<=64:=Ub hg.r8 hg.w8;have ht:zY (cP (d2 (et true) (dV 7) (dV 3))) (sb (brd bd) (cD a) w s.ks s.ps r (some (.ow (.lst (s.fu.map cD)))) (fz (cD c)) (fz (cD x)))=aa (!decide (x∈s.ks)):=
  zZ (eX ((aQ (x:=cD x) (y:=fm s.ks s.ps) rfl rfl).trans (tM (neg:=true) (by rw[R5];exact h.len))))
 by_cases hx:x∈s.ks
 ·rw[Yi hx] at ht;have e:cx c s x=s:=Yg hx;rw[e];exact(bc (e7 ht rfl)).trans rfl
 ·rw[Yl hx] at ht;have e:cx c s x=⟨s.ks++[x],s.ps++[some c],s.fu++[x]⟩:=Yh hx;rw[e];refine(bc (Z':=sb (brd bd) (cD a) w (s.ks++[x]) (s.ps++[some c]) r (some (.ow (.lst ((s.fu++[x]).map cD)))) (fz (cD c)) (fz (cD x))) (e9 ht (aj (Z':=sb (brd bd) (cD a) w (s.ks++[x]) (s.ps++[some c]) r (some (.ow (.lst (s.fu.map cD)))) (fz (cD c)) (fz (cD x))) ?_ ?_))).trans rfl
  ·show (match hX (BG s.ks s.ps) (cD x) (cD c) with | some c'=>aa (Out.nx (List.set (sb (brd bd) (cD a) w s.ks s.ps r (some (.ow (.lst (s.fu.map cD)))) (fz (cD c)) (fz (cD x))) 3 (some (.ow c')))) | none=>af)=_;rw[wD hx (by rw[R5,<-h.len,cO];omega)];rw[show s.ps.map De++[cD c]=(s.ps++[some c]).map De by simp[De]];rfl
  ·show (if (s.fu.map cD).length<lim then aa (Out.nx (sb (brd bd) (cD a) w (s.ks++[x]) (s.ps++[some c]) r (some (.ow (.lst (s.fu.map cD++[cD x])))) (fz (cD c)) (fz (cD x)))) else af)=_;have:=h.fu;rw[Yg (by rw[R5,cO];omega)];rw[show s.fu.map cD++[cD x]=(s.fu++[x]).map cD by simp]
def Jh:DS:=b_ [6,7] (dS (putN 7) (eO (ao 3 cC (aC (dV 0) (aC (dV 6) (aC (dV 2) aN))))) Ji)
theorem zW{bd:List Str}{W w:Nat}(hg:Brd bd W)(hw:Ways w){a c:Cell}(hc:On bd.length W c){r:Option Sl}{s:Bk Cell}(h:Bok bd.length W s):
 Bok bd.length W (eZ (a_ bd W w) s c)/\Jh (sb (brd bd) (cD a) (.int (w:Int)) s.ks s.ps r (some (.ow (.lst (s.fu.map cD)))) (fz (cD c)) none)=
  aa (.nx (sb (brd bd) (cD a) (.int (w:Int)) (eZ (a_ bd W w) s c).ks (eZ (a_ bd W w) s c).ps r (some (.ow (.lst ((eZ (a_ bd W w) s c).fu.map cD)))) none none)):=by
 obtain⟨h1,e⟩:=gu (put:=putN 7) (body:=Ji) cD (λs:Bk Cell=>sb (brd bd) (cD a) (.int (w:Int)) s.ks s.ps r (some (.ow (.lst (s.fu.map cD)))) (fz (cD c)) none) (cx c) (Bok bd.length W) (a_ bd W w c) s h λs hs x hx=>
  ⟨hs.step ((bT hw).mp hx).1,_,rfl,Gg hg hs⟩
 refine⟨h1,(bc (eR ?_ e)).trans rfl⟩;show (ao 3 cC (aC (dV 0) (aC (dV 6) (aC (dV 2) aN))) (sb (brd bd) (cD a) (.int (w:Int)) s.ks s.ps r (some (.ow (.lst (s.fu.map cD)))) (fz (cD c)) none)>>=lstM)=_;have e2:ao 3 cC (aC (dV 0) (aC (dV 6) (aC (dV 2) aN))) (sb (brd bd) (cD a) (.int (w:Int)) s.ks s.ps r (some (.ow (.lst (s.fu.map cD)))) (fz (cD c)) none)=aa (.lst ((a_ bd W w c).map cD)):=pF hg hw hc;rw[e2];rfl
def Ly:DS:=b_ [5,6,7] (aA (uD 5) (aA (dS (putN 6) (eO (dV 4)) Jh) (xx 5 (bF 4 (dV 5)))))
theorem Gf{bd:List Str}{W w:Nat}(hg:Brd bd W)(hw:Ways w){a:Cell}{v2:List Cell}(hr:∀c∈v2,On bd.length W c){s:Bk Cell}(h:Bok bd.length W s)(hf:s.fu=[]):
 Bok bd.length W (bL (a_ bd W w) s v2)/\Ly (sb (brd bd) (cD a) (.int (w:Int)) s.ks s.ps (fz (.lst (v2.map cD))) none none none)=
  aa (.nx (sb (brd bd) (cD a) (.int (w:Int)) (bL (a_ bd W w) s v2).ks (bL (a_ bd W w) s v2).ps (fz (.lst ((bL (a_ bd W w) s v2).fu.map cD))) none none none)):=by
 obtain⟨h1,e⟩:=gu (put:=putN 6) (body:=Jh) cD (λs:Bk Cell=>sb (brd bd) (cD a) (.int (w:Int)) s.ks s.ps (fz (.lst (v2.map cD))) (some (.ow (.lst (s.fu.map cD)))) none none) (eZ (a_ bd W w)) (Bok bd.length W) v2 s h λs hs c hc=>
  ⟨(zW (a:=a) (r:=fz (.lst (v2.map cD))) hg hw (hr c hc) hs).1,_,rfl,(zW hg hw (hr c hc) hs).2⟩
 refine⟨h1,(bc (Z':=sb (brd bd) (cD a) (.int (w:Int)) (bL (a_ bd W w) s v2).ks (bL (a_ bd W w) s v2).ps (fz (.lst ((bL (a_ bd W w) s v2).fu.map cD))) (fz (.lst ((bL (a_ bd W w) s v2).fu.map cD))) none none) ?_).trans rfl⟩;refine aj (Z':=sb (brd bd) (cD a) (.int (w:Int)) s.ks s.ps (fz (.lst (v2.map cD))) (some (.ow (.lst []))) none none) rfl (aj (Z':=sb (brd bd) (cD a) (.int (w:Int)) (bL (a_ bd W w) s v2).ks (bL (a_ bd W w) s v2).ps (fz (.lst (v2.map cD))) (some (.ow (.lst ((bL (a_ bd W w) s v2).fu.map cD)))) none none) ?_ rfl);rw[hf] at e;exact eR rfl e
theorem wR{bd:List Str}{W w:Nat}(hg:Brd bd W)(hw:Ways w){a:Cell}(ha:On bd.length W a):∀(fuel k:Nat) (ks:List Cell) (ps:List (Option Cell)) (v2:List Cell),bd.length*W+2<=fuel+k->Rng (a_ bd W w) a k ks ps v2->(∀x∈ks,On bd.length W x)->
 ∃k' ks' jM,Rng (a_ bd W w) a k' ks' jM []/\(∀x∈ks',On bd.length W x)/\eG (cw (dV 4)) Ly fuel (sb (brd bd) (cD a) (.int (w:Int)) ks ps (fz (.lst (v2.map cD))) none none none)=aa (.nx (sb (brd bd) (cD a) (.int (w:Int)) ks' jM (fz (.lst [])) none none none))
 |0,k,ks,ps,v2,hf,hR,lH=>by
  have h1:ks.length<=bd.length*W:=by
   rw[<-dH bd.length W];exact cZ hR.nd λx hx=>aX.mpr (lH x hx)
  have:=hR.sz.1;omega
 |fuel+1,k,ks,ps,[],hf,hR,lH=>⟨k,ks,ps,hR,lH,xg rfl⟩
 |fuel+1,k,ks,ps,c::v2,hf,hR,lH=>by
  have eK:c::v2≠[]:=by simp
  have hN:=hR.next eK;have Kx:∀x∈c::v2,On bd.length W x:=λx hx=>lH x ((hR.mem x).mpr ((hR.rg x).mp hx).1);obtain⟨hb,e⟩:=Gf (a:=a) hg hw Kx (s:=⟨ks,ps,[]⟩) ⟨hR.len,hR.nd,lH,SM _⟩ rfl;obtain⟨k',ks',jM,q1,q2,q3⟩:=wR hg hw ha fuel (k+1) _ _ _ (by omega) hN hb.on;exact⟨k',ks',jM,q1,q2,xh rfl e q3⟩
theorem jj{bd:List Str}{W w:Nat}(hg:Brd bd W)(hw:Ways w){a:Cell}(ha:On bd.length W a):
 ∃k ks ps,Rng (a_ bd W w) a k ks ps []/\(∀x∈ks,On bd.length W x)/\a7 [brd bd,cD a, .int (w:Int)]=aa (fm ks ps):=by
 have hm:bd.length*W<=64:=Ub hg.r8 hg.w8;obtain⟨k,ks,ps,h1,h2,h3⟩:=wR hg hw ha lim 0 [a] [none] [a] (by rw[cO];omega) (Rng.zero _ _) (λx hx=>(show x=a by simpa using hx)▸ha);refine⟨k,ks,ps,h1,h2,a9 (aj (Z':=[fz (brd bd),fz (cD a),fz (.int (w:Int)),some (.ow (BG [a] [none])),none,none,none,none]) rfl (aj (Z':=sb (brd bd) (cD a) (.int (w:Int)) [a] [none] (fz (.lst [cD a])) none none none) rfl (aj (Z':=sb (brd bd) (cD a) (.int (w:Int)) ks ps (fz (.lst [])) none none none) (c9 h3) rfl)))⟩
def mD{α:Type}[DecidableEq α](n:Nat)(enc:α->D):Prop:=∀k x y,vB (n+k) (enc x) (enc y)=some (decide (x=y))
theorem EK(n:Nat)(i j:Str):vB n (.str i) (.str j)=some (i==j):=by cases n<;>rfl
theorem tE{α:Type}[DecidableEq α]{enc:α->D}{f:D->D->Option Bool}(h:∀x y,f (enc x) (enc y)=some (decide (x=y))):∀(xs ys:List α),vC f (xs.map enc) (ys.map enc)=some (decide (xs=ys))
 |[],[]=>rfl
 |[],_::_=>by simp[vC]
 |_::_,[]=>by simp[vC]
 |x::xs,y::ys=>by
  rw[Sa,Sa];show (match f (enc x) (enc y),vC f (xs.map enc) (ys.map enc) with | some b,some r=>some (b&&r) | _,_=>none)=_;rw[h,tE h xs ys];show some (decide (x=y)&&decide (xs=ys))=_;congr 1;by_cases h1:x=y<;>by_cases h2:xs=ys<;>simp[h1,h2]
theorem LY{α:Type}[DecidableEq α]{enc:α->D}{n:Nat}(h:mD n enc):mD (n+1) (λl:List α=> .lst (l.map enc)):=λk x y=>by
 rw[show n+1+k=(n+k)+1 by omega];exact tE (h k) x y
theorem EH{α:Type}[DecidableEq α]{enc:α->D}{n:Nat}(h:mD n enc):mD (n+1) (λl:List α=> .tup (l.map enc)):=λk x y=>by
 rw[show n+1+k=(n+k)+1 by omega];exact tE (h k) x y
theorem ze:mD 0 D.str:=λk x y=>by
 rw[EK];congr 1
theorem EG:mD 1 brd:=EH ze
theorem MH{α:Type}[DecidableEq α]{enc:α->D}{n:Nat}(h:mD n enc)(hn:n<=6)(x y:α):kx (enc x) (enc y)=aa (.bl (decide (x=y))):=by
 have:=h (6 - n) x y;rw[show n+(6 - n)=6 by omega] at this;unfold kx;rw[this]
theorem B3{α:Type}[DecidableEq α]{enc:α->D}{n:Nat}(h:mD n enc)(hn:n<=6)(x y:α):lG (enc x) (enc y)=aa (.bl (!decide (x=y))):=by
 have:=h (6 - n) x y;rw[show n+(6 - n)=6 by omega] at this;unfold lG;rw[this]
abbrev cL(l:List Cell):D:= .lst (l.map cD)
def ic(c:Cell):List Int:=[(c.1:Int),(c.2:Int)]
def BP(a b:Cell):Bool:=if a.1=b.1 then decide (a.2<b.2) else decide (a.1<b.1)
def E7(k:Cell):List Cell->List Cell
 |[]=>[k]
 |x::r=>if BP k x then k::x::r else x::E7 k r
def qw:List Cell->List Cell
 |[]=>[]
 |k::r=>E7 k (qw r)
theorem yb(a b:Cell):ez (ic a) (ic b)=BP a b:=by
 show (if (a.1:Int)=(b.1:Int) then(if (a.2:Int)=(b.2:Int) then false else decide ((a.2:Int)<(b.2:Int))) else decide ((a.1:Int)<(b.1:Int)))=_;unfold BP;by_cases h:a.1=b.1
 ·rw[Yg h,Yg (by omega)];by_cases h2:a.2=b.2
  ·rw[Yg (by omega),h2];simp
  ·rw[Yh (by omega)];by_cases h3:a.2<b.2
   ·rw[Yi h3,Yi (by omega)]
   ·rw[Yl h3,Yl (by omega)]
 ·rw[Yh h,Yh (by omega)];by_cases h3:a.1<b.1
  ·rw[Yi h3,Yi (by omega)]
  ·rw[Yl h3,Yl (by omega)]
theorem Cw(k:Cell):∀l:List Cell,insI (ic k) (l.map ic)=(E7 k l).map ic
 |[]=>rfl
 |x::r=>by
  rw[Sa];unfold insI E7;rw[yb];cases BP k x with
  |true=>rfl
  |false=>rw[Yh (by decide),Yh (by decide),Sa,Cw k r]
theorem oE:∀l:List Cell,sortI (l.map ic)=(qw l).map ic
 |[]=>rfl
 |k::r=>by
  rw[Sa];unfold sortI qw;rw[oE r,Cw]
theorem tK{a b:Cell}(h:ic a=ic b):a=b:=by
 unfold ic at h;injection h with h1 h2
 injection h2 with h2 _
 exact W9 (Va h1) (Va h2)
theorem AN{x:Cell}{l:List Cell}:x∈qw l↔x∈l:=by
 have h:=gP (x:=ic x) (l:=l.map ic);rw[oE] at h;constructor
 ·intro hx;obtain⟨y,hy,e⟩:=Sm.mp (h.mp (Sm.mpr ⟨x,hx,rfl⟩));rw[<-tK e];exact hy
 ·intro hx;obtain⟨y,hy,e⟩:=Sm.mp (h.mpr (Sm.mpr ⟨x,hx,rfl⟩));rw[<-tK e];exact hy
def RiseC(l:List Cell):Prop:=l.Pairwise λa b=>BP a b=true
theorem uC{l:List Cell}:xA (l.map ic)↔RiseC l:=by
 unfold xA RiseC;rw[UM];constructor<;>intro h<;>refine VC ?_ h<;>intro a b q
 ·rw[<-yb];exact q
 ·rw[yb];exact q
theorem v5{l:List Cell}(h:l.Nodup):(l.map ic).Nodup:=by
 unfold TR at h⊢;rw[UM];exact VC (λh z=>h (tK z)) h
theorem yL{l:List Cell}(h:l.Nodup):RiseC (qw l):=by
 have:=kq (v5 h);rw[oE] at this;exact uC.mp this
theorem A9{a b:List Cell}(ha:RiseC a)(hb:RiseC b)(h:∀x,x∈a↔x∈b):a=b:=by
 have e:=gN (uC.mpr ha) (uC.mpr hb) λx=>by
  constructor
  ·intro hx;obtain⟨y,hy,rfl⟩:=Sm.mp hx;exact Sm.mpr ⟨y,(h y).mp hy,rfl⟩
  ·intro hx;obtain⟨y,hy,rfl⟩:=Sm.mp hx;exact Sm.mpr ⟨y,(h y).mpr hy,rfl⟩
 have inj:∀(a b:List Cell),a.map ic=b.map ic->a=b:=by
  intro a;induction a with
  |nil=>intro b h;cases b with
   |nil=>rfl
   |cons=>simp at h
  |cons x a ih=>intro b h;cases b with
   |nil=>simp at h
   |cons y b=>
    rw[Sa,Sa] at h;injection h with h1 h2
    rw[tK h1,ih b h2]
 exact inj a b e
theorem RiseC.nodup{l:List Cell}(h:RiseC l):l.Nodup:=by
 refine VC ?_ h;intro a b q z;subst z;unfold BP at q;rw[Yg rfl] at q;have:=Yk q;omega
theorem lW:∀ks:List Cell,fK (ks.map keyOf)=some (ks.map ic)
 |[]=>rfl
 |k::r=>by
  show (match jR (keyOf k),fK (r.map keyOf) with | some x,some xs=>some (x::xs) | _,_=>none)=_;rw[lW r];rfl
theorem K4{ks:List Cell}(h:ks.Nodup)(hl:ks.length<64):iY (ks.map ic)=true:=by
 unfold iY;rw[R5,Yi (v5 h),Yi hl];simp;intro a b _ z;cases z
theorem D3{ks:List Cell}{ds:List D}(h:ks.Nodup)(hl:ks.length<64):sL [.dct (ks.map keyOf) ds]=aa (cL (qw ks)):=by
 show (match fK (ks.map keyOf) with | some ks=>if iY ks&&ks.all (λk=>decide (k.length<=lim)) then aa (D.lst ((sortI ks).map tupI)) else af | none=>af)=_;rw[lW];show (if iY (ks.map ic)&&(ks.map ic).all (λk=>decide (k.length<=lim)) then aa (D.lst ((sortI (ks.map ic)).map tupI)) else af)=_;rw[K4 h hl];have:(ks.map ic).all (λk=>decide (k.length<=lim))=true:=by
  simp;intro a b _;show 2<=lim
  decide
 rw[this,Bool.and_true,Yg rfl,oE,SF];rfl
def Cn(bd:List Str)(W w:Nat)(a b:Cell):Prop:=∃j,Rb (a_ bd W w) a j b
theorem Cn.refl{bd:List Str}{W w:Nat}{a:Cell}:Cn bd W w a a:=⟨0,rfl⟩
theorem yc{bd:List Str}{W w:Nat}(hw:Ways w){a b:Cell}(ha:On bd.length W a)(h:b∈a_ bd W w a):a∈a_ bd W w b:=by
 obtain⟨h1,h2,h3⟩:=(bT hw).mp h;exact(bT hw).mpr ⟨ha,by rw[C3];exact h2,h3.symm⟩
theorem sy{bd:List Str}{W w:Nat}(hw:Ways w){a b:Cell}(ha:On bd.length W a):∀{j:Nat},Rb (a_ bd W w) a j b->On bd.length W b
 |0,h=>by rw[show b=a from h];exact ha
 |j+1, .inl h=>sy hw ha h
 |j+1, .inr ⟨y,_,hy⟩=>((bT hw).mp hy).1
theorem qm{bd:List Str}{W w:Nat}{a c b:Cell}(h:c∈a_ bd W w a):∀{j:Nat},Rb (a_ bd W w) c j b->Rb (a_ bd W w) a (j+1) b
 |0,q=> .inr ⟨a,rfl,by rw[show b=c from q];exact h⟩
 |j+1, .inl q=> .inl (qm h q)
 |j+1, .inr ⟨y,q,hy⟩=> .inr ⟨y,qm h q,hy⟩
theorem uy{bd:List Str}{W w:Nat}(hw:Ways w){a b:Cell}(ha:On bd.length W a):∀{j:Nat},Rb (a_ bd W w) a j b->Rb (a_ bd W w) b j a
 |0,h=>show a=b from(show b=a from h).symm
 |j+1, .inl h=> .inl (uy hw ha h)
 |j+1, .inr ⟨y,q,hy⟩=>qm (yc hw (sy hw ha q) hy) (uy hw ha q)
theorem qo{bd:List Str}{W w:Nat}{a b c:Cell}{i:Nat}(h:Rb (a_ bd W w) a i b):∀{j:Nat},Rb (a_ bd W w) b j c->Rb (a_ bd W w) a (i+j) c
 |0,q=>by rw[show c=b from q];exact h
 |j+1, .inl q=> .inl (qo h q)
 |j+1, .inr ⟨y,q,hy⟩=> .inr ⟨y,qo h q,hy⟩
theorem ml{bd:List Str}{W w:Nat}(hw:Ways w){a b:Cell}:∀{j:Nat},Rb (a_ bd W w) a j b->lt bd b=lt bd a
 |0,h=>by rw[show b=a from h]
 |j+1, .inl h=>ml hw h
 |j+1, .inr ⟨y,q,hy⟩=>((bT hw).mp hy).2.2.trans (ml hw q)
section
variable{bd:List Str}{W w:Nat}{a b c:Cell}
theorem Cn.on(hw:Ways w)(ha:On bd.length W a)(h:Cn bd W w a b):On bd.length W b:=let ⟨_,q⟩:=h;sy hw ha q
theorem Cn.symm(hw:Ways w)(ha:On bd.length W a)(h:Cn bd W w a b):Cn bd W w b a:=let ⟨j,q⟩:=h;⟨j,uy hw ha q⟩
theorem Cn.trans(h:Cn bd W w a b)(h2:Cn bd W w b c):Cn bd W w a c:=let ⟨i,q⟩:=h;let ⟨j,r⟩:=h2;⟨i+j,qo q r⟩
theorem Cn.letter(hw:Ways w)(h:Cn bd W w a b):lt bd b=lt bd a:=let ⟨_,q⟩:=h;ml hw q
theorem Cn.step(h:Cn bd W w a b)(h2:c∈a_ bd W w b):Cn bd W w a c:=let ⟨j,q⟩:=h;⟨j+1, .inr ⟨b,q,h2⟩⟩
end
structure IsPatch (bd:List Str) (W w:Nat) (a:Cell) (P:List Cell):Prop where
 rise:RiseC P
 mem:∀x,x∈P↔Cn bd W w a x
theorem IsPatch.one{bd:List Str}{W w:Nat}{a:Cell}{P Q:List Cell}(h:IsPatch bd W w a P)(h2:IsPatch bd W w a Q):P=Q:=A9 h.rise h2.rise λx=>(h.mem x).trans (h2.mem x).symm
theorem og{bd:List Str}{W:Nat}{ks:List Cell}(hn:ks.Nodup)(lH:∀x∈ks,On bd.length W x):ks.length<=bd.length*W:=by
 rw[<-dH bd.length W];exact cZ hn λx hx=>aX.mpr (lH x hx)
def Hi(w:Nat):List Cell->Bool
 |a::b::r=>mU w a b&&Hi w (b::r)
 |_=>true
theorem vh{α:Type}{l:List α}{x:α}:L2.atI (l++[x]) (-1)=some x:=by
 unfold L2.atI Et;rw[Yh (by decide)];have: -((l++[x]).length:Int)<= -1:=by simp;omega
 rw[Yg this];have e:((-1:Int)+((l++[x]).length:Int)).toNat=l.length:=by simp;omega
 show (l++[x])[((-1:Int)+((l++[x]).length:Int)).toNat]? =some x;rw[e];simp
theorem KL{l:List Cell}{x:Cell}:iI (cL (l++[x])) (.int (-1))=aa (cD x):=by
 show (match L2.atI ((l++[x]).map cD) (-1) with | some d=>aa d | none=>af)=_;rw[SE,show [x].map cD=[cD x] from rfl,vh]
theorem Ia{l:List Cell}{i:Nat}{x:Cell}(h:l[i]? =some x):iI (cL l) (.int (i:Int))=aa (cD x):=by
 show (match L2.atI (l.map cD) (i:Int) with | some d=>aa d | none=>af)=_;rw[fk (x:=cD x) (by rw[Sj,h];rfl)]
abbrev wr(bd w a b k t:D):aU:=[fz bd,fz w,fz a,fz b,fz k,fz t]
theorem fw{α:Type}{f:D->M (Option D)}(enc:α->D)(g:α->D):∀(xs:List α),(∀x∈xs,f (enc x)=aa (some (g x)))->dh f (xs.map enc)=aa (xs.map g)
 |[],_=>rfl
 |x::xs,h=>by
  rw[Sa,el,h x (R1 ..),av,fw enc g xs λy hy=>h y (R4 _ hy)];rfl
theorem BF{α:Type}{δi:DA}{δe:DE}{Z:aU}{enc:α->D}{xs:List α}{g:α->Bool}(h:δi Z=aa (xs.map enc))(h2:∀x∈xs,δe (fz (enc x)::Z)=aa (.bl (g x)))(h3:xs.length<=4096):dA allM (aC (bx 0 δi bW δe) aN) Z=aa (.bl (xs.all g)):=by
 have cm:bx 0 δi bW δe Z=aa (.lst ((xs.map g).map D.bl)):=by
  refine b0 h ?_ (by rw[R5,R5,cO];exact h3);rw[SF];exact fw enc _ xs λx hx=>by rw[gW,h2 x hx];rfl
 rw[ck (aJ cm rfl),all_map,UC];rfl
theorem Mk{Z:aU}{i:Nat}{ds:List D}(h:Z[i]? =some (fz (.lst ds))):eO (dV i) Z=aa ds:=by
 unfold eO;rw[fC h];rfl
theorem z7{w:Nat}:∀(p:List Cell) (c:Cell),(SQ 1 (p.length - 1)).all (λi=>mU w (p.getD (i - 1) c) (p.getD i c))=Hi w p
 |[],_=>rfl
 |[_],_=>rfl
 |a::b::r,c=>by
  have ih:=z7 (w:=w) (b::r) c;unfold Hi;rw[<-ih];show (SQ 1 (r.length+1)).all _=(_&&(SQ 1 r.length).all _)
  rw[Ux,UH];congr 1;rw[show SQ (1+1) r.length=(SQ 1 r.length).map (1+ ·) from(List.map_add_range' (a:=1) 1 r.length 1).symm,UC];refine WL.mpr ?_;simp only[SA,Yb,WI];constructor
  ·intro h i hi;have:=h i hi;rw[show 1+i - 1=(i - 1)+1 by omega,Nat.add_comm 1 i] at this;exact this
  ·intro h i hi;have:=h i hi;rw[show 1+i - 1=(i - 1)+1 by omega,Nat.add_comm 1 i];exact this
theorem Cg{p:List Cell}{x:Cell}{r:List Cell}(h:p=x::r):iI (cL p) (.int 0)=aa (cD x):=by
 subst h;exact Ia (i:=0) rfl
def bG(ks:List Cell)(c:Cell):List Cell:=if c∈ks then ks else ks++[c]
def bD(l:List Cell):List Cell:=l.foldl bG []
def trues(ks:List Cell):List D:=ks.map λ_=> .bl true
theorem iA{ks:List Cell}{c x:Cell}:x∈bG ks c↔x∈ks\/x=c:=by
 unfold bG;split
 ·rename_i h;exact⟨.inl,λq=>q.elim id λe=>by rw[e];exact h⟩
 ·simp
theorem mG:∀(l ks:List Cell),(ks.Nodup->(l.foldl bG ks).Nodup)/\(∀x,x∈l.foldl bG ks↔x∈ks\/x∈l)/\(l.foldl bG ks).length<=ks.length+l.length
 |[],ks=>⟨id,λx=>by simp,by simp⟩
 |c::l,ks=>by
  obtain⟨h1,h2,h3⟩:=mG l (bG ks c);refine⟨λhn=>h1 ?_,λx=>?_,?_⟩
  ·unfold bG;split
   ·exact hn
   ·rename_i hc;refine Tb.mpr ⟨hn,by simp,λy hy z hz e=>?_⟩;have hz:z=c:=by simpa using hz
    rw[e,hz] at hy;exact hc hy
  ·rw[U7,h2 x,iA];simp[or_assoc]
  ·rw[U7,Sd];have:(bG ks c).length<=ks.length+1:=by unfold bG;split<;>simp
   omega
theorem jB{l:List Cell}{x:Cell}:x∈bD l↔x∈l:=by
 unfold bD;rw[(mG l []).2.1 x];simp
theorem CO(l:List Cell):(bD l).Nodup:=(mG l []).1 Us
theorem AJ(l:List Cell):(bD l).length<=l.length:=by have:=(mG l []).2.2;simpa[bD] using this
theorem sG{k:List Key}:∀{ks:List (List Key)}{l:List Cell},ks.length=l.length->jN ks (trues l) k (.bl true)=trues l
 |[],[],_=>rfl
 |k'::ks,c::l,h=>by
  show (if k'=k then D.bl true else D.bl true)::jN ks (trues l) k (.bl true)=_;rw[sG (by simpa using h)];split<;>rfl
 |[],_::_,h=>by simp at h
 |_::_,[],h=>by simp at h
theorem wC{ks:List Cell}{c:Cell}(hl:ks.length<lim):hX (.dct (ks.map keyOf) (trues ks)) (cD c) (.bl true)=some (.dct ((bG ks c).map keyOf) (trues (bG ks c))):=by
 have v6:(trues ks).length=ks.length:=by simp[trues]
 unfold bG;by_cases h:c∈ks
 ·rw[Yg h];show (match iP (cD c) with | some kk=>if (trues ks).length<lim then some (C.dct (b7 (ks.map keyOf) (trues ks) kk) (bM (ks.map keyOf) (trues ks) kk (.bl true))) else none | none=>none)=_;rw[kI];show (if (trues ks).length<lim then some (C.dct (b7 (ks.map keyOf) (trues ks) (keyOf c)) (bM (ks.map keyOf) (trues ks) (keyOf c) (.bl true))) else none)=_;rw[Yg (by rw[v6];exact hl)];obtain⟨d,e,_⟩:=mz (ds:=trues ks) v6.symm h;unfold b7 bM;rw[e];show some (C.dct (ks.map keyOf) (jN (ks.map keyOf) (trues ks) (keyOf c) (.bl true)))=_;rw[sG (by simp)]
 ·rw[Yh h,wD h (by rw[v6];exact hl)];simp[trues]
abbrev tQ(l:List Cell):D:= .dct ((bD l).map keyOf) (trues (bD l))
theorem AF{l:List Cell}(hl:l.length<4000):e_ [cL l]=aa (tQ l):=by
 have e:∀(xs ks:List Cell),ks.length+xs.length<4000->forL (putN 2) (b_ [2] (dR 1 (dV 2) (dC (.bl true)))) (xs.map cD) [fz (cL l),some (.ow (.dct (ks.map keyOf) (trues ks))),none]=aa (.nx [fz (cL l),some (.ow (.dct ((xs.foldl bG ks).map keyOf) (trues (xs.foldl bG ks)))),none]):=by
  intro xs;induction xs with
  |nil=>intro ks _;rfl
  |cons x xs ih=>
   intro ks hk;rw[Sd] at hk;have hle:(bG ks x).length<=ks.length+1:=by unfold bG;split<;>simp
   refine(cM (Z1:=[fz (cL l),some (.ow (.dct (ks.map keyOf) (trues ks))),fz (cD x)]) (Z2:=[fz (cL l),some (.ow (.dct ((bG ks x).map keyOf) (trues (bG ks x)))),none]) rfl ?_).trans (ih (bG ks x) (by omega));refine(bc (Z':=[fz (cL l),some (.ow (.dct ((bG ks x).map keyOf) (trues (bG ks x)))),fz (cD x)]) ?_).trans rfl;show (match hX (.dct (ks.map keyOf) (trues ks)) (cD x) (.bl true) with | some c'=>aa (Out.nx [fz (cL l),some (.ow c'),fz (cD x)]) | none=>af)=_;rw[wC (by rw[cO];omega)]
 refine a9 (aj (Z':=[fz (cL l),some (.ow (.dct [] [])),none]) rfl (aj (Z':=[fz (cL l),some (.ow (.dct ((bD l).map keyOf) (trues (bD l)))),none]) (c9 (eR (ds:=l.map cD) rfl (e l [] (by simpa using hl)))) rfl))
theorem AG{ks:List Cell}{ds:List D}:fM (.dct (ks.map keyOf) ds)=aa (ks.map cD):=by
 show (if (ks.map keyOf).all (λk=>decide (k.length<=lim)&&k.all pY) then aa ((ks.map keyOf).map tupK) else af)=_;have:(ks.map keyOf).all (λk=>decide (k.length<=lim)&&k.all pY)=true:=by
  simp only[SA,Sm];rintro k ⟨c,_,rfl⟩;rfl
 rw[Yg this,SF];rfl
theorem KU(a b:Nat):lG (.int (a:Int)) (.int (b:Int))=aa (.bl (!(a==b))):=by
 rw[ne_int,kS]
def GH(ks:List Cell)(f:Cell->D):C:= .dct (ks.map keyOf) (ks.map f)
def GG(ks:List Cell)(f:Cell->D):D:= .dct (ks.map keyOf) (ks.map f)
def fT(f:Cell->D)(x:Cell)(d:D):Cell->D:=λy=>if y=x then d else f y
theorem oF{f:Cell->D}{x:Cell}:∀{ks:List Cell},x∈ks->dI (ks.map keyOf) (ks.map f) (keyOf x)=some (f x)
 |y::ks,h=>by
  show (if keyOf y=keyOf x then some (f y) else dI (ks.map keyOf) (ks.map f) (keyOf x))=_;by_cases e:y=x
  ·subst e;rw[Yg rfl]
  ·rw[Yh (λz=>e (jz z))];rcases Sf.mp h with q | q
   ·exact Ym q.symm e
   ·exact oF q
theorem H_{ks:List Cell}{f:Cell->D}{x:Cell}(h:x∈ks):fJ (GG ks f) (cD x)=aa (f x):=by
 show (match ((iP (cD x)).map λk=>dI (ks.map keyOf) (ks.map f) k) with | some (some v)=>aa v | _=>af)=_;rw[kI];show (match some (dI (ks.map keyOf) (ks.map f) (keyOf x)) with | some (some v)=>aa v | _=>af)=_;rw[oF h]
theorem uB{f:Cell->D}{x:Cell}{d:D}:∀{ks:List Cell},jN (ks.map keyOf) (ks.map f) (keyOf x) d=ks.map (fT f x d)
 |[]=>rfl
 |y::ks=>by
  show (if keyOf y=keyOf x then d else f y)::jN (ks.map keyOf) (ks.map f) (keyOf x) d=_;rw[uB,Sa];congr 1;unfold fT;by_cases e:y=x
  ·subst e;rw[Yg rfl,Yg rfl]
  ·rw[Yh (λz=>e (jz z)),Yh e]
theorem F0{ks:List Cell}{f:Cell->D}{x:Cell}{d:D}(hl:ks.length<lim):hX (GH ks f) (cD x) d=some (GH (bG ks x) (fT f x d)):=by
 show (match iP (cD x) with | some kk=>if (ks.map f).length<lim then some (C.dct (b7 (ks.map keyOf) (ks.map f) kk) (bM (ks.map keyOf) (ks.map f) kk d)) else none | none=>none)=_;rw[kI];show (if (ks.map f).length<lim then some (C.dct (b7 (ks.map keyOf) (ks.map f) (keyOf x)) (bM (ks.map keyOf) (ks.map f) (keyOf x) d)) else none)=_;rw[Yg (by rw[R5];exact hl)];unfold GH bG b7 bM;by_cases h:x∈ks
 ·rw[oF h,Yg h];show some (C.dct (ks.map keyOf) (jN (ks.map keyOf) (ks.map f) (keyOf x) d))=_;rw[uB]
 ·rw[gR h,Yh h];show some (C.dct (ks.map keyOf++[keyOf x]) (ks.map f++[d]))=_;have e1:ks.map f=ks.map (fT f x d):=TJ λy hy=>by
   unfold fT;rw[Yh (λz:y=x=>h (z▸hy))]
  have e2:(ks++[x]).map (fT f x d)=ks.map (fT f x d)++[d]:=by
   rw[SE];congr 1;show [fT f x d x]=[d]
   unfold fT;rw[Yg rfl]
  rw[SE,e1,e2];rfl
theorem F4{i:Nat}{δk δv:DE}{Z:aU}{ks:List Cell}{f:Cell->D}{x:Cell}{d:D}(h0:Z[i]? =some (some (.ow (GH ks f))))(hv:δv Z=aa d)(hk:δk Z=aa (cD x))(hl:ks.length<lim):
 dR i δk δv Z=aa (.nx (Z.set i (some (.ow (GH (bG ks x) (fT f x d)))))):=by
 unfold dR q9;rw[h0];show (δv Z>>=λv=>δk Z>>=λk=>match hX (GH ks f) k v with | some c'=>aa (Out.nx (Z.set i (some (.ow c')))) | none=>af)=_;rw[hv,av,hk,av,F0 hl]
section
variable{α:Type}[DecidableEq α]
theorem gQ{β:Type}[DecidableEq β]{g:α->β}(hg:∀a b,g a=g b->a=b){x:α}:∀{ks:List α}{ds:List D},dI (ks.map g) ds (g x)=dI ks ds x
 |[],ds=>by cases ds<;>rfl
 |k::ks,[]=>rfl
 |k::ks,d::ds=>by
  show (if g k=g x then some d else dI (ks.map g) ds (g x))=if k=x then some d else dI ks ds x
  by_cases e:k=x
  ·rw[Yg (by rw[e]),Yg e]
  ·rw[Yh (λz=>e (hg _ _ z)),Yh e,gQ hg]
theorem jI{x:α}:∀{ks:List α}{ds:List D},x∉ks->dI ks ds x=none
 |[],ds,_=>by cases ds<;>rfl
 |k::ks,[],_=>rfl
 |k::ks,d::ds,h=>by
  show (if k=x then some d else dI ks ds x)=none;rw[Yh (λz:k=x=>h (z▸R1)),jI λz=>h (R4 _ z)]
theorem jm{x:α}:∀{ks:List α}{ds:List D},ks.length=ds.length->x∈ks->∃d,dI ks ds x=some d/\(x,d)∈ks.zip ds
 |k::ks,d::ds,hl,h=>by
  by_cases e:k=x
  ·exact⟨d,by show (if k=x then some d else _)=_;rw[Yg e],by rw[e];exact R1⟩
  ·obtain⟨d',h1,h2⟩:=jm (ks:=ks) (ds:=ds) (by simpa using hl) ((Sf.mp h).resolve_left λz=>e z.symm);exact⟨d',by show (if k=x then some d else _)=_;rw[Yh e,h1],R4 _ h2⟩
 |k::ks,[],hl,h=>by simp at hl
structure KOk (enc:α->D) (mk:List α->List D->C):Prop where
 at':∀ks ds x,Br (mk ks ds).d (enc x)=some (dI ks ds x)
 put:∀ks ds x d,x∉ks->ds.length<lim->hX (mk ks ds) (enc x) d=some (mk (ks++[x]) (ds++[d]))
 RX:∀x,orM (kA (enc x) (.int 0)) (JW (enc x) (.int 0))=aa (mk [x] [.int 0])
def kN(n:Nat):Key:= .inl (n:Int)
theorem lX(a b:Nat)(h:kN a=kN b):a=b:=Va (Sum.inl.inj h)
def nI(n:Nat):D:= .int (n:Int)
abbrev Pg(ks:List Nat)(ds:List D):C:= .dci (ks.map kN) ds
theorem KN:KOk nI Pg:=
 ⟨λks ds x=>Yo some (gQ lX),λks ds x d h hl=>by
  show (if ds.length<lim then some (C.dci (b7 (ks.map kN) ds (kN x)) (bM (ks.map kN) ds (kN x) d)) else none)=_;rw[Yg hl];unfold b7 bM;rw[gQ lX,jI h];show some (C.dci (ks.map kN++[kN x]) (ds++[d]))=some (C.dci ((ks++[x]).map kN) (ds++[d]));rw[SE];rfl,λx=>rfl⟩
variable{enc:α->D}{mk:List α->List D->C}
theorem KOk.inn(k:KOk enc mk){ks:List α}{ds:List D}{x:α}(hl:ks.length=ds.length){neg:Bool}:et neg (enc x) (mk ks ds).d=aa (.bl (if neg then !decide (x∈ks) else decide (x∈ks))):=by
 unfold et;rw[k.at'];by_cases h:x∈ks
 ·obtain⟨d,e,_⟩:=jm hl h;rw[e,Yi h];rfl
 ·rw[jI h,Yl h];rfl
theorem KOk.ix(k:KOk enc mk){ks:List α}{ds:List D}{x:α}(hl:ks.length=ds.length)(h:x∈ks):∃d,(x,d)∈ks.zip ds/\fJ (mk ks ds).d (enc x)=aa d:=by
 obtain⟨d,e,h2⟩:=jm hl h;refine⟨d,h2,?_⟩;unfold fJ;rw[k.at',e]
theorem KOk.get(k:KOk enc mk){ks:List α}{ds:List D}{x:α}{v:D}(hl:ks.length=ds.length):(x∈ks->∃d,(x,d)∈ks.zip ds/\getM (mk ks ds).d (enc x) v=aa d)/\(x∉ks->getM (mk ks ds).d (enc x) v=aa v):=by
 unfold getM;rw[k.at'];constructor
 ·intro h;obtain⟨d,e,h2⟩:=jm hl h;exact⟨d,h2,by rw[e]⟩
 ·intro h;rw[jI h]
def Ds(nb:α->List α)(a x:α)(n:Nat):Prop:=Rb nb a n x/\∀j,Rb nb a j x->n<=j
theorem zP{i:Nat}{δk δv:DE}{Z:aU}{c c':C}{k d:D}(h0:Z[i]? =some (some (.ow c)))(hv:δv Z=aa d)(hk:δk Z=aa k)(hp:hX c k d=some c'):dR i δk δv Z=aa (.nx (Z.set i (some (.ow c')))):=by
 unfold dR q9;rw[h0];show (δv Z>>=λv=>δk Z>>=λk=>match hX c k v with | some c'=>aa (Out.nx (Z.set i (some (.ow c')))) | none=>af)=_;rw[hv,av,hk,av,hp]
def Hf(enc:α->D)(S:List α)(nb:α->List α)(nr:D):Prop:=∀c∈S,∃d,fJ nr (enc c)=aa d/\orM (lstM d) (fM d)=aa ((nb c).map enc)
theorem o8{β σ:Type}{put:D->aU->Option aU}{body:DS}(enc:β->D)(I:σ->aU->Prop)(step:σ->β->σ):∀(xs:List β) (s:σ) (Z:aU),I s Z->(∀s Z,I s Z->∀x∈xs,∃Z1 Z2,put (enc x) Z=some Z1/\body Z1=aa (.nx Z2)/\I (step s x) Z2)->
 ∃Z',forL put body (xs.map enc) Z=aa (.nx Z')/\I (xs.foldl step s) Z'
 |[],s,Z,h,_=>⟨Z,rfl,h⟩
 |x::xs,s,Z,h,st=>by
  obtain⟨Z1,Z2,e1,e2,h2⟩:=st s Z h x (R1 ..);obtain⟨Z',e3,h3⟩:=o8 enc I step xs (step s x) Z2 h2 λs Z h y hy=>st s Z h y (R4 _ hy);exact⟨Z',by rw[Sa,cM e1 e2,e3],h3⟩
end
def rank(W:Nat)(x:Cell):Nat:=x.1*W+x.2
theorem gp{R W:Nat}{a b:Cell}(ha:On R W a)(hb:On R W b):BP a b=true↔rank W a<rank W b:=by
 unfold BP rank;have h1:=ha.2;have h2:=hb.2;by_cases h:a.1=b.1
 ·rw[Yg h,Yj,h];omega
 ·rw[Yh h,Yj];constructor
  ·intro q;have:(a.1+1)*W<=b.1*W:=XH _ q;rw[X1,Nat.one_mul] at this;omega
  ·intro q;refine Um λz=>?_;have:(b.1+1)*W<=a.1*W:=XH _ (by omega);rw[X1,Nat.one_mul] at this;omega
theorem wH{R W:Nat}{a b:Cell}(ha:On R W a)(hb:On R W b)(h:rank W a=rank W b):a=b:=by
 have n1:¬BP a b=true:=λz=>by have:=(gp ha hb).mp z;omega
 have n2:¬BP b a=true:=λz=>by have:=(gp hb ha).mp z;omega
 unfold BP at n1 n2;obtain⟨a1,a2⟩:=a;obtain⟨b1,b2⟩:=b;simp only at n1 n2;by_cases h1:a1=b1
 ·rw[Yg h1,Yj] at n1;rw[Yg h1.symm,Yj] at n2;rw[Prod.mk.injEq];exact⟨h1,by omega⟩
 ·rw[Yh h1,Yj] at n1;rw[Yh (S9 h1),Yj] at n2;omega
section
variable{W:Nat}
def mu(R W:Nat)(L:Cell->Cell):Nat:=((a6 R W).map λx=>rank W (L x)).sum
end
theorem H9{δ:DE}{Z:aU}{l:List Cell}(h:δ Z=aa (cL l)):eO δ Z=aa (l.map cD):=by
 show (δ Z>>=lstM)=_;rw[h];rfl
theorem iF(R W:Nat):RiseC (a6 R W):=by
 unfold RiseC a6 cT;rw[List.pairwise_flatMap];constructor
 ·intro r _;rw[UM];exact List.pairwise_lt_range.imp λh=>by show (if _ then _ else _)=true;rw[Yg rfl,Yj];exact h
 ·refine List.pairwise_lt_range.imp λ{a b} h x hx y hy=>?_;obtain⟨i,_,rfl⟩:=Sm.mp hx;obtain⟨j,_,rfl⟩:=Sm.mp hy;show (if a=b then _ else decide (a<b))=true;rw[Yh (by omega),Yj];exact h
section
variable{bd:List Str}{W w:Nat}
def Least(bd:List Str)(W w:Nat)(x m:Cell):Prop:=Cn bd W w x m/\∀z,Cn bd W w x z->rank W m<=rank W z
end
theorem J_:((a6 8 8).map λc=>fV (ic c)).Nodup:=by decide+kernel
theorem l8{α β:Type}{f:α->β}:∀{l:List α},(l.map f).Nodup->∀a∈l,∀b∈l,f a=f b->a=b
 |x::l,h,a,ha,b,hb,e=>by
  rw[Sa,S2] at h;by_cases h1:a=x
  ·by_cases h2:b=x
   ·rw[h1,h2]
   ·have hb:b∈l:=(Sf.mp hb).resolve_left h2;exact Ym (Sm.mpr ⟨b,hb,by rw[<-h1];exact e.symm⟩) h.1
  ·have ha:a∈l:=(Sf.mp ha).resolve_left h1;by_cases h2:b=x
   ·exact Ym (Sm.mpr ⟨a,ha,by rw[<-h2];exact e⟩) h.1
   ·exact l8 h.2 a ha b ((Sf.mp hb).resolve_left h2) e
theorem EU{R W:Nat}(hR:R<=8)(hW:W<=8){l:List Cell}(hn:l.Nodup)(lH:∀x∈l,On R W x):(l.map λc=>fV (ic c)).Nodup:=by
 have h8:∀x∈l,x∈a6 8 8:=λx hx=>aX.mpr ⟨by have:=(lH x hx).1;omega,by have:=(lH x hx).2;omega⟩;rw[TR,UM];refine List.Pairwise.imp_of_mem (λ{a b} ha hb h z=>h ?_) hn;exact l8 J_ a (h8 a ha) b (h8 b hb) z
theorem Jb{ks:List Cell}{f:Cell->D}{x:Cell}{d:D}:b7 (ks.map keyOf) (ks.map f) (keyOf x)=(bG ks x).map keyOf/\bM (ks.map keyOf) (ks.map f) (keyOf x) d=(bG ks x).map (fT f x d):=by
 unfold bG b7 bM;by_cases h:x∈ks
 ·rw[oF h,Yg h];exact⟨rfl,uB⟩
 ·rw[gR h,Yh h];have e1:ks.map f=ks.map (fT f x d):=TJ λy hy=>by
   unfold fT;rw[Yh (λz:y=x=>h (z▸hy))]
  have e2:(ks++[x]).map (fT f x d)=ks.map (fT f x d)++[d]:=by
   rw[SE];congr 1;show [fT f x d x]=[d]
   unfold fT;rw[Yg rfl]
  exact⟨by rw[SE];rfl,by rw[e2,<-e1];rfl⟩
theorem pM:∀(l ks:List Cell),b9 (ks.map keyOf) (trues ks) (l.map keyOf) (trues l)=((l.foldl bG ks).map keyOf,trues (l.foldl bG ks))
 |[],ks=>rfl
 |x::l,ks=>by
  show b9 (b7 (ks.map keyOf) (trues ks) (keyOf x)) (bM (ks.map keyOf) (trues ks) (keyOf x) (.bl true)) (l.map keyOf) (trues l)=_;have h:=Jb (ks:=ks) (f:=λ_=>D.bl true) (x:=x) (d:= .bl true);have e:fT (λ_=>D.bl true) x (.bl true)=λ_=>D.bl true:=by
   funext y;unfold fT;split<;>rfl
  rw[e] at h;rw[show trues ks=ks.map (λ_=>D.bl true) from rfl,h.1,h.2];exact pM l (bG ks x)
theorem B8{l ks:List Cell}(h:ks.Nodup):(l.foldl bG ks).Nodup:=(mG l ks).1 h
section
open Classical
variable{bd:List Str}{W w:Nat}
noncomputable def aF(bd:List Str)(W w:Nat)(m:Cell):List Cell:=(a6 bd.length W).filter λx=>decide (Cn bd W w m x)
noncomputable def cg(bd:List Str)(W w:Nat)(l:List Cell):List Cell:=l.filter λx=>decide (Least bd W w x x)
theorem bH(hw:Ways w){m:Cell}(hm:On bd.length W m):IsPatch bd W w m (aF bd W w m):=by
 refine⟨(iF _ _).filter _,λx=>?_⟩;unfold aF;rw[Td,aX,Yj];exact⟨λh=>h.2,λh=>⟨h.on hw hm,h⟩⟩
theorem Least.on(hw:Ways w){x m:Cell}(hx:On bd.length W x)(h:Least bd W w x m):On bd.length W m:=h.1.on hw hx
theorem Least.move(hw:Ways w){x y m:Cell}(hx:On bd.length W x)(h:Least bd W w x m)(hy:Cn bd W w x y):Least bd W w y m:=
 ⟨(hy.symm hw hx).trans h.1,λz hz=>h.2 z (hy.trans hz)⟩
theorem Least.one(hw:Ways w){x m n:Cell}(hx:On bd.length W x)(h:Least bd W w x m)(h2:Least bd W w x n):m=n:=
 wH (h.on hw hx) (h2.on hw hx) (VN (h.2 n h2.1) (h2.2 m h.1))
theorem Least.self(hw:Ways w){x m:Cell}(hx:On bd.length W x)(h:Least bd W w x m):Least bd W w m m:=h.move hw hx h.1
variable(L:Cell->Cell)
theorem rX(hw:Ways w):∃L:Cell->Cell,∀x,On bd.length W x->Least bd W w x (L x):=by
 have h:∀x,∃m,On bd.length W x->Least bd W w x m:=λx=>by
  by_cases hx:On bd.length W x
  ·have hP:=bH hw hx;cases hp:aF bd W w x with
   |nil=>have:=(hP.mem x).mpr Cn.refl;rw[hp] at this;cases this
   |cons m r=>
    rw[hp] at hP;have hm:=(hP.mem m).mp (R1 ..);refine⟨m,λ_=>⟨hm,λz hz=>?_⟩⟩;rcases Sf.mp ((hP.mem z).mpr hz) with rfl | Rj
    ·exact R_ _
    ·exact Tr ((gp (hm.on hw hx) (hz.on hw hx)).mp ((SO.mp hP.rise).1 z Rj))
  ·exact⟨x,λz=>Ym z hx⟩
 exact⟨λx=>Classical.choose (h x),λx=>Classical.choose_spec (h x)⟩
noncomputable def k_(bd:List Str)(W w:Nat):D:= .lst ((cg bd W w (a6 bd.length W)).map λm=>cL (aF bd W w m))
end
section
open Classical
variable{bd:List Str}{W w:Nat}
def Oh:DS:=(b_ [4,5] (fj (zY (cP (d2 (et true) (dV 4) (dV 3)))) (aA (bF 5 (dA sL (aC (ao 3 a7 (aC (dV 0) (aC (dV 4) (aC (dV 1) aN)))) aN))) (aA (ll 2 (dV 5)) (Ba 3 (ao 1 e_ (aC (dV 5) aN))))) cb))
noncomputable def z8(bd:List Str)(W w:Nat)(s:List Cell):List D:=(cg bd W w s).map λm=>cL (aF bd W w m)
noncomputable def Eg(bd:List Str)(W w:Nat)(s ks:List Cell)(x4 x5:Option Sl):aU:=[fz (brd bd),fz (.int (w:Int)),some (.ow (.lst (z8 bd W w s))),some (.ow (.dct (ks.map keyOf) (trues ks))),x4,x5]
structure Seen (bd:List Str) (W w:Nat) (s ks:List Cell):Prop where
 nd:ks.Nodup
 on:∀y∈ks,On bd.length W y
 mem:∀y,y∈ks↔∃m∈cg bd W w s,Cn bd W w m y
theorem Ee{i:Nat}{δ:DE}{Z:aU}{ks l:List Cell}(h0:Z[i]? =some (some (.ow (.dct (ks.map keyOf) (trues ks)))))(hd:δ Z=aa (tQ l))(hz:ks.length+l.length<=4096)(hh:ks=[]->((bD l).map λc=>fV (ic c)).Nodup):
 Ba i δ Z=aa (.nx (Z.set i (some (.ow (.dct (((bD l).foldl bG ks).map keyOf) (trues ((bD l).foldl bG ks))))))):=by
 unfold Ba q9;rw[h0];show (δ Z>>=λd=>match Ed (ks.map keyOf) (trues ks) d with | some c'=>aa (Out.nx (Z.set i (some (.ow c')))) | none=>af)=_;rw[hd,av];have:Ed (ks.map keyOf) (trues ks) (tQ l)=some (.dct (((bD l).foldl bG ks).map keyOf) (trues ((bD l).foldl bG ks))):=by
  show (match fK ((bD l).map keyOf) with | some ns=>if (trues ks).length+(trues (bD l)).length<=lim/\((ks.map keyOf).isEmpty=true->(ns.map fV).Nodup) then some (C.dct (b9 (ks.map keyOf) (trues ks) ((bD l).map keyOf) (trues (bD l))).1 (b9 (ks.map keyOf) (trues ks) ((bD l).map keyOf) (trues (bD l))).2) else none | none=>none)=_;rw[lW];show (if (trues ks).length+(trues (bD l)).length<=lim/\((ks.map keyOf).isEmpty=true->(((bD l).map ic).map fV).Nodup) then some (C.dct (b9 (ks.map keyOf) (trues ks) ((bD l).map keyOf) (trues (bD l))).1 (b9 (ks.map keyOf) (trues ks) ((bD l).map keyOf) (trues (bD l))).2) else none)=_;have c1:(trues ks).length+(trues (bD l)).length<=lim:=by
   have:=AJ l;unfold trues;rw[R5,R5,cO];omega
  have c2:(ks.map keyOf).isEmpty=true->(((bD l).map ic).map fV).Nodup:=λz=>by
   rw[SF];exact hh (by cases ks with | nil=>rfl | cons _ _=>cases z)
  rw[Yg ⟨c1,c2⟩,pM]
 rw[this]
theorem wY(hg:Brd bd W)(hs:bd.length*W<64)(hw:Ways w){x:Cell}(hx:On bd.length W x){Z:aU}(h0:dV 0 Z=aa (brd bd))(h1:dV 1 Z=aa (.int (w:Int)))(h4:dV 4 Z=aa (cD x)):
 dA sL (aC (ao 3 a7 (aC (dV 0) (aC (dV 4) (aC (dV 1) aN)))) aN) Z=aa (cL (aF bd W w x)):=by
 obtain⟨k,ks,ps,q1,q2,q3⟩:=jj hg hw hx;have e1:ao 3 a7 (aC (dV 0) (aC (dV 4) (aC (dV 1) aN))) Z=aa (fm ks ps):=(aq (ds:=[brd bd,cD x, .int (w:Int)]) (aJ h0 (aJ h4 (aJ h1 rfl))) rfl).trans q3;refine(ck (xs:=[fm ks ps]) (aJ e1 rfl)).trans ((D3 q1.nd (Ug (og q1.nd q2) hs)).trans ?_);have:qw ks=aF bd W w x:=IsPatch.one ⟨yL q1.nd,λx=>AN.trans (q1.last x)⟩ (bH hw hx);rw[this]
theorem g7(s:List Cell)(x:Cell):cg bd W w (s++[x])=if Least bd W w x x then cg bd W w s++[x] else cg bd W w s:=by
 unfold cg;rw[List.filter_append];by_cases h:Least bd W w x x
 ·rw[Yg h,Xd (by rw[Yj];exact h),List.filter_nil]
 ·rw[Yh h,List.filter_cons_of_neg (by rw[Yj];exact h),List.filter_nil,TK]
theorem Ex(hg:Brd bd W)(hs:bd.length*W<64)(hw:Ways w){L:Cell->Cell}(hL:∀x,On bd.length W x->Least bd W w x (L x)){s r ks:List Cell}{x:Cell}(e:s++x::r=a6 bd.length W)(h:Seen bd W w s ks):
 ∃ks',Seen bd W w (s++[x]) ks'/\Oh (Eg bd W w s ks (fz (cD x)) none)=aa (.nx (Eg bd W w (s++[x]) ks' none none)):=by
 have hx:On bd.length W x:=aX.mp (by rw[<-e];simp);have Cs:=iF bd.length W;rw[<-e] at Cs;have Mg:∀y∈s,On bd.length W y:=λy hy=>aX.mp (by rw[<-e];simp[hy]);have Kx:∀y∈r,On bd.length W y:=λy hy=>aX.mp (by rw[<-e];simp[hy]);have EW:∀y∈s,rank W y<rank W x:=λy hy=>(gp (Mg y hy) hx).mp ((VT.mp Cs).2.2 y hy x (R1 ..));have HB:∀y∈r,rank W x<rank W y:=λy hy=>(gp hx (Kx y hy)).mp ((SO.mp (VT.mp Cs).2.1).1 y hy);have OW:ks.length<=64:=by have:=og (bd:=bd) (W:=W) h.nd h.on;omega
 have Bw:s.length<64:=by
  have:=Yo XM e;rw[dH,Sg,Sd] at this;omega
 have ht:zY (cP (d2 (et true) (dV 4) (dV 3))) (Eg bd W w s ks (fz (cD x)) none)=aa (!decide (x∈ks)):=
  zZ (eX ((aQ (x:=cD x) (y:= .dct (ks.map keyOf) (trues ks)) rfl rfl).trans (tM (neg:=true) (by simp[trues]))))
 by_cases hl:Least bd W w x x
 ·have Es:x∉ks:=λz=>by
   obtain⟨m,hm,hc⟩:=(h.mem x).mp z;unfold cg at hm;rw[Td,Yj] at hm;have h1:=EW m hm.1;have h2:=hl.2 m (hc.symm hw (Mg m hm.1));omega
  rw[Yl Es] at ht;have hP:=bH hw hx (bd:=bd) (W:=W);have HA:∀y∈aF bd W w x,On bd.length W y:=λy hy=>((hP.mem y).mp hy).on hw hx;have MQ:(aF bd W w x).length<=64:=by have:=og (bd:=bd) (W:=W) hP.rise.nodup HA;omega
  have L9:(z8 bd W w s).length<lim:=by
   unfold z8;rw[R5,cO];have:=Uj (λx=>decide (Least bd W w x x)) s;unfold cg;omega
  refine⟨(bD (aF bd W w x)).foldl bG ks,⟨B8 h.nd,λy hy=>?_,λy=>?_⟩,?_⟩
  ·rcases((mG (bD (aF bd W w x)) ks).2.1 y).mp hy with q | q
   ·exact h.on y q
   ·exact HA y (jB.mp q)
  ·rw[(mG (bD (aF bd W w x)) ks).2.1 y,jB,h.mem y,g7,Yg hl,hP.mem y];constructor
   ·rintro(⟨m,hm,hc⟩ | hc)
    ·exact⟨m,SD.mpr (.inl hm),hc⟩
    ·exact⟨x,by simp,hc⟩
   ·rintro⟨m,hm,hc⟩;rcases SD.mp hm with hm | hm
    ·exact .inl ⟨m,hm,hc⟩
    ·rw[Sw.mp hm] at hc;exact .inr hc
  ·have ef:z8 bd W w (s++[x])=z8 bd W w s++[cL (aF bd W w x)]:=by
    unfold z8;rw[g7,Yg hl,SE];rfl
   refine(bc (Z':=[fz (brd bd),fz (.int (w:Int)),some (.ow (.lst (z8 bd W w s++[cL (aF bd W w x)]))),some (.ow (.dct (((bD (aF bd W w x)).foldl bG ks).map keyOf) (trues ((bD (aF bd W w x)).foldl bG ks)))),fz (cD x),fz (cL (aF bd W w x))]) (e9 ht (aj (Z':=Eg bd W w s ks (fz (cD x)) (fz (cL (aF bd W w x)))) ((aR (wY hg hs hw hx rfl rfl rfl)).trans rfl) (aj (Z':=[fz (brd bd),fz (.int (w:Int)),some (.ow (.lst (z8 bd W w s++[cL (aF bd W w x)]))),some (.ow (.dct (ks.map keyOf) (trues ks))),fz (cD x),fz (cL (aF bd W w x))]) ?_ ?_)))).trans ?_
   ·show (if (z8 bd W w s).length<lim then aa (Out.nx [fz (brd bd),fz (.int (w:Int)),some (.ow (.lst (z8 bd W w s++[cL (aF bd W w x)]))),some (.ow (.dct (ks.map keyOf) (trues ks))),fz (cD x),fz (cL (aF bd W w x))]) else af)=_;rw[Yg L9]
   ·exact(Ee (ks:=ks) (l:=aF bd W w x) rfl ((aq (ds:=[cL (aF bd W w x)]) rfl rfl).trans (AF (by omega))) (by omega) (λ_=>EU hg.r8 hg.w8 (CO _) λy hy=>HA y (jB.mp hy))).trans rfl
   ·unfold Eg;rw[ef];rfl
 ·have hm:=hL x hx;have eK:L x≠x:=λz=>hl (by rw[z] at hm;exact hm);have gk:rank W (L x)<rank W x:=by
   have h1:=hm.2 x Cn.refl;have h2:rank W (L x)≠rank W x:=λz=>eK (wH (hm.on hw hx) hx z);omega
  have QG:L x∈s:=by
   have:L x∈s++x::r:=by rw[e];exact aX.mpr (hm.on hw hx)
   rcases SD.mp this with q | q
   ·exact q
   ·rcases Sf.mp q with q | q
    ·exact Ym q eK
    ·have:=HB _ q;omega
  have Es:x∈ks:=(h.mem x).mpr ⟨L x,by unfold cg;rw[Td,Yj];exact⟨QG,hm.self hw hx⟩,hm.1.symm hw hx⟩;rw[Yi Es] at ht;refine⟨ks,⟨h.nd,h.on,λy=>by rw[g7,Yh hl];exact h.mem y⟩,?_⟩;have ef:z8 bd W w (s++[x])=z8 bd W w s:=by
   unfold z8;rw[g7,Yh hl]
  refine(bc (e7 ht rfl)).trans ?_;unfold Eg;rw[ef];rfl
theorem yZ(hg:Brd bd W)(hs:bd.length*W<64)(hw:Ways w){L:Cell->Cell}(hL:∀x,On bd.length W x->Least bd W w x (L x)):∀(r s ks:List Cell),s++r=a6 bd.length W->Seen bd W w s ks->
 ∃ks',forL (putN 4) Oh (r.map cD) (Eg bd W w s ks none none)=aa (.nx (Eg bd W w (a6 bd.length W) ks' none none))
 |[],s,ks,e,h=>by
  rw[TK] at e;exact⟨ks,by rw[e];rfl⟩
 |x::r,s,ks,e,h=>by
  obtain⟨NH,h1,e1⟩:=Ex hg hs hw hL e h;obtain⟨NI,e2⟩:=yZ hg hs hw hL r (s++[x]) NH (by rw[Wl];exact e) h1;exact⟨NI,(cM rfl e1).trans e2⟩
theorem iu(hg:Brd bd W)(hs:bd.length*W<64)(hw:Ways w):cJ [brd bd, .int (w:Int)]=aa (k_ bd W w):=by
 obtain⟨L,hL⟩:=rX (bd:=bd) (W:=W) hw;obtain⟨ks,e⟩:=yZ hg hs hw hL (a6 bd.length W) [] [] rfl ⟨Us,(λy hy=>(by cases hy)),(λy=>⟨λz=>(by cases z),λ⟨m,hm,_⟩=>(by cases hm)⟩)⟩;refine a9 (aj (Z':=[fz (brd bd),fz (.int (w:Int)),some (.ow (.lst [])),none,none,none]) rfl (aj (Z':=Eg bd W w [] [] none none) rfl (aj (Z':=Eg bd W w (a6 bd.length W) ks none none) (c9 (eR (ds:=(a6 bd.length W).map cD) (H9 ((aq (ds:=[brd bd]) rfl rfl).trans (jO hg))) e)) rfl)))
end
structure NumOk (R W:Nat) (Ps:List (List Cell)) (ks:List Cell) (f:Cell->Nat):Prop where
 nd:ks.Nodup
 on:∀y∈ks,On R W y
 num:∀y∈ks,∃P,Ps[f y]? =some P/\y∈P
def Pk:DS:=b_ [4] (dR 1 (dV 4) (dV 2))
def G4(Ps:List (List Cell))(ks:List Cell)(f:Cell->Nat)(x2 x3 x4:Option Sl):aU:=[fz (.lst (Ps.map cL)),some (.ow (GH ks λy=> .int (f y:Int))),x2,x3,x4]
theorem z6{ks:List Cell}{x:Cell}:x∈bG ks x:=iA.mpr (.inr rfl)
theorem G5{R W:Nat}(hm:R*W<=64){Ps:List (List Cell)}{i:Nat}{P:List Cell}(hP:Ps[i]? =some P){x3:Option Sl}(lH:∀y∈P,On R W y):∀(l ks:List Cell) (f:Cell->Nat),(∀y∈l,y∈P)->NumOk R W Ps ks f->
 ∃ks' f',NumOk R W Ps ks' f'/\(∀y∈ks,y∈ks')/\(∀y∈l,y∈ks')/\forL (putN 4) Pk (l.map cD) (G4 Ps ks f (fz (.int (i:Int))) x3 none)=aa (.nx (G4 Ps ks' f' (fz (.int (i:Int))) x3 none))
 |[],ks,f,_,h=>⟨ks,f,h,λy hy=>hy,(λy hy=>(by cases hy)),rfl⟩
 |x::l,ks,f,hl,h=>by
  have hx:=hl x (R1 ..);have OW:ks.length<=64:=by
   have h1:=cZ h.nd λy hy=>aX.mpr (h.on y hy);rw[dH] at h1;omega
  have h1:NumOk R W Ps (bG ks x) (λy=>if y=x then i else f y):=by
   refine⟨(mG [x] ks).1 h.nd,λy hy=>?_,λy hy=>?_⟩
   ·rcases iA.mp hy with q | q
    ·exact h.on y q
    ·rw[q];exact lH x hx
   ·by_cases e:y=x
    ·refine⟨P,?_,by rw[e];exact hx⟩;show Ps[if y=x then i else f y]? =_;rw[Yg e];exact hP
    ·rcases iA.mp hy with q | q
     ·obtain⟨Q,q1,q2⟩:=h.num y q;refine⟨Q,?_,q2⟩;show Ps[if y=x then i else f y]? =_;rw[Yh e];exact q1
     ·exact Ym q e
  obtain⟨ks',f',a1,a2,a3,a4⟩:=G5 hm hP lH l (bG ks x) _ (λy hy=>hl y (R4 _ hy)) h1;refine⟨ks',f',a1,λy hy=>a2 y (iA.mpr (.inl hy)),λy hy=>?_,?_⟩
  ·rcases Sf.mp hy with rfl | hy
   ·exact a2 _ z6
   ·exact a3 y hy
  ·refine(cM (Z1:=G4 Ps ks f (fz (.int (i:Int))) x3 (fz (cD x))) rfl ?_).trans a4;refine(bc ((F4 (ks:=ks) (f:=λy=> .int (f y:Int)) (x:=x) (d:= .int (i:Int)) rfl rfl rfl (by rw[cO];omega)).trans rfl)).trans ?_;have ef:fT (λy=>D.int (f y:Int)) x (.int (i:Int))=λy=>D.int ((if y=x then i else f y:Nat):Int):=by
    funext y;unfold fT;by_cases e:y=x
    ·rw[Yg e,Yg e]
    ·rw[Yh e,Yh e]
   show aa (Out.nx [fz (.lst (Ps.map cL)),some (.ow (GH (bG ks x) (fT (λy=>D.int (f y:Int)) x (.int (i:Int))))),fz (.int (i:Int)),x3,none])=_;rw[ef];rfl
def LX(q:Nat×List Cell):D:= .tup [.int (q.1:Int),cL q.2]
theorem CT{R W:Nat}(hm:R*W<=64){Ps:List (List Cell)}(lH:∀P∈Ps,∀y∈P,On R W y):∀(qs:List (Nat×List Cell)) (ks:List Cell) (f:Cell->Nat),(∀q∈qs,Ps[q.1]? =some q.2)->NumOk R W Ps ks f->
 ∃ks' f',NumOk R W Ps ks' f'/\(∀y∈ks,y∈ks')/\(∀q∈qs,∀y∈q.2,y∈ks')/\forL (sx [2,3]) (b_ [2,3,4] (dS (putN 4) (eO (dV 3)) Pk)) (qs.map LX) (G4 Ps ks f none none none)=aa (.nx (G4 Ps ks' f' none none none))
 |[],ks,f,_,h=>⟨ks,f,h,λy hy=>hy,(λq hq=>(by cases hq)),rfl⟩
 |q::qs,ks,f,hq,h=>by
  have hP:=hq q (R1 ..);obtain⟨NH,f1,a1,a2,a3,a4⟩:=G5 hm hP (x3:=fz (cL q.2)) (lH q.2 (Sz hP)) q.2 ks f (λy hy=>hy) h;obtain⟨NI,f2,b1,b2,b3,b4⟩:=CT hm lH qs NH f1 (λq' Kw=>hq q' (R4 _ Kw)) a1;refine⟨NI,f2,b1,λy hy=>b2 y (a2 y hy),λq' Kw y hy=>?_,?_⟩
  ·rcases Sf.mp Kw with rfl | Kw
   ·exact b2 y (a3 y hy)
   ·exact b3 q' Kw y hy
  ·exact(cM (Z1:=G4 Ps ks f (fz (.int (q.1:Int))) (fz (cL q.2)) none) rfl ((bc (eR (ds:=q.2.map cD) (Mk rfl) a4)).trans rfl)).trans b4
theorem AM(Ps:List (List Cell)):(Ps.map cL).mapIdx (λi d=>D.tup [.int (i:Int),d])=(Ps.zipIdx.map λq:List Cell×Nat=>(q.2,q.1)).map LX:=by
 apply Yd;intro i;simp only[XB,Sj,List.getElem?_zipIdx,Option.map_map,VJ];cases Ps[i]? <;>simp[LX]
theorem pU{R W:Nat}(hm:R*W<=64){Ps:List (List Cell)}(lH:∀P∈Ps,∀y∈P,On R W y):∃ks f,NumOk R W Ps ks f/\(∀P∈Ps,∀y∈P,y∈ks)/\d5 [.lst (Ps.map cL)]=aa (GG ks λy=> .int (f y:Int)):=by
 have hq:∀q∈Ps.zipIdx.map (λq:List Cell×Nat=>(q.2,q.1)),Ps[q.1]? =some q.2:=λq hq=>by
  obtain⟨⟨P,i⟩,h1,rfl⟩:=Sm.mp hq;exact WD.mp h1
 obtain⟨ks,f,a1,a2,a3,a4⟩:=CT hm lH (Ps.zipIdx.map λq:List Cell×Nat=>(q.2,q.1)) [] (λ_=>0) hq ⟨Us,(λy hy=>(by cases hy)),(λy hy=>(by cases hy))⟩;refine⟨ks,f,a1,λP hP y hy=>?_,?_⟩
 ·obtain⟨i,hi,rfl⟩:=Uz hP;refine a3 (i,Ps[i]) (Sm.mpr ⟨(Ps[i],i),WD.mpr (by rw[R6 hi]),rfl⟩) y hy
 ·refine a9 (aj (Z':=G4 Ps [] (λ_=>0) none none none) rfl (aj (Z':=G4 Ps ks f none none none) (c9 (eR (ds:=(Ps.zipIdx.map λq:List Cell×Nat=>(q.2,q.1)).map LX) ?_ a4)) rfl));show aa ((Ps.map cL).mapIdx λi d=>D.tup [.int (i:Int),d])=_;rw[AM]
section
open Classical
variable{bd:List Str}{W w:Nat}
noncomputable def aI(bd:List Str)(W w:Nat):List (List Cell):=(cg bd W w (a6 bd.length W)).map (aF bd W w)
theorem qe:k_ bd W w= .lst ((aI bd W w).map cL):=by
 unfold k_ aI;rw[SF];rfl
theorem cH{m:Cell}(h:m∈cg bd W w (a6 bd.length W)):On bd.length W m:=by
 unfold cg at h;exact aX.mp (Td.mp h).1
theorem A1(hw:Ways w):∀P∈aI bd W w,∀y∈P,On bd.length W y:=λP hP y hy=>by
 unfold aI at hP;obtain⟨m,hm,rfl⟩:=Sm.mp hP;exact(((bH hw (cH hm)).mem y).mp hy).on hw (cH hm)
theorem qd(hg:Brd bd W)(hw:Ways w){x:Cell}(hx:On bd.length W x):∃P∈aI bd W w,x∈P:=by
 obtain⟨L,hL⟩:=rX (bd:=bd) (W:=W) hw;have hm:=hL x hx;have O0:=hm.on hw hx;refine⟨aF bd W w (L x),Sm.mpr ⟨L x,?_,rfl⟩,((bH hw O0).mem x).mpr (hm.1.symm hw hx)⟩;unfold cg;rw[Td,Yj];exact⟨aX.mpr O0,hm.self hw hx⟩
theorem j6:(aI bd W w).length<=bd.length*W:=by
 unfold aI cg;rw[R5,<-dH bd.length W];exact Uj ..
theorem gY(hg:Brd bd W)(hs:bd.length*W<64)(hw:Ways w):bJ [brd bd, .int (w:Int)]=aa (.int ((aI bd W w).length:Int)):=by
 refine a9 (aj (bV ((aq (ds:=[brd bd]) rfl rfl).trans hg.nb)) (aj (bV ((aq (ds:=[.int (w:Int)]) rfl rfl).trans hw.nw)) (aM ((ck (xs:=[k_ bd W w]) (aJ ((aq (ds:=[brd bd, .int (w:Int)]) rfl rfl).trans (iu hg hs hw)) rfl)).trans ?_))));rw[qe];show aa (D.int (((aI bd W w).map cL).length:Int))=_;rw[R5]
end
end K1
namespace K1
open PySem L2 L3 HT
def jL(l:List Nat):Str:=⟨l.toArray⟩
theorem c7(l:List Nat):(jL l).cps.toList=l:=by simp[jL]
theorem zw(l:List Nat):(jL l).length=l.length:=by simp[jL,Wo]
theorem oK(x y:Str):(x++y).cps.toList=x.cps.toList++y.cps.toList:=by
 show (x.cps++y.cps).toList=_;simp
theorem BU(ds:List D)(d:D):cutD (ds++[d]) none (some (-1))=ds:=by
 unfold cutD;have e:sIx (ds++[d]).length (ds++[d]).length (some (-1))=ds.length:=by
  show (if (-1:Int)<0 then((-1:Int)+((ds++[d]).length:Int)).toNat else min (-1:Int).toNat (ds++[d]).length)=_;rw[Yg (by decide),Sg];simp;omega
 rw[e,sIx_none];simp
end K1
namespace K1
open PySem PySem.Spec L2 L3
open PyProof.Rows hiding St
section
open Classical
variable{bd:List Str}{W w:Nat}
theorem Fi:(cg bd W w (a6 bd.length W)).Nodup:=by
 unfold cg;exact(RiseC.nodup (iF _ _)).filter _
theorem vU{l:List Cell}{m:Cell}:m∈cg bd W w l↔m∈l/\Least bd W w m m:=by
 unfold cg;rw[Td,Yj]
theorem pC(hw:Ways w){m x:Cell}(hm:m∈cg bd W w (a6 bd.length W))(hx:x∈aF bd W w m):Least bd W w x m:=
 (vU.mp hm).2.move hw (cH hm) (((bH hw (cH hm)).mem x).mp hx)
theorem dQ{i:Nat}{P:List Cell}(h:(aI bd W w)[i]? =some P):∃m,(cg bd W w (a6 bd.length W))[i]? =some m/\P=aF bd W w m:=by
 unfold aI at h;rw[Sj] at h;cases q:(cg bd W w (a6 bd.length W))[i]? with
 |none=>rw[q] at h;cases h
 |some m=>rw[q] at h;cases h;exact⟨m,rfl,rfl⟩
theorem vV{i j:Nat}{m:Cell}(h:(cg bd W w (a6 bd.length W))[i]? =some m)(h2:(cg bd W w (a6 bd.length W))[j]? =some m):i=j:=
 (Wk (Sb.mp h).1 Fi).mp (h.trans h2.symm)
theorem iR{α:Type}{l:List α}{i:Nat}{x:α}(h:l[i]? =some x):x∈l:=Sz h
theorem tL(hw:Ways w){i j:Nat}{P Q:List Cell}{x:Cell}(hi:(aI bd W w)[i]? =some P)(hj:(aI bd W w)[j]? =some Q)(hx:x∈P)(hy:x∈Q):i=j:=by
 obtain⟨m,e1,rfl⟩:=dQ hi;obtain⟨n,e2,rfl⟩:=dQ hj;have hm:=iR e1;have hn:=iR e2;have lH:On bd.length W x:=(((bH hw (cH hm)).mem x).mp hx).on hw (cH hm);have:=(pC hw hm hx).one hw lH (pC hw hn hy);subst this;exact vV e1 e2
theorem j9(hw:Ways w){m:Cell}(hm:m∈cg bd W w (a6 bd.length W)):∃r,aF bd W w m=m::r:=by
 have ho:=cH hm;have hP:=bH hw ho;cases hp:aF bd W w m with
 |nil=>have:=(hP.mem m).mpr Cn.refl;rw[hp] at this;cases this
 |cons a r=>
  refine⟨r,?_⟩;rw[hp] at hP;by_cases e:a=m
  ·rw[e]
  ·have zm:m∈a::r:=(hP.mem m).mpr Cn.refl;have zm:m∈r:=by
    cases zm with
    |head=>exact Ym rfl e
    |tail _ q=>exact q
   have hc:=(hP.mem a).mp (R1 ..);have h1:=(gp (hc.on hw ho) ho).mp ((SO.mp hP.rise).1 m zm);have:=(vU.mp hm).2.2 a hc;omega
end
end K1
namespace K1
open PySem L2 L3
abbrev NT:=List (Nat×List Nat)
def bg(p:Nat×List Nat):Key×List Key:=(kN p.1,p.2.map kN)
def DU(l:NT)(n:Nat):NT:=if n∈l.map (·.1) then l else l++[(n,[])]
def BC(l:NT)(n m:Nat):NT:=l.map λp=>if p.1=n then(p.1,if m∈p.2 then p.2 else p.2++[m]) else p
theorem zk(ks:List Nat)(n:Nat):qT (ks.map kN) (kN n)=decide (n∈ks):=by
 rw[WL,kG,Yj,Sm];exact⟨λ⟨a,h,e⟩=>lX _ _ e▸h,λh=>⟨n,h,rfl⟩⟩
theorem zi(l:NT):(l.map bg).map (·.1)=(l.map (·.1)).map kN:=by rw[SF,SF];rfl
theorem DW(l:NT)(n:Nat):uK (l.map bg) (kN n)=(DU l n).map bg:=by
 unfold uK DU;rw[zi,zk];by_cases h:n∈l.map (·.1)
 ·rw[Yg h,Yg (Yi h)]
 ·rw[Yh h,Yh (λz=>h (Yk z)),SE];rfl
theorem BD(l:NT)(n m:Nat):oH (l.map bg) (kN n) (kN m)=(BC l n m).map bg:=by
 unfold oH BC;rw[SF,SF];refine TJ λp _=>?_;show (if kN p.1=kN n then(kN p.1,if qT (p.2.map kN) (kN m) then p.2.map kN else p.2.map kN++[kN m]) else bg p)=bg (if p.1=n then(p.1,if m∈p.2 then p.2 else p.2++[m]) else p);by_cases h:p.1=n
 ·rw[Yg (by rw[h]),Yg h,zk];by_cases q:m∈p.2
  ·rw[Yg (Yi q),Yg q];rfl
  ·rw[Yh (λz=>q (Yk z)),Yh q];show _=(kN p.1,(p.2++[m]).map kN)
   rw[SE];rfl
 ·rw[Yh (λz=>h (lX _ _ z)),Yh h]
structure NrS (T:Nat->Prop) (E:Nat->Nat->Prop) (l:NT):Prop where
 nd:(l.map (·.1)).Nodup
 key:∀n,n∈l.map (·.1)↔T n
 nb:∀p∈l,p.2.Nodup/\∀m,m∈p.2↔E p.1 m
 hT:∀n,T n->n<64
 hE:∀n m,E n m->m<64
theorem le64{l:List Nat}(hn:l.Nodup)(h:∀n∈l,n<64):l.length<=64:=by
 have:=cZ (U:=Sn 64) hn λx hx=>S7.mpr (h x hx);simpa using this
section
variable{T:Nat->Prop}{E:Nat->Nat->Prop}{l:NT}
theorem NrS.ok(h:NrS T E l):vb (l.map bg)=true:=by
 unfold vb;rw[TY,Yj,SA];have:=le64 h.nd λn hn=>h.hT n ((h.key n).mp hn);refine⟨by rw[R5] at this⊢;rw[cO];omega,λp hp=>?_⟩;obtain⟨q,hq,rfl⟩:=Sm.mp hp;have:=le64 (h.nb q hq).1 λm hm=>h.hE q.1 m (((h.nb q hq).2 m).mp hm);show decide ((q.2.map kN).length<lim)=true;rw[Yj,R5,cO];omega
theorem NrS.cong{T':Nat->Prop}{E':Nat->Nat->Prop}(h:NrS T E l)(h1:∀n,T n↔T' n)(h2:∀n m,E n m↔E' n m):NrS T' E' l:=
 ⟨h.nd,λn=>(h.key n).trans (h1 n),λp hp=>⟨(h.nb p hp).1,λm=>((h.nb p hp).2 m).trans (h2 _ _)⟩,λn hn=>h.hT n ((h1 n).mpr hn),λn m hm=>h.hE n m ((h2 n m).mpr hm)⟩
theorem NrS.set(h:NrS T E l){n:Nat}(hn:n<64)(hE:∀m,E n m->T n):NrS (λk=>T k\/k=n) E (DU l n):=by
 unfold DU;split
 ·rename_i q;have hq:=(h.key n).mp q;exact h.cong (λk=>⟨.inl,λz=>z.elim id λe=>e▸hq⟩) λ_ _=>VO
 ·rename_i q;refine⟨?_,λk=>?_,λp hp=>?_,λk hk=>hk.elim (h.hT k) λe=>e▸hn,h.hE⟩
  ·rw[SE,Tb];exact⟨h.nd,by simp,λx hx y hy z=>q (by rw[z] at hx;cases Sw.mp hy;exact hx)⟩
  ·rw[SE,SD,h.key];exact or_congr VO (by simp)
  ·rcases SD.mp hp with z | z
   ·exact h.nb p z
   ·cases Sw.mp z;exact⟨Us,λm=>⟨λz=>(nomatch z),λz=>Ym ((h.key n).mpr (hE m z)) q⟩⟩
theorem ve(l:NT)(n m:Nat):(BC l n m).map (·.1)=l.map (·.1):=by
 unfold BC;rw[SF];refine TJ λp _=>?_;show (if p.1=n then(p.1,_) else p).1=p.1;split<;>rfl
theorem NrS.add(h:NrS T E l){n m:Nat}(hm:m<64):NrS T (λa b=>E a b\/(a=n/\b=m)) (BC l n m):=by
 refine⟨by rw[ve];exact h.nd,λk=>by rw[ve];exact h.key k,λp hp=>?_,h.hT,λa b q=>q.elim (h.hE a b) λe=>e.2▸hm⟩;obtain⟨q,hq,rfl⟩:=Sm.mp hp;have:=h.nb q hq;by_cases e:q.1=n
 ·rw[Yg e];by_cases z:m∈q.2
  ·rw[Yg z];exact⟨this.1,λb=>⟨λy=> .inl ((this.2 b).mp y),λy=>y.elim (λy=>(this.2 b).mpr y) λy=>y.2▸z⟩⟩
  ·rw[Yh z];refine⟨Tb.mpr ⟨this.1,by simp,λx hx y hy e=>z (by rw[e] at hx;cases Sw.mp hy;exact hx)⟩,λb=>?_⟩;show b∈q.2++[m]↔E q.1 b\/(q.1=n/\b=m);rw[SD,this.2 b,Sw];exact or_congr VO ⟨λy=>⟨e,y⟩,λy=>y.2⟩
 ·rw[Yh e];exact⟨this.1,λb=>(this.2 b).trans ⟨.inl,λy=>y.elim id λy=>Ym y.1 e⟩⟩
end
theorem C0{oi:Nat}{tc:DT}{δk:DE}{Z:aU}{f:Cell->Nat}{n:Nat}(Bu:∀y,f y<64):∀(ys:List Cell) {T:Nat->Prop}{E:Nat->Nat->Prop}{l:NT},NrS T E l->
 (∀y∈ys,tc (Z.set oi (fz (cD y)))=aa (!decide (f y=n))/\δk (Z.set oi (fz (cD y)))=aa (nI (f y)))->
 ∃l',j7 oi tc δk (kN n) Z (ys.map cD) (l.map bg)=aa (l'.map bg)/\NrS T (λa b=>E a b\/(a=n/\b≠n/\∃y∈ys,f y=b)) l'
 |[],T,E,l,h,_=>⟨l,rfl,h.cong (λ_=>VO) λa b=>⟨.inl,λz=>z.elim id λ⟨_,_,y,hy,_⟩=>nomatch hy⟩⟩
 |y::ys,T,E,l,h,Kg=>by
  obtain⟨h1,h2⟩:=Kg y R1;have Kh:=λz hz=>Kg z (R4 _ hz);by_cases e:f y=n
  ·rw[Yi e] at h1;obtain⟨l',g1,g2⟩:=C0 (n:=n) Bu ys h Kh;refine⟨l',?_,g2.cong (λ_=>VO) λa b=>or_congr VO (and_congr_right λ_=>and_congr_right λhb=>?_)⟩
   ·rw[Sa];unfold j7;rw[show some (Sl.fz (cD y))=fz (cD y) from rfl,h1];exact g1
   ·exact⟨λ⟨z,hz,q⟩=>⟨z,R4 _ hz,q⟩,λ⟨z,hz,q⟩=>(Sf.mp hz).elim (λx=>Ym (q.symm.trans (by rw[x,e])) hb) λx=>⟨z,x,q⟩⟩
  ·rw[Yl e] at h1;obtain⟨l',g1,g2⟩:=C0 (n:=n) Bu ys (h.add (n:=n) (Bu y)) Kh;refine⟨l',?_,g2.cong (λ_=>VO) λa b=>?_⟩
   ·rw[Sa];unfold j7;rw[show some (Sl.fz (cD y))=fz (cD y) from rfl,h1,h2];show (if vb (l.map bg) then j7 oi tc δk (kN n) Z (ys.map cD) (oH (l.map bg) (kN n) (kN (f y))) else af)=_;rw[Yg h.ok,BD];exact g1
   ·constructor
    ·rintro((q | ⟨q1,q2⟩) | ⟨q1,q2,z,hz,q3⟩)
     ·exact .inl q
     ·exact .inr ⟨q1,λz=>e (q2.symm.trans z),y,R1,q2.symm⟩
     ·exact .inr ⟨q1,q2,z,R4 _ hz,q3⟩
    ·rintro(q | ⟨q1,q2,z,hz,q3⟩)
     ·exact .inl (.inl q)
     ·rcases Sf.mp hz with x | x
      ·exact .inl (.inr ⟨q1,by rw[<-q3,x]⟩)
      ·exact .inr ⟨q1,q2,z,x,q3⟩
theorem C1{ci oi:Nat}{δk:DE}{δj:DA}{tc:DT}{δk2:DE}{Z:aU}{f:Cell->Nat}{nx:Cell->List Cell}(Bu:∀y,f y<64):∀(xs:List Cell) {T:Nat->Prop}{E:Nat->Nat->Prop}{l:NT},NrS T E l->(∀n m,E n m->T n)->
 (∀x∈xs,δk (Z.set ci (fz (cD x)))=aa (nI (f x))/\δj (Z.set ci (fz (cD x)))=aa ((nx x).map cD)/\∀y∈nx x,tc ((Z.set ci (fz (cD x))).set oi (fz (cD y)))=aa (!decide (f y=f x))/\δk2 ((Z.set ci (fz (cD x))).set oi (fz (cD y)))=aa (nI (f y)))->
 ∃l',fN ci oi δk δj tc δk2 Z (xs.map cD) (l.map bg)=aa (l'.map bg)/\NrS (λn=>T n\/∃x∈xs,f x=n) (λa b=>E a b\/(a≠b/\∃x∈xs,f x=a/\∃y∈nx x,f y=b)) l'
 |[],T,E,l,h,_,_=>⟨l,rfl,h.cong (λn=>⟨.inl,λz=>z.elim id λ⟨_,hx,_⟩=>nomatch hx⟩) λa b=>⟨.inl,λz=>z.elim id λ⟨_,_,hx,_⟩=>nomatch hx⟩⟩
 |x::xs,T,E,l,h,OF,Kg=>by
  obtain⟨h1,h2,h3⟩:=Kg x R1;obtain⟨l1,g1,g2⟩:=C0 (n:=f x) Bu (nx x) (h.set (Bu x) λm hm=>OF _ m hm) h3;obtain⟨l2,k1,k2⟩:=C1 Bu xs g2 (λn m z=>z.elim (λz=> .inl (OF n m z)) λz=> .inr z.1) λz hz=>Kg z (R4 _ hz);refine⟨l2,?_,k2.cong (λn=>?_) λa b=>?_⟩
  ·rw[Sa];unfold fN;rw[show some (Sl.fz (cD x))=fz (cD x) from rfl,h1];show (if vb (l.map bg) then noex (δj (Z.set ci (fz (cD x))))>>=λes=>j7 oi tc δk2 (kN (f x)) (Z.set ci (fz (cD x))) es (uK (l.map bg) (kN (f x)))>>=λjM=>fN ci oi δk δj tc δk2 Z (xs.map cD) jM else af)=_;rw[Yg h.ok,h2,DW];show (j7 oi tc δk2 (kN (f x)) (Z.set ci (fz (cD x))) ((nx x).map cD) ((DU l (f x)).map bg)>>=λjM=>fN ci oi δk δj tc δk2 Z (xs.map cD) jM)=_;rw[g1];exact k1
  ·constructor
   ·rintro((q | q) | ⟨z,hz,q⟩)
    ·exact .inl q
    ·exact .inr ⟨x,R1,q.symm⟩
    ·exact .inr ⟨z,R4 _ hz,q⟩
   ·rintro(q | ⟨z,hz,q⟩)
    ·exact .inl (.inl q)
    ·rcases Sf.mp hz with e | e
     ·exact .inl (.inr (by rw[<-q,e]))
     ·exact .inr ⟨z,e,q⟩
  ·constructor
   ·rintro((q | ⟨q1,q2,y,hy,q3⟩) | ⟨q1,z,hz,q2⟩)
    ·exact .inl q
    ·exact .inr ⟨λe=>q2 (e.symm.trans q1),x,R1,q1.symm,y,hy,q3⟩
    ·exact .inr ⟨q1,z,R4 _ hz,q2⟩
   ·rintro(q | ⟨q1,z,hz,q2,y,hy,q3⟩)
    ·exact .inl (.inl q)
    ·rcases Sf.mp hz with e | e
     ·subst e;exact .inl (.inr ⟨q2.symm,λe=>q1 (q2.symm.trans e.symm),y,hy,q3⟩)
     ·exact .inr ⟨q1,z,e,q2,y,hy,q3⟩
theorem A_{ni ci mi oi:Nat}{δi:DA}{δk:DE}{δj:DA}{tc:DT}{δk2:DE}{Z Z0:aU}{ds:List D}{ps:oG}(h0:q9 Z ni=some (.dci [] []))(h1:fgt [ni,ci,mi,oi] Z=Z0)(h2:oI Z0=true)(h3:δi Z0=aa ds)
 (h4:fN ci oi δk δj tc δk2 Z0 ds []=aa ps)(h5:vb ps=true):wQ ni ci mi oi δi δk δj tc δk2 Z=aa (.nx (Z0.set ni (fz (eQ ps)))):=by
 unfold wQ;rw[h0,h1];show (if oI Z0=true then noex (δi Z0)>>=_ else af)=_;rw[Yg h2,h3];show (noex (fN ci oi δk δj tc δk2 Z0 ds [])>>=_)=_;rw[h4];show (if vb ps=true then _ else af)=_;rw[Yg h5]
def l6(l:NT)(n:Nat):List Nat:=match l.find? (λp=>p.1==n) with
 |some p=>p.2
 |none=>[]
theorem zB{l:NT}{p:Nat×List Nat}(hn:(l.map (·.1)).Nodup)(hp:p∈l):l6 l p.1=p.2:=by
 unfold l6;cases q:l.find? (λr=>r.1==p.1) with
 |none=>have:=List.find?_eq_none.mp q p hp;simp at this
 |some r=>
  have h1:=List.find?_some q;have h2:=List.mem_of_find?_eq_some q;have h1:r.1=p.1:=by simpa using h1
  have:r=p:=l8 (f:=(·.1)) hn r h2 p hp h1;rw[this]
theorem NrS.mem{T:Nat->Prop}{E:Nat->Nat->Prop}{l:NT}(h:NrS T E l){n m:Nat}(hn:T n):m∈l6 l n↔E n m:=by
 obtain⟨p,hp,rfl⟩:=Sm.mp ((h.key n).mpr hn);rw[zB h.nd hp];exact(h.nb p hp).2 m
theorem Dx(l:NT):eQ (l.map bg)=(Pg (l.map (·.1)) (l.map λp=>inD (p.2.map kN))).d:=by
 unfold eQ;rw[zi];exact Yo (D.dci _) (SF ..)
theorem CH(ks:List Nat):fM (inD (ks.map kN))=aa (ks.map nI):=by
 show (if (ks.map kN).all pY then aa ((ks.map kN).map CG) else af)=_;rw[Yg (SA.mpr λk hk=>by obtain⟨n,_,rfl⟩:=Sm.mp hk;rfl),SF];rfl
theorem NrS.near{T:Nat->Prop}{E:Nat->Nat->Prop}{l:NT}(h:NrS T E l):Hf nI (l.map (·.1)) (l6 l) (eQ (l.map bg)):=λn hn=>by
 rw[Dx];obtain⟨d,h1,h2⟩:=KN.ix (ds:=l.map λp=>inD (p.2.map kN)) (by simp) hn;refine⟨d,h2,?_⟩;rw[Xa] at h1;obtain⟨p,hp,e⟩:=Sm.mp h1;cases e;rw[zB h.nd hp];exact CH p.2
section
variable{α:Type}{E:α->α->Prop}{a b x:α}
def Rr(E:α->α->Prop)(a:α):Nat->α->Prop
 |0,x=>x=a
 |k+1,x=>Rr E a k x\/∃y,Rr E a k y/\E y x
def Dr(E:α->α->Prop)(a x:α)(n:Nat):Prop:=Rr E a n x/\∀j,Rr E a j x->n<=j
theorem Rr.mono{i j:Nat}(h:i<=j)(r:Rr E a i x):Rr E a j x:=by
 induction h with
 |refl=>exact r
 |step _ ih=>exact .inl ih
theorem Rr.trans{i:Nat}(h:Rr E a i b):∀{j:Nat}{x:α},Rr E b j x->Rr E a (i+j) x
 |0,_,r=>by cases r;exact h
 |_+1,_, .inl r=> .inl (Rr.trans h r)
 |_+1,_, .inr ⟨y,r,e⟩=> .inr ⟨y,Rr.trans h r,e⟩
end
def gd(w:Nat)(a b:Cell):Nat:=if w=4 then bN a.1 b.1+bN a.2 b.2 else max (bN a.1 b.1) (bN a.2 b.2)
def Nx(R W w:Nat)(y x:Cell):Prop:=On R W y/\On R W x/\mU w y x=true
theorem fG(a:Nat):bN a a=0:=by unfold bN;rw[Nat.max_self,Xz,Nat.sub_self]
theorem fF{a b:Nat}(h:a<=b):bN a b=b - a:=by unfold bN;rw[Nat.max_eq_right h,U8 h]
theorem fE{a b:Nat}(h:b<=a):bN a b=a - b:=by unfold bN;rw[Nat.max_eq_left h,Nat.min_eq_right h]
theorem zc(a b c:Nat):bN a c<=bN a b+bN b c:=by
 rcases VM a b with h | h<;>rcases VM b c with h2 | h2
 ·rw[fF h,fF h2,fF (Sy h h2)];omega
 ·rw[fF h,fE h2];rcases VM a c with h3 | h3
  ·rw[fF h3];omega
  ·rw[fE h3];omega
 ·rw[fE h,fF h2];rcases VM a c with h3 | h3
  ·rw[fF h3];omega
  ·rw[fE h3];omega
 ·rw[fE h,fE h2,fE (Sy h2 h)];omega
theorem Cc{R W w:Nat}(hw:Ways w){a:Cell}:∀{j:Nat}{x:Cell},Rr (Nx R W w) a j x->gd w a x<=j
 |0,x,r=>by
  cases (show x=a from r);rcases hw with rfl | rfl
  ·show bN a.1 a.1+bN a.2 a.2<=0;rw[fG,fG];exact R_ _
  ·show max (bN a.1 a.1) (bN a.2 a.2)<=0;rw[fG,fG];exact R_ _
 |j+1,x, .inl r=>Nat.le_succ_of_le (Cc hw r)
 |j+1,x, .inr ⟨y,r,e⟩=>by
  have h:=Cc hw r;have e:=e.2.2;have t1:=zc a.1 y.1 x.1;have t2:=zc a.2 y.2 x.2;rcases hw with rfl | rfl
  ·have e:bN y.1 x.1+bN y.2 x.2=1:=Yk e;show bN a.1 x.1+bN a.2 x.2<=j+1;have h:bN a.1 y.1+bN a.2 y.2<=j:=h;omega
  ·have e:max (bN y.1 x.1) (bN y.2 x.2)=1:=Yk e;have h:max (bN a.1 y.1) (bN a.2 y.2)<=j:=h;have e1:=WS (bN y.1 x.1) (bN y.2 x.2);have e2:=WC (bN y.1 x.1) (bN y.2 x.2);have e3:=Sy (WS ..) h;have e4:=Sy (WC ..) h;rw[e] at e1 e2;exact Nat.max_le.mpr ⟨Sy t1 (Nat.add_le_add e3 e1),Sy t2 (Nat.add_le_add e4 e2)⟩
def toward(a b:Nat):Nat:=if b<a then b+1 else if a<b then b - 1 else b
theorem my(a b:Nat):(toward a b<=max a b)/\bN a (toward a b)=bN a b - 1/\bN (toward a b) b=min 1 (bN a b):=by
 unfold toward;by_cases h:b<a
 ·rw[Yg h,fE h,fE (Tr h),fE (X0 b),Nat.max_eq_left (Tr h),U8 (by omega)];omega
 ·rw[Yh h];by_cases h2:a<b
  ·rw[Yg h2,fF (show a<=b - 1 by omega),fF (Tr h2),fF (Nat.sub_le b 1),Nat.max_eq_right (Tr h2),U8 (by omega)];omega
  ·rw[Yh h2];have:a=b:=by omega
   subst this;rw[fG,Nat.max_self];exact⟨R_ _,rfl,rfl⟩
theorem jH{a b R:Nat}(ha:a<R)(hb:b<R):toward a b<R:=Ug (my a b).1 (Nat.max_lt.mpr ⟨ha,hb⟩)
theorem ES{R W w:Nat}(hw:Ways w){a b:Cell}(ha:On R W a)(hb:On R W b){n:Nat}(h:gd w a b=n+1):∃c,Nx R W w c b/\gd w a c=n:=by
 obtain⟨a1,a2⟩:=a;obtain⟨b1,b2⟩:=b;obtain⟨_,t2,t3⟩:=my a1 b1;obtain⟨_,u2,u3⟩:=my a2 b2;rcases hw with rfl | rfl
 ·have h:bN a1 b1+bN a2 b2=n+1:=h;by_cases e:bN a1 b1=0
  ·refine⟨(b1,toward a2 b2),⟨⟨hb.1,jH ha.2 hb.2⟩,hb,Yi (show bN b1 b1+bN (toward a2 b2) b2=1 from ?_)⟩,show bN a1 b1+bN a2 (toward a2 b2)=n from ?_⟩
   ·rw[fG,u3,U8 (by omega)]
   ·rw[u2];omega
  ·refine⟨(toward a1 b1,b2),⟨⟨jH ha.1 hb.1,hb.2⟩,hb,Yi (show bN (toward a1 b1) b1+bN b2 b2=1 from ?_)⟩,show bN a1 (toward a1 b1)+bN a2 b2=n from ?_⟩
   ·rw[fG,t3,U8 (by omega)]
   ·rw[t2];omega
 ·have h:max (bN a1 b1) (bN a2 b2)=n+1:=h;refine⟨(toward a1 b1,toward a2 b2),⟨⟨jH ha.1 hb.1,jH ha.2 hb.2⟩,hb,Yi (show max (bN (toward a1 b1) b1) (bN (toward a2 b2) b2)=1 from ?_)⟩,show max (bN a1 (toward a1 b1)) (bN a2 (toward a2 b2))=n from ?_⟩
  ·rw[t3,u3];generalize bN a1 b1=p at*;generalize bN a2 b2=q at*;omega
  ·rw[t2,u2];generalize bN a1 b1=p at*;generalize bN a2 b2=q at*;omega
theorem vz{a b:Nat}(h:bN a b=0):b=a:=by
 rcases VM a b with q | q
 ·rw[fF q] at h;omega
 ·rw[fE q] at h;omega
theorem ET{w:Nat}(hw:Ways w){a b:Cell}(h:gd w a b=0):b=a:=by
 have:bN a.1 b.1=0/\bN a.2 b.2=0:=by
  rcases hw with rfl | rfl
  ·exact Nat.add_eq_zero_iff.mp h
  ·have h:max (bN a.1 b.1) (bN a.2 b.2)=0:=h;exact⟨XZ.mp (h▸WS ..),XZ.mp (h▸WC ..)⟩
 exact W9 (vz this.1) (vz this.2)
theorem GP{R W w:Nat}(hw:Ways w){a:Cell}(ha:On R W a):∀(n:Nat) {b:Cell},On R W b->gd w a b=n->Rr (Nx R W w) a n b
 |0,b,_,h=>ET hw h
 |n+1,b,hb,h=>by
  obtain⟨c,e,h2⟩:=ES hw ha hb h;exact .inr ⟨c,GP hw ha n e.1 h2,e⟩
theorem GO{R W w:Nat}(hw:Ways w){a b:Cell}(ha:On R W a)(hb:On R W b):Dr (Nx R W w) a b (gd w a b):=⟨GP hw ha _ hb rfl,λj r=>Cc hw r⟩
section
variable{bd:List Str}{W w v:Nat}{f g:Cell->Nat}
def NumF(bd:List Str)(W w:Nat)(f:Cell->Nat):Prop:=∀x,On bd.length W x->∃P,(aI bd W w)[f x]? =some P/\x∈P
theorem NumF.eq(hw:Ways w)(hf:NumF bd W w f)(hg:NumF bd W w g){x:Cell}(hx:On bd.length W x):f x=g x:=by
 obtain⟨P,h1,h2⟩:=hf x hx;obtain⟨Q,h3,h4⟩:=hg x hx;exact tL hw h1 h3 h2 h4
theorem NumF.lt(hf:NumF bd W w f){x:Cell}(hx:On bd.length W x):f x<(aI bd W w).length:=by
 obtain⟨P,h1,_⟩:=hf x hx;exact(Sb.mp h1).1
theorem NumF.cn(hw:Ways w)(hf:NumF bd W w f){x y:Cell}(hx:On bd.length W x)(hy:On bd.length W y):f x=f y↔Cn bd W w x y:=by
 obtain⟨P,h1,h2⟩:=hf x hx;obtain⟨Q,h3,h4⟩:=hf y hy;obtain⟨m,e1,rfl⟩:=dQ h1;obtain⟨n,e2,rfl⟩:=dQ h3;have om:=cH (iR e1);have on:=cH (iR e2);constructor
 ·intro e;rw[e,h3] at h1;have h1:aF bd W w n=aF bd W w m:=SS h1;rw[h1] at h4;exact((((bH hw om).mem x).mp h2).symm hw om).trans (((bH hw om).mem y).mp h4)
 ·intro e;have:y∈aF bd W w m:=((bH hw om).mem y).mpr ((((bH hw om).mem x).mp h2).trans e);exact tL hw h1 h3 this h4
def Ad(R W v:Nat)(f:Cell->Nat)(n m:Nat):Prop:=n≠m/\∃x y,Nx R W v x y/\f x=n/\f y=m
end
section
variable{bd:List Str}{W w v:Nat}{f:Cell->Nat}
theorem mT(hg:Brd bd W)(hs:bd.length*W<64)(hw:Ways w):∃ks f,NumF bd W w f/\(∀x,On bd.length W x->x∈ks)/\d5 [.lst ((aI bd W w).map cL)]=aa (GG ks λy=>nI (f y)):=by
 obtain⟨ks,f,a1,a2,a3⟩:=pU (R:=bd.length) (W:=W) (by omega) (A1 (bd:=bd) hw);have GY:∀x,On bd.length W x->x∈ks:=λx hx=>by
  obtain⟨P,hP,h⟩:=qd hg hw hx;exact a2 P hP x h
 exact⟨ks,f,λx hx=>a1.num x (GY x hx),GY,a3⟩
theorem l7(hg:Brd bd W)(hs:bd.length*W<64)(hw:Ways w)(hv:Ways v)(hf:NumF bd W w f):
 ∃l,NrS (λn=>∃x,On bd.length W x/\f x=n) (Ad bd.length W v f) l/\d3 [brd bd, .int (v:Int), .lst ((aI bd W w).map cL)]=aa (eQ (l.map bg)):=by
 obtain⟨ks,g,OT,GY,e0⟩:=mT hg hs hw;have OS:∀x,On bd.length W x->f x % 64=g x:=λx hx=>by
  have:=hf.lt hx;have:=j6 (bd:=bd) (W:=W) (w:=w);rw[Nat.mod_eq_of_lt (by omega)];exact hf.eq hw OT hx
 have JC:∀x,On bd.length W x->f x % 64=f x:=λx hx=>(OS x hx).trans (OT.eq hw hf hx);have ev:∀{Z:aU}{i:Nat}{x:Cell},Z[3]? =some (fz (GG ks λy=>nI (g y)))->Z[i]? =some (fz (cD x))->On bd.length W x->d2 fJ (dV 3) (dV i) Z=aa (nI (f x % 64)):=λh3 hi hx=>by
  rw[OS _ hx];exact(aQ (fC h3) (fC hi)).trans (H_ (f:=λy=>nI (g y)) (GY _ hx))
 obtain⟨l,k1,k2⟩:=C1 (ci:=5) (oi:=7) (δk:=d2 fJ (dV 3) (dV 5)) (δj:=eO (ao 3 bO (aC (dV 0) (aC (dV 5) (aC (dV 1) aN))))) (tc:=cP (d2 lG (d2 fJ (dV 3) (dV 7)) (d2 fJ (dV 3) (dV 5)))) (δk2:=d2 fJ (dV 3) (dV 7))
  (Z:=[fz (brd bd),fz (.int (v:Int)),fz (.lst ((aI bd W w).map cL)),fz (GG ks λy=>nI (g y)),none,none,none,none]) (f:=λx=>f x % 64) (nx:=iw bd.length W v) (λy=>W_ _ (by decide)) (a6 bd.length W) (T:=λ_=>False) (E:=λ_ _=>False) (l:=[])
  ⟨Us,λn=>by simp,λp hp=>(nomatch hp),λn h=>h.elim,λn m h=>h.elim⟩ (λ_ _ h=>h.elim) λx hx=>by
   have hx:=aX.mp hx;refine⟨ev rfl rfl hx,?_,λy hy=>?_⟩
   ·exact H9 ((aq (ds:=[brd bd,cD x, .int (v:Int)]) rfl rfl).trans (iU hg hv hx))
   ·have hy:=((gz hv).mp hy).1;refine⟨eX ((aQ (ev rfl rfl hy) (ev rfl rfl hx)).trans ((KU _ _).trans ?_)),ev rfl rfl hy⟩;by_cases e:f y % 64=f x % 64
    ·rw[e];simp
    ·rw[Yl e,Yn.mpr e]
 refine⟨l,k2.cong (λn=>?_) (λn m=>?_),a9 (aj (Z':=[fz (brd bd),fz (.int (v:Int)),fz (.lst ((aI bd W w).map cL)),fz (GG ks λy=>nI (g y)),none,none,none,none]) ((aR ((aq (ds:=[.lst ((aI bd W w).map cL)]) rfl rfl).trans e0)).trans rfl) (aj (Z':=[fz (brd bd),fz (.int (v:Int)),fz (.lst ((aI bd W w).map cL)),fz (GG ks λy=>nI (g y)),some (.ow (.dci [] [])),none,none,none]) rfl (aj (Z':=[fz (brd bd),fz (.int (v:Int)),fz (.lst ((aI bd W w).map cL)),fz (GG ks λy=>nI (g y)),fz (eQ (l.map bg)),none,none,none]) (c9 ?_) rfl)))⟩
 ·constructor
  ·rintro(z | ⟨x,hx,e⟩)
   ·exact z.elim
   ·have hx:=aX.mp hx;exact⟨x,hx,(JC x hx).symm.trans e⟩
  ·rintro⟨x,hx,e⟩;exact .inr ⟨x,aX.mpr hx,(JC x hx).trans e⟩
 ·constructor
  ·rintro(z | ⟨eK,x,hx,e,y,hy,e2⟩)
   ·exact z.elim
   ·have hx:=aX.mp hx;have hy:=(gz hv).mp hy;exact⟨eK,x,y,⟨hx,hy.1,hy.2⟩,(JC x hx).symm.trans e,(JC y hy.1).symm.trans e2⟩
  ·rintro⟨eK,x,y,⟨hx,hy,q⟩,e,e2⟩;exact .inr ⟨eK,x,aX.mpr hx,(JC x hx).trans e,y,(gz hv).mpr ⟨hy,q⟩,(JC y hy).trans e2⟩
 ·exact A_ rfl rfl rfl (H9 ((aq (ds:=[brd bd]) rfl rfl).trans (jO hg))) k1 k2.ok
end
def lJ(ks:List Nat)(n:Nat):List Nat:=if n∈ks then ks else ks++[n]
def xa(ks:List Nat):List D:=ks.map λ_=> .bl true
theorem pG{ks:List Nat}{n m:Nat}:m∈lJ ks n↔m∈ks\/m=n:=by
 unfold lJ;split
 ·rename_i h;exact⟨.inl,λq=>q.elim id λq=>q▸h⟩
 ·rw[SD,Sw]
theorem Fo{ks:List Nat}(h:ks.Nodup)(n:Nat):(lJ ks n).Nodup:=by
 unfold lJ;split
 ·exact h
 ·rename_i q;exact Tb.mpr ⟨h,by simp,λx hx y hy z=>q (by rw[z] at hx;cases Sw.mp hy;exact hx)⟩
theorem wN{κ:Type}[DecidableEq κ]{k:κ}:∀{ks:List κ}{l:List Nat},ks.length=l.length->jN ks (xa l) k (.bl true)=xa l
 |[],[],_=>rfl
 |a::ks,b::l,h=>by
  show (if a=k then D.bl true else .bl true)::jN ks (xa l) k (.bl true)=_;rw[wN (by simpa using h)];split<;>rfl
 |[],_::_,h=>by simp at h
 |_::_,[],h=>by simp at h
theorem DG{ks:List Nat}{n:Nat}(hl:ks.length<lim):hX (.dci (ks.map kN) (xa ks)) (nI n) (.bl true)=some (.dci ((lJ ks n).map kN) (xa (lJ ks n))):=by
 show (if (xa ks).length<lim then some (C.dci (b7 (ks.map kN) (xa ks) (kN n)) (bM (ks.map kN) (xa ks) (kN n) (.bl true))) else none)=_;rw[Yg (by unfold xa;rw[R5];exact hl)];unfold b7 bM lJ;rw[gQ lX];by_cases h:n∈ks
 ·obtain⟨d,e,_⟩:=jm (ks:=ks) (ds:=xa ks) (by simp[xa]) h;rw[e,Yg h];show some (C.dci (ks.map kN) (jN (ks.map kN) (xa ks) (kN n) (.bl true)))=_;rw[wN (by simp)]
 ·rw[jI h,Yh h];show some (C.dci (ks.map kN++[kN n]) (xa ks++[.bl true]))=_;unfold xa;rw[SE,SE];rfl
section
variable{l:NT}{aL:List Nat}{c:Nat}
def qy(aL:List Nat)(c:Nat)(ks:List Nat)(m:Nat):List Nat:=if aL.getD m 0=c then lJ ks m else ks
def nq(l:NT)(aL:List Nat)(c:Nat)(ks:List Nat)(n:Nat):List Nat:=(l6 l n).foldl (qy aL c) (lJ ks n)
theorem r0{m:Nat}:∀{ms ks:List Nat},m∈ms.foldl (qy aL c) ks↔m∈ks\/(m∈ms/\aL.getD m 0=c)
 |[],ks=>⟨.inl,λh=>h.elim id λh=>(nomatch h.1)⟩
 |a::ms,ks=>by
  rw[U7,r0 (ms:=ms)];unfold qy;split
  ·rename_i q;rw[pG];constructor
   ·rintro((h | rfl) | h)
    ·exact .inl h
    ·exact .inr ⟨R1,q⟩
    ·exact .inr ⟨R4 _ h.1,h.2⟩
   ·rintro(h | ⟨h,h2⟩)
    ·exact .inl (.inl h)
    ·exact(Sf.mp h).elim (λh=> .inl (.inr h)) λh=> .inr ⟨h,h2⟩
  ·rename_i q;exact or_congr VO ⟨λh=>⟨R4 _ h.1,h.2⟩,λh=>⟨(Sf.mp h.1).resolve_left λz=>q (z▸h.2),h.2⟩⟩
theorem l5{m:Nat}:∀{T ks:List Nat},m∈T.foldl (nq l aL c) ks↔m∈ks\/m∈T\/∃n∈T,m∈l6 l n/\aL.getD m 0=c
 |[],ks=>⟨.inl,λh=>h.elim id λh=>h.elim (λh=>(nomatch h)) λ⟨_,h,_⟩=>(nomatch h)⟩
 |a::T,ks=>by
  rw[U7,l5 (T:=T)];unfold nq;rw[r0,pG];constructor
  ·rintro(((h | rfl) | h) | h | ⟨n,h,h2⟩)
   ·exact .inl h
   ·exact .inr (.inl R1)
   ·exact .inr (.inr ⟨a,R1,h⟩)
   ·exact .inr (.inl (R4 _ h))
   ·exact .inr (.inr ⟨n,R4 _ h,h2⟩)
  ·rintro(h | h | ⟨n,h,h2⟩)
   ·exact .inl (.inl (.inl h))
   ·exact(Sf.mp h).elim (λh=> .inl (.inl (.inr h))) λh=> .inr (.inl h)
   ·exact(Sf.mp h).elim (λh=> .inl (.inr (h▸h2))) λh=> .inr (.inr ⟨n,h,h2⟩)
def qQ(l:NT)(aL:List Nat)(c:Nat)(T:List Nat):List Nat:=(Sn aL.length).filter λm=>decide (m∈T\/∃n∈T,m∈l6 l n/\aL.getD m 0=c)
theorem eL{T:List Nat}{m:Nat}:m∈qQ l aL c T↔m<aL.length/\(m∈T\/∃n∈T,m∈l6 l n/\aL.getD m 0=c):=by
 unfold qQ;rw[Td,S7,Yj]
def nT(T:List Nat):D:= .tup (T.map nI)
def Oj:DS:=(b_ [6] (fj (cP (d2 kx (d2 iI (dV 2) (dV 6)) (dV 3))) (dR 4 (dV 6) (dC (.bl true))) cb))
def PQ:DS:=(b_ [5,6] (aA (dR 4 (dV 5) (dC (.bl true))) (dS (putN 6) (λZ=>(d2 fJ (dV 1) (dV 5)) Z>>=fM) Oj)))
def Eh(t nr:D)(aL:List Nat)(c:Nat)(ks:List Nat)(x5 x6:Option Sl):aU:=[fz t,fz nr,fz (.lst (aL.map sg)),fz (sg c),some (.ow (.dci (ks.map kN) (xa ks))),x5,x6]
theorem mw{ks:List Nat}{T:List Nat}(h1:ks.Nodup)(h2:T.Pairwise (· < ·))(h:∀m,m∈ks↔m∈T):ji (ks.map λn:Nat=>(n:Int))=T.map λn:Nat=>(n:Int):=by
 have nd:T.Nodup:=h2.imp λgk=>SH gk;refine ue ((fR _).trans (((List.perm_ext_iff_of_nodup h1 nd).mpr h).map _)) (mx _) ?_;rw[UM];exact h2.imp λh=>by omega
theorem vM:∀ks:List Nat,jR (ks.map kN)=some (ks.map λn:Nat=>(n:Int))
 |[]=>rfl
 |k::ks=>by
  show (jR (ks.map kN)).map _=_;rw[vM ks];rfl
theorem MM{m:Nat}(h:m<aL.length):iI (.lst (aL.map sg)) (nI m)=aa (sg (aL.getD m 0)):=by
 show (match L2.atI (aL.map sg) (m:Int) with | some d=>aa d | none=>af)=_;rw[fk (x:=sg (aL.getD m 0)) (by rw[Sj,R6 h,Ss,R6 h];rfl)]
theorem tw{Tp:Nat->Prop}{E:Nat->Nat->Prop}(hl:NrS Tp E l)(hn:aL.length<=63)(hb:∀n m,E n m->m<aL.length){T:List Nat}(hT:∀n∈T,Tp n/\n<aL.length):er [nT T,eQ (l.map bg), .lst (aL.map sg),sg c]=aa (nT (qQ l aL c T)):=by
 let I:List Nat->Prop:=λks=>ks.Nodup/\∀m∈ks,m<aL.length
 have v6:∀ks,I ks->ks.length<=63:=λks h=>by
  have:=cZ (U:=Sn aL.length) h.1 λx hx=>S7.mpr (h.2 x hx);rw[T1] at this;omega
 have add:∀ks n,I ks->n<aL.length->I (lJ ks n):=λks n h hn=>⟨Fo h.1 n,λm hm=>(pG.mp hm).elim (h.2 m) λe=>e▸hn⟩
 have put:∀{ks:List Nat}{n:Nat}{i:Nat}{x5 x6:Option Sl},I ks->(Eh (nT T) (eQ (l.map bg)) aL c ks x5 x6)[i]? =some (fz (nI n))->dR 4 (dV i) (dC (.bl true)) (Eh (nT T) (eQ (l.map bg)) aL c ks x5 x6)=aa (.nx (Eh (nT T) (eQ (l.map bg)) aL c (lJ ks n) x5 x6)):=λ{ks n i x5 x6} h hi=>
  (zP (c:= .dci (ks.map kN) (xa ks)) (k:=nI n) (d:= .bl true) rfl rfl (fC hi) (DG (by have:=v6 ks h;rw[cO];omega))).trans rfl
 have Rn:∀(n:Nat),(∀m∈l6 l n,m<aL.length)->∀ks,I ks->I ((l6 l n).foldl (qy aL c) ks)/\forL (putN 6) Oj ((l6 l n).map nI) (Eh (nT T) (eQ (l.map bg)) aL c ks (fz (nI n)) none)=aa (.nx (Eh (nT T) (eQ (l.map bg)) aL c ((l6 l n).foldl (qy aL c) ks) (fz (nI n)) none)):=λn hm ks hI=>
  gu nI (λks=>Eh (nT T) (eQ (l.map bg)) aL c ks (fz (nI n)) none) (qy aL c) I (l6 l n) ks hI λks hI m QF=>by
   have HM:=hm m QF;have ht:cP (d2 kx (d2 iI (dV 2) (dV 6)) (dV 3)) (Eh (nT T) (eQ (l.map bg)) aL c ks (fz (nI n)) (fz (nI m)))=aa (decide (aL.getD m 0=c)):=eX ((aQ (x:=sg (aL.getD m 0)) (y:=sg c) ((aQ (x:= .lst (aL.map sg)) (y:=nI m) rfl rfl).trans (MM HM)) rfl).trans (GJ _ _));unfold qy;by_cases e:aL.getD m 0=c
   ·rw[Yi e] at ht;rw[Yg e];exact⟨add ks m hI HM,_,rfl,(bc (e9 ht (put hI rfl))).trans rfl⟩
   ·rw[Yl e] at ht;rw[Yh e];exact⟨hI,_,rfl,(bc (e7 ht rfl)).trans rfl⟩
 obtain⟨hI,e⟩:=gu (put:=putN 5) (body:=PQ) nI (λks=>Eh (nT T) (eQ (l.map bg)) aL c ks none none) (nq l aL c) I T [] ⟨Us,λ_ h=>(nomatch h)⟩ λks hI n hn=>by
  have L6:=hT n hn;obtain⟨g1,g2⟩:=Rn n (λm hm=>hb n m ((hl.mem L6.1).mp hm)) (lJ ks n) (add ks n hI L6.2);refine⟨g1,_,rfl,(bc (aj (put hI rfl) (eR ?_ g2))).trans rfl⟩;obtain⟨d,h1,h2⟩:=hl.near n ((hl.key n).mpr L6.1);have e0:d2 fJ (dV 1) (dV 5) (Eh (nT T) (eQ (l.map bg)) aL c (lJ ks n) (fz (nI n)) none)=aa d:=(aQ (x:=eQ (l.map bg)) (y:=nI n) rfl rfl).trans h1;show (d2 fJ (dV 1) (dV 5) _>>=fM)=_;rw[e0];cases d with
  |lst ds=>exact(by
    rw[Dx] at h1;obtain⟨d',h3,h4⟩:=KN.ix (ds:=l.map λp=>inD (p.2.map kN)) (by simp) ((hl.key n).mpr L6.1);rw[h1] at h4;have:=d_ h4;subst this;rw[Xa] at h3;obtain⟨p,_,e⟩:=Sm.mp h3;cases (Prod.mk.inj e).2)
  |_=>exact h2
 refine a9 (aj (Z':=Eh (nT T) (eQ (l.map bg)) aL c [] none none) rfl (aj (c9 (eR (ds:=T.map nI) rfl e)) (aM ((ck (xs:=[.lst ((qQ l aL c T).map nI)]) (aJ ((ck (xs:=[.dci ((T.foldl (nq l aL c) []).map kN) (xa (T.foldl (nq l aL c) []))]) rfl).trans ?_) rfl)).trans rfl))))
 ·show (match jR ((T.foldl (nq l aL c) []).map kN) with | some ns=>if ns.length<64 then aa (D.lst ((ji ns).map D.int)) else af | none=>af)=_;rw[vM];show (if ((T.foldl (nq l aL c) []).map λn:Nat=>(n:Int)).length<64 then aa (D.lst ((ji ((T.foldl (nq l aL c) []).map λn:Nat=>(n:Int))).map D.int)) else af)=_;rw[Yg (by rw[R5];have:=v6 _ hI;omega),mw (T:=qQ l aL c T) hI.1 (List.pairwise_lt_range.filter _) (λm=>?_),SF]
  ·rfl
  ·rw[eL];constructor
   ·intro h;refine⟨hI.2 m h,?_⟩;rcases l5.mp h with h | h
    ·cases h
    ·exact h
   ·exact λh=>l5.mpr (.inr h.2)
end
end K1
namespace K1
open PySem L2 L3 HT
theorem z0:∀l:List Nat,ku (l.map sg)=some (l.map λc=>(⟨#[c]⟩:Str))
 |[]=>rfl
 |c::r=>by
  show (ku (r.map sg)).map _=_;rw[z0 r];rfl
theorem y_:∀l:List Nat,df (l.map λc=>(⟨#[c]⟩:Str))=jL l
 |[]=>rfl
 |c::r=>by
  refine uX ?_;show ((⟨#[c]⟩:Str)++df (r.map λc=>(⟨#[c]⟩:Str))).cps.toList=_;rw[oK,y_ r,c7,c7];rfl
theorem D5:∀l:List Nat,((l.map λc=>(⟨#[c]⟩:Str)).map (·.length)).sum=l.length
 |[]=>rfl
 |c::r=>by
  show 1+((r.map λc=>(⟨#[c]⟩:Str)).map (·.length)).sum=_;rw[D5 r,Sd];omega
theorem Fd{l:List Nat}(h:l.length<=4096):joinM (.str "") [.lst (l.map sg)]=aa (.str (jL l)):=by
 show (match ku (l.map sg) with | some (xs:List Str)=>if ("":Str).length=0/\(xs.map λx:Str=>x.length).sum<=lim then aa (D.str (df xs)) else af | none=>af)=_;rw[z0];show (if ("":Str).length=0/\((l.map λc=>(⟨#[c]⟩:Str)).map λx:Str=>x.length).sum<=lim then aa (D.str (df (l.map λc=>(⟨#[c]⟩:Str)))) else af)=_;rw[Yg ⟨rfl,by have:=D5 l;rw[cO];exact Sy (Nat.le_of_eq this) h⟩,y_]
theorem ot(c:Nat):Cu ⟨#[c]⟩=decide (c∈[97,98,99,100,101,102]):=Xu "abcdef" c
theorem HZ(l:List Nat)(c:Nat)(neg:Bool):qS neg (sg c) (.str (jL l))=aa (.bl (if neg then !decide (c∈l) else decide (c∈l))):=by
 have:=Xu (jL l) c;rw[c7] at this;show aa (D.bl (if neg then !(!(Tc (jL l) ⟨#[c]⟩ 0 (jL l).length 1).isEmpty) else !(Tc (jL l) ⟨#[c]⟩ 0 (jL l).length 1).isEmpty))=_;rw[this]
abbrev fU:List Nat:=[97,98,99,100,101,102]
theorem Gd{W:Nat}{r:Str}(h:Row W r){c:Nat}(hc:c∈r.cps.toList):c∈[97,98,99,100,101,102]:=by
 have:=h.let' c hc;rw[ot] at this;exact Yk this
def dW(bd:List Str):List Nat:=(bd.map (·.cps.toList)).flatten
theorem Fc{bd:List Str}{W:Nat}(hg:Brd bd W){i:Nat}{Z:aU}(h0:Z[i]? =some (fz (brd bd))):dM tN joinM (dC (.str "")) (aC (dV i) aN) Z=aa (.str (jL (dW bd))):=by
 have h8:=hg.r8;have w8:=hg.w8;show (if tN (.str "") then((aC (dV i) aN) Z>>=λds=>joinM (.str "") ds) else af)=_;rw[Yg (show tN (.str "")=true from rfl),aJ (fC h0) (xs:=[]) rfl,av];show (match ku (bd.map D.str) with | some (xs:List Str)=>if ("":Str).length=0/\(xs.map λx:Str=>x.length).sum<=lim then aa (D.str (df xs)) else af | none=>af)=_;have e1:∀xs:List Str,ku (xs.map D.str)=some xs:=by
  intro xs;induction xs with
  |nil=>rfl
  |cons x r ih=>show (ku (r.map D.str)).map _=_;rw[ih];rfl
 rw[e1];have e2:∀xs:List Str,(df xs).cps.toList=(xs.map (·.cps.toList)).flatten:=by
  intro xs;induction xs with
  |nil=>rfl
  |cons x r ih=>show (x++df r).cps.toList=_;rw[oK,ih];rfl
 have e3:∀xs:List Str,(∀x∈xs,x.length<=8)->(xs.map λx:Str=>x.length).sum<=xs.length*8:=by
  intro xs;induction xs with
  |nil=>exact λ_=>SM _
  |cons x r ih=>
   intro h;have:=ih λy hy=>h y (R4 _ hy);have:=h x (R1 ..);rw[Sa,Vt,Sd,X1];omega
 have e4:=e3 bd λx hx=>by rw[(hg.rows x hx).len];exact w8
 show (if ("":Str).length=0/\(bd.map λx:Str=>x.length).sum<=lim then aa (D.str (df bd)) else af)=_;rw[Yg ⟨rfl,by rw[cO];omega⟩];congr 2;refine uX ?_;rw[e2,c7];rfl
theorem pH{bd:List Str}{c:Nat}:c∈dW bd↔∃r∈bd,c∈r.cps.toList:=by
 unfold dW;rw[List.mem_flatten];constructor
 ·rintro⟨l,hl,h⟩;obtain⟨r,hr,rfl⟩:=Sm.mp hl;exact⟨r,hr,h⟩
 ·rintro⟨r,hr,h⟩;exact⟨_,Sm.mpr ⟨r,hr,rfl⟩,h⟩
theorem BE{bd:List Str}{W:Nat}(hg:Brd bd W){c:Nat}(h:c∈dW bd):c∈fU:=by
 obtain⟨r,hr,h⟩:=pH.mp h;exact Gd (hg.rows r hr) h
theorem zx{bd:List Str}{W:Nat}(hg:Brd bd W){c:Cell}(hc:On bd.length W c):lt bd c∈dW bd:=by
 have h1:c.1<bd.length:=hc.1;have hr:(bd.getD c.1 ⟨#[]⟩).cps.toList.length=W:=(hg.rows _ (getD_mem h1)).len;have h2:c.2<(bd.getD c.1 ⟨#[]⟩).cps.toList.length:=by rw[hr];exact hc.2
 refine pH.mpr ⟨_,getD_mem h1,?_⟩;show ch (bd.getD c.1 ⟨#[]⟩) c.2∈_;generalize bd.getD c.1 ⟨#[]⟩=r at h2;unfold ch;rw[Ss,R6 h2];exact T8 h2
end K1
namespace K1
open PySem L2 L3
theorem zu:∀T:List Nat,AE (T.map nI)=some (T.map kN)
 |[]=>rfl
 |t::T=>by
  show (match pB (nI t),AE (T.map nI) with | some k,some ks=>some (k::ks) | _,_=>none)=_;rw[zu T];rfl
theorem tP(T:List Nat):iP (nT T)=some (T.map kN):=zu T
def kT(T:List Nat):List Key:=T.map kN
theorem xZ:∀(a b:List Nat),kT a=kT b->a=b
 |[],[],_=>rfl
 |[],_::_,h=>by cases h
 |_::_,[],h=>by cases h
 |a::x,b::y,h=>by
  have h:kN a::kT x=kN b::kT y:=h;injection h with h1 h2
  rw[lX _ _ h1,xZ x y h2]
theorem Fe:KOk nT (λks ds=> .dct (ks.map kT) ds):=
 ⟨λks ds T=>by
  show (iP (nT T)).map (dI (ks.map kT) ds)=_;rw[tP];exact Yo some (gQ xZ),λks ds x d h hl=>by
  show (match iP (nT x) with | some kk=>if ds.length<lim then some (C.dct (b7 (ks.map kT) ds kk) (bM (ks.map kT) ds kk d)) else none | none=>none)=_;rw[tP];show (if ds.length<lim then some (C.dct (b7 (ks.map kT) ds (kT x)) (bM (ks.map kT) ds (kT x) d)) else none)=_;rw[Yg hl];unfold b7 bM;rw[gQ xZ,jI h];show some (C.dct (ks.map kT++[kT x]) (ds++[d]))=some (C.dct ((ks++[x]).map kT) (ds++[d]));rw[SE];rfl,λx=>by
  unfold kA;rw[tP];rfl⟩
theorem KOk.inn2{α:Type}[DecidableEq α]{enc:α->D}{mk:List α->List D->C}(k:KOk enc mk){ks:List α}{ds:List D}(hl:ks.length=ds.length)(x:α):∃bb:Bool,(bb=true↔x∈ks)/\et true (enc x) (mk ks ds).d=aa (.bl (!bb)):=⟨decide (x∈ks),decide_eq_true_iff,k.inn (neg:=true) hl⟩
theorem kin{ks:List (List Nat)}{ds:List D}(hl:ks.length=ds.length)(T:List Nat):∃bb:Bool,(bb=true↔T∈ks)/\et true (nT T) (.dct (ks.map kT) ds)=aa (.bl (!bb)):=Fe.inn2 hl T
def pw:Nat->List (List Nat)
 |0=>[[]]
 |n+1=>pw n++(pw n).map (· ++[n])
theorem CJ:∀n,(pw n).length=2 ^ n
 |0=>rfl
 |n+1=>by
  show (pw n++(pw n).map (· ++[n])).length=_;rw[Sg,R5,CJ n,Nat.pow_succ];omega
theorem ye:∀{n:Nat}{T:List Nat},T.Pairwise (· < ·)->(∀m∈T,m<n)->T∈pw n
 |0,T,_,h=>by
  cases T with
  |nil=>exact Sw.mpr rfl
  |cons a T=>exact Ym (h a R1) (Nat.not_lt_zero _)
 |n+1,T,hp,h=>by
  show T∈pw n++(pw n).map (· ++[n]);by_cases hn:n∈T
  ·obtain⟨l1,l2,rfl⟩:=List.append_of_mem hn;obtain⟨p1,p2,p3⟩:=VT.mp hp;have e:l2=[]:=by
    cases l2 with
    |nil=>rfl
    |cons a r=>
     have h1:=(SO.mp p2).1 a R1;have h2:=h a (by simp);omega
   subst e;exact SV _ (Sm.mpr ⟨l1,ye p1 λm hm=>p3 m hm n R1,rfl⟩)
  ·exact Tq _ (ye hp λm hm=>by
    have:=h m hm;have:m≠n:=λe=>hn (e▸hm);omega)
section
variable{l:NT}{aL:List Nat}
def jU(l:NT)(aL:List Nat)(T:List Nat):List (List Nat):=fU.map λc=>qQ l aL c T
def St(l:NT)(aL:List Nat)(s:List Nat):List Nat:=s.foldl (λT c=>qQ l aL c T) [0]
theorem kz(s:List Nat)(c:Nat):St l aL (s++[c])=qQ l aL c (St l aL s):=by
 unfold St;rw[Yc];rfl
def eF(s:List Nat):D:= .lst (s.map sg)
theorem vv:∀s:List Nat,o3 (s.map sg)=true
 |[]=>rfl
 |x::l=>by
  show (rF (sg x)&&o3 (l.map sg))=true;rw[vv l];rfl
theorem ED{δ:DE}{Z:aU}{s:List Nat}(h1:kX Z=true)(h:δ (Bt Z)=aa (eF s)):Jw δ Z=aa (eF s):=by
 unfold Jw;rw[Yg h1,h];show (if rF (eF s) then aa (eF s) else af)=_;rw[Yg (show rF (eF s)=true from vv s)]
def JM(aL:List Nat)(T:List Nat):Prop:=T.Pairwise (· < ·)/\∀m∈T,m<aL.length
theorem zX(c:Nat)(T:List Nat):JM aL (qQ l aL c T):=⟨List.pairwise_lt_range.filter _,λm hm=>(eL.mp hm).1⟩
structure Sk (l:NT) (aL:List Nat) (s:Bk (List Nat)):Prop where
 len:s.ks.length=s.ps.length
 nd:s.ks.Nodup
 on:∀T∈s.ks,JM aL T
 fu:s.fu.length<=s.ks.length
theorem Sk.le{s:Bk (List Nat)}(h:Sk l aL s)(h9:aL.length<=9):s.ks.length<=512:=by
 have:=cZ (U:=pw 9) h.nd λT hT=>ye (h.on T hT).1 λm hm=>SN ((h.on T hT).2 m hm) h9;rw[CJ] at this;exact this
theorem Sk.step{s:Bk (List Nat)}(h:Sk l aL s){T x:List Nat}(hx:JM aL x):Sk l aL (cx T s x):=by
 unfold cx;split
 ·exact h
 ·rename_i hn;refine⟨by simp[h.len],?_,λy hy=>?_,by simp;exact h.fu⟩
  ·refine Tb.mpr ⟨h.nd,by simp,λy hy z hz e=>?_⟩;have hz:z=x:=by simpa using hz
   rw[e,hz] at hy;exact hn hy
  ·rcases SD.mp hy with q | q
   ·exact h.on y q
   ·have:y=x:=by simpa using q
    rw[this];exact hx
def Vl(l:NT)(aL:List Nat)(ks vs:List (List Nat)):Prop:=ks.length=vs.length/\∀x s,(x,s)∈ks.zip vs->St l aL s=x/\Ds (jU l aL) [0] x s.length/\∀c∈s,c∈fU
theorem uZ{β:Type}{x:β}{d:D}:∀{ks:List β}{vs:List (List Nat)},(x,d)∈ks.zip (vs.map eF)->∃s,d=eF s/\(x,s)∈ks.zip vs
 |k::ks,v::vs,h=>by
  rw[Sa,TV] at h;rcases Sf.mp h with e | h
  ·cases e;exact⟨v,rfl,R1⟩
  ·obtain⟨n,h1,h2⟩:=uZ h;exact⟨n,h1,R4 _ h2⟩
 |[],_,h=>by simp at h
 |_::_,[],h=>by simp at h
abbrev pR(b w fo nr:D)(aL:List Nat)(ks vs:List (List Nat))(x7 x8 x9 RM RN:Option Sl):aU:=
 [fz b,fz w,fz fo,fz nr,fz (.lst (aL.map sg)),fz (nT (Sn aL.length)),some (.ow (.dct (ks.map kT) (vs.map eF))),x7,x8,x9,RM,RN]
def ML:DS:=(b_ [10,11] (aA (bF 11 (ao 4 er (aC (dV 9) (aC (dV 3) (aC (dV 4) (aC (dV 10) aN)))))) (fj (zY (cP (d2 (et true) (dV 11) (dV 6)))) (aA (dR 6 (dV 11) (LV [8] (Jw (d2 rM (d2 fJ (dV 6) (dV 9)) (dA de (aC (dV 10) aN)))))) (ll 8 (dV 11))) cb)))
variable{Tp:Nat->Prop}{E:Nat->Nat->Prop}{b w fo:D}
theorem EO(hl:NrS Tp E l)(h9:aL.length<=9)(hb:∀n m,E n m->m<aL.length)(Ek:∀n,n<aL.length->Tp n){T:List Nat}{c:Nat}(hc:c∈fU){rg:D}{s:Bk (List Nat)}{k:Nat}(Mb:k<=4000)(h:Sk l aL s)(hT:T∈s.ks)(hk:Ds (jU l aL) [0] T k)(lT:∀y,Rb (jU l aL) [0] k y->y∈s.ks){vs:List (List Nat)}(hv:Vl l aL s.ks vs):
 ∃vs',Vl l aL (cx T s (qQ l aL c T)).ks vs'/\ML (pR b w fo (eQ (l.map bg)) aL s.ks vs (fz rg) (some (.ow (.lst (s.fu.map nT)))) (fz (nT T)) (fz (sg c)) none)=aa (.nx (pR b w fo (eQ (l.map bg)) aL (cx T s (qQ l aL c T)).ks vs' (fz rg) (some (.ow (.lst ((cx T s (qQ l aL c T)).fu.map nT)))) (fz (nT T)) none none)):=by
 have hle:=h.le h9;have JA:=h.on T hT;have Qm:=tw (c:=c) hl (by omega) hb (T:=T) λn hn=>⟨Ek n (JA.2 n hn),JA.2 n hn⟩
 have Mc:s.ks.length=(vs.map eF).length:=by rw[R5];exact hv.1
 have Om:bF 11 (ao 4 er (aC (dV 9) (aC (dV 3) (aC (dV 4) (aC (dV 10) aN))))) (pR b w fo (eQ (l.map bg)) aL s.ks vs (fz rg) (some (.ow (.lst (s.fu.map nT)))) (fz (nT T)) (fz (sg c)) none)=aa (.nx (pR b w fo (eQ (l.map bg)) aL s.ks vs (fz rg) (some (.ow (.lst (s.fu.map nT)))) (fz (nT T)) (fz (sg c)) (fz (nT (qQ l aL c T))))):=
  (aR ((aq (ds:=[nT T,eQ (l.map bg), .lst (aL.map sg),sg c]) rfl rfl).trans Qm)).trans rfl
 obtain⟨bb,EV,MF⟩:=kin Mc (qQ l aL c T);have ht:zY (cP (d2 (et true) (dV 11) (dV 6))) (pR b w fo (eQ (l.map bg)) aL s.ks vs (fz rg) (some (.ow (.lst (s.fu.map nT)))) (fz (nT T)) (fz (sg c)) (fz (nT (qQ l aL c T))))=aa (!bb):=
  zZ (eX ((aQ (x:=nT (qQ l aL c T)) (y:= .dct (s.ks.map kT) (vs.map eF)) rfl rfl).trans MF))
 generalize hx:qQ l aL c T=x at*;by_cases Es:x∈s.ks
 ·rw[EV.mpr Es] at ht;have e:cx T s x=s:=Yg Es;rw[e];exact⟨vs,hv,(bc (aj Om (e7 ht rfl))).trans rfl⟩
 ·rw[Ye.mpr λz=>Es (EV.mp z)] at ht;have e:cx T s x=⟨s.ks++[x],s.ps++[some T],s.fu++[x]⟩:=Yh Es;rw[e];obtain⟨d,hd,hi⟩:=Fe.ix Mc hT;obtain⟨q,rfl,hq⟩:=uZ hd;obtain⟨q1,q2,q3⟩:=hv.2 T q hq;have O4:q.length=k:=VN (q2.2 k hk.1) (hk.2 _ q2.1);have MS:rM (eF q) (.lst [sg c])=aa (eF (q++[c])):=by
   show (if (q.map sg).length+1<=lim then aa (D.lst (q.map sg++[sg c])) else af)=_;rw[Yg (by rw[R5,cO];omega)];unfold eF;rw[SE];rfl
  have hp:hX (.dct (s.ks.map kT) (vs.map eF)) (nT x) (eF (q++[c]))=some (.dct ((s.ks++[x]).map kT) ((vs++[q++[c]]).map eF)):=by
   rw[Fe.put _ _ _ _ Es (by rw[R5,<-hv.1,cO];omega),SE (f:=eF)];rfl
  have Nq:LV [8] (Jw (d2 rM (d2 fJ (dV 6) (dV 9)) (dA de (aC (dV 10) aN)))) (pR b w fo (eQ (l.map bg)) aL s.ks vs (fz rg) (some (.ow (.lst (s.fu.map nT)))) (fz (nT T)) (fz (sg c)) (fz (nT x)))=aa (eF (q++[c])):=
   ED (Z:=pR b w fo (eQ (l.map bg)) aL s.ks vs (fz rg) none (fz (nT T)) (fz (sg c)) (fz (nT x))) rfl ((aQ (x:=eF q) (y:= .lst [sg c]) ((aQ (x:= .dct (s.ks.map kT) (vs.map eF)) (y:=nT T) rfl rfl).trans hi) rfl).trans MS)
  refine⟨vs++[q++[c]],⟨by simp[hv.1],λy m hy=>?_⟩,(bc (Z':=pR b w fo (eQ (l.map bg)) aL (s.ks++[x]) (vs++[q++[c]]) (fz rg) (some (.ow (.lst ((s.fu++[x]).map nT)))) (fz (nT T)) (fz (sg c)) (fz (nT x))) (aj Om (e9 ht (aj (Z':=pR b w fo (eQ (l.map bg)) aL (s.ks++[x]) (vs++[q++[c]]) (fz rg) (some (.ow (.lst (s.fu.map nT)))) (fz (nT T)) (fz (sg c)) (fz (nT x))) ((zP (c:= .dct (s.ks.map kT) (vs.map eF)) (k:=nT x) (d:=eF (q++[c])) rfl Nq rfl hp).trans rfl) ?_)))).trans rfl⟩
  ·rw[VD hv.1] at hy;rcases SD.mp hy with z | z
   ·exact hv.2 y m z
   ·cases Sw.mp z;refine⟨by rw[kz,q1,hx],⟨?_,λj hj=>?_⟩,λc' As=>?_⟩
    ·rw[Sg,O4];exact .inr ⟨T,hk.1,Sm.mpr ⟨c,hc,hx⟩⟩
    ·rw[Sg,O4];exact WB λz=>Es (lT _ (Rb.mono z hj))
    ·rcases SD.mp As with z | z
     ·exact q3 c' z
     ·cases Sw.mp z;exact hc
  ·show (if (s.fu.map nT).length<lim then aa (Out.nx (pR b w fo (eQ (l.map bg)) aL (s.ks++[x]) (vs++[q++[c]]) (fz rg) (some (.ow (.lst (s.fu.map nT++[nT x])))) (fz (nT T)) (fz (sg c)) (fz (nT x)))) else af)=_;have:=h.fu;rw[Yg (by rw[R5,cO];omega),show s.fu.map nT++[nT x]=(s.fu++[x]).map nT by simp]
def MK:DS:=(b_ [9,10,11] (dS (putN 10) (λZ=>(dC (.str "abcdef")) Z>>=Bc) ML))
theorem CN(s:Bk (List Nat))(T:List Nat):fU.foldl (λs c=>cx T s (qQ l aL c T)) s=eZ (jU l aL) s T:=by
 unfold eZ jU;rw[List.foldl_map]
theorem EM(hl:NrS Tp E l)(h9:aL.length<=9)(hb:∀n m,E n m->m<aL.length)(Ek:∀n,n<aL.length->Tp n){T:List Nat}{rg:D}{s:Bk (List Nat)}{k:Nat}(Mb:k<=4000)(h:Sk l aL s)(hT:T∈s.ks)(hk:Ds (jU l aL) [0] T k)(lT:∀y,Rb (jU l aL) [0] k y->y∈s.ks){vs:List (List Nat)}(hv:Vl l aL s.ks vs):
 Sk l aL (eZ (jU l aL) s T)/\∃vs',Vl l aL (eZ (jU l aL) s T).ks vs'/\MK (pR b w fo (eQ (l.map bg)) aL s.ks vs (fz rg) (some (.ow (.lst (s.fu.map nT)))) (fz (nT T)) none none)=aa (.nx (pR b w fo (eQ (l.map bg)) aL (eZ (jU l aL) s T).ks vs' (fz rg) (some (.ow (.lst ((eZ (jU l aL) s T).fu.map nT)))) none none none)):=by
 obtain⟨Z',e,h1,h2,h4,vs',h3,rfl⟩:=o8 (put:=putN 10) (body:=ML) sg (λ(s:Bk (List Nat)) Z=>Sk l aL s/\T∈s.ks/\(∀y,Rb (jU l aL) [0] k y->y∈s.ks)/\∃vs:List (List Nat),Vl l aL s.ks vs/\Z=pR b w fo (eQ (l.map bg)) aL s.ks vs (fz rg) (some (.ow (.lst (s.fu.map nT)))) (fz (nT T)) none none) (λs c=>cx T s (qQ l aL c T)) fU s _ ⟨h,hT,lT,vs,hv,rfl⟩ λs Z ⟨h,hT,lT,vs,hv,e⟩ c hc=>by
  subst e;obtain⟨vs',h1,h2⟩:=EO (b:=b) (w:=w) (fo:=fo) (rg:=rg) hl h9 hb Ek hc Mb h hT hk lT hv;exact⟨_,_,rfl,h2,h.step (zX c T),(lL s).mpr (.inl hT),λy hy=>(lL s).mpr (.inl (lT y hy)),vs',h1,rfl⟩
 rw[CN] at h1 h3 e;exact⟨h1,vs',h3,(bc (eR (ds:=fU.map sg) rfl e)).trans rfl⟩
def Ou:DS:=(b_ [8,9,10,11] (aA (uD 8) (aA (dS (putN 9) (eO (dV 7)) MK) (xx 8 (bF 7 (dV 8))))))
theorem zj{y T:List Nat}{s:Bk (List Nat)}(h:y∈s.ks):y∈(eZ (jU l aL) s T).ks:=((foldStep (P:=λ_ _=>True) (jU l aL T) s λ_ _=>trivial).2 y).mpr (.inl h)
theorem EN(hl:NrS Tp E l)(h9:aL.length<=9)(hb:∀n m,E n m->m<aL.length)(Ek:∀n,n<aL.length->Tp n){v2:List (List Nat)}{s:Bk (List Nat)}{k:Nat}(Mb:k<=4000)(hr:∀T∈v2,T∈s.ks/\Ds (jU l aL) [0] T k)(lT:∀y,Rb (jU l aL) [0] k y->y∈s.ks)(h:Sk l aL s)(hf:s.fu=[]){vs:List (List Nat)}(hv:Vl l aL s.ks vs):
 Sk l aL (bL (jU l aL) s v2)/\∃vs',Vl l aL (bL (jU l aL) s v2).ks vs'/\Ou (pR b w fo (eQ (l.map bg)) aL s.ks vs (fz (.lst (v2.map nT))) none none none none)=aa (.nx (pR b w fo (eQ (l.map bg)) aL (bL (jU l aL) s v2).ks vs' (fz (.lst ((bL (jU l aL) s v2).fu.map nT))) none none none none)):=by
 obtain⟨Z',e,h1,h2,h4,vs',h3,rfl⟩:=o8 (put:=putN 9) (body:=MK) nT (λ(s:Bk (List Nat)) Z=>Sk l aL s/\(∀T∈v2,T∈s.ks/\Ds (jU l aL) [0] T k)/\(∀y,Rb (jU l aL) [0] k y->y∈s.ks)/\∃vs:List (List Nat),Vl l aL s.ks vs/\Z=pR b w fo (eQ (l.map bg)) aL s.ks vs (fz (.lst (v2.map nT))) (some (.ow (.lst (s.fu.map nT)))) none none none) (eZ (jU l aL)) v2 s _ ⟨h,hr,lT,vs,hv,rfl⟩ λs Z ⟨h,hr,lT,vs,hv,e⟩ T hT=>by
  subst e;obtain⟨g1,vs',g2,g3⟩:=EM (b:=b) (w:=w) (fo:=fo) (rg:= .lst (v2.map nT)) hl h9 hb Ek Mb h (hr T hT).1 (hr T hT).2 lT hv;exact⟨_,_,rfl,g3,g1,λc' As=>⟨zj (hr c' As).1,(hr c' As).2⟩,λy hy=>zj (lT y hy),vs',g2,rfl⟩
 rw[hf] at e;refine⟨h1,vs',h3,(bc (Z':=pR b w fo (eQ (l.map bg)) aL (bL (jU l aL) s v2).ks vs' (fz (.lst ((bL (jU l aL) s v2).fu.map nT))) (fz (.lst ((bL (jU l aL) s v2).fu.map nT))) none none none) ?_).trans rfl⟩;exact aj (Z':=pR b w fo (eQ (l.map bg)) aL s.ks vs (fz (.lst (v2.map nT))) (some (.ow (.lst []))) none none none) rfl (aj (Z':=pR b w fo (eQ (l.map bg)) aL (bL (jU l aL) s v2).ks vs' (fz (.lst (v2.map nT))) (some (.ow (.lst ((bL (jU l aL) s v2).fu.map nT)))) none none none) (eR rfl e) rfl)
theorem vH(hl:NrS Tp E l)(h9:aL.length<=9)(hb:∀n m,E n m->m<aL.length)(Ek:∀n,n<aL.length->Tp n){d:Nat}(Ql:d<=4000)(hd:Rb (jU l aL) [0] d (Sn aL.length)):∀(fuel k:Nat) (ks:List (List Nat)) (ps:List (Option (List Nat))) (v2:List (List Nat)) (vs:List (List Nat)),d+1<=fuel+k->k<=d->Rng (jU l aL) [0] k ks ps v2->(∀T∈ks,JM aL T)->Vl l aL ks vs->
 ∃ks' vs' x7,Sn aL.length∈ks'/\Vl l aL ks' vs'/\eG (zY (cP (d2 (et true) (dV 5) (dV 6)))) Ou fuel (pR b w fo (eQ (l.map bg)) aL ks vs (fz (.lst (v2.map nT))) none none none none)=aa (.nx (pR b w fo (eQ (l.map bg)) aL ks' vs' x7 none none none none))
 |fuel,k,ks,ps,v2,vs,hf,Em,hR,lH,hv=>by
  have Mc:ks.length=(vs.map eF).length:=(R5 (as:=vs) eF).symm▸hv.1;obtain⟨bb,EV,MF⟩:=kin Mc (Sn aL.length);have ht:zY (cP (d2 (et true) (dV 5) (dV 6))) (pR b w fo (eQ (l.map bg)) aL ks vs (fz (.lst (v2.map nT))) none none none none)=aa (!bb):=
   zZ (eX ((aQ (x:=nT (Sn aL.length)) (y:= .dct (ks.map kT) (vs.map eF)) rfl rfl).trans MF))
  match fuel,hf with
  |0,hf=>omega
  |fuel+1,hf=>
   by_cases hw:Sn aL.length∈ks
   ·rw[EV.mpr hw] at ht;exact⟨ks,vs,_,hw,hv,xg ht⟩
   ·rw[Ye.mpr λz=>hw (EV.mp z)] at ht;have M9:k<d:=WB λz=>hw ((hR.mem _).mpr (Rb.mono z hd));have QS:v2≠[]:=λz=>by
     subst z;exact hw ((hR.last _).mpr ⟨d,hd⟩)
    have hN:=hR.next QS;have Kx:∀x∈v2,x∈ks/\Ds (jU l aL) [0] x k:=λx hx=>⟨(hR.mem x).mpr ((hR.rg x).mp hx).1,(hR.rg x).mp hx⟩
    obtain⟨hs,RL,Q4,e⟩:=EN (b:=b) (w:=w) (fo:=fo) hl h9 hb Ek (by omega) (s:=⟨ks,ps,[]⟩) Kx (λy hy=>(hR.mem y).mpr hy) ⟨hR.len,hR.nd,lH,SM _⟩ rfl hv;obtain⟨ks',vs',x7,q1,q2,q3⟩:=vH hl h9 hb Ek Ql hd fuel (k+1) _ _ _ RL (by omega) M9 hN hs.on Q4;exact⟨ks',vs',x7,q1,q2,xh ht e q3⟩
theorem DK(l:NT)(aL:List Nat):∀(n:Nat) (t:List Nat),t.length=n->(∀c∈t,c∈fU)->Rb (jU l aL) [0] n (St l aL t)
 |0,t,h,_=>by
  cases TB.mp h;rfl
 |n+1,t,h,hc=>by
  rcases US t with rfl | ⟨u,c,rfl⟩
  ·simp at h
  ·rw[UT] at*;rw[kz];exact .inr ⟨_,DK l aL n u (by simpa using h) λz hz=>hc z (Tq _ hz),Sm.mpr ⟨c,hc c (by simp),rfl⟩⟩
end
end K1
namespace K1
open PySem L2 L3 HT
theorem Ey{bd:List Str}{i j:Nat}(hi:i<bd.length)(hj:j<bd[i].cps.toList.length):at2 bd i j=bd[i].cps.toList[j]:=by
 unfold at2 ch;rw[Ss (l:=bd),R6 hi,Vo,Ss,R6 hj,Vo]
theorem Cd{α:Type}{l:List α}{i:Nat}{x:α}(h:l[i]? =some x)(hi:i<l.length):l[i]=x:=by
 rw[R6 hi] at h;exact SS h
def AQ(R W:Nat)(g:Nat->Nat->Nat):List Str:=(Sn R).map λi=>jL ((Sn W).map (g i))
theorem oz(R W:Nat)(g:Nat->Nat->Nat):(AQ R W g).length=R:=by simp[AQ]
theorem Fj{R W:Nat}{g:Nat->Nat->Nat}:∀r∈AQ R W g,r.length=W:=λr hr=>by
 obtain⟨i,_,rfl⟩:=Sm.mp hr;rw[zw,R5,T1]
theorem Iq{R W:Nat}{g:Nat->Nat->Nat}{i j:Nat}(hi:i<R)(hj:j<W):at2 (AQ R W g) i j=g i j:=by
 have h1:i<(AQ R W g).length:=by rw[oz];exact hi
 have e0:(AQ R W g)[i]? =some (jL ((Sn W).map (g i))):=by
  unfold AQ;rw[Sj,UA hi];rfl
 have e1:(AQ R W g)[i].cps.toList=(Sn W).map (g i):=by rw[Cd e0 h1,c7]
 have h2:j<(AQ R W g)[i].cps.toList.length:=by rw[e1,R5,T1];exact hj
 rw[Ey h1 h2];have:(AQ R W g)[i].cps.toList[j]? =some (g i j):=by rw[e1,Sj,UA hj];rfl
 exact Cd this h2
theorem CL{R W:Nat}{g:Nat->Nat->Nat}(r1:1<=R)(r5:R<=5)(w1:1<=W)(w5:W<=5)(h:∀i j,i<R->j<W->g i j∈fU):Good (AQ R W g) W:=by
 refine⟨by rw[oz];exact r1,by rw[oz];exact r5,w1,w5,λr hr=>⟨Fj r hr,λc hc=>?_⟩⟩;obtain⟨i,hi,rfl⟩:=Sm.mp hr;rw[c7] at hc;obtain⟨j,hj,rfl⟩:=Sm.mp hc;exact(ot _).trans (Yi (h i j (S7.mp hi) (S7.mp hj)))
theorem sY{bd:List Str}{W i j:Nat}(hg:Brd bd W)(hi:i<bd.length)(hj:j<W):at2 bd i j∈fU:=BE hg (zx (c:=(i,j)) hg ⟨hi,hj⟩)
def eW(bd:List Str)(W:Nat)(some:List Cell)(c:Nat):List Str:=AQ bd.length W λi j=>if (i,j)∈some then c else at2 bd i j
theorem n9{bd:List Str}{W:Nat}(hg:Brd bd W){so:D}{l ks:List Cell}{ds:List D}(hk:e_ [so]=aa (.dct (ks.map keyOf) ds))(hl:ks.length=ds.length)(hm:∀x,x∈ks↔x∈l)(c:Nat):bB [brd bd,so,sg c]=aa (brd (eW bd W l c)):=by
 have h8:=hg.r8;have w8:=hg.w8;have row:∀{i:Nat},i<bd.length->∀{x4 x5:Option Sl},dM tN joinM (dC (.str "")) (aC (bx 0 (eO (dV 6)) bW (GC (cP (d2 (et false) (dV 0) (dV 4))) (dV 3) (ao 2 aO (aC (dV 1) (aC (dV 0) aN))))) aN) [fz (brd bd),fz so,fz (sg c),fz (.dct (ks.map keyOf) ds),x4,x5,fz (.lst ((cT W i).map cD))]=aa (.str (jL ((Sn W).map λj=>if (i,j)∈l then c else at2 bd i j))):=by
  intro i hi x4 x5;have cm:bx 0 (eO (dV 6)) bW (GC (cP (d2 (et false) (dV 0) (dV 4))) (dV 3) (ao 2 aO (aC (dV 1) (aC (dV 0) aN)))) [fz (brd bd),fz so,fz (sg c),fz (.dct (ks.map keyOf) ds),x4,x5,fz (.lst ((cT W i).map cD))]=aa (.lst (((Sn W).map λj=>if (i,j)∈l then c else at2 bd i j).map sg)):=by
   refine b0 (ds:=(cT W i).map cD) rfl ?_ (by simp[cO];omega);unfold cT;rw[SF,SF];refine fw (cD∘λk=>(i,k)) _ _ λj hj=>?_;have hj:=S7.mp hj;have hc:On bd.length W (i,j):=⟨hi,hj⟩
   rw[gW];have e1:cP (d2 (et false) (dV 0) (dV 4)) (fz (cD (i,j))::[fz (brd bd),fz so,fz (sg c),fz (.dct (ks.map keyOf) ds),x4,x5,fz (.lst ((cT W i).map cD))])=aa (decide ((i,j)∈ks)):=eX ((aQ (x:=cD (i,j)) (y:= .dct (ks.map keyOf) ds) rfl rfl).trans (tM hl));have e2:GC (cP (d2 (et false) (dV 0) (dV 4))) (dV 3) (ao 2 aO (aC (dV 1) (aC (dV 0) aN))) (fz (cD (i,j))::[fz (brd bd),fz so,fz (sg c),fz (.dct (ks.map keyOf) ds),x4,x5,fz (.lst ((cT W i).map cD))])=aa (sg (if (i,j)∈l then c else at2 bd i j)):=by
    rw[JS e1];by_cases h:(i,j)∈l
    ·rw[Yg h,Yg (Yi ((hm _).mpr h))];rfl
    ·rw[Yh h,Yh (λz=>h ((hm _).mp (Yk z)))];exact(aq (ds:=[brd bd,cD (i,j)]) rfl rfl).trans (dj hg hc)
   exact(Yo (· >>=λy=>aa (some y)) e2).trans rfl
  show (if tN (.str "") then((aC _ aN) [fz (brd bd),fz so,fz (sg c),fz (.dct (ks.map keyOf) ds),x4,x5,fz (.lst ((cT W i).map cD))]>>=λds=>joinM (.str "") ds) else af)=_;rw[Yg (show tN (.str "")=true from rfl),aJ cm (xs:=[]) rfl,av];exact Fd (by simp;omega)
 have lp:=iG (put:=putN 5) (body:=b_ [5,6] (aA (bF 6 (ao 2 bp (aC (dV 0) (aC (dV 5) aN)))) (ll 4 (dM tN joinM (dC (.str "")) (aC (bx 0 (eO (dV 6)) bW (GC (cP (d2 (et false) (dV 0) (dV 4))) (dV 3) (ao 2 aO (aC (dV 1) (aC (dV 0) aN))))) aN))))) (λ(k:Nat)=>D.int (k:Int)) (λP3=>[fz (brd bd),fz so,fz (sg c),fz (.dct (ks.map keyOf) ds),some (.ow (.lst P3)),none,none]) (λi=>[.str (jL ((Sn W).map λj=>if (i,j)∈l then c else at2 bd i j))]) (B:=100) (Sn bd.length) [] (by
  have:∀l':List Nat,(l'.flatMap λi=>[D.str (jL ((Sn W).map λj=>if (i,j)∈l then c else at2 bd i j))]).length=l'.length:=by
   intro l';induction l' with
   |nil=>rfl
   |cons a l' ih=>rw[T3,Sg,ih,Sd];simp;omega
  rw[Tv,this,T1];omega) λi hi P3 ha=>by
  have hi:=S7.mp hi;refine⟨[fz (brd bd),fz so,fz (sg c),fz (.dct (ks.map keyOf) ds),some (.ow (.lst P3)),fz (.int (i:Int)),none],rfl,?_⟩;refine(bc (Z':=[fz (brd bd),fz so,fz (sg c),fz (.dct (ks.map keyOf) ds),some (.ow (.lst (P3++[.str (jL ((Sn W).map λj=>if (i,j)∈l then c else at2 bd i j))]))),fz (.int (i:Int)),fz (.lst ((cT W i).map cD))]) (aj (Z':=[fz (brd bd),fz so,fz (sg c),fz (.dct (ks.map keyOf) ds),some (.ow (.lst P3)),fz (.int (i:Int)),fz (.lst ((cT W i).map cD))]) ((aR ((aq (ds:=[brd bd, .int (i:Int)]) rfl rfl).trans (gm hg i))).trans rfl) ?_)).trans rfl;show (dM tN joinM _ _ _>>=λd=>if P3.length<lim then aa (Out.nx _) else af)=_;rw[row hi,av,Yg (by rw[cO];rw[Sg] at ha;simp at ha;omega)];rfl
 refine a9 (aj (Z':=[fz (brd bd),fz so,fz (sg c),fz (.dct (ks.map keyOf) ds),none,none,none]) ((aR ((aq (ds:=[so]) rfl rfl).trans hk)).trans rfl) (aj (Z':=[fz (brd bd),fz so,fz (sg c),fz (.dct (ks.map keyOf) ds),some (.ow (.lst [])),none,none]) rfl (aj (c9 (eR (Ga (n:=bd.length) (Io (i:=0) rfl) (by omega)) lp)) (aM ?_))));refine(ck (xs:=[.lst ((Sn bd.length).flatMap λi=>[.str (jL ((Sn W).map λj=>if (i,j)∈l then c else at2 bd i j))])]) rfl).trans ?_;show aa (D.tup _)=aa (D.tup ((eW bd W l c).map D.str));unfold eW AQ;rw[SF];have:∀l':List Nat,(l'.flatMap λi=>[D.str (jL ((Sn W).map λj=>if (i,j)∈l then c else at2 bd i j))])=l'.map (D.str∘λi=>jL ((Sn W).map λj=>if (i,j)∈l then c else at2 bd i j)):=by
  intro l';induction l' with
  |nil=>rfl
  |cons a l' ih=>rw[T3,ih];rfl
 rw[this]
theorem FZ{bd:List Str}{W:Nat}{l:List Cell}{c i j:Nat}(hi:i<bd.length)(hj:j<W):at2 (eW bd W l c) i j=if (i,j)∈l then c else at2 bd i j:=Iq hi hj
theorem gK(bd:List Str)(W:Nat)(l:List Cell)(c:Nat):(eW bd W l c).length=bd.length:=oz ..
theorem jF{bd:List Str}{W:Nat}(hG:Good bd W){l:List Cell}{c:Nat}(hc:c∈fU):Good (eW bd W l c) W:=CL hG.r1 hG.r5 hG.w1 hG.w5 λi j hi hj=>by
 split
 ·exact hc
 ·exact sY hG.brd hi hj
end K1
namespace K1
open PySem L2 L3
section
open Classical
variable{bd:List Str}{W w:Nat}
theorem cE(hw:Ways w){x y:Cell}(hx:On bd.length W x):y∈aF bd W w x↔Cn bd W w x y:=(bH hw hx).mem y
theorem Iu{p:Nat}(h:Cu ⟨#[p]⟩=true):eJ [sg p]=aa .non:=
 lj (e7 (oX (b:=true) (lP ((aq (ds:=[sg p]) rfl rfl).trans ((gc (d:=sg p) trivial).trans (by show aa (D.bl (true&&Cu ⟨#[p]⟩))=_;rw[h];rfl))))) rfl)
theorem pT(hg:Brd bd W)(hw:Ways w){x:Cell}(hx:On bd.length W x){c:Nat}(hc:c∈fU):fb [brd bd,cD x, .int (w:Int),sg c]=aa .non:=
 lj (aj (bV ((aq (ds:=[brd bd]) rfl rfl).trans hg.nb)) (aj (bV ((aq (ds:=[brd bd,cD x]) rfl rfl).trans (hg.nc hx))) (aj (bV ((aq (ds:=[.int (w:Int)]) rfl rfl).trans hw.nw)) (bV ((aq (ds:=[sg c]) rfl rfl).trans (Iu ((ot c).trans (Yi hc))))))))
theorem x_{ks:List Cell}{ps:List (Option Cell)}(hl:ks.length<4000):e_ [fm ks ps]=aa (tQ ks):=by
 have e:∀(xs t:List Cell),t.length+xs.length<4000->forL (putN 2) (b_ [2] (dR 1 (dV 2) (dC (.bl true)))) (xs.map cD) [fz (fm ks ps),some (.ow (.dct (t.map keyOf) (trues t))),none]=aa (.nx [fz (fm ks ps),some (.ow (.dct ((xs.foldl bG t).map keyOf) (trues (xs.foldl bG t)))),none]):=by
  intro xs;induction xs with
  |nil=>intro t _;rfl
  |cons x xs ih=>
   intro t hk;rw[Sd] at hk;have hle:(bG t x).length<=t.length+1:=by unfold bG;split<;>simp
   refine(cM (Z1:=[fz (fm ks ps),some (.ow (.dct (t.map keyOf) (trues t))),fz (cD x)]) (Z2:=[fz (fm ks ps),some (.ow (.dct ((bG t x).map keyOf) (trues (bG t x)))),none]) rfl ?_).trans (ih (bG t x) (by omega));refine(bc (Z':=[fz (fm ks ps),some (.ow (.dct ((bG t x).map keyOf) (trues (bG t x)))),fz (cD x)]) ?_).trans rfl;show (match hX (.dct (t.map keyOf) (trues t)) (cD x) (.bl true) with | some c'=>aa (Out.nx [fz (fm ks ps),some (.ow c'),fz (cD x)]) | none=>af)=_;rw[wC (by rw[cO];omega)]
 refine a9 (aj (Z':=[fz (fm ks ps),some (.ow (.dct [] [])),none]) rfl (aj (Z':=[fz (fm ks ps),some (.ow (.dct ((bD ks).map keyOf) (trues (bD ks)))),none]) (c9 (eR (ds:=ks.map cD) ?_ (e ks [] (by simpa using hl)))) rfl));show fM (fm ks ps)=_;exact AG
theorem z4(hg:Brd bd W)(hw:Ways w){x:Cell}(hx:On bd.length W x){δ1 δ2 δ3 δ4:DE}{Z:aU}{c:Nat}(h1:δ1 Z=aa (brd bd))(h2:δ2 Z=aa (cD x))(h3:δ3 Z=aa (.int (w:Int)))(h4:δ4 Z=aa (sg c)):
 ao 3 bB (aC δ1 (aC (ao 3 a7 (aC δ1 (aC δ2 (aC δ3 aN)))) (aC δ4 aN))) Z=aa (brd (eW bd W (aF bd W w x) c)):=by
 have hm:bd.length*W<=64:=Ub hg.r8 hg.w8;obtain⟨k,ks,ps,q1,q2,q3⟩:=jj hg hw hx;have OW:=og q1.nd q2;refine(aq (ds:=[brd bd,fm ks ps,sg c]) (aJ h1 (aJ ((aq (ds:=[brd bd,cD x, .int (w:Int)]) (aJ h1 (aJ h2 (aJ h3 rfl))) rfl).trans q3) (aJ h4 rfl))) rfl).trans ?_;exact n9 hg (x_ (by omega)) (by simp[trues]) (λy=>jB.trans ((q1.last y).trans (cE hw hx).symm)) c
theorem nh(hg:Brd bd W)(hw:Ways w){x:Cell}(hx:On bd.length W x){c:Nat}(hc:c∈fU):cK [brd bd,cD x, .int (w:Int),sg c]=aa (brd (eW bd W (aF bd W w x) c)):=
 a9 (aj (bV ((aq (ds:=[brd bd,cD x, .int (w:Int),sg c]) rfl rfl).trans (pT hg hw hx hc))) (aM (z4 hg hw hx rfl rfl rfl rfl)))
noncomputable def aB(W w:Nat):List Str->List Nat->List Str
 |b,[]=>b
 |b,c::cs=>aB W w (eW b W (aF b W w (0,0)) c) cs
theorem dZ(hg:Brd bd W):On bd.length W (0,0):=⟨hg.r1,hg.w1⟩
theorem ya{cs:List Nat}(h:∀c∈cs,c∈fU)(hl:cs.length<=4096):d4 [.lst (cs.map sg)]=aa .non:=by
 refine lj (e7 (GF (p:=false) (q:=false) (oX (b:=true) (lP rfl)) (oX (b:=true) (lP ((BF (enc:=sg) (xs:=cs) (g:=λ_=>true) (Mk rfl) (λc hc=>?_) hl).trans ?_)))) rfl)
 ·refine(aq (ds:=[sg c]) rfl rfl).trans ((gc (d:=sg c) trivial).trans ?_);show aa (D.bl (true&&Cu ⟨#[c]⟩))=_;rw[(ot c).trans (Yi (h c hc))];rfl
 ·rw[SA.mpr λ_ _=>rfl]
theorem fO(hG:Good bd W)(hw:Ways w){cs:List Nat}(h:∀c∈cs,c∈fU)(hl:cs.length<=4096):ay [brd bd, .int (w:Int), .lst (cs.map sg)]=aa (brd (aB W w bd cs)):=by
 have hg:=hG.brd;have lp:∀(l:List Nat) (b:List Str),Good b W->(∀c∈l,c∈fU)->forL (putN 4) (b_ [4] (bF 3 (ao 3 bB (aC (dV 3) (aC (ao 3 a7 (aC (dV 3) (aC (dA cB (aC (dC (.int 0)) (aC (dC (.int 0)) aN))) (aC (dV 1) aN)))) (aC (dV 4) aN)))))) (l.map sg) [fz (brd bd),fz (.int (w:Int)),fz (.lst (cs.map sg)),fz (brd b),none]=aa (.nx [fz (brd bd),fz (.int (w:Int)),fz (.lst (cs.map sg)),fz (brd (aB W w b l)),none]):=by
  intro l;induction l with
  |nil=>intro b _ _;rfl
  |cons c l ih=>
   intro b hb hc;refine(cM (Z1:=[fz (brd bd),fz (.int (w:Int)),fz (.lst (cs.map sg)),fz (brd b),fz (sg c)]) (Z2:=[fz (brd bd),fz (.int (w:Int)),fz (.lst (cs.map sg)),fz (brd (eW b W (aF b W w (0,0)) c)),none]) rfl ((bc (aR (z4 hb.brd hw (dZ hb.brd) rfl rfl rfl rfl))).trans rfl)).trans (ih _ (jF hb (hc c (R1 ..))) λz hz=>hc z (R4 _ hz))
 refine a9 (aj (bV ((aq (ds:=[brd bd]) rfl rfl).trans hg.nb)) (aj (bV ((aq (ds:=[.int (w:Int)]) rfl rfl).trans hw.nw)) (aj (bV ((aq (ds:=[.lst (cs.map sg)]) rfl rfl).trans (ya h hl))) (aj (Z':=[fz (brd bd),fz (.int (w:Int)),fz (.lst (cs.map sg)),fz (brd bd),none]) rfl (aj (c9 (eR (Mk rfl) (lp cs bd hG h))) rfl)))))
end
theorem gN{A B:List Nat}(h1:A.Pairwise (· < ·))(h2:B.Pairwise (· < ·))(h:∀m,m∈A↔m∈B):A=B:=by
 have n1:A.Nodup:=h1.imp λgk=>SH gk;have e:=(mw n1 h1 λ_=>VO).symm.trans (mw n1 h2 h);exact(List.map_inj_right λa b h=>by omega).mp e
section
variable{bd:List Str}{W w:Nat}{f:Cell->Nat}{l:NT}
noncomputable def dU(bd:List Str)(W w:Nat):List Nat:=(aI bd W w).map λP=>lt bd (P.headD (0,0))
theorem du:(dU bd W w).length=(aI bd W w).length:=by unfold dU;rw[R5]
theorem yI(hw:Ways w)(hf:NumF bd W w f){x:Cell}(hx:On bd.length W x):(dU bd W w).getD (f x) 0=lt bd x:=by
 obtain⟨P,h1,h2⟩:=hf x hx;obtain⟨m,e1,rfl⟩:=dQ h1;have hm:=iR e1;obtain⟨r,hr⟩:=j9 hw hm;unfold dU;rw[Ss,Sj,h1,hr];show lt bd m=lt bd x;exact((((bH hw (cH hm)).mem x).mp h2).letter hw).symm
theorem tX(hw:Ways w)(hf:NumF bd W w f){n:Nat}(hn:n<(aI bd W w).length):∃x,On bd.length W x/\f x=n:=by
 obtain⟨m,e1,e2⟩:=dQ (R6 hn);have hm:=iR e1;have ho:=cH hm;obtain⟨r,hr⟩:=j9 hw hm;obtain⟨P,h1,h2⟩:=hf m ho;have h3:(aI bd W w)[n]? =some (m::r):=by rw[R6 hn,e2,hr]
 exact⟨m,ho,tL hw h1 h3 h2 R1⟩
open Classical in
theorem C2(hg:Brd bd W)(hw:Ways w)(hf:NumF bd W w f):f (0,0)=0:=by
 have h0:=dZ hg;have hl:Least bd W w (0,0) (0,0):=⟨Cn.refl,λz _=>by unfold rank;rw[Nat.zero_mul];exact SM _⟩
 obtain⟨P,h1,h2⟩:=hf _ h0;obtain⟨m,e1,rfl⟩:=dQ h1;have hm:=iR e1;have Na:m=(0,0):=(pC hw hm h2).one hw h0 hl;subst Na;have:(cg bd W w (a6 bd.length W))[0]? =some (0,0):=by
  have hc:∃r,a6 bd.length W=(0,0)::r:=by
   obtain⟨R,hR⟩:∃R,bd.length=R+1:=⟨bd.length - 1,by have:=hg.r1;omega⟩
   obtain⟨V,hV⟩:∃V,W=V+1:=⟨W - 1,by have:=hg.w1;omega⟩
   rw[hR,hV];unfold a6 cT;rw[Uc (n:=R),T3,Uc (n:=V),Sa];exact⟨_,rfl⟩
  obtain⟨r,hr⟩:=hc;rw[hr];unfold cg;rw[Xd (by rw[Yj];exact hl)];rfl
 exact vV e1 this
theorem kg(W w:Nat):∀(s:List Nat) (b:List Str) (c:Nat),aB W w b (s++[c])=eW (aB W w b s) W (aF (aB W w b s) W w (0,0)) c
 |[],b,c=>rfl
 |x::s,b,c=>kg W w s _ c
theorem c5(hG:Good bd W):∀(s:List Nat),(∀c∈s,c∈fU)->Good (aB W w bd s) W/\(aB W w bd s).length=bd.length:=λs=>by
 revert hG bd;induction s with
 |nil=>exact λhG _=>⟨hG,rfl⟩
 |cons c s ih=>
  intro bd hG hc;obtain⟨h1,h2⟩:=ih (jF hG (hc c R1)) λz hz=>hc z (R4 _ hz);exact⟨h1,h2.trans (gK ..)⟩
theorem hJ{P:List Cell}{c:Nat}{x:Cell}(hx:On bd.length W x):lt (eW bd W P c) x=if x∈P then c else lt bd x:=FZ hx.1 hx.2
abbrev LR(bd:List Str)(W w:Nat)(f:Cell->Nat)(l:NT):Prop:=NrS (λn=>∃x,On bd.length W x/\f x=n) (Ad bd.length W w f) l
theorem ky(hg:Brd bd W)(hs:bd.length*W<64)(hw:Ways w)(s:List Nat):JM (dU bd W w) (St l (dU bd W w) s)/\0∈St l (dU bd W w) s:=by
 have h0:0<(dU bd W w).length:=by
  rw[du];obtain⟨P,hP,_⟩:=qd hg hw (dZ hg);exact Vy hP
 rcases US s with rfl | ⟨u,c,rfl⟩
 ·exact⟨⟨Xb ..,λm hm=>by cases Sw.mp hm;exact h0⟩,Sw.mpr rfl⟩
 ·rw[UT,kz];exact⟨zX c _,eL.mpr ⟨h0, .inl (ky hg hs hw u).2⟩⟩
termination_by s.length
decreasing_by all_goals simp_all
theorem Bz(hG:Good bd W)(hs:bd.length*W<64)(hw:Ways w)(hf:NumF bd W w f)(hl:LR bd W w f l):∀(n:Nat) (s:List Nat),s.length=n->(∀c∈s,c∈fU)->
 (∀x,On bd.length W x->(Cn (aB W w bd s) W w (0,0) x↔f x∈St l (dU bd W w) s))/\∀x,On bd.length W x->f x∉St l (dU bd W w) s->lt (aB W w bd s) x=lt bd x
 |0,s,hn,_=>by
  cases TB.mp hn;have hg:=hG.brd;refine⟨λx hx=>?_,λx _ _=>rfl⟩;show Cn bd W w (0,0) x↔f x∈[0];rw[Sw,<-hf.cn hw (dZ hg) hx,C2 hg hw hf];exact eq_comm
 |n+1,s,hn,hc=>by
  rcases US s with rfl | ⟨u,c,rfl⟩
  ·simp at hn
  rw[UT] at*;have hg:=hG.brd;have ON:∀z∈u,z∈fU:=λz hz=>hc z (Tq _ hz);obtain⟨KJ,Rm⟩:=Bz hG hs hw hf hl n u (by simpa using hn) ON;obtain⟨gb,lb⟩:=c5 (w:=w) hG u ON;obtain⟨⟨_,uM⟩,rf⟩:=ky (l:=l) hg hs hw u;have Oz:=(c5 (w:=w) hG (u++[c]) hc)
  rw[kg] at Oz⊢;rw[kz];have Ej:=dZ hg;have zm:∀x,On bd.length W x->(x∈aF (aB W w bd u) W w (0,0)↔f x∈St l (dU bd W w) u):=λx hx=>(cE hw (by rw[lb];exact Ej)).trans (KJ x hx);have L1:∀x,On bd.length W x->f x∈St l (dU bd W w) u->lt (eW (aB W w bd u) W (aF (aB W w bd u) W w (0,0)) c) x=c:=λx hx h=>by
   rw[hJ (by rw[lb];exact hx),Yg ((zm x hx).mpr h)]
  have L2:∀x,On bd.length W x->f x∉St l (dU bd W w) u->lt (eW (aB W w bd u) W (aF (aB W w bd u) W w (0,0)) c) x=lt bd x:=λx hx h=>by
   rw[hJ (by rw[lb];exact hx),Yh λz=>h ((zm x hx).mp z),Rm x hx h]
  generalize L7:eW (aB W w bd u) W (aF (aB W w bd u) W w (0,0)) c=b' at*;have Rp:b'.length=bd.length:=Oz.2;generalize hT:St l (dU bd W w) u=T at*;have Pn:∀{x},On b'.length W x↔On bd.length W x:=λ{x}=>by rw[Rp]
  have fx:∀x,On bd.length W x->f x<(dU bd W w).length:=λx hx=>by rw[du];exact hf.lt hx
  have CK:∀{x y},On bd.length W x->mU w y x=true->lt b' x=lt b' y->x∈a_ b' W w y:=λhx h1 h2=>(bT hw).mpr ⟨Pn.mpr hx,h1,h2⟩;have keep:∀(j:Nat) (x:Cell),Rb (a_ (aB W w bd u) W w) (0,0) j x->Cn b' W w (0,0) x:=by
   intro j;induction j with
   |zero=>exact λx r=>by cases (show x=_ from r);exact Cn.refl
   |succ j ih=>
    intro x r;rcases r with r | ⟨y,r,q⟩
    ·exact ih x r
    ·have hy:=(sy hw (by rw[lb];exact Ej) r)
     rw[lb] at hy;obtain⟨q1,q2,q3⟩:=(bT hw).mp q;rw[lb] at q1;refine(ih y r).step (CK q1 q2 ?_);rw[L1 y hy ((KJ y hy).mp ⟨j,r⟩),L1 x q1 ((KJ x q1).mp ⟨j+1, .inr ⟨y,r,q⟩⟩)]
  refine⟨λx hx=>⟨λ⟨j,r⟩=>?_,λh=>?_⟩,λx hx h=>L2 x hx λz=>h (eL.mpr ⟨fx x hx, .inl z⟩)⟩
  ·have:∀(j:Nat) (x:Cell),Rb (a_ b' W w) (0,0) j x->On bd.length W x/\f x∈qQ l (dU bd W w) c T/\lt b' x=c:=by
    intro j;induction j with
    |zero=>
     intro x r;cases (show x=_ from r);have z:f (0,0)∈T:=by rw[C2 hg hw hf];exact rf
     exact⟨Ej,eL.mpr ⟨fx _ Ej, .inl z⟩,L1 _ Ej z⟩
    |succ j ih=>
     intro x r;rcases r with r | ⟨y,r,q⟩
     ·exact ih x r
     ·obtain⟨hy,y1,y2⟩:=ih y r;obtain⟨q1,q2,q3⟩:=(bT hw).mp q;have q1:=Pn.mp q1;refine⟨q1,?_,q3.trans y2⟩;by_cases HV:f x∈T
      ·exact eL.mpr ⟨fx x q1, .inl HV⟩
      ·have lx:lt bd x=c:=(L2 x q1 HV).symm.trans (q3.trans y2);by_cases Ny:f y∈T
       ·have eK:f y≠f x:=λz=>HV (z▸Ny);exact eL.mpr ⟨fx x q1, .inr ⟨f y,Ny,(hl.mem ⟨y,hy,rfl⟩).mpr ⟨eK,y,x,⟨hy,q1,q2⟩,rfl,rfl⟩,(yI hw hf q1).trans lx⟩⟩
       ·have ly:lt bd y=c:=(L2 y hy Ny).symm.trans y2;have:f y=f x:=(hf.cn hw hy q1).mpr (Cn.refl.step ((bT hw).mpr ⟨q1,q2,lx.trans ly.symm⟩));rw[<-this];exact y1
   exact(this j x r).2.1
  ·obtain⟨_,h⟩:=eL.mp h;by_cases HV:f x∈T
   ·obtain⟨j,r⟩:=(KJ x hx).mpr HV;exact keep j x r
   ·obtain⟨n',Ks,h1,h2⟩:=h.resolve_left HV;obtain⟨y0,Rg,Nw⟩:∃y,On bd.length W y/\f y=n':=tX hw hf (by rw[<-du];exact uM n' Ks);obtain⟨eK,y,z,⟨hy,hz,Rh⟩,e1,e2⟩:=(hl.mem ⟨y0,Rg,Nw⟩).mp h1;obtain⟨j,r⟩:=(KJ y hy).mpr (by rw[e1];exact Ks);have NA:f z∉T:=by rw[e2];exact HV
    have lz:lt b' z=c:=by rw[L2 z hz NA,<-yI hw hf hz,e2];exact h2
    have cz:Cn b' W w (0,0) z:=(keep j y r).step (CK hz Rh (by rw[lz,L1 y hy (by rw[e1];exact Ks)]));obtain⟨i,ri⟩:=(hf.cn hw hz hx).mp e2;have:∀(i:Nat) (x:Cell),Rb (a_ bd W w) z i x->Cn b' W w z x:=by
     intro i;induction i with
     |zero=>exact λx r=>by cases (show x=_ from r);exact Cn.refl
     |succ i ih=>
      intro x r;rcases r with r | ⟨v,r,q⟩
      ·exact ih x r
      ·have hv:=sy hw hz r;obtain⟨q1,q2,q3⟩:=(bT hw).mp q;have fv:f v∉T:=by rw[<-(hf.cn hw hz hv).mpr ⟨i,r⟩];exact NA
       have P6:f x∉T:=by rw[<-(hf.cn hw hz q1).mpr ⟨i+1, .inr ⟨v,r,q⟩⟩];exact NA
       exact(ih v r).step (CK q1 q2 (by rw[L2 x q1 P6,L2 v hv fv];exact q3))
    exact cz.trans (this i x ri)
def Un(b:List Str)(W:Nat):Prop:=∀x y,On b.length W x->On b.length W y->lt b x=lt b y
theorem lR(hw:Ways w)(hu:Un bd W){a:Cell}(ha:On bd.length W a):∀{j:Nat}{x:Cell},Rr (Nx bd.length W w) a j x->Cn bd W w a x
 |0,x,r=>by cases (show x=_ from r);exact Cn.refl
 |j+1,x, .inl r=>lR hw hu ha r
 |j+1,x, .inr ⟨y,r,e⟩=>(lR hw hu ha r).step ((bT hw).mpr ⟨e.2.1,e.2.2,hu _ _ e.2.1 e.1⟩)
theorem Ec(hG:Good bd W)(hs:bd.length*W<64)(hw:Ways w)(hf:NumF bd W w f)(hl:LR bd W w f l){s:List Nat}(hc:∀c∈s,c∈fU):Un (aB W w bd s) W↔St l (dU bd W w) s=Sn (dU bd W w).length:=by
 obtain⟨h1,h2⟩:=Bz hG hs hw hf hl _ s rfl hc;obtain⟨gb,lb⟩:=c5 (w:=w) hG s hc;obtain⟨⟨Lz,uM⟩,rf⟩:=ky (l:=l) hG.brd hs hw s;have Ej:=dZ hG.brd;constructor
 ·intro hu;refine gN Lz Xn λm=>⟨λhm=>S7.mpr (uM m hm),λhm=>?_⟩
  obtain⟨x,hx,rfl⟩:=tX hw hf (by rw[<-du];exact S7.mp hm);exact(h1 x hx).mp (lR hw hu (by rw[lb];exact Ej) (GO hw (by rw[lb];exact Ej) (by rw[lb];exact hx)).1)
 ·intro e x y hx hy;rw[lb] at hx hy;have q:∀x,On bd.length W x->lt (aB W w bd s) x=lt (aB W w bd s) (0,0):=λx hx=>((h1 x hx).mpr (by rw[e,S7,du];exact hf.lt hx)).letter hw;rw[q x hx,q y hy]
theorem BS{R:Nat}{p:Cell->Prop}{a:Cell}(ha:p a):∀{j:Nat}{x:Cell},Rr (Nx R W w) a j x->¬p x->∃y z,Nx R W w y z/\p y/\¬p z
 |0,x,r,h=>Ym (by cases (show x=_ from r);exact ha) h
 |j+1,x, .inl r,h=>BS ha r h
 |j+1,x, .inr ⟨y,r,e⟩,h=>by
  by_cases q:p y
  ·exact⟨y,x,e,q,h⟩
  ·exact BS ha r q
theorem yX(hG:Good bd W)(hs:bd.length*W<64)(hw:Ways w)(hf:NumF bd W w f)(hl:LR bd W w f l)(s:List Nat)(eK:St l (dU bd W w) s≠Sn (dU bd W w).length):∃c∈fU,(St l (dU bd W w) s).length+1<=(St l (dU bd W w) (s++[c])).length:=by
 obtain⟨⟨Lz,uM⟩,rf⟩:=ky (l:=l) hG.brd hs hw s;have Ej:=dZ hG.brd;obtain⟨n,hn,QI⟩:∃n,n<(dU bd W w).length/\n∉St l (dU bd W w) s:=by
  apply Um;intro xT;exact eK (gN Lz Xn λm=>⟨λhm=>S7.mpr (uM m hm),λhm=>Um λz=>xT ⟨m,S7.mp hm,z⟩⟩)
 obtain⟨x,hx,rfl⟩:=tX hw hf (by rw[<-du];exact hn);obtain⟨y,z,e,hy,hz⟩:=BS (p:=λv=>f v∈St l (dU bd W w) s) (by rw[C2 hG.brd hw hf];exact rf) (GO hw Ej hx).1 QI;have Rk:f z<(dU bd W w).length:=by rw[du];exact hf.lt e.2.1
 refine⟨lt bd z,sY hG.brd e.2.1.1 e.2.1.2,?_⟩;rw[kz];have nd:(f z::St l (dU bd W w) s).Nodup:=S2.mpr ⟨hz,Lz.imp λh=>SH h⟩;refine cZ (U:=qQ l (dU bd W w) (lt bd z) (St l (dU bd W w) s)) nd λm hm=>?_;rcases Sf.mp hm with rfl | hm
 ·exact eL.mpr ⟨Rk, .inr ⟨f y,hy,(hl.mem ⟨y,e.1,rfl⟩).mpr ⟨λq=>hz (q▸hy),y,z,e,rfl,rfl⟩,yI hw hf e.2.1⟩⟩
 ·exact eL.mpr ⟨uM m hm, .inl hm⟩
theorem yW(hG:Good bd W)(hs:bd.length*W<64)(hw:Ways w)(hf:NumF bd W w f)(hl:LR bd W w f l):∀(n:Nat) (s:List Nat),(∀c∈s,c∈fU)->(dU bd W w).length<=(St l (dU bd W w) s).length+n->∃t,(∀c∈t,c∈fU)/\St l (dU bd W w) t=Sn (dU bd W w).length/\t.length<=s.length+n
 |0,s,hc,h=>by
  obtain⟨⟨Lz,uM⟩,rf⟩:=ky (l:=l) hG.brd hs hw s;refine⟨s,hc,Um λeK=>?_,R_ _⟩;obtain⟨c,hc,h2⟩:=yX hG hs hw hf hl s eK;obtain⟨⟨t0,t1⟩,_⟩:=ky (l:=l) hG.brd hs hw (s++[c]);have:=cZ (U:=Sn (dU bd W w).length) (t0.imp λh=>SH h) λm hm=>S7.mpr (t1 m hm);rw[T1] at this;omega
 |n+1,s,hc,h=>by
  by_cases eK:St l (dU bd W w) s=Sn (dU bd W w).length
  ·exact⟨s,hc,eK,by omega⟩
  ·obtain⟨c,EY,h2⟩:=yX hG hs hw hf hl s eK;obtain⟨t,t1,t2,t3⟩:=yW hG hs hw hf hl n (s++[c]) (λz hz=>(SD.mp hz).elim (hc z) λq=>by cases Sw.mp q;exact EY) (by omega);exact⟨t,t1,t2,by rw[Sg] at t3;simp at t3;omega⟩
end
end K1
namespace K1
open PySem L2 L3 HT
theorem lN(x:Str)(c:Nat):∀(n a:Nat) (st:Array Nat×Nat),a+n<=x.length+1->st.snd<=a->st.fst.size<=a->
 (forIn (SQ a n) st (XU x ⟨#[c]⟩ x.length (x.length+1))).run.fst.size=st.fst.size+((SQ a n).filter λi=>decide (x.cps.toList[i]? =some c)).length
 |0,a,st,_,_,_=>rfl
 |n+1,a,st,h1,h2,h3=>by
  rw[Ux,VG,UX];have key:=StrLaws.subAt_one x c a;unfold XU;by_cases hc:x.cps.toList[a]? =some c
  ·have k:=key.mpr hc;rw[Yg ⟨⟨⟨by omega,h2⟩,k.1⟩,k.2⟩,Yg (Yi hc)];have ih:=lN x c n (a+1) (st.fst.push a,a+(⟨#[c]⟩:Str).length) (by omega) (R_ _) (by simp;omega);refine Eq.trans ih ?_;simp;omega
  ·rw[Yh (λz=>hc (key.mp ⟨z.1.2,z.2⟩)),Yh (by simpa using hc)];exact lN x c n (a+1) (st.fst,st.snd) (by omega) (by show st.snd<=a+1;omega) (by show st.fst.size<=a+1;omega)
theorem tu(c:Nat):∀l:List Nat,((Sn (l.length+1)).filter λi=>decide (l[i]? =some c)).length=l.count c
 |[]=>by simp[List.range_succ]
 |a::l=>by
  rw[Sd,Uc,UX,WH];have e:((λi=>decide ((a::l)[i]? =some c))∘Nat.succ)=λi=>decide (l[i]? =some c):=by
   funext i;simp
  rw[e];by_cases h:a=c
  ·subst h;simp only[SR,decide_true,if_true,Sd,R5,tu a l,List.count_cons_self]
  ·have h':¬(a==c)=true:=by simpa using h
   simp only[SR,Option.some.injEq,h,decide_false,S8,if_false,R5,tu c l];rw[List.count_cons_of_ne h]
theorem EB(x:Str)(c:Nat):(Tc x ⟨#[c]⟩ 0 x.length (x.length+1)).length=x.cps.toList.count c:=by
 have k:=lN x c (x.length+1 - 0) 0 (#[],0) (by omega) (R_ _) (R_ _);rw[StrLaws.occ_eq,Sr,k,<-tu c x.cps.toList];show 0+_=_;rw[VJ,Sr,VS];rfl
def vR(s:List Nat):List Nat:=fU.filter λc=>decide (c∈s)
def K9(s:List Nat)(c:Nat):D:= .tup [sg c, .int (s.count c:Int)]
theorem vm{α:Type}{f:D->M (Option D)}(enc:α->D)(p:α->Bool)(g:α->D):∀(xs:List α),(∀x∈xs,f (enc x)=aa (if p x then some (g x) else none))->dh f (xs.map enc)=aa ((xs.filter p).map g)
 |[],_=>rfl
 |x::xs,h=>by
  rw[Sa,el,h x (R1 ..),av,vm enc p g xs λy hy=>h y (R4 _ hy),UX];cases p x<;>rfl
theorem vS{bd:List Str}{W:Nat}(hg:Brd bd W):bS [brd bd]=aa (.lst ((vR (dW bd)).map (K9 (dW bd)))):=by
 refine a9 (aj (Z':=[fz (brd bd),none]) (bV ((aq (ds:=[brd bd]) rfl rfl).trans hg.nb)) (aj (Z':=[fz (brd bd),fz (.str (jL (dW bd)))]) ((aR (Fc hg (i:=0) rfl)).trans rfl) (aM ?_)));refine b0 (ds:=fU.map sg) rfl (vm sg (λc=>decide (c∈dW bd)) (K9 (dW bd)) fU λc _=>?_) ?_
 ·rw[BR];have e1:cP (d2 (qS false) (dV 0) (dV 2)) [fz (sg c),fz (brd bd),fz (.str (jL (dW bd)))]=aa (decide (c∈dW bd)):=eX ((aQ (x:=sg c) (y:= .str (jL (dW bd))) rfl rfl).trans (HZ _ _ false));have e2:dA cB (aC (dV 0) (aC (dM tN vk (dV 2) (aC (dV 0) aN)) aN)) [fz (sg c),fz (brd bd),fz (.str (jL (dW bd)))]=aa (K9 (dW bd) c):=by
   have e3:dM tN vk (dV 2) (aC (dV 0) aN) [fz (sg c),fz (brd bd),fz (.str (jL (dW bd)))]=aa (.int ((dW bd).count c:Int)):=by
    show aa (D.int ((BQ (jL (dW bd)) ⟨#[c]⟩:Nat):Int))=_;unfold BQ;rw[EB,c7]
   exact(ck (aJ (x:=sg c) rfl (aJ (xs:=[]) e3 rfl))).trans rfl
  rw[e1,e2];cases decide (c∈dW bd)<;>rfl
 ·rw[R5,cO];exact Sy (Uj ..) (by decide)
section
variable{bd:List Str}{W w:Nat}
theorem Gh(hg:Brd bd W)(hw:Ways w){Z:aU}(h0:Z[0]? =some (fz (brd bd)))(h2:Z[2]? =some (fz (.lst ((aI bd W w).map cL))))(hl:(aI bd W w).length<=64):
 bx 0 (eO (dV 2)) bW (ao 2 aO (aC (dV 1) (aC (d2 iI (dV 0) (dC (.int 0))) aN))) Z=aa (.lst ((dU bd W w).map sg)):=by
 have e:(dU bd W w).map sg=(aI bd W w).map λP=>sg (lt bd (P.headD (0,0))):=by unfold dU;rw[SF];rfl
 rw[e];refine b0 (ds:=(aI bd W w).map cL) (Mk h2) (fw cL (λP=>sg (lt bd (P.headD (0,0)))) _ λP hP=>?_) (by rw[R5,cO];omega);obtain⟨i,hi,rfl⟩:=Uz hP;obtain⟨m,e1,e2⟩:=dQ (R6 hi);have hm:=iR e1;obtain⟨r,hr⟩:=j9 hw hm;rw[e2,hr,gW];have q:ao 2 aO (aC (dV 1) (aC (d2 iI (dV 0) (dC (.int 0))) aN)) (fz (cL (m::r))::Z)=aa (sg (lt bd m)):=
  (aq (ds:=[brd bd,cD m]) (aJ (fC (by rw[Ta];exact h0)) (aJ ((aQ (x:=cL (m::r)) (y:= .int 0) rfl rfl).trans (Cg rfl)) rfl)) rfl).trans (dj hg (cH hm))
 rw[q];rfl
theorem o7(hG:Good bd W)(h3:bd.length<=3)(w3:W<=3)(hw:Ways w):∃s,(∀c∈s,c∈fU)/\Un (aB W w bd s) W/\(∀t,(∀c∈t,c∈fU)->Un (aB W w bd t) W->s.length<=t.length)/\s.length+1<=(aI bd W w).length/\bI [brd bd, .int (w:Int)]=aa (.lst (s.map sg)):=by
 have hg:=hG.brd;have h9:bd.length*W<=9:=Ub h3 w3;have hs:bd.length*W<64:=by omega
 have qK:=j6 (bd:=bd) (W:=W) (w:=w);obtain⟨_,f,hf,_,_⟩:=mT hg hs hw;obtain⟨l,hl,en⟩:=l7 (v:=w) hg hs hw hw hf;have QU:(dU bd W w).length<=9:=by rw[du];omega
 have hP:1<=(dU bd W w).length:=Ug (SM _) ((ky (l:=l) hg hs hw []).1.2 0 (ky (l:=l) hg hs hw []).2);obtain⟨t0,t1,t2,t3⟩:=yW hG hs hw hf hl ((dU bd W w).length - 1) [] (λ_ h=>(nomatch h)) (by show _<=1+_;omega);have Cr:=DK l (dU bd W w) _ t0 rfl t1;rw[t2] at Cr;have hb:∀n m,Ad bd.length W w f n m->m<(dU bd W w).length:=λn m ⟨_,x,y,h,_,e⟩=>by rw[du,<-e];exact hf.lt h.2.1
 have Ek:∀n,n<(dU bd W w).length->∃x,On bd.length W x/\f x=n:=λn hn=>tX hw hf (by rw[<-du];exact hn);have RZ:t0.length<=(dU bd W w).length - 1:=by simpa using t3
 obtain⟨ks,vs,x7,k1,k2,k3⟩:=vH (b:=brd bd) (w:= .int (w:Int)) (fo:= .lst ((aI bd W w).map cL)) hl QU hb Ek (d:=t0.length) (by omega) Cr lim 0 [[0]] [none] [[0]] [[]] (by rw[cO];omega) (SM _) (Rng.zero _ _) (λT hT=>by cases Sw.mp hT;exact(ky (l:=l) hg hs hw []).1) ⟨rfl,λx s h=>by
  have h:x=[0]/\s=[]:=by simpa using h
  rw[h.1,h.2];exact⟨rfl,⟨rfl,λj _=>SM _⟩,λc hc=>(nomatch hc)⟩⟩
 obtain⟨d,d1,PM⟩:=Fe.ix (ds:=vs.map eF) (by rw[R5];exact k2.1) k1;obtain⟨s,rfl,QT⟩:=uZ d1;obtain⟨q1,q2,q3⟩:=k2.2 _ _ QT;have Ck:∀t,(∀c∈t,c∈fU)->Un (aB W w bd t) W->s.length<=t.length:=λt ht hu=>by
  have:=DK l (dU bd W w) _ t rfl ht;rw[(Ec hG hs hw hf hl ht).mp hu] at this;exact q2.2 _ this
 refine⟨s,q3,(Ec hG hs hw hf hl q3).mpr q1,Ck,?_,?_⟩
 ·have:=Ck t0 t1 ((Ec hG hs hw hf hl t1).mpr t2);rw[<-du (bd:=bd) (W:=W) (w:=w)];omega
 ·have MG:dA bq (aC (dV 2) aN) [fz (brd bd),fz (.int (w:Int)),fz (.lst ((aI bd W w).map cL)),fz (eQ (l.map bg)),fz (.lst ((dU bd W w).map sg)),none,none,none,none,none,none,none]=aa (.int ((dU bd W w).length:Int)):=by
   refine(ck (xs:=[.lst ((aI bd W w).map cL)]) rfl).trans ?_;show aa (D.int (((aI bd W w).map cL).length:Int))=_;rw[R5,du]
  have MI:sP (.int ((dU bd W w).length:Int))=aa (nT (Sn (dU bd W w).length)):=by
   show (if 0<=((dU bd W w).length:Int)/\((dU bd W w).length:Int)<=4096 then aa (D.tup ((Sn ((dU bd W w).length:Int).toNat).map λ(i:Nat)=>D.int (i:Int))) else af)=_;rw[Yg ⟨by omega,by omega⟩,Vp];rfl
  refine a9 (aj (bV ((aq (ds:=[brd bd]) rfl rfl).trans hg.nb)) (aj (bV ((aq (ds:=[.int (w:Int)]) rfl rfl).trans hw.nw)) (aj (Z':=[fz (brd bd),fz (.int (w:Int)),fz (.lst ((aI bd W w).map cL)),none,none,none,none,none,none,none,none,none]) ((aR ((aq (ds:=[brd bd, .int (w:Int)]) rfl rfl).trans ((iu hg hs hw).trans (by rw[qe])))).trans rfl)
   (aj (Z':=[fz (brd bd),fz (.int (w:Int)),fz (.lst ((aI bd W w).map cL)),fz (eQ (l.map bg)),none,none,none,none,none,none,none,none]) ((aR ((aq (ds:=[brd bd, .int (w:Int), .lst ((aI bd W w).map cL)]) rfl rfl).trans en)).trans rfl)
   (aj (Z':=[fz (brd bd),fz (.int (w:Int)),fz (.lst ((aI bd W w).map cL)),fz (eQ (l.map bg)),fz (.lst ((dU bd W w).map sg)),none,none,none,none,none,none,none]) ((aR (Gh hg hw rfl rfl (by omega))).trans rfl)
   (aj (Z':=[fz (brd bd),fz (.int (w:Int)),fz (.lst ((aI bd W w).map cL)),fz (eQ (l.map bg)),fz (.lst ((dU bd W w).map sg)),fz (nT (Sn (dU bd W w).length)),none,none,none,none,none,none]) ((aR (show (dA bq (aC (dV 2) aN) _>>=sP)=aa (nT (Sn (dU bd W w).length)) from ?_)).trans rfl)
   (aj (Z':=pR (brd bd) (.int (w:Int)) (.lst ((aI bd W w).map cL)) (eQ (l.map bg)) (dU bd W w) [[0]] [[]] none none none none none) rfl
   (aj (Z':=pR (brd bd) (.int (w:Int)) (.lst ((aI bd W w).map cL)) (eQ (l.map bg)) (dU bd W w) [[0]] [[]] (fz (.lst [nT [0]])) none none none none) rfl
   (aj (c9 k3) (aM ((aQ (x:= .dct (ks.map kT) (vs.map eF)) (y:=nT (Sn (dU bd W w).length)) rfl rfl).trans PM)))))))))))
  rw[MG];exact MI
noncomputable def nL(b:List Str):Nat:=(vR (dW b)).length
theorem Ew(hg:Brd bd W){c:Nat}(h:c∈dW bd):∃x,On bd.length W x/\lt bd x=c:=by
 obtain⟨r,hr,hc⟩:=pH.mp h;obtain⟨i,hi,rfl⟩:=Uz hr;obtain⟨j,hj,rfl⟩:=Uz hc;have hl:(bd[i]).cps.toList.length=W:=by rw[Sr];exact(hg.rows _ (T8 hi)).len
 refine⟨(i,j),⟨hi,by omega⟩,?_⟩;show (bd.getD i ⟨#[]⟩).cps.toList.getD j 0=_;rw[Ss (l:=bd),R6 hi,Vo,Ss,R6 hj];rfl
theorem gy(hg:Brd bd W){c:Nat}:c∈vR (dW bd)↔∃x,On bd.length W x/\lt bd x=c:=by
 unfold vR;rw[Td,Yj];exact⟨λh=>Ew hg h.2,λ⟨x,hx,e⟩=>⟨e▸sY hg hx.1 hx.2,e▸zx hg hx⟩⟩
theorem zC(s:List Nat):(vR s).Nodup:=List.Pairwise.filter _ (show fU.Nodup by decide)
theorem yg(hg:Brd bd W):nL bd=1↔Un bd W:=by
 constructor
 ·intro h x y hx hy;obtain⟨c,hc⟩:=List.length_eq_one_iff.mp h;have h1:=(gy hg).mpr ⟨x,hx,rfl⟩;have h2:=(gy hg).mpr ⟨y,hy,rfl⟩;rw[hc] at h1 h2;rw[Sw.mp h1,Sw.mp h2]
 ·intro hu;have h0:=dZ hg;have a1:=cZ (U:=[lt bd (0,0)]) (zC (dW bd)) λc hc=>by
   obtain⟨x,hx,rfl⟩:=(gy hg).mp hc;exact Sw.mpr (hu _ _ hx h0)
  have a2:=Vy ((gy hg).mpr ⟨_,h0,rfl⟩);have a1:nL bd<=1:=a1;have a2:0<nL bd:=a2;omega
theorem vY(hw:Ways w):∀(s:List Nat) {bd:List Str},Good bd W->(∀c∈s,c∈fU)->nL bd<=nL (aB W w bd s)+s.length
 |[],bd,_,_=>R_ _
 |c::s,bd,hG,hc=>by
  have EY:=hc c R1;have gb:=jF hG EY (l:=aF bd W w (0,0));have ih:=vY hw s gb λz hz=>hc z (R4 _ hz);have h0:=dZ hG.brd;have:=cZ (U:=lt bd (0,0)::vR (dW (eW bd W (aF bd W w (0,0)) c))) (zC (dW bd)) λd hd=>by
   obtain⟨x,hx,rfl⟩:=(gy hG.brd).mp hd;by_cases hp:x∈aF bd W w (0,0)
   ·rw[((cE hw h0).mp hp).letter hw];exact R1
   ·refine R4 _ ((gy gb.brd).mpr ⟨x,by rw[gK];exact hx,?_⟩);rw[hJ hx,Yh hp]
  have:nL bd<=nL (eW bd W (aF bd W w (0,0)) c)+1:=by simpa[nL] using this
  show nL bd<=nL (aB W w (eW bd W (aF bd W w (0,0)) c) s)+(s.length+1);omega
theorem Ip{b b':List Str}(hb:Brd b W)(L7:Brd b' W)(hl:b.length=b'.length)(h:∀x,On b.length W x->lt b x=lt b' x):b=b':=by
 refine Wu hl λi h1 h2=>uX ?_;have r1:(b[i]).cps.toList.length=W:=by rw[Sr];exact(hb.rows _ (T8 h1)).len
 have r2:(b'[i]).cps.toList.length=W:=by rw[Sr];exact(L7.rows _ (T8 h2)).len
 refine Wu (r1.trans r2.symm) λj g1 g2=>?_;have:=h (i,j) ⟨h1,by omega⟩;have e:∀(c:List Str) (hi:i<c.length) (hj:j<(c[i]).cps.toList.length),lt c (i,j)=(c[i]).cps.toList[j]:=λc hi hj=>by
  show (c.getD i ⟨#[]⟩).cps.toList.getD j 0=_;rw[Ss (l:=c),R6 hi,Vo,Ss,R6 hj];rfl
 rw[<-e b h1 g1,<-e b' h2 g2];exact this
theorem Dd(hw:Ways w){c:Nat}{x y:Cell}(hx:On bd.length W x)(h:Cn bd W w x y):Cn (eW bd W (aF bd W w (0,0)) c) W w x y:=by
 obtain⟨j,r⟩:=h;revert y;induction j with
 |zero=>exact λr=>by cases (show _=x from r);exact Cn.refl
 |succ j ih=>
  intro y r;rcases r with r | ⟨z,r,q⟩
  ·exact ih r
  ·have hz:=sy hw hx r;obtain⟨q1,q2,q3⟩:=(bT hw).mp q;refine(ih r).step ((bT hw).mpr ⟨by rw[gK];exact q1,q2,?_⟩);rw[hJ q1,hJ hz];by_cases h0:On bd.length W (0,0)
   ·by_cases hp:z∈aF bd W w (0,0)
    ·rw[Yg hp,Yg ((cE hw h0).mpr (((cE hw h0).mp hp).step q))]
    ·rw[Yh hp,Yh λhy=>hp ((cE hw h0).mpr (((cE hw h0).mp hy).trans (Cn.symm hw hz (Cn.refl.step q)))),q3]
   ·have hn:∀v,v∉aF bd W w (0,0):=λv hv=>by
     have hv:=Td.mp hv;exact h0 ⟨Ug (SM _) hx.1,Ug (SM _) hx.2⟩
    rw[Yh (hn y),Yh (hn z),q3]
open Classical in
theorem AZ(hw:Ways w){c:Nat}:(aI (eW bd W (aF bd W w (0,0)) c) W w).length<=(aI bd W w).length:=by
 unfold aI;rw[R5,R5];unfold cg;rw[gK,<-U4,<-U4];refine List.countP_mono_left λx hx h=>?_;rw[Yj] at h⊢;exact⟨Cn.refl,λz hz=>h.2 z (Dd hw (aX.mp hx) hz)⟩
theorem yw(hG:Good bd W)(hw:Ways w){c:Nat}(hc:c∈fU)(h:lt bd (0,0)=c):eW bd W (aF bd W w (0,0)) c=bd:=by
 refine Ip (jF hG hc).brd hG.brd (gK ..) λx hx=>?_;rw[gK] at hx;rw[hJ hx];split
 ·rename_i hp;rw[((cE hw (dZ hG.brd)).mp hp).letter hw,h]
 ·rfl
theorem Dc(hG:Good bd W)(hw:Ways w)(c:Nat):lt (eW bd W (aF bd W w (0,0)) c) (0,0)=c:=by
 rw[hJ (dZ hG.brd),Yg ((cE hw (dZ hG.brd)).mpr Cn.refl)]
end
section
variable{bd:List Str}{W w:Nat}
theorem vZ{a b:List Str}(h:a=b):lG (brd a) (brd b)=aa (.bl false):=(B3 EG (by decide) a b).trans (by rw[Yi h];rfl)
theorem Fh(hg:Brd bd W){c:Cell}(h:On bd.length W c):dN [brd bd,cD c]=aa (sg (lt bd c)):=
 a9 (aj (bV ((aq (ds:=[brd bd]) rfl rfl).trans hg.nb)) (aj (bV ((aq (ds:=[brd bd,cD c]) rfl rfl).trans (hg.nc h))) (aM ((aq (ds:=[brd bd,cD c]) rfl rfl).trans (dj hg h)))))
theorem Ju(ns:List Int)(hl:ns.length<=63)(k:Nat):∃w,Ways w/\∃v:Int,aG [.scr ns, .int (k:Int), .int 2]=aa (.int v)/\iI (.lst [.int 4, .int 8]) (.int v)=aa (.int (w:Int)):=by
 obtain⟨v,hv,e⟩:=eo ns hl k 2 (by decide)
 match v,hv with
 |0,_=>exact⟨4, .inl rfl,_,e,rfl⟩
 |1,_=>exact⟨8, .inr rfl,_,e,rfl⟩
theorem KS{v:Nat}(h:v<4):∃c∈fU,kE (.str "abcf") (.int (v:Int))=aa (sg c):=by
 match v,h with
 |0,_=>exact⟨97,by decide,rfl⟩
 |1,_=>exact⟨98,by decide,rfl⟩
 |2,_=>exact⟨99,by decide,rfl⟩
 |3,_=>exact⟨102,by decide,rfl⟩
theorem DY:∀{ys:List D},(∀y∈ys,∃c∈fU,y=sg c)->∃cs:List Nat,ys=cs.map sg/\∀c∈cs,c∈fU
 |[],_=>⟨[],rfl,λ_ h=>(nomatch h)⟩
 |y::ys,h=>by
  obtain⟨c,hc,rfl⟩:=h y R1;obtain⟨cs,rfl,h2⟩:=DY λz hz=>h z (R4 _ hz);exact⟨c::cs,rfl,λz hz=>(Sf.mp hz).elim (λe=>e▸hc) (h2 z)⟩
theorem Ir(a b:Nat):L4 (.int (a:Int)) (.int (b:Int))=aa (.bl (decide (b<a))):=by
 show aa (D.bl (decide ((a:Int)>(b:Int))))=_;congr 2;rw[decide_eq_decide];omega
theorem EC{a c:DE}{Z:aU}(h1:a Z=aa (.bl true)):Am a c Z=aa (.bl true):=by
 unfold Am;rw[h1];rfl
theorem Hr(ds:List D)(n:Nat):cutD ds none (some (n:Int))=ds.take n:=by
 unfold cutD;have e2:sIx ds.length ds.length (some (n:Int))=min n ds.length:=by
  show (if (n:Int)<0 then((n:Int)+(ds.length:Int)).toNat else min (n:Int).toNat ds.length)=_;rw[Yh (by omega),Vp]
 rw[e2,show sIx ds.length 0 none=0 from rfl,Xy,WZ,List.take_eq_take_iff];omega
abbrev F9(s:D)(bd:List Str)(w:Nat)(cs:List Nat)(here:List Str)(x5 x6 x7:Option Sl):aU:=[fz s,fz (brd bd),fz (.int (w:Int)),fz (.lst (cs.map sg)),fz (brd here),x5,x6,x7,none,none,none]
def KR:DS:=(b_ [5,6,7] (aA (bF 7 (ao 4 cK (aC (dV 4) (aC (dA cB (aC (dC (.int 0)) (aC (dC (.int 0)) aN))) (aC (dV 2) (aC (dV 6) aN)))))) (aA (fj (cP (d2 lG (ao 3 ay (aC (dV 1) (aC (dV 2) (aC (An (dV 3) oN (oS (d2 dg (dV 5) (dC (.int 1))))) aN)))) (dV 7))) (bj (dC (.bl false))) cb) (aA (fj (cP (d2 lG (ao 2 dN (aC (dV 7) (aC (dA cB (aC (dC (.int 0)) (aC (dC (.int 0)) aN))) aN))) (dV 6))) (bj (dC (.bl false))) cb) (aA (fj (cP (d2 L4 (ao 2 bJ (aC (dV 7) (aC (dV 2) aN))) (ao 2 bJ (aC (dV 4) (aC (dV 2) aN))))) (bj (dC (.bl false))) cb) (aA (fj (cP (d2 lG (ao 3 ay (aC (dV 4) (aC (dV 2) (aC (dA de (aC (dV 6) (aC (dV 6) aN))) aN)))) (dV 7))) (bj (dC (.bl false))) cb) (aA (fj (cP (d2 lG (ao 4 cK (aC (dV 7) (aC (dA cB (aC (dC (.int 0)) (aC (dC (.int 0)) aN))) (aC (dV 2) (aC (dV 6) aN))))) (dV 7))) (bj (dC (.bl false))) cb) (bF 4 (dV 7)))))))))
theorem fS{T:DT}{Z:aU}(h:T Z=aa false):fj T (bj (dC (.bl false))) cb Z=aa (.nx Z):=e7 h rfl
theorem AH(s:D)(hG:Good bd W)(hs:bd.length*W<64)(hw:Ways w){cs t r:List Nat}{c:Nat}(e:cs=t++c::r)(hc:∀z∈cs,z∈fU)(hl:cs.length<=5):
 KR (F9 s bd w cs (aB W w bd t) (fz (.int (t.length:Int))) (fz (sg c)) none)=aa (.nx (F9 s bd w cs (aB W w bd (t++[c])) none none none)):=by
 have OM:∀z∈t,z∈fU:=λz hz=>hc z (by rw[e];exact Tq _ hz);have EY:c∈fU:=hc c (by rw[e];simp);have Kd:∀z∈t++[c],z∈fU:=λz hz=>(SD.mp hz).elim (OM z) λq=>by cases Sw.mp q;exact EY
 have O7:t.length+1<=5:=by rw[e,Sg,Sd] at hl;omega
 obtain⟨gh,lh⟩:=c5 (w:=w) hG t OM;obtain⟨gn,ln⟩:=c5 (w:=w) hG (t++[c]) Kd;have en:=kg W w t bd c;have h0:On (aB W w bd t).length W (0,0):=dZ gh.brd;have OB:On (aB W w bd (t++[c])).length W (0,0):=dZ gn.brd;have l0:lt (aB W w bd (t++[c])) (0,0)=c:=by rw[en];exact Dc gh hw c
 have same:eW (aB W w bd (t++[c])) W (aF (aB W w bd (t++[c])) W w (0,0)) c=aB W w bd (t++[c]):=yw gn hw EY l0;have few:(aI (aB W w bd (t++[c])) W w).length<=(aI (aB W w bd t) W w).length:=by rw[en];exact AZ hw
 have p1:cK [brd (aB W w bd t),cD (0,0), .int (w:Int),sg c]=aa (brd (aB W w bd (t++[c]))):=by rw[en];exact nh gh.brd hw h0 EY
 have p2:cK [brd (aB W w bd (t++[c])),cD (0,0), .int (w:Int),sg c]=aa (brd (aB W w bd (t++[c]))):=(nh gn.brd hw OB EY).trans (by rw[same]);have p3:ay [brd (aB W w bd t), .int (w:Int), .lst [sg c,sg c]]=aa (brd (aB W w bd (t++[c]))):=by
  refine(fO (cs:=[c,c]) gh hw (λz hz=>?_) (by simp)).trans ?_
  ·have:z=c:=by simpa using hz
   rw[this];exact EY
  ·show aa (brd (eW (eW (aB W w bd t) W (aF (aB W w bd t) W w (0,0)) c) W _ c))=_;rw[<-en,same]
 have p4:ay [brd bd, .int (w:Int), .lst ((t++[c]).map sg)]=aa (brd (aB W w bd (t++[c]))):=fO hG hw Kd (by simp;omega);have cut:NX (.lst (cs.map sg)) none (some ((t.length:Int)+1))=aa (.lst ((t++[c]).map sg)):=by
  show aa (D.lst (cutD (cs.map sg) none (some ((t.length:Int)+1))))=_;rw[show ((t.length:Int)+1)=((t.length+1:Nat):Int) from rfl,Hr,<-Xc,e,List.take_append,Vx (X0 _),show t.length+1 - t.length=1 by omega];rfl
 have sz:∀{b:List Str},b.length=bd.length->b.length*W<64:=λh=>by rw[h];exact hs
 refine(bc (Z':=F9 s bd w cs (aB W w bd (t++[c])) (fz (.int (t.length:Int))) (fz (sg c)) (fz (brd (aB W w bd (t++[c]))))) ?_).trans rfl;refine aj (Z':=F9 s bd w cs (aB W w bd t) (fz (.int (t.length:Int))) (fz (sg c)) (fz (brd (aB W w bd (t++[c]))))) ((aR ((aq (ds:=[brd (aB W w bd t),cD (0,0), .int (w:Int),sg c]) rfl rfl).trans p1)).trans rfl) ?_;refine aj (fS (eX ((aQ (x:=brd (aB W w bd (t++[c]))) (y:=brd (aB W w bd (t++[c]))) ((aq (ds:=[brd bd, .int (w:Int), .lst ((t++[c]).map sg)]) (aJ rfl (aJ rfl (aJ cut rfl))) rfl).trans p4) rfl).trans (vZ rfl)))) ?_;refine aj (fS (eX ((aQ (x:=sg c) (y:=sg c) ((aq (ds:=[brd (aB W w bd (t++[c])),cD (0,0)]) rfl rfl).trans ((Fh gn.brd OB).trans (by rw[l0]))) rfl).trans (by
  show lG (.str ⟨#[c]⟩) (.str ⟨#[c]⟩)=_;exact(B3 ze (by decide) _ _).trans (by rw[Yi rfl];rfl))))) ?_
 refine aj (fS (eX ((aQ (x:= .int ((aI (aB W w bd (t++[c])) W w).length:Int)) (y:= .int ((aI (aB W w bd t) W w).length:Int)) ((aq (ds:=[brd (aB W w bd (t++[c])), .int (w:Int)]) rfl rfl).trans (gY gn.brd (sz ln) hw)) ((aq (ds:=[brd (aB W w bd t), .int (w:Int)]) rfl rfl).trans (gY gh.brd (sz lh) hw))).trans ((Ir _ _).trans (by rw[Yl (by omega)]))))) ?_;refine aj (fS (eX ((aQ (x:=brd (aB W w bd (t++[c]))) (y:=brd (aB W w bd (t++[c]))) ((aq (ds:=[brd (aB W w bd t), .int (w:Int), .lst [sg c,sg c]]) rfl rfl).trans p3) rfl).trans (vZ rfl)))) ?_;refine aj (fS (eX ((aQ (x:=brd (aB W w bd (t++[c]))) (y:=brd (aB W w bd (t++[c]))) ((aq (ds:=[brd (aB W w bd (t++[c])),cD (0,0), .int (w:Int),sg c]) rfl rfl).trans p2) rfl).trans (vZ rfl)))) rfl
theorem rW(s:D)(hG:Good bd W)(hs:bd.length*W<64)(hw:Ways w){cs:List Nat}(hc:∀z∈cs,z∈fU)(hl:cs.length<=5):∀(r t:List Nat),cs=t++r->
 forL (sx [5,6]) KR ((r.zipIdx t.length).map λq=>D.tup [.int (q.2:Int),sg q.1]) (F9 s bd w cs (aB W w bd t) none none none)=aa (.nx (F9 s bd w cs (aB W w bd cs) none none none))
 |[],t,e=>by rw[e,TK];rfl
 |c::r,t,e=>by
  rw[List.zipIdx_cons,Sa];refine(cM (Z1:=F9 s bd w cs (aB W w bd t) (fz (.int (t.length:Int))) (fz (sg c)) none) rfl (AH s hG hs hw e hc hl)).trans ?_;have:=rW s hG hs hw hc hl r (t++[c]) (by rw[e];simp);rw[Sg] at this;exact this
theorem EI(cs:List Nat):(cs.map sg).mapIdx (λi d=>D.tup [.int (i:Int),d])=(cs.zipIdx 0).map λq=>D.tup [.int (q.2:Int),sg q.1]:=by
 rw[List.mapIdx_eq_zipIdx_map,List.zipIdx_map,SF];rfl
open PySem.Builtin PySem.Builtin.Str in
theorem yK{x:Str}{n:Nat}:Wh x none (some (n:Int))=jL (x.cps.toList.take n):=by
 by_cases h:n<=x.length
 ·have q:=eq_of_beq (VR (x:=x) (j:=(n:Int)) (by omega) (by omega));rw[q];simp[jL]
 ·have e:Wh x none (some (n:Int))=Wh x none (some (x.length:Int)):=by
   show V6 x _ _=V6 x _ _;have e:strSliceIndices none (some (n:Int)) 1 x.length=strSliceIndices none (some (x.length:Int)) 1 x.length:=by
    have a:¬((x.length:Int)<0):=by omega
    have b:¬((n:Int)<0):=by omega
    have c:min (n:Int) (x.length:Int)=(x.length:Int):=by omega
    simp[strSliceIndices,a,b,c]
   unfold V6;rw[e]
  have q:=eq_of_beq (VR (x:=x) (j:=(x.length:Int)) (by omega) (by omega));have hx:x.cps.toList.length<=n:=by rw[Sr];exact Tr (WB h)
  have Rc:x.cps.toList.length<=((x.length:Int) - 0).toNat:=by rw[Sr];unfold Wo;omega
  rw[e,q,Vx hx,show List.drop (0:Int).toNat x.cps.toList=x.cps.toList from rfl,Vx Rc];rfl
def subB(bd:List Str):List Str:=(bd.take 3).map λr=>jL (r.cps.toList.take 3)
theorem Bg(hG:Good bd W):Good (subB bd) (min W 3)/\(subB bd).length<=3:=by
 have r1:=hG.r1;have w1:=hG.w1;have v6:(subB bd).length=min 3 bd.length:=by unfold subB;rw[R5,Tz]
 refine⟨⟨by omega,by omega,by omega,by omega,λr hr=>?_⟩,by omega⟩;obtain⟨q,hq,rfl⟩:=Sm.mp hr;have hR:=hG.rows q (VU hq);refine⟨?_,λc hc=>hR.let' c ?_⟩
 ·rw[zw,Tz,Sr];have:=hR.len;unfold Wo at this;omega
 ·rw[c7] at hc;exact VU hc
theorem Gp(bd:List Str){Z:aU}(h5:bd.length<=5)(h1:Z[1]? =some (fz (brd bd))):dA sO (aC (bx 0 (oW (An (dV 1) oN (oS (dC (.int 3))))) bW (An (dV 0) oN (oS (dC (.int 3))))) aN) Z=aa (brd (subB bd)):=by
 have e1:An (dV 1) oN (oS (dC (.int 3))) Z=aa (brd (bd.take 3)):=by
  show (dV 1 Z>>=λd=>NX d none (some 3))=_;rw[fC h1];show aa (D.tup (cutD (bd.map D.str) none (some ((3:Nat):Int))))=_;rw[Hr,<-Xc]
 have e2:bx 0 (oW (An (dV 1) oN (oS (dC (.int 3))))) bW (An (dV 0) oN (oS (dC (.int 3)))) Z=aa (.lst ((subB bd).map D.str)):=by
  have e:(subB bd).map D.str=(bd.take 3).map λr=>D.str (jL (r.cps.toList.take 3)):=by unfold subB;rw[SF];rfl
  rw[e];refine b0 (ds:=(bd.take 3).map D.str) (by show (An _ _ _ Z>>=LM)=_;rw[e1];rfl) (fw D.str (λr=>D.str (jL (r.cps.toList.take 3))) _ λr _=>?_) (by rw[R5,Tz,cO];omega);rw[gW];show (aa (D.str (Wh r none (some ((3:Nat):Int))))>>=_)=_;rw[yK];rfl
 exact(ck (xs:=[.lst ((subB bd).map D.str)]) (aJ e2 rfl)).trans rfl
theorem kJ{b:List Str}{V:Nat}(hb:Brd b V){δ:DE}{Z:aU}(h:δ Z=aa (brd b)):dA bq (aC (ao 1 bS (aC δ aN)) aN) Z=aa (.int (nL b:Int)):=by
 refine(ck (xs:=[.lst ((vR (dW b)).map (K9 (dW b)))]) (aJ ((aq (ds:=[brd b]) (aJ h rfl) rfl).trans (vS hb)) rfl)).trans ?_;show aa (D.int (((vR (dW b)).map (K9 (dW b))).length:Int))=_;rw[R5];rfl
theorem tR{s:List Nat}{i:Nat}{Z:aU}(h:Z[i]? =some (fz (.lst (s.map sg)))):dA bq (aC (dV i) aN) Z=aa (.int (s.length:Int)):=by
 refine(ck (xs:=[.lst (s.map sg)]) (aJ (fC h) rfl)).trans ?_;show aa (D.int ((s.map sg).length:Int))=_;rw[R5]
theorem xO(s:List Nat):kx (.lst (s.map sg)) (.lst [])=aa (.bl (decide (s=[]))):=by
 cases s<;>rfl
theorem CQ(s:List Nat):lG (.lst (s.map sg)) (.lst [])=aa (.bl (!decide (s=[]))):=by
 cases s<;>rfl
theorem JY(n:Nat):kx (.int (n:Int)) (.int 1)=aa (.bl (decide (n=1))):=by
 show aa (D.bl ((n:Int)==((1:Nat):Int)))=_;rw[kS];rfl
theorem NL(n:Nat):lG (.int (n:Int)) (.int 1)=aa (.bl (!decide (n=1))):=by
 show aa (D.bl (!((n:Int)==((1:Nat):Int))))=_;rw[kS];rfl
theorem CI(ns:List Int)(hl:ns.length<=63):jx [.scr ns]=aa (.bl true):=by
 obtain⟨bd,W,hG,l1,l2,eb⟩:=xE ns hl 0 5 (by decide) (by decide);have hs:bd.length*W<64:=by have:=Ub l1 l2;omega
 obtain⟨w,hw,v,PU,ew⟩:=Ju ns hl 60;obtain⟨n,hn,PV⟩:=eo ns hl 70 6 (by decide);obtain⟨cs,HF,L8,MJ⟩:∃cs:List Nat,(∀c∈cs,c∈fU)/\cs.length<=5/\bx 0 (λZ=>(aC (ao 3 aG (aC (dV 0) (aC (dC (.int 70)) (aC (dC (.int 6)) aN)))) aN) Z>>=iz) bW (d2 kE (dC (.str "abcf")) (ao 3 aG (aC (dV 1) (aC (d2 dg (dC (.int 61)) (dV 0)) (aC (dC (.int 4)) aN))))) [fz (.scr ns),fz (brd bd),fz (.int (w:Int)),none,none,none,none,none,none,none,none]=aa (.lst (cs.map sg)):=by
  obtain⟨ys,y1,y2,y3⟩:=lO (f:=gq 0 bW (d2 kE (dC (.str "abcf")) (ao 3 aG (aC (dV 1) (aC (d2 dg (dC (.int 61)) (dV 0)) (aC (dC (.int 4)) aN))))) [fz (.scr ns),fz (brd bd),fz (.int (w:Int)),none,none,none,none,none,none,none,none]) (Pr:=λy=>∃c∈fU,y=sg c) ((Sn n).map λ(k:Nat)=>D.int (k:Int)) λd hd=>by
   obtain⟨k,_,rfl⟩:=Sm.mp hd;obtain⟨u,hu,eu⟩:=eo ns hl (61+k) 4 (by decide);obtain⟨c,hc,ec⟩:=KS hu;refine⟨sg c,?_,c,hc,rfl⟩;rw[gW];have:d2 kE (dC (.str "abcf")) (ao 3 aG (aC (dV 1) (aC (d2 dg (dC (.int 61)) (dV 0)) (aC (dC (.int 4)) aN)))) (fz (.int (k:Int))::[fz (.scr ns),fz (brd bd),fz (.int (w:Int)),none,none,none,none,none,none,none,none])=aa (sg c):=
    (aQ (x:= .str "abcf") (y:= .int (u:Int)) rfl ((aq (ds:=[.scr ns, .int ((61+k:Nat):Int), .int 4]) (aJ rfl (aJ (by show aa (D.int ((61:Int)+(k:Int)))=_;rw[show ((61+k:Nat):Int)=(61:Int)+(k:Int) by omega]) (aJ rfl rfl))) rfl).trans eu)).trans ec
   rw[this];rfl
  obtain⟨cs,rfl,h2⟩:=DY y3;have v6:cs.length=n:=by simpa using y2
  exact⟨cs,h2,by omega,b0 (Ga ((aq (ds:=[.scr ns, .int ((70:Nat):Int), .int ((6:Nat):Int)]) rfl rfl).trans PV) (by omega)) y1 (by rw[R5,cO];omega)⟩
 obtain⟨gS,lS⟩:=Bg hG;have Ep:=gS.brd;have w3:min W 3<=3:=Nat.min_le_right ..;generalize hS:subB bd=sb at*;generalize hV:min W 3=V at*;have QW:sb.length*V<64:=by have:=Ub lS w3;omega
 obtain⟨s,s1,s2,s3,s4,s5⟩:=o7 gS lS w3 hw;have qK:=j6 (bd:=sb) (W:=V) (w:=w);have s8:s.length<=8:=by have:=Ub lS w3;omega
 have NW:∀c∈s.dropLast,c∈fU:=λc hc=>s1 c (List.dropLast_subset s hc);have gF:=(c5 (w:=w) gS s s1).1;have gD:=(c5 (w:=w) gS s.dropLast NW).1;have Nc:(s=[])↔nL sb=1:=by
  rw[yg Ep];exact⟨λe=>by rw[e] at s2;exact s2,λe=>TB.mp (XZ.mp (s3 [] (λ_ h=>(nomatch h)) e))⟩
 have MX:nL (aB V w sb s)=1:=(yg gF.brd).mpr s2;have RS:nL sb<=s.length+1:=by have:=vY hw s gS s1;omega
 have Ko:s≠[]->nL (aB V w sb s.dropLast)≠1:=λeK e=>by
  have:=s3 _ NW ((yg gD.brd).mp e);rw[XA] at this;have:0<s.length:=XI.mpr eK;omega
 have Pq:∀c∈s.take 1,c∈fU:=λc hc=>s1 c (VU hc);obtain⟨gA,lA⟩:=c5 (w:=w) gS (s.take 1) Pq;obtain⟨u,u1,u2,u3,u4,u5⟩:=o7 gA (by rw[lA];exact lS) w3 hw;have HC:s≠[]->u.length+1=s.length:=λeK=>by
  obtain⟨c,r,rfl⟩:∃c r,s=c::r:=by cases s with | nil=>exact Ym rfl eK | cons c r=>exact⟨c,r,rfl⟩
  have a1:u.length<=r.length:=u3 r (λz hz=>s1 z (R4 _ hz)) s2;have a2:=s3 (c::u) (λz hz=>(Sf.mp hz).elim (λe=>e▸s1 c R1) (u1 z)) u2;rw[Sd] at a2⊢;rw[Sd] at a2;omega
 refine a9 ?_;refine aj (Z':=[fz (.scr ns),fz (brd bd),none,none,none,none,none,none,none,none,none]) ((aR ((aq (ds:=[.scr ns, .int ((0:Nat):Int), .int ((5:Nat):Int)]) rfl rfl).trans eb)).trans rfl) ?_;refine aj (Z':=[fz (.scr ns),fz (brd bd),fz (.int (w:Int)),none,none,none,none,none,none,none,none]) ((aR ((aQ (x:= .lst [.int 4, .int 8]) rfl ((aq (ds:=[.scr ns, .int ((60:Nat):Int), .int 2]) rfl rfl).trans PU)).trans ew)).trans rfl) ?_;refine aj (Z':=[fz (.scr ns),fz (brd bd),fz (.int (w:Int)),fz (.lst (cs.map sg)),none,none,none,none,none,none,none]) ((aR MJ).trans rfl) ?_;refine aj (Z':=F9 (.scr ns) bd w cs bd none none none) rfl ?_;refine aj (Z':=F9 (.scr ns) bd w cs (aB W w bd cs) none none none) (c9 (eR (show rJ [.lst (cs.map sg)]=_ from Yo aa (EI cs)) (rW (.scr ns) hG hs hw HF L8 cs [] rfl))) ?_;refine aj (fS (GF (p:=false) (q:=false) (eX ((aQ (x:=brd (aB W w bd cs)) (y:=brd (aB W w bd cs)) ((aq (ds:=[brd bd, .int (w:Int), .lst (cs.map sg)]) rfl rfl).trans (fO hG hw HF (by omega))) rfl).trans (vZ rfl))) (eX ((aQ (x:=brd bd) (y:=brd bd) ((aq (ds:=[brd bd, .int (w:Int), .lst []]) rfl rfl).trans (fO (cs:=[]) hG hw (λ_ h=>(nomatch h)) (by simp))) rfl).trans (vZ rfl))))) ?_;refine aj (Z':=[fz (.scr ns),fz (brd bd),fz (.int (w:Int)),fz (.lst (cs.map sg)),fz (brd (aB W w bd cs)),none,none,none,fz (brd sb),none,none]) ((aR ((Gp bd hG.r5 rfl).trans (by rw[hS]))).trans rfl) ?_;refine aj (Z':=[fz (.scr ns),fz (brd bd),fz (.int (w:Int)),fz (.lst (cs.map sg)),fz (brd (aB W w bd cs)),none,none,none,fz (brd sb),fz (.lst (s.map sg)),none]) ((aR ((aq (ds:=[brd sb, .int (w:Int)]) rfl rfl).trans s5)).trans rfl) ?_;refine aj (fS (eX ((aQ (x:= .int (nL (aB V w sb s):Int)) (y:= .int 1) (kJ gF.brd ((aq (ds:=[brd sb, .int (w:Int), .lst (s.map sg)]) rfl rfl).trans (fO gS hw s1 (by omega)))) rfl).trans ((NL _).trans (by rw[Yi MX];rfl))))) ?_;refine aj (fS (eX ((aQ (x:= .int (s.length:Int)) (y:= .int ((nL sb:Int) - 1)) (tR rfl) ((aQ (x:= .int (nL sb:Int)) (y:= .int 1) (kJ Ep rfl) rfl).trans rfl)).trans ?_))) ?_
 ·show aa (D.bl (decide ((s.length:Int)<(nL sb:Int) - 1)))=_;rw[Yl (by omega)]
 refine aj (fS ?_) ?_
 ·by_cases e:s=[]
  ·refine Hs (eX ((aQ (x:= .lst (s.map sg)) (y:= .lst []) rfl rfl).trans ((CQ s).trans ?_)));rw[Yi e];rfl
  ·refine Ht (p:=true) (q:=false) (eX ((aQ (x:= .lst (s.map sg)) (y:= .lst []) rfl rfl).trans ((CQ s).trans ?_))) (eX ((aQ (x:= .int (nL (aB V w sb s.dropLast):Int)) (y:= .int 1) (kJ gD.brd ((aq (ds:=[brd sb, .int (w:Int), .lst (s.dropLast.map sg)]) (aJ rfl (aJ rfl (aJ ?_ rfl))) rfl).trans (fO gS hw NW (by rw[XA];omega)))) rfl).trans ((JY _).trans ?_)))
   ·rw[Yl e];rfl
   ·obtain⟨r,c,rfl⟩:=(US s).resolve_left e;rw[UT,List.dropLast_concat];show aa (D.lst (cutD ((r++[c]).map sg) none (some (-1))))=_;rw[SE];exact Yo (λx=>aa (D.lst x)) (BU (r.map sg) (sg c))
   ·rw[Yl (Ko e)]
 refine aj (fS (eX ((aQ (x:= .bl (decide (s=[]))) (y:= .bl (decide (nL sb=1))) ((aQ (x:= .lst (s.map sg)) (y:= .lst []) rfl rfl).trans (xO s)) ((aQ (x:= .int (nL sb:Int)) (y:= .int 1) (kJ Ep rfl) rfl).trans (JY _))).trans ?_))) ?_
 ·rw[decide_eq_decide.mpr Nc];show aa (D.bl (!(decide (nL sb=1)==decide (nL sb=1))))=_;rw[beq_self_eq_true];rfl
 refine aj (fS (eX ?_)) ?_
 ·have e1:ao 2 bJ (aC (dV 8) (aC (dV 2) aN)) [fz (.scr ns),fz (brd bd),fz (.int (w:Int)),fz (.lst (cs.map sg)),fz (brd (aB W w bd cs)),none,none,none,fz (brd sb),fz (.lst (s.map sg)),none]=aa (.int ((aI sb V w).length:Int)):=(aq (ds:=[brd sb, .int (w:Int)]) rfl rfl).trans (gY Ep QW hw);show (dA bq (aC (dV 9) aN) _>>=_)=_;rw[tR (s:=s) (i:=9) rfl,av];show (ao 2 bJ (aC (dV 8) (aC (dV 2) aN)) _>>=_)=_;rw[e1,av];show (if decide (((aI sb V w).length:Int)<=(s.length:Int))=true then _ else aa (D.bl false))=_;rw[Yh (by rw[Yj];omega)]
 refine aj (Z':=[fz (.scr ns),fz (brd bd),fz (.int (w:Int)),fz (.lst (cs.map sg)),fz (brd (aB W w bd cs)),none,none,none,fz (brd sb),fz (.lst (s.map sg)),fz (brd (aB V w sb (s.take 1)))]) ((aR ((aq (ds:=[brd sb, .int (w:Int), .lst ((s.take 1).map sg)]) (aJ rfl (aJ rfl (aJ ?_ rfl))) rfl).trans (fO gS hw Pq (by rw[Tz];omega)))).trans rfl) ?_
 ·show aa (D.lst (cutD (s.map sg) none (some ((1:Nat):Int))))=_;rw[Hr,Xc]
 refine aM ?_;by_cases e:s=[]
 ·refine EC ((aQ (x:= .lst (s.map sg)) (y:= .lst []) rfl rfl).trans ((xO s).trans ?_));rw[Yi e]
 ·refine(Hu (p:=false) (q:=true) ((aQ (x:= .lst (s.map sg)) (y:= .lst []) rfl rfl).trans ((xO s).trans (by rw[Yl e]))) ((aQ (x:= .int (u.length:Int)) (y:= .int ((s.length:Int) - 1)) ((ck (xs:=[.lst (u.map sg)]) (aJ ((aq (ds:=[brd (aB V w sb (s.take 1)), .int (w:Int)]) rfl rfl).trans u5) rfl)).trans ?_) ((aQ (x:= .int (s.length:Int)) (y:= .int 1) (tR rfl) rfl).trans rfl)).trans ?_)).trans rfl
  ·show aa (D.int ((u.map sg).length:Int))=_;rw[R5]
  ·show aa (D.bl ((u.length:Int)==(s.length:Int) - 1))=_;have:=HC e;rw[show (s.length:Int) - 1=(u.length:Int) by omega,beq_self_eq_true]
end
end K1
namespace K1
open PySem PySem.Spec L2 L3
open PyProof.Rows hiding St
def DF(K:Se)(x:Str)(s:Stmt):Prop:=∃(f:Addr) (oc:Value) (od an:Option Addr) (sl:Array (Option Value)) (kV dc pm cd ct:Value),S0 K SG x=some (some (.ref f))/\K.lookup f=some ⟨oc,od, .func (TM x x (eI s) (aY s) (ah s) .none kV dc pm an cd ct),sl⟩/\UJ K cd x=true/\T5 K (.ref f)=true
theorem DF.mk{K:Se}{x:Str}{s:Stmt}{f:Addr}{oc:Value}{od an:Option Addr}{sl:Array (Option Value)}{kV dc pm cd ct:Value}(a:S0 K SG x=some (some (.ref f)))(l:K.lookup f=some ⟨oc,od, .func (TM x x (eI s) (aY s) (ah s) .none kV dc pm an cd ct),sl⟩)(c:UJ K cd x=true)(k:T5 K (.ref f)=true):DF K x s:=⟨f,oc,od,an,sl,kV,dc,pm,cd,ct,a,l,c,k⟩
theorem DF.at{K:Se}{x:Str}{s:Stmt}{h:Heap}{mg:Str->Option Value}(X:K.In h)(G:h.Ns SG mg)(d:DF K x s):∃f,bz K mg x s f:=by
 obtain⟨f,oc,od,an,sl,kV,dc,pm,cd,ct,a,l,c,k⟩:=d;exact⟨f,Vj X G a,_,B_ (st:=s) l c k⟩
theorem all_mk{P:SJ}{w:World}{K:Se}{h:Heap}{mg:Str->Option Value}{fa:Addr}(X:K.In h)(G:h.Ns SG mg)(Qq:mg "law"=some (.ref fa))
 {j4:Addr}{yn oJ:Option Addr}{yJ:Array (Option Value)}{ym pA oZ qk j2 oV:Value}
 {Bh:Tok}
 {w9:Tok}
 {qz:Tok}
 (d_is_whole:DF K "is_whole" kl)
 (d_is_letter:DF K "is_letter" jb)
 (d_cells_of_row:DF K "cells_of_row" eh)
 (d_letter_of:DF K "letter_of" je)
 (d_are_next:DF K "are_next" kh)
 (d_keyed:DF K "keyed" uE)
 (d_numbers_of:DF K "numbers_of" ij)
 (d_drawn_in:DF K "drawn_in" ki)
 (d_law_cell:DF K "_law_cell" km)
 (d_is_row:DF K "is_row" lq)
 (d_is_cell:DF K "is_cell" mr)
 (d_need_letter:DF K "need_letter" gj)
 (d_need_letters:DF K "need_letters" ei)
 (d_need_ways:DF K "need_ways" jg)
 (d_all_cells:DF K "all_cells" ja)
 (d_next_cells:DF K "next_cells" ig)
 (d_with_letters:DF K "with_letters" ej)
 (d_law_drawn:DF K "_law_drawn" jc)
 (d_is_board:DF K "is_board" fP)
 (d_need_cell:DF K "need_cell" jf)
 (d_like_cells:DF K "like_cells" fg)
 (d_near_numbers:DF K "near_numbers" fQ)
 (d_law_board:DF K "_law_board" f7)
 (d_need_board:DF K "need_board" ib)
 (d_steps_back:DF K "steps_back" ik)
 (d_letter_at:DF K "letter_at" jd)
 (d_letters:DF K "letters" jG)
 (d_all_patches:DF K "all_patches" gi)
 (d_need_paint:DF K "need_paint" ie)
 (d_how_many:DF K "how_many" kj)
 (d_painted:DF K "painted" mv)
 (d_paints_over_v2:DF K "paints_over" eE)
 (d_fewest_paints:DF K "fewest_paints" dB)
 (a_law_k43:S0 K SG "law"=some (some (.ref j4)))(l_law_k43:K.lookup j4=some ⟨ym,yn, .func (TM "law" "law" (eI ar) (aY ar) (ah ar) .none pA oZ qk oJ j2 oV),yJ⟩)(c_law_k43:UJ K j2 "law"=true)(k_law_k43:T5 K (.ref j4)=true)
 (z_len:S0 K SG "len"=some none)
 (z_isinstance:S0 K SG "isinstance"=some none)
 (z_all:S0 K SG "all"=some none)
 (z_abs:S0 K SG "abs"=some none)
 (z_max:S0 K SG "max"=some none)
 (z_min:S0 K SG "min"=some none)
 (z_range:S0 K SG "range"=some none)
 (z_str:S0 K SG "str"=some none)
 (z_int:S0 K SG "int"=some none)
 (z_bool:S0 K SG "bool"=some none)
 (z_tuple:S0 K SG "tuple"=some none)
 (z_list:S0 K SG "list"=some none)
 (z_sorted:S0 K SG "sorted"=some none)
 (z_enumerate:S0 K SG "enumerate"=some none)
 (y_LETTERS:S0 K SG "LETTERS"=some (some (.str "abcdef" Bh)))
 (y_MOST_ROWS:S0 K SG "MOST_ROWS"=some (some (.int 8 w9)))
 (y_MOST_COLUMNS:S0 K SG "MOST_COLUMNS"=some (some (.int 8 qz))):
 ∃(cv:Nat->Value) (fd:Uy),(∀(s:R8) (u:Value),X4 s fd ⟨[u],[]⟩ [("_law_script",u)])/\∀base:Heap,K.In base->base.Ns SG mg->FnOk P w K mg base (jZ P w cv) 7 fa fd ["_law_script"] (JE K cv 1 jx):=by
 have ea:=Qq.symm.trans (Vj X G a_law_k43);cases ea;refine⟨λ_=> .none,TM "law" "law" (eI ar) (aY ar) (ah ar) .none pA oZ qk oJ j2 oV,λs v=> .of_eq rfl,λbase KB GB=>?_⟩;have B:Bl K mg base (λ_=> .none) (λ_=>SG) SG:=⟨SU X G z_len,SU X G z_isinstance,SU X G z_all,SU X G z_abs,SU X G z_max,SU X G z_min,SU X G z_range,SU X G z_str,SU X G z_int,SU X G z_bool,SU X G z_tuple,SU X G z_list,SU X G z_sorted,SU X G z_enumerate,⟨_,Vj X G y_LETTERS⟩,⟨_,Vj X G y_MOST_ROWS⟩,⟨_,Vj X G y_MOST_COLUMNS⟩⟩
 have pV:=(DF.at X G d_is_whole).elim λ_ t=>wg (P:=P) (w:=w) B t;have iW:=(DF.at X G d_is_letter).elim λ_ t=>t7 (P:=P) (w:=w) B t;have iV:=(DF.at X G d_cells_of_row).elim λ_ t=>nS (P:=P) (w:=w) B t;have fY:=(DF.at X G d_letter_of).elim λ_ t=>ua (P:=P) (w:=w) B t;have yh:=(DF.at X G d_are_next).elim λ_ t=>wa (P:=P) (w:=w) B t;have zF:=(DF.at X G d_keyed).elim λ_ t=>C5 (P:=P) (w:=w) B t;have t5:=(DF.at X G d_numbers_of).elim λ_ t=>qZ (P:=P) (w:=w) B t;have yi:=(DF.at X G d_drawn_in).elim λ_ t=>wb (P:=P) (w:=w) B t;have yl:=(DF.at X G d_law_cell).elim λ_ t=>wj (P:=P) (w:=w) B t;have C4:=(DF.at X G d_is_row).elim λ_ t=>AW (P:=P) (w:=w) B iW t;have AS:=(DF.at X G d_is_cell).elim λ_ t=>yo (P:=P) (w:=w) B pV t;have qU:=(DF.at X G d_need_letter).elim λ_ t=>p0 (P:=P) (w:=w) B iW t;have pX:=(DF.at X G d_need_letters).elim λ_ t=>nV (P:=P) (w:=w) B iW t;have fZ:=(DF.at X G d_need_ways).elim λ_ t=>uc (P:=P) (w:=w) B pV t;have mV:=(DF.at X G d_all_cells).elim λ_ t=>t6 (P:=P) (w:=w) B iV t;have kU:=(DF.at X G d_next_cells).elim λ_ t=>qY (P:=P) (w:=w) B yh t;have iX:=(DF.at X G d_with_letters).elim λ_ t=>nW (P:=P) (w:=w) B zF iV fY t;have mW:=(DF.at X G d_law_drawn).elim λ_ t=>t9 (P:=P) (w:=w) B yl t;have yk:=(DF.at X G d_is_board).elim λ_ t=>we (P:=P) (w:=w) B C4 t;have mX:=(DF.at X G d_need_cell).elim λ_ t=>ub (P:=P) (w:=w) B AS t;have tY:=(DF.at X G d_like_cells).elim λ_ t=>qV (P:=P) (w:=w) B fY kU t;have pW:=(DF.at X G d_near_numbers).elim λ_ t=>nU (P:=P) (w:=w) B t5 mV kU t;have v8:=(DF.at X G d_law_board).elim λ_ t=>t8 (P:=P) (w:=w) B mW t;have c_:=(DF.at X G d_need_board).elim λ_ t=>qW (P:=P) (w:=w) B yk t;have g9:=(DF.at X G d_steps_back).elim λ_ t=>q0 (P:=P) (w:=w) B tY t;have v9:=(DF.at X G d_letter_at).elim λ_ t=>t_ (P:=P) (w:=w) B c_ mX fY t;have sd:=(DF.at X G d_letters).elim λ_ t=>yp (P:=P) (w:=w) B c_ t;have jV:=(DF.at X G d_all_patches).elim λ_ t=>pZ (P:=P) (w:=w) B mV g9 zF t;have tZ:=(DF.at X G d_need_paint).elim λ_ t=>qX (P:=P) (w:=w) B c_ mX fZ qU t;have yj:=(DF.at X G d_how_many).elim λ_ t=>wc (P:=P) (w:=w) B c_ fZ jV t;have AU:=(DF.at X G d_painted).elim λ_ t=>yq (P:=P) (w:=w) B tZ iX g9 t;have l9:=(DF.at X G d_paints_over_v2).elim λ_ t=>kW (P:=P) (w:=w) B sd c_ fZ pX iX g9 t;have nR:=(DF.at X G d_fewest_paints).elim λ_ t=>l_ (P:=P) (w:=w) B c_ fZ jV pW fY yi t;exact v_ B v8 nR l9 mW AU yj v9 sd (B_ (st:=ar) l_law_k43 c_law_k43 k_law_k43)
end K1
open PySem PySem.W PyProof.Rows
theorem PySem.Challenge.cw_cellpatches_k43_whole_paints_holds : PySem.Challenge.rw_cellpatches_k43_whole_paints.Holds := by
 w_on;refine holds_law (by kernel_rfl) λRB=>?_
 refine holds_open (q:=K1.xf) (loose:=[]) (Xt:=λs=>xlAt K1.xf [] s&&recOk (RowW.records (OpenRow.toRowW _)) s) (XP:=XL K1.xf []) (Yf:=Hook.obs (kHook K1.pb K1.o_ (λ_=>by kernel_rfl))) (Ya:=Hook.val (kHook K1.pb K1.o_ (λ_=>by kernel_rfl))) (YP:=Hook.says (kHook K1.pb K1.o_ (λ_=>by kernel_rfl))) (N:=4380) ?hl (Hook.of (kHook K1.pb K1.o_ (λ_=>by kernel_rfl))) (Hook.keeps (kHook K1.pb K1.o_ (λ_=>by kernel_rfl))) (λs e=>xl_of s (TY.mp e).1) XL.keeps (by rfl) (by rfl) (by rfl) (λs e=>recFacts_of (TY.mp e).2) (by rfl) (by first | assumption | decide+kernel) (by decide+kernel) ⟨rfl,rfl,rfl,rfl,rfl,by decide+kernel⟩ ?hw ?hc
 case hl=>exact K1.Kn
 (case hw=>w_witness2)
 k_fill
 refine L3.LN (l:=PySem.Challenge.rw_cellpatches_k43_whole_paints) (k:=7) (n:=63) (x:="_law_script") (g:=K1.jx) rfl (by decide) rfl ⟨rfl,by decide,by decide⟩ (λw h Y=>PySem.W.kIn_of Y) K1.CI ?F
 case F=>
  intro w mg fa h KX G HK;refine' K1.all_mk KX G HK ?d_is_whole ?d_is_letter ?d_cells_of_row ?d_letter_of ?d_are_next ?d_keyed ?d_numbers_of ?d_drawn_in ?d_law_cell ?d_is_row ?d_is_cell ?d_need_letter ?d_need_letters ?d_need_ways ?d_all_cells ?d_next_cells ?d_with_letters ?d_law_drawn ?d_is_board ?d_need_cell ?d_like_cells ?d_near_numbers ?d_law_board ?d_need_board ?d_steps_back ?d_letter_at ?d_letters ?d_all_patches ?d_need_paint ?d_how_many ?d_painted ?d_paints_over_v2 ?d_fewest_paints ?a_law_k43 ?l_law_k43 ?c_law_k43 ?k_law_k43 ?z_len ?z_isinstance ?z_all ?z_abs ?z_max ?z_min ?z_range ?z_str ?z_int ?z_bool ?z_tuple ?z_list ?z_sorted ?z_enumerate ?y_LETTERS ?y_MOST_ROWS ?y_MOST_COLUMNS
  any_goals (refine' K1.DF.mk ?a ?l ?c ?k;(case a=>k_is);(case l=>k_is);(case c=>k_is);(case k=>k_is))
  any_goals first | k_is | kit_is | k_exc | rfl
