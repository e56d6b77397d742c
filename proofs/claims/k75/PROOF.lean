import PyProof.Rows.All
import KE.KDictSum
import KE.KSortTup
import KE.RegKIsAll
import Lean
import PySem.Challenge.RW_cellpatches_k75_whole_roads
open List renaming mem_cons_of_mem->O_,mem_cons_self->Pa,length_map->Pb,getElem?_eq_getElem->Pd,getElem?_eq_some_iff->Pe,getElem?_set_ne->Pg,map_cons->Pj,length_cons->Pl,mem_cons->Pn,size_toArray->Po,length_append->Pp,getElem?_map->Pq,getElem?_set_self->Pt,mem_map->Px,mem_of_getElem?->PF,all_eq_true->PJ,mem_singleton->PQ,mem_append->PR,getD_eq_getElem?_getD->PV,range->PY,map_append->P1,map_map->P5,getElem?_append_left->P6,mem_append_right->P9,replicate->Qc,getElem?_append_right->Qe,getElem?_cons_zero->Qf,nodup_cons->Qg,nil_append->Qh,nodup_append->Qi,range'->Qn,getElem?_cons_succ->Qo,mem_filter->Qr,pairwise_cons->Qu,append_nil->Qx,toArray->QA,map_congr_left->QC,lookup_cons->QG,zip_cons_cons->QH,length_nil->QK,Nodup->QL,getElem?_replicate->QP,length_filter_le->QV,getElem?_concat_length->QW,flatMap_cons->QY,pairwise_iff_getElem->Q1,nodup_nil->Q2,mem_range->Q3,getElem_mem->Q7,map_nil->Q9,getLast?_cons_cons->Rf,find?_cons->Rg,append_assoc->Rt,all_map->Rx,cons_append->Rz,mem_iff_getElem->RB,mem_append_left->RC,any_cons->RE,all_cons->RF,getElem_of_mem->RH,getElem?_range->RI,getElem?_eq_none_iff->RS,drop_eq_getElem_cons->RT,pairwise_map->R5,length_eq_zero_iff->R8,range'_succ->R_,drop_length->Sa,zip_append->Si,length_zip->Sj,length_replicate->Sk,getElem?_eq_none->Sm,foldl_cons->Sn,tail_cons->Sv,length_pos_iff->Sy,filterMap_cons->Sz,sum_cons->SK,set_cons_zero->SM,set_cons_succ->SN,length_range'->SO,getElem?_inj->SV,map_flatMap->S2,any_eq_true->S3,mem_zipIdx_iff_getElem?->Tc,of_mem_zip->Te,forIn_cons->Tf,length_erase_of_mem->TK,range_succ_eq_map->TZ,range_eq_range'->T7,pairwise_append->T8,getElem?_mapIdx->T9,length_flatMap->Ug,length->Uh,mem_filterMap->Us,length_range->UA,ext_getElem?->UB
open PySem renaming wpAny_bind->Pc,Shared->Pf,wpAny_pure->Pu,sizeLine->Py,starEach->PB,mainGlobals->PK,Program->PX,compareOp->Qj,behindInMarks->Ql,Around->Qm,wpAny_mono->Qt,bootBuiltins->Qw,sysModules->Qy,mem_of_lookup->QB,wpAny_truthy_bool->QD,wpAny_dictEntries->QE,DictEntry->QQ,wpAny_typeNameOfWhole_keyiter->QT,tupleKind->QU,wpAny_passesOwn->QZ,foldedSetIterable->Q4,FuncData->Q8,sizeLine_eq->Rh,wpAny_typeNameOf_keyiter->Rk,backTo->Rm,tupleKind_room_in1->Ru,attributeBase->Rv,wpAny_call_entry->RK,Keyword->RM,binaryOp->RN,wpAny_dictEpoch->RV,swapsWith->RW,keywordEach->RX,NameKind->R7,wpAny_newObj_type->Sf,assignEach->Sg,wpAny_holding->So,storedH->Sq,wpAny_execs_nil->SA,letOwnedTupleGo->SD,swapsWithSole->S5,dictSetHashed->S6,backToKw->S7,Paired->S_,wpAny_assign_Name->Tj,wpAny_Call_method->Tn,callerA->To,noFill_tuple_add->TC,wpAny_specialOf->TN,valueAt->TQ,size_of_entries->TR,codeAny->TU,PassesOwn->TY,recursionLimit->T3,wpAny_comprehension_free->Ua,pyNext->Ub,entryOfKey->Uc,wpAny_callSpecial?_slot->Uj,seq_tuple_add->Uk,notedBy->Ul,call->Uo,BindsTo->Ut
open PySem.W renaming Frag->Ph,mg_none_of->P4,nsIn->Qa,kia_one->Qs,fnOf->QF,keepIn->QO,codeIn->Rn,mg_of->R0,methodObj->SE,instObj->SY,lookIn->S8,kitOne->S9,cellsFrom_some->Tw,kitx_list->T4,kitx_dict->T5,plainGet->Ud,OpenLaw->Up,findIn->Uw
open PySem.Heap renaming get?_push_of_some->Pk,lt_size->Pw,get?_push_size->PU,SameBut->Q_,get?_update_self->Ry,get?_none_of_le->T_
open Nat renaming le_refl->Pm,le_trans->PM,lt_of_lt_of_le->PZ,zero_le->P2,ne_of_lt->P8,lt_irrefl->Qp,le_of_lt->Qz,mul_le_mul->Q6,lt_trans->Ra,le_antisymm->Rj,min_eq_left->RL,ne_of_gt->Sr,le_total->Ss,lt_of_le_of_lt->SR,zero_add->S1,lt_succ_self->Ta,le_max_right->Tb,le_max_left->Ts,mod_lt->TL,div_div_eq_div_mul->T2,min_self->T6,mul_le_mul_right->Ue,le_zero->Ur,add_right_comm->Uy
open Option.some renaming inj->Pz
open Bool renaming false_ne_true->PH,and_eq_true->P7,false_eq_true->Qk,and_eq_true_iff->QI,not_false->Sx,true_and->SQ,eq_iff_iff->Ti,and_true->TM
open PySem.PassesOwn renaming never->PL
open Array renaming length_toList->PO,getElem?_toList->Rw,getElem?_eq_getElem->RQ,append_assoc->SH,isEmpty_iff->Uu
open PySem.Value renaming ref->P_,none->Qv,bool->RZ,str->TV,int->TX,type->Um
open PySem.Heap.SameBut renaming update->Qb,refl->Tz
open Ne renaming symm->Qd
open ForInStep renaming yield->Qq
open True renaming intro->QJ
open PySem.Paired renaming length->QM
open PySem.Str renaming ofString->QN
open False renaming elim->QR
open PySem.Obj renaming mapSeq->QS,data_mapDictKeys->RD,isFreed_of_dict->SF,data_mapFields->Ux
open PySem.F renaming slot_dict_keyiterator_next->QX,args_tuple_add_2->RO,plainAttrs_dict->R1,entry_tuple_add->R3,slot_tuple_add->R6,slot_dict_get->R9,slot_dict_setdefault->SU,slot_dict_update->Td,args_dict_keyiterator_next_1->Tg,plainAttrs_list->Tq,args_dict_get_2->Tr,entry_dict_keyiterator_next->Tv,entry_dict_get->Tx
open PySem.Builtin.Str renaming occurrences->Q0
open Option renaming isSome_iff_exists->Q5,isSome_map->SJ,map_eq_some_iff->TJ
open PySem.Calls renaming spliced_cons->Rc,callWith_builtin->Ro,evalArgs_plain->RA,spliced_nil->R4,Name_function_global->Th
open PyProof.Rows renaming seqObj->Rl,callWith_type1->Rq,envOfC->RY,IntsAre->Sb,kindOf->Su,AllBare->SI,subscriptTail_builtinR->Uv
open PUnit renaming unit->Rp
open PySem.Builtin.List renaming listTooLong->RG
open PySem.Data renaming dict->RJ,fields->Ui
open Int.ofNat renaming inj->RP
open PySem.Builtin.Dict renaming showsAll->RU,entriesForEmpty->Sw,updateFrom->SW,mergeDict->S0
open Iff renaming rfl->Sd
open PySem.Builtin.Dict_items renaming ownsTuple->Se
open List.Pairwise renaming imp->Sh,nil->Tt
open PySem.Builtin.Tuple renaming tupleHashOf->SG
open Int renaming emod_lt_of_pos->SS,emod_nonneg->Tu
open Sum renaming inl->SX,inr->Tp
open Classical renaming not_forall->TB,not_imp->T1
open PySem.SeqAt.EqAt renaming str_int->TF,int_str->TH
open Prod renaming ext->Uq
open PySem.NameKind renaming free->Uz
open Function renaming comp->UC
set_option maxHeartbeats 0
set_option Elab.async false
set_option linter.all false
set_option maxRecDepth 100000
abbrev UD:=@if_pos
abbrev UE:=@if_neg
abbrev UG:=@decide_eq_true
abbrev UH:=@decide_eq_false
abbrev UI:=@of_decide_eq_true
abbrev UJ:=@decide_eq_true_eq
abbrev UK:=@absurd
abbrev UL:=@beq_eq_false_iff_ne
abbrev UM:=@congrArg
abbrev UN:=@decide_eq_decide
namespace L2
open PySem
def ei(s:Stmt):Arguments:=match s with
 | .FunctionDef _ a _ _ _ _ _ _ _ _=>a
 |_=>{posonlyargs:=[],args:=[],vararg:=none,kwonlyargs:=[],kw_defaults:=[],kwarg:=none,defaults:=[]}
def bQ(s:Stmt):List Stmt:=match s with
 | .FunctionDef _ _ b _ _ _ _ _ _ _=>b
 |_=>[]
def ak(s:Stmt):Scope:=match s with
 | .FunctionDef _ _ _ _ _ _ sc _ _ _=>sc
 |_=>{kind:= .function,names:=[],isGenerator:=false,isCoroutine:=false}
end L2
namespace K1
open PySem PySem.Spec
def top(i:Nat):Stmt:=PySem.Challenge.pw_cellpatches_k75_whole_roads.main.body.getD i (.Pass ⟨0,0,0,0⟩)
abbrev hS(s:String)(t:Tok):Value:= .str (QN s) t
abbrev hE(P:Params)(s:String)(t:Tok)(v:Value):QQ:={hash:=PyData.keyHash P (QN s),key:=hS s t,val:=v}
abbrev hT(xs:Array Value):Obj:={cls:= .type "tuple",data:=Data.seq xs}
abbrev hF(s:String)(t:Stmt)(m:Value)(c:Addr):Obj:={cls:= .type "function",data:=Data.func {name:=QN s,qualname:=QN s,params:=L2.ei t,body:=FuncBody.stmts (L2.bQ t),scope:=L2.ak t,globals:=3,closure:=[],defaults:= .none,kwdefaults:= .none,pyModule:=m,code:= .ref c} }
abbrev iF(s:String)(t1 t2 t3:Tok)(l n f:Int)(a:Addr)(v:Int)(b:Addr)(x y:Value)(d:Addr)(p:Int)(t4:Tok):Obj:={cls:= .type "code",data:=Ui #[hS s t1,hS s t2,hS "/claim/cut.py" t3, .int l 0, .int n 0, .int 0 0, .int 0 0, .int f 0, .ref a, .bool true, .int v 0, .ref b, .none,x,y, .ref d, .int p 0, .int l 0,hS "/claim/cut.py" t4]}
abbrev wD:Value:=hS "cellpatches.boards" 287
abbrev AW:Value:=hS "cellpatches.patches" 412
abbrev EL:Value:=hS "law_cellpatches_k75_whole_roads" 579
abbrev HC:Value:=hS "cellpatches.errors" 187
abbrev Ik(n:String)(b a ns r:Addr)(t1 t2:Tok):Obj:={cls:= .type "type",data:=Data.cls {name:=QN n,bases:=[.ref b],mro:=[.ref a, .ref b, .type "ValueError", .type "Exception", .type "BaseException", .type "object"],ns:=ns,qualname:=QN n},slots:= #[some (.ref r),none,some (hS n t1),some (hS n t2),some (.builtin "ValueError.__new__"),some (.bool true)]}
def oz:Params->Ph:=λP=>(nat_lit 2,{cls:= .none,data:=RJ #[]})::
 (nat_lit 3,{cls:= .type "dict",data:=RJ #[hE P "__name__" 165 EL,hE P "__doc__" 166 .none,hE P "__package__" 167 .none,hE P "__loader__" 168 (.builtin "__main__.__loader__#opaque"),hE P "__spec__" 169 .none,hE P "__annotations__" 170 (.ref 6),hE P "__builtins__" 171 (.ref 4),hE P "__file__" 173 (hS "/claim/cut.py" 172),hE P "__cached__" 174 .none,hE P "PatchError" 206 (.ref 24),hE P "NoBoard" 222 (.ref 37),hE P "NoWays" 238 (.ref 49),hE P "NoCell" 254 (.ref 61),hE P "NoLetter" 270 (.ref 73),hE P "NoNumber" 286 (.ref 85),hE P "LETTERS" 290 (hS "abcdef" 289),hE P "MOST_ROWS" 292 (.int 8 291),hE P "MOST_COLUMNS" 294 (.int 8 293),hE P "is_whole" 301 (.ref 94),hE P "is_letter" 308 (.ref 101),hE P "is_row" 314 (.ref 106),hE P "is_board" 320 (.ref 111),hE P "is_cell" 328 (.ref 118),hE P "need_board" 335 (.ref 125),hE P "need_cell" 343 (.ref 132),hE P "need_letters" 349 (.ref 137),hE P "need_ways" 356 (.ref 144),hE P "cells_of_row" 362 (.ref 149),hE P "all_cells" 371 (.ref 156),hE P "letter_of" 379 (.ref 163),hE P "are_next" 390 (.ref 170),hE P "next_cells" 402 (.ref 177),hE P "keyed" 411 (.ref 184),hE P "need_two_cells" 423 (.ref 191),hE P "like_cells" 429 (.ref 196),hE P "steps_back" 443 (.ref 203),hE P "all_patches" 455 (.ref 210),hE P "numbers_of" 466 (.ref 217),hE P "near_numbers" 480 (.ref 224),hE P "near_among" 486 (.ref 229),hE P "distances" 499 (.ref 236),hE P "numbered" 505 (.ref 241),hE P "are_one" 515 (.ref 248),hE P "way" 527 (.ref 255),hE P "fewest_changes" 541 (.ref 262),hE P "steps_over" 547 (.ref 267),hE P "need_number" 557 (.ref 274),hE P "map_of" 567 (.ref 281),hE P "borders" 578 (.ref 288),hE P "_law_cell" 588 (.ref 295),hE P "_law_drawn" 598 (.ref 302),hE P "_law_board" 604 (.ref 307),hE P "_law_cells" 610 (.ref 312),hE P "_law_sign" 618 (.ref 319),hE P "_law_cell_in" 627 (.ref 326),hE P "law" 649 (.ref 333)] 56})::
 (nat_lit 15,hT #[.type "ValueError"])::
 (nat_lit 22,hT #[])::
 (nat_lit 23,{cls:= .type "dict",data:=RJ #[hE P "__module__" 196 HC,hE P "__firstlineno__" 200 (.int 2 199),hE P "__static_attributes__" 201 (.ref 22),hE P "__weakref__" 203 (.ref 25),hE P "__doc__" 204 .none] 3})::
 (nat_lit 24,{cls:= .type "type",data:=Data.cls {name:=QN "PatchError",bases:=[.type "ValueError"],mro:=[.ref 24, .type "ValueError", .type "Exception", .type "BaseException", .type "object"],ns:=23,qualname:=QN "PatchError",subclasses:=[.ref 37, .ref 49, .ref 61, .ref 73, .ref 85]},slots:= #[some (.ref 15),none,some (hS "PatchError" 189),some (hS "PatchError" 197),some (.builtin "ValueError.__new__"),some (.bool true)]})::
 (nat_lit 25,{cls:= .type "getset_descriptor",data:=Ui #[hS "__weakref__" 202, .ref 24, .builtin "ExceptionGroup.__weakref__", .none]})::
 (nat_lit 28,hT #[.ref 24])::
 (nat_lit 35,hT #[])::
 (nat_lit 36,{cls:= .type "dict",data:=RJ #[hE P "__module__" 214 HC,hE P "__firstlineno__" 218 (.int 4 217),hE P "__static_attributes__" 219 (.ref 35),hE P "__doc__" 220 .none] 2})::
 (nat_lit 37,Ik "NoBoard" 24 37 36 28 207 215)::
 (nat_lit 40,hT #[.ref 24])::
 (nat_lit 47,hT #[])::
 (nat_lit 48,{cls:= .type "dict",data:=RJ #[hE P "__module__" 230 HC,hE P "__firstlineno__" 234 (.int 6 233),hE P "__static_attributes__" 235 (.ref 47),hE P "__doc__" 236 .none] 2})::
 (nat_lit 49,Ik "NoWays" 24 49 48 40 223 231)::
 (nat_lit 52,hT #[.ref 24])::
 (nat_lit 59,hT #[])::
 (nat_lit 60,{cls:= .type "dict",data:=RJ #[hE P "__module__" 246 HC,hE P "__firstlineno__" 250 (.int 8 249),hE P "__static_attributes__" 251 (.ref 59),hE P "__doc__" 252 .none] 2})::
 (nat_lit 61,Ik "NoCell" 24 61 60 52 239 247)::
 (nat_lit 64,hT #[.ref 24])::
 (nat_lit 71,hT #[])::
 (nat_lit 72,{cls:= .type "dict",data:=RJ #[hE P "__module__" 262 HC,hE P "__firstlineno__" 266 (.int 10 265),hE P "__static_attributes__" 267 (.ref 71),hE P "__doc__" 268 .none] 2})::
 (nat_lit 73,Ik "NoLetter" 24 73 72 64 255 263)::
 (nat_lit 76,hT #[.ref 24])::
 (nat_lit 83,hT #[])::
 (nat_lit 84,{cls:= .type "dict",data:=RJ #[hE P "__module__" 278 HC,hE P "__firstlineno__" 282 (.int 12 281),hE P "__static_attributes__" 283 (.ref 83),hE P "__doc__" 284 .none] 2})::
 (nat_lit 85,Ik "NoNumber" 24 85 84 76 271 279)::
 (nat_lit 88,hT #[])::
 (nat_lit 90,hT #[hS "thing" 298])::
 (nat_lit 91,hT #[])::
 (nat_lit 93,iF "is_whole" 295 296 297 18 1 3 88 181 89 (.ref 90) (.ref 91) 92 299 300)::
 (nat_lit 94,hF "is_whole" (top 11) wD 93)::
 (nat_lit 95,hT #[])::
 (nat_lit 97,hT #[hS "thing" 305])::
 (nat_lit 98,hT #[])::
 (nat_lit 100,iF "is_letter" 302 303 304 20 1 3 95 181 96 (.ref 97) (.ref 98) 99 306 307)::
 (nat_lit 101,hF "is_letter" (top 12) wD 100)::
 (nat_lit 102,hT #[])::
 (nat_lit 105,iF "is_row" 309 310 311 22 1 3 102 181 103 .none .none 104 312 313)::
 (nat_lit 106,hF "is_row" (top 13) wD 105)::
 (nat_lit 107,hT #[])::
 (nat_lit 110,iF "is_board" 315 316 317 26 1 3 107 181 108 .none .none 109 318 319)::
 (nat_lit 111,hF "is_board" (top 14) wD 110)::
 (nat_lit 112,hT #[])::
 (nat_lit 114,hT #[hS "board" 324,hS "thing" 325])::
 (nat_lit 115,hT #[])::
 (nat_lit 117,iF "is_cell" 321 322 323 32 2 3 112 181 113 (.ref 114) (.ref 115) 116 326 327)::
 (nat_lit 118,hF "is_cell" (top 15) wD 117)::
 (nat_lit 119,hT #[])::
 (nat_lit 121,hT #[hS "thing" 332])::
 (nat_lit 122,hT #[])::
 (nat_lit 124,iF "need_board" 329 330 331 38 1 3 119 181 120 (.ref 121) (.ref 122) 123 333 334)::
 (nat_lit 125,hF "need_board" (top 16) wD 124)::
 (nat_lit 126,hT #[])::
 (nat_lit 128,hT #[hS "board" 339,hS "thing" 340])::
 (nat_lit 129,hT #[])::
 (nat_lit 131,iF "need_cell" 336 337 338 41 2 3 126 181 127 (.ref 128) (.ref 129) 130 341 342)::
 (nat_lit 132,hF "need_cell" (top 17) wD 131)::
 (nat_lit 133,hT #[])::
 (nat_lit 136,iF "need_letters" 344 345 346 44 1 3 133 181 134 .none .none 135 347 348)::
 (nat_lit 137,hF "need_letters" (top 18) wD 136)::
 (nat_lit 138,hT #[])::
 (nat_lit 140,hT #[hS "thing" 353])::
 (nat_lit 141,hT #[])::
 (nat_lit 143,iF "need_ways" 350 351 352 47 1 3 138 181 139 (.ref 140) (.ref 141) 142 354 355)::
 (nat_lit 144,hF "need_ways" (top 19) wD 143)::
 (nat_lit 145,hT #[])::
 (nat_lit 148,iF "cells_of_row" 357 358 359 50 2 3 145 181 146 .none .none 147 360 361)::
 (nat_lit 149,hF "cells_of_row" (top 20) wD 148)::
 (nat_lit 150,hT #[])::
 (nat_lit 152,hT #[hS "board" 366,hS "found" 367,hS "row" 368])::
 (nat_lit 153,hT #[])::
 (nat_lit 155,iF "all_cells" 363 364 365 52 1 3 150 181 151 (.ref 152) (.ref 153) 154 369 370)::
 (nat_lit 156,hF "all_cells" (top 21) wD 155)::
 (nat_lit 157,hT #[])::
 (nat_lit 159,hT #[hS "board" 375,hS "cell" 376])::
 (nat_lit 160,hT #[])::
 (nat_lit 162,iF "letter_of" 372 373 374 57 2 3 157 181 158 (.ref 159) (.ref 160) 161 377 378)::
 (nat_lit 163,hF "letter_of" (top 22) wD 162)::
 (nat_lit 164,hT #[])::
 (nat_lit 166,hT #[hS "one" 383,hS "other" 384,hS "ways" 385,hS "down" 386,hS "along" 387])::
 (nat_lit 167,hT #[])::
 (nat_lit 169,iF "are_next" 380 381 382 59 3 3 164 181 165 (.ref 166) (.ref 167) 168 388 389)::
 (nat_lit 170,hF "are_next" (top 23) wD 169)::
 (nat_lit 171,hT #[])::
 (nat_lit 173,hT #[hS "board" 394,hS "cell" 395,hS "ways" 396,hS "found" 397,hS "row" 398,hS "column" 399])::
 (nat_lit 174,hT #[])::
 (nat_lit 176,iF "next_cells" 391 392 393 65 3 3 171 181 172 (.ref 173) (.ref 174) 175 400 401)::
 (nat_lit 177,hF "next_cells" (top 24) wD 176)::
 (nat_lit 178,hT #[])::
 (nat_lit 180,hT #[hS "things" 406,hS "found" 407,hS "thing" 408])::
 (nat_lit 181,hT #[])::
 (nat_lit 183,iF "keyed" 403 404 405 72 1 3 178 181 179 (.ref 180) (.ref 181) 182 409 410)::
 (nat_lit 184,hF "keyed" (top 25) wD 183)::
 (nat_lit 185,hT #[])::
 (nat_lit 187,hT #[hS "board" 417,hS "ways" 418,hS "one" 419,hS "other" 420])::
 (nat_lit 188,hT #[])::
 (nat_lit 190,iF "need_two_cells" 414 415 416 78 4 3 185 181 186 (.ref 187) (.ref 188) 189 421 422)::
 (nat_lit 191,hF "need_two_cells" (top 27) AW 190)::
 (nat_lit 192,hT #[])::
 (nat_lit 195,iF "like_cells" 424 425 426 83 3 3 192 181 193 .none .none 194 427 428)::
 (nat_lit 196,hF "like_cells" (top 28) AW 195)::
 (nat_lit 197,hT #[])::
 (nat_lit 199,hT #[hS "board" 433,hS "start" 434,hS "ways" 435,hS "back" 436,hS "ring" 437,hS "further" 438,hS "cell" 439,hS "near" 440])::
 (nat_lit 200,hT #[])::
 (nat_lit 202,iF "steps_back" 430 431 432 86 3 3 197 181 198 (.ref 199) (.ref 200) 201 441 442)::
 (nat_lit 203,hF "steps_back" (top 29) AW 202)::
 (nat_lit 204,hT #[])::
 (nat_lit 206,hT #[hS "board" 447,hS "ways" 448,hS "found" 449,hS "seen" 450,hS "cell" 451,hS "patch" 452])::
 (nat_lit 207,hT #[])::
 (nat_lit 209,iF "all_patches" 444 445 446 98 2 3 204 181 205 (.ref 206) (.ref 207) 208 453 454)::
 (nat_lit 210,hF "all_patches" (top 30) AW 209)::
 (nat_lit 211,hT #[])::
 (nat_lit 213,hT #[hS "found" 459,hS "numbers" 460,hS "number" 461,hS "patch" 462,hS "cell" 463])::
 (nat_lit 214,hT #[])::
 (nat_lit 216,iF "numbers_of" 456 457 458 107 1 3 211 181 212 (.ref 213) (.ref 214) 215 464 465)::
 (nat_lit 217,hF "numbers_of" (top 31) AW 216)::
 (nat_lit 218,hT #[])::
 (nat_lit 220,hT #[hS "board" 470,hS "ways" 471,hS "found" 472,hS "numbers" 473,hS "near" 474,hS "cell" 475,hS "mine" 476,hS "other" 477])::
 (nat_lit 221,hT #[])::
 (nat_lit 223,iF "near_numbers" 467 468 469 113 3 3 218 181 219 (.ref 220) (.ref 221) 222 478 479)::
 (nat_lit 224,hF "near_numbers" (top 32) AW 223)::
 (nat_lit 225,hT #[])::
 (nat_lit 228,iF "near_among" 481 482 483 122 3 3 225 181 226 .none .none 227 484 485)::
 (nat_lit 229,hF "near_among" (top 33) AW 228)::
 (nat_lit 230,hT #[])::
 (nat_lit 232,hT #[hS "near" 490,hS "start" 491,hS "far" 492,hS "ring" 493,hS "further" 494,hS "thing" 495,hS "other" 496])::
 (nat_lit 233,hT #[])::
 (nat_lit 235,iF "distances" 487 488 489 128 2 3 230 181 231 (.ref 232) (.ref 233) 234 497 498)::
 (nat_lit 236,hF "distances" (top 34) AW 235)::
 (nat_lit 237,hT #[])::
 (nat_lit 240,iF "numbered" 500 501 502 140 2 3 237 181 238 .none .none 239 503 504)::
 (nat_lit 241,hF "numbered" (top 35) AW 240)::
 (nat_lit 242,hT #[])::
 (nat_lit 244,hT #[hS "board" 509,hS "ways" 510,hS "one" 511,hS "other" 512])::
 (nat_lit 245,hT #[])::
 (nat_lit 247,iF "are_one" 506 507 508 148 4 3 242 181 243 (.ref 244) (.ref 245) 246 513 514)::
 (nat_lit 248,hF "are_one" (top 36) AW 247)::
 (nat_lit 249,hT #[])::
 (nat_lit 251,hT #[hS "board" 519,hS "ways" 520,hS "one" 521,hS "other" 522,hS "back" 523,hS "told" 524])::
 (nat_lit 252,hT #[])::
 (nat_lit 254,iF "way" 516 517 518 151 4 3 249 181 250 (.ref 251) (.ref 252) 253 525 526)::
 (nat_lit 255,hF "way" (top 37) AW 254)::
 (nat_lit 256,hT #[])::
 (nat_lit 258,hT #[hS "board" 533,hS "ways" 534,hS "one" 535,hS "other" 536,hS "found" 537,hS "numbers" 538])::
 (nat_lit 259,hT #[])::
 (nat_lit 261,iF "fewest_changes" 530 531 532 161 4 3 256 181 257 (.ref 258) (.ref 259) 260 539 540)::
 (nat_lit 262,hF "fewest_changes" (top 39) (hS "cellpatches.roads" 528) 261)::
 (nat_lit 263,hT #[])::
 (nat_lit 266,iF "steps_over" 542 543 544 166 5 3 263 181 264 .none .none 265 545 546)::
 (nat_lit 267,hF "steps_over" (top 40) (hS "cellpatches.roads" 528) 266)::
 (nat_lit 268,hT #[])::
 (nat_lit 270,hT #[hS "many" 553,hS "thing" 554])::
 (nat_lit 271,hT #[])::
 (nat_lit 273,iF "need_number" 550 551 552 177 2 3 268 181 269 (.ref 270) (.ref 271) 272 555 556)::
 (nat_lit 274,hF "need_number" (top 42) (hS "cellpatches.measures" 548) 273)::
 (nat_lit 275,hT #[])::
 (nat_lit 277,hT #[hS "board" 563,hS "ways" 564])::
 (nat_lit 278,hT #[])::
 (nat_lit 280,iF "map_of" 560 561 562 181 2 3 275 181 276 (.ref 277) (.ref 278) 279 565 566)::
 (nat_lit 281,hF "map_of" (top 44) (hS "cellpatches.maps" 558) 280)::
 (nat_lit 282,hT #[])::
 (nat_lit 284,hT #[hS "board" 571,hS "ways" 572,hS "one" 573,hS "other" 574,hS "near" 575])::
 (nat_lit 285,hT #[])::
 (nat_lit 287,iF "borders" 568 569 570 185 4 3 282 181 283 (.ref 284) (.ref 285) 286 576 577)::
 (nat_lit 288,hF "borders" (top 45) (hS "cellpatches.maps" 558) 287)::
 (nat_lit 289,hT #[])::
 (nat_lit 291,hT #[hS "_law_script" 584,hS "_law_k" 585])::
 (nat_lit 292,hT #[])::
 (nat_lit 294,iF "_law_cell" 581 582 583 191 2 3 289 181 290 (.ref 291) (.ref 292) 293 586 587)::
 (nat_lit 295,hF "_law_cell" (top 47) EL 294)::
 (nat_lit 296,hT #[])::
 (nat_lit 298,hT #[hS "_law_script" 592,hS "_law_k" 593,hS "_law_many" 594,hS "_law_cell_here" 595])::
 (nat_lit 299,hT #[])::
 (nat_lit 301,iF "_law_drawn" 589 590 591 195 3 3 296 181 297 (.ref 298) (.ref 299) 300 596 597)::
 (nat_lit 302,hF "_law_drawn" (top 48) EL 301)::
 (nat_lit 303,hT #[])::
 (nat_lit 306,iF "_law_board" 599 600 601 199 3 3 303 181 304 .none .none 305 602 603)::
 (nat_lit 307,hF "_law_board" (top 49) EL 306)::
 (nat_lit 308,hT #[])::
 (nat_lit 311,iF "_law_cells" 605 606 607 208 1 3 308 181 309 .none .none 310 608 609)::
 (nat_lit 312,hF "_law_cells" (top 50) EL 311)::
 (nat_lit 313,hT #[])::
 (nat_lit 315,hT #[hS "_law_board_here" 614,hS "_law_cell_here" 615])::
 (nat_lit 316,hT #[])::
 (nat_lit 318,iF "_law_sign" 611 612 613 213 2 3 313 181 314 (.ref 315) (.ref 316) 317 616 617)::
 (nat_lit 319,hF "_law_sign" (top 51) EL 318)::
 (nat_lit 320,hT #[])::
 (nat_lit 322,hT #[hS "_law_script" 622,hS "_law_at" 623,hS "_law_board_here" 624])::
 (nat_lit 323,hT #[])::
 (nat_lit 325,iF "_law_cell_in" 619 620 621 215 3 3 320 181 321 (.ref 322) (.ref 323) 324 625 626)::
 (nat_lit 326,hF "_law_cell_in" (top 52) EL 325)::
 (nat_lit 327,hT #[])::
 (nat_lit 329,hT #[hS "_law_script" 631,hS "_law_board_here" 632,hS "_law_whole" 633,hS "_law_ways" 634,hS "_law_one" 635,hS "_law_third" 636,hS "_law_own" 637,hS "_law_numbers" 638,hS "_law_other" 639,hS "_law_here" 640,hS "_law_far" 641,hS "_law_row" 642,hS "_law_down" 643,hS "_law_right" 644,hS "_law_least" 645,hS "_law_more" 646])::
 (nat_lit 330,hT #[])::
 (nat_lit 332,iF "law" 628 629 630 217 1 3 327 181 328 (.ref 329) (.ref 330) 331 647 648)::
 (nat_lit 333,hF "law" (top 53) EL 332)::[]
def oy:List Nat:=[2,3,15,22,23,24,25,28,35,36,37,40,47,48,49,52,59,60,61,64,71,72,73,76,83,84,85,88,90,91,93,94,95,97,98,100,101,102,105,106,107,110,111,112,114,115,117,118,119,121,122,124,125,126,128,129,131,132,133,136,137,138,140,141,143,144,145,148,149,150,152,153,155,156,157,159,160,162,163,164,166,167,169,170,171,173,174,176,177,178,180,181,183,184,185,187,188,190,191,192,195,196,197,199,200,202,203,204,206,207,209,210,211,213,214,216,217,218,220,221,223,224,225,228,229,230,232,233,235,236,237,240,241,242,244,245,247,248,249,251,252,254,255,256,258,259,261,262,263,266,267,268,270,271,273,274,275,277,278,280,281,282,284,285,287,288,289,291,292,294,295,296,298,299,301,302,303,306,307,308,311,312,313,315,316,318,319,320,322,323,325,326,327,329,330,332,333]
def vN:PX:={PySem.Challenge.pw_cellpatches_k75_whole_roads with main:={PySem.Challenge.pw_cellpatches_k75_whole_roads.main with body:=[top 1,top 2,top 3,top 4,top 5,top 6,top 8,top 9,top 10,top 11,top 12,top 13,top 14,top 15,top 16,top 17,top 18,top 19,top 20,top 21,top 22,top 23,top 24,top 25,top 27,top 28,top 29,top 30,top 31,top 32,top 33,top 34,top 35,top 36,top 37,top 39,top 40,top 42,top 44,top 45,top 47,top 48,top 49,top 50,top 51,top 52,top 53]} }
open PySem.W PyProof.Rows in
def IG:LeftO PySem.Challenge.rw_cellpatches_k75_whole_roads.row.prog vN [] (λs=>xlAt vN [] s&&recOk PySem.Challenge.rw_cellpatches_k75_whole_roads.row.records s) (kHook oz oy (λ_=>by kernel_rfl)).obs (kHook oz oy (λ_=>by kernel_rfl)).val 5130:=λw=>by kernel_rfl
end K1
namespace L2
open PySem PySem.Spec PyProof.Rows
abbrev Key:=Sum Int Str
def oI:Key->Value->Bool
 | .inl k,v=>Value.isInt k v
 | .inr x,v=>Value.isStrOf x v
def Je(w:World):Key->Int
 | .inl k=>hashInt k
 | .inr x=>hashStr w x
def bM:∀{k:Key}{v:Value},oI k v=true->(∃i t,k=SX i/\v=TX i t)\/(∃x t,k=Tp x/\v=TV x t)
 | .inl i,v,h=>by
   obtain⟨t,e⟩:=Value.isInt_shape (k:=i) (v:=v) h;exact .inl ⟨i,t,rfl,e⟩
 | .inr x,v,h=>by
   obtain⟨t,e⟩:=Value.isStrOf_shape (x:=x) (v:=v) h;exact .inr ⟨x,t,rfl,e⟩
def zq(i:Int)(t:Tok):oI (.inl i) (.int i t)=true:=by simp[oI,Value.isInt]
def zr(x:Str)(t:Tok):oI (.inr x) (.str x t)=true:=by simp[oI,Value.isStrOf]
def Gr(a b:Int):decide ((SX a:Key)=SX b)=(a==b):=by
 by_cases e:a=b
 ·subst e;simp
 ·have h:¬(SX a:Key)=SX b:=λq=>e (Sum.inl.inj q);rw[UH h];exact(UL.mpr e).symm
def Gv(a b:Str):decide ((Tp a:Key)=Tp b)=decide (a=b):=by
 by_cases e:a=b
 ·subst e;simp
 ·have h:¬(Tp a:Key)=Tp b:=λq=>e (Sum.inr.inj q);rw[UH h,UH e]
def Gs(a:Int)(b:Str):decide ((SX a:Key)=Tp b)=false:=UH (λq=>nomatch q)
def Gu(a:Str)(b:Int):decide ((Tp a:Key)=SX b)=false:=UH (λq=>nomatch q)
def a9(prog:PX)(w:World):PySem.KeyKind prog w Key where
 is:=oI
 hash:=Je w
 inj:=λv a b ha hb=>by
  rcases bM ha with⟨i,t,rfl,rfl⟩ | ⟨x,t,rfl,rfl⟩
  ·rcases bM hb with⟨j,u,rfl,e⟩ | ⟨y,u,rfl,e⟩
   ·injection e with e1 _;rw[e1]
   ·exact nomatch e
  ·rcases bM hb with⟨j,u,rfl,e⟩ | ⟨y,u,rfl,e⟩
   ·exact nomatch e
   ·injection e with e1 _;rw[e1]
 byValue:=λk v h=>by
  rcases bM h with⟨i,t,rfl,rfl⟩ | ⟨x,t,rfl,rfl⟩<;>rfl
 pyHash:=λhv h=>by
  rcases bM hv with⟨i,t,rfl,rfl⟩ | ⟨x,t,rfl,rfl⟩
  ·exact wpAny_pyHash_int h
  ·exact wpAny_pyHash_str h
 eqBool:=λhu hv h=>by
  rcases bM hu with⟨i,t,rfl,rfl⟩ | ⟨x,t,rfl,rfl⟩
  ·rcases bM hv with⟨j,u,rfl,rfl⟩ | ⟨y,u,rfl,rfl⟩
   ·rw[Gr] at h;exact wpAny_eqBool_int h
   ·rw[Gs] at h;exact TH i t y u _ _ _ _ h
  ·rcases bM hv with⟨j,u,rfl,rfl⟩ | ⟨y,u,rfl,rfl⟩
   ·rw[Gu] at h;exact TF x t j u _ _ _ _ h
   ·rw[Gv] at h;exact wpAny_eqBool_str h
 «strs» :=λk x t v h=>by
  rcases bM h with⟨i,u,rfl,e⟩ | ⟨y,u,rfl,e⟩
  ·exact nomatch e
  ·injection e with e1 _
   subst e1;cases v<;>rfl
def uQ(prog:PX)(w:World)(i:Int)(t:Tok):(a9 prog w).is (.inl i) (.int i t)=true:=zq i t
def uR(prog:PX)(w:World)(x:Str)(t:Tok):(a9 prog w).is (.inr x) (.str x t)=true:=zr x t
inductive V where
 |non | bl (b:Bool) | int (i:Int) | str (x:Str) | byt (b:Array UInt8) | flt (b:UInt64) | ref (a:Addr) | ty (n:String)
 deriving DecidableEq
def RelV:V->Value->Prop
 | .non,u=>u=Qv
 | .bl b,u=>u=RZ b
 | .int i,u=>∃t,u=TX i t
 | .str x,u=>∃t,u=TV x t
 | .byt b,u=>∃t,u=Value.bytes b t
 | .flt b,u=>∃t,u=Value.float b t
 | .ref a,u=>u=P_ a
 | .ty n,u=>u=Um n
abbrev Vals:List V->List Value->Prop:=S_ RelV
def Vals.length{xs:List V}{us:List Value}(r:Vals xs us):xs.length=us.length:=QM r
def Vals.get:∀{xs:List V}{us:List Value}{i:Nat}{x:V},Vals xs us->xs[i]? =some x->∃u,us[i]? =some u/\RelV x u
 |_,_,_,_, .nil,e=>by simp at e
 |_,_,0,_, .cons r _,e=>by simp at e;subst e;exact⟨_,rfl,r⟩
 |_,_,i+1,x, .cons _ t,e=>by
  obtain⟨u,h1,h2⟩:=Vals.get (i:=i) (x:=x) t (by simpa using e);exact⟨u,by simpa using h1,h2⟩
def Vals.append:∀{xs ys:List V}{us ws:List Value},Vals xs us->Vals ys ws->Vals (xs++ys) (us++ws)
 |_,_,_,_, .nil,s=>s
 |_,_,_,_, .cons r t,s=> .cons r (Vals.append t s)
def Vals.take:∀{xs:List V}{us:List Value}(n:Nat),Vals xs us->Vals (xs.take n) (us.take n)
 |_,_,0,_=> .nil
 |_,_,_+1, .nil=> .nil
 |_,_,n+1, .cons r t=> .cons r (Vals.take n t)
def RelO:Option V->Option Value->Prop
 |some v,some u=>RelV v u
 |none,none=>True
 |_,_=>False
def KV{κ:Type}:List (κ×V)->List (κ×Value)->Prop:=S_ λ(p:κ×V) (q:κ×Value)=>p.1=q.1/\RelV p.2 q.2
def kV:Key->V
 | .inl i=> .int i
 | .inr x=> .str x
inductive HO where
 |lst (xs:List V)
 |tup (xs:List V)
 |dK (ax:List (Key×V)) | dT (ax:List (List Key×V))
 |set (S:Int->Bool) (n:Nat)
 |ins (C dx:Addr) (fs:List (Str×V))
 |own (x:Addr)
 |xd (fs:List (Str×V))
 |met (f x:Addr)
 |rng (lo hi:Int)
 |frz (o:Obj) (u:HO)
 |tbl (ps:Array Value)
 |ext (φ:Heap->Prop)
abbrev Hp:=Addr->Option HO
def upd(H:Hp)(a:Addr)(o:HO):Hp:=λb=>if b=a then some o else H b
def aD{H:Hp}{a:Addr}{o:HO}:upd H a o a=some o:=by unfold upd;rw[UD rfl]
def aw{H:Hp}{a b:Addr}{o:HO}(h:b≠a):upd H a o b=H b:=by unfold upd;rw[UE h]
def Bm{H:Hp}{a b:Addr}{o u:HO}(h:H a=some o)(h':H b=some u)(d:o≠u):a≠b:=by
 intro e;subst e;rw[h] at h';exact d (Pz h')
def ba{H:Hp}{a b:Addr}{o:HO}(h:H a=some o)(h':H b=none):a≠b:=by
 intro e;subst e;rw[h] at h';cases h'
section
variable(P:PX)(w:World)
def ObjOk(H:Hp)(h:Heap)(a:Addr):HO->Prop
 | .lst xs=>xs.length<=Py/\∃(aK:List Value) (n:Nat),Vals xs aK/\h.get? a=some {cls:= .type "list",data:= .seq aK.toArray n}
 | .tup xs=>xs.length<=Py/\∃aK:List Value,Vals xs aK/\IsTup h a aK.toArray
 | .dK ax=>ax.length<=Py/\(a==Qy)=false/\∃vs,KV ax vs/\h.DictOf (a9 P w) a vs
 | .dT ax=>ax.length<=Py/\(a==Qy)=false/\∃xs:List (List Key×Addr×Value),
    S_ (λ(p:List Key×V) (q:List Key×Addr×Value)=>p.1=q.1/\H q.2.1=some (.tup (p.1.map kV))/\RelV p.2 q.2.2) ax xs/\
    ∃o es ep,h.get? a=some o/\o.ExactDict/\o.data= .dict es ep/\es.toList=xs.map (Uc (QU (a9 P w)))/\(xs.map (·.1)).Nodup
 | .set S n=>h.SetOf (intKind P w) a S n
 | .ins C dx fs=>H dx=some (.own a)/\fs.length<=1000/\dx≠a/\h.get? a=some (SY C dx)/\
    ∃mA,h.Ns1 dx mA/\(∀f,RelO (fs.lookup f) (mA f))/\PySem.Within mA (fs.map (·.1))
 | .own _=>∃o,h.get? a=some o
 | .xd fs=>∃mA,h.Ns1 a mA/\∀f,RelO (fs.lookup f) (mA f)
 | .rng lo hi=>∃t u v,h.get? a=some {cls:= .type "range",data:= .fields #[.int lo t, .int hi u, .int 1 v]}
 | .frz o u=>h.get? a=some o/\ObjOk H h a u
 | .tbl ps=>h.get? a=some {cls:= .none,data:= .fields ps}
 | .met f x=>h.get? a=some (SE (.ref f) (.ref x))
 | .ext φ=>φ h/\(∃o,h.get? a=some o)/\∀h1 h2:Heap,φ h1->(∀o,h1.get? a=some o->h2.get? a=some o)->φ h2
def HOk(H:Hp)(h:Heap):Prop:=∀a o,H a=some o->ObjOk P w H h a o
end
section
variable{P:PX}{w:World}{H H':Hp}{h h':Heap}{a:Addr}{o:HO}
def ObjOk.lt(x:ObjOk P w H h a o):a<h.objs.size:=by
 cases o with
 |lst xs=>obtain⟨_,_,_,_,e⟩:=x;exact Pw e
 |tup xs=>obtain⟨_,_,_,p⟩:=x;exact p.lt
 |dK ax=>obtain⟨_,_,_,_,o,_,_,e,_⟩:=x;exact Pw e
 |dT ax=>obtain⟨_,_,_,_,o,_,_,e,_⟩:=x;exact Pw e
 |set S n=>obtain⟨o,_,_,_,e,_⟩:=x;exact Pw e
 |ins C dx fs=>obtain⟨_,_,_,e,_⟩:=x;exact Pw e
 |own y=>obtain⟨_,e⟩:=x;exact Pw e
 |xd fs=>obtain⟨_,⟨_,_,_,e,_⟩,_⟩:=x;exact Pw e
 |rng lo hi=>obtain⟨_,_,_,e⟩:=x;exact Pw e
 |frz ob u=>obtain⟨e,_⟩:=x;exact Pw e
 |tbl ps=>exact Pw (show h.get? a=some _ from x)
 |met f y=>exact Pw (show h.get? a=some _ from x)
 |ext φ=>obtain⟨_,⟨_,e⟩,_⟩:=x;exact Pw e
def Paired.mapP{α β:Type}{F G:α->β->Prop}:∀{UX:List α}{UY:List β},S_ F UX UY->(∀a b,F a b->G a b)->S_ G UX UY
 |_,_, .nil,_=> .nil
 |_,_, .cons r t,f=> .cons (f _ _ r) (Paired.mapP t f)
def ObjOk.stay(x:ObjOk P w H h a o)(k:∀b u,(b=a\/H b=some (.own a))->h.get? b=some u->h'.get? b=some u)
 (ho:∀b,H b=some (.own a)->H' b=some (.own a))(ht:∀b xs,H b=some (.tup xs)->H' b=some (.tup xs)):ObjOk P w H' h' a o:=by
 induction o with
 |lst xs=>obtain⟨z,aK,n,r,e⟩:=x;exact⟨z,aK,n,r,k _ _ (.inl rfl) e⟩
 |tup xs=>obtain⟨z,aK,r,ob,e,c⟩:=x;exact⟨z,aK,r,ob,k _ _ (.inl rfl) e,c⟩
 |dK ax=>obtain⟨z,y,vs,r,ob,es,ep,e,c⟩:=x;exact⟨z,y,vs,r,ob,es,ep,k _ _ (.inl rfl) e,c⟩
 |dT ax=>
  obtain⟨z,y,xs,r,ob,es,ep,e,c⟩:=x;exact⟨z,y,xs,Paired.mapP r λp q z=>⟨z.1,ht _ _ z.2.1,z.2.2⟩,ob,es,ep,k _ _ (.inl rfl) e,c⟩
 |set S n=>obtain⟨ob,es,ep,t,e,c⟩:=x;exact⟨ob,es,ep,t,k _ _ (.inl rfl) e,c⟩
 |ins C dx fs=>
  obtain⟨d,z,ne,e,mA,⟨od,es,ep,e2,c⟩,r⟩:=x;exact⟨ho _ d,z,ne,k _ _ (.inl rfl) e,mA,⟨od,es,ep,k _ _ (.inr d) e2,c⟩,r⟩
 |own y=>obtain⟨ob,e⟩:=x;exact⟨ob,k _ _ (.inl rfl) e⟩
 |xd fs=>obtain⟨mA,⟨od,es,ep,e,c⟩,r⟩:=x;exact⟨mA,⟨od,es,ep,k _ _ (.inl rfl) e,c⟩,r⟩
 |rng lo hi=>obtain⟨t,u,v,e⟩:=x;exact⟨t,u,v,k _ _ (.inl rfl) e⟩
 |frz ob u ih=>obtain⟨e,q⟩:=x;exact⟨k _ _ (.inl rfl) e,ih q⟩
 |tbl ps=>
  have e:h.get? a=some {cls:= .none,data:= .fields ps}:=x;show h'.get? a=some {cls:= .none,data:= .fields ps};exact k a _ (.inl rfl) e
 |met f y=>
  have e:h.get? a=some (SE (.ref f) (.ref y)):=x;show h'.get? a=some (SE (.ref f) (.ref y));exact k a _ (.inl rfl) e
 |ext φ=>obtain⟨p,⟨o,e⟩,st⟩:=x;exact⟨st _ _ p λo q=>k _ _ (.inl rfl) q,⟨o,k _ _ (.inl rfl) e⟩,st⟩
def HOk.lt(x:HOk P w H h)(e:H a=some o):a<h.objs.size:=(x a o e).lt
def HOk.fresh(x:HOk P w H h)(e:h.objs.size<=a):H a=none:=by
 cases q:H a with
 |none=>rfl
 |some u=>exact UK (PZ (x.lt q) e) (Qp _)
def HOk.kept(x:HOk P w H h)(k:∀b u,h.get? b=some u->h'.get? b=some u):HOk P w H h':=λa o e=>
 (x a o e).stay (λb u _ q=>k b u q) (λ_ q=>q) λ_ _ q=>q
def HOk.laid(x:HOk P w H h)(k:∀b u,h.get? b=some u->h'.get? b=some u)(hp:h.objs.size<=a)(new:ObjOk P w (upd H a o) h' a o):HOk P w (upd H a o) h':=λb u e=>by
 have hn:=x.fresh hp;by_cases hb:b=a
 ·subst hb;rw[aD] at e;cases e;exact new
 ·rw[aw hb] at e;exact(x b u e).stay (λc v _ q=>k c v q) (λc q=>by rw[aw (ba q hn)];exact q) λc xs q=>by rw[aw (ba q hn)];exact q
end
def Rd(H:Hp)(a:Addr)(u:HO):Prop:=H a=some u\/∃o,H a=some (.frz o u)
def Rd.ok{P:PX}{w:World}{H:Hp}{h:Heap}{a:Addr}{u:HO}(r:Rd H a u)(x:HOk P w H h):ObjOk P w H h a u:=by
 rcases r with r | ⟨o,r⟩
 ·exact x a u r
 ·obtain⟨_,q⟩:=x a _ r;exact q
def HQ:Option HO->Prop
 |some (.lst _)=>True
 |some (.dK _)=>True
 |some (.dT _)=>True
 |some (.set _ _)=>True
 |some (.ins _ _ _)=>True
 |some (.ext _)=>True
 |_=>False
section
variable{P:PX}{w:World}{H:Hp}{h h':Heap}{x e:Addr}{o':HO}
def HOk.write(ok:HOk P w H h)(mu:HQ (H x))(he:e=x\/H e=some (.own x))(k:∀b u,b≠e->h.get? b=some u->h'.get? b=some u)(Ac:∃u,h'.get? e=some u)
 (new:ObjOk P w (upd H x o') h' x o'):HOk P w (upd H x o') h':=λb u q=>by
 have Jl:∀c y,H c=some (.own y)->c≠x:=λc y r z=>by subst z;rw[r] at mu;exact mu
 have Lz:∀c xs,H c=some (.tup xs)->c≠x:=λc xs r z=>by subst z;rw[r] at mu;exact mu
 by_cases hb:b=x
 ·subst hb;rw[aD] at q;cases q;exact new
 ·rw[aw hb] at q;by_cases FQ:b=e
  ·have q':H b=some (.own x):=by
    rcases he with z | z
    ·exact UK (FQ.trans z) hb
    ·rw[FQ];exact z
   rw[q] at q';cases q';obtain⟨v,hv⟩:=Ac;exact⟨v,by rw[FQ];exact hv⟩
  ·refine(ok b u q).stay (λc v hc r=>k c v ?_ r) (λc r=>by rw[aw (Jl c b r)];exact r) λc xs r=>by rw[aw (Lz c xs r)];exact r
   rcases hc with rfl | hc
   ·exact FQ
   ·rintro rfl;rcases he with z | z
    ·exact Jl c b hc z
    ·rw[hc] at z;cases z;exact hb rfl
end
structure Un (fs ex:List Addr) (H H':Hp) (h h':Heap):Prop where
 keep:∀b o,h.get? b=some o->H b=none->b∉fs->b∉ex->h'.get? b=some o
 slot:∀b o,h.get? b=some o->H b=none->b∈fs->b∉ex->∃sl,h'.get? b=some {o with slots:=sl}
 free:∀b o,h.get? b=some o->H b=none->b∉ex->H' b=none
 there:∀b o,h.get? b=some o->b∉ex->∃o',h'.get? b=some o'
 tups:∀b xs,H b=some (.tup xs)->H' b=some (.tup xs)
 frzs:∀b o u,H b=some (.frz o u)->H' b=some (.frz o u)
 tbls:∀b ps,H b=some (.tbl ps)->∃more,H' b=some (.tbl (ps++more))
section
variable{fs L_ ex wy:List Addr}{H H1 H2:Hp}{h h1 h2 h':Heap}{a x e:Addr}{o:HO}
def Un.any(u:Un fs ex H H1 h h1){b:Addr}{ob:Obj}(q:h.get? b=some ob)(n:H b=none)(hx:b∉ex):∃sl,h1.get? b=some {ob with slots:=sl}:=by
 by_cases hb:b∈fs
 ·exact u.slot b ob q n hb hx
 ·exact⟨ob.slots,u.keep b ob q n hb hx⟩
def Un.trans(a:Un fs ex H H1 h h1)(b:Un fs ex H1 H2 h1 h2):Un fs ex H H2 h h2 where
 keep:=λc ob q n hc hx=>b.keep c ob (a.keep c ob q n hc hx) (a.free c ob q n hx) hc hx
 slot:=λc ob q n hc hx=>by
  obtain⟨sl,e1⟩:=a.slot c ob q n hc hx;obtain⟨Hn,e2⟩:=b.slot c _ e1 (a.free c ob q n hx) hc hx;exact⟨Hn,e2⟩
 free:=λc ob q n hx=>by
  obtain⟨o',e1⟩:=a.there c ob q hx;exact b.free c o' e1 (a.free c ob q n hx) hx
 there:=λc ob q hx=>by
  obtain⟨o',e1⟩:=a.there c ob q hx;exact b.there c o' e1 hx
 tups:=λc xs q=>b.tups c xs (a.tups c xs q)
 frzs:=λc ob xs q=>b.frzs c ob xs (a.frzs c ob xs q)
 tbls:=λc ps q=>by
  obtain⟨m1,e1⟩:=a.tbls c ps q;obtain⟨m2,e2⟩:=b.tbls c _ e1;exact⟨m1++m2,by rw[e2,SH]⟩
def Un.kept(k:∀b u,h.get? b=some u->h'.get? b=some u):Un fs ex H H h h':=
 ⟨λb ob q _ _ _=>k b ob q,λb ob q _ _ _=>⟨ob.slots,k b ob q⟩,λ_ _ _ n _=>n,λb ob q _=>⟨ob,k b ob q⟩,λ_ _ q=>q,λ_ _ _ q=>q,λ_ ps q=>⟨#[],by rw[q];simp⟩⟩
def Un.refl:Un fs ex H H h h:=Un.kept λ_ _ q=>q
def Un.laid(k:∀b u,h.get? b=some u->h'.get? b=some u)(hp:h.objs.size<=a)(hn:H a=none):Un fs ex H (upd H a o) h h' where
 keep:=λb u q _ _ _=>k b u q
 slot:=λb u q _ _ _=>⟨u.slots,k b u q⟩
 free:=λb u q n _=>by rw[aw (P8 (PZ (Pw q) hp))];exact n
 there:=λb u q _=>⟨u,k b u q⟩
 tups:=λb xs q=>by rw[aw (ba q hn)];exact q
 frzs:=λb u xs q=>by rw[aw (ba q hn)];exact q
 tbls:=λb ps q=>⟨#[],by rw[aw (ba q hn),q];simp⟩
def Un.write(mu:HQ (H x))(he:e=x\/H e=some (.own x))(k:∀b u,b≠e->h.get? b=some u->h'.get? b=some u)(Ac:∃u,h'.get? e=some u):Un fs ex H (upd H x o) h h':=by
 have hx:∀b,H b=none->b≠x:=λb n z=>by subst z;rw[n] at mu;exact mu
 have hb:∀b,H b=none->b≠e:=λb n z=>by
  subst z;rcases he with r | r
  ·exact hx b n r
  ·rw[n] at r;cases r
 have hm:∀b u,H b=some u->¬HQ (some u)->b≠x:=λb u q nm z=>by subst z;rw[q] at mu;exact nm mu
 refine⟨λb u q n _ _=>k b u (hb b n) q,λb u q n _ _=>⟨u.slots,k b u (hb b n) q⟩,λb u q n _=>by rw[aw (hx b n)];exact n,λb u q _=>?_,
  λb xs q=>by rw[aw (hm b _ q λz=>z)];exact q,λb u xs q=>by rw[aw (hm b _ q λz=>z)];exact q,λb ps q=>⟨#[],by rw[aw (hm b _ q λz=>z),q];simp⟩⟩
 by_cases FQ:b=e
 ·subst FQ;exact Ac
 ·exact⟨u,k b u FQ q⟩
def Un.mono(u:Un fs ex H H1 h h1)(hs:∀b∈fs,b∈L_)(hx:∀b∈ex,b∈wy):Un L_ wy H H1 h h1:=
 ⟨λb ob q n hb he=>u.keep b ob q n (λz=>hb (hs b z)) λz=>he (hx b z),λ_ _ q n _ he=>u.any q n λz=>he (hx _ z),λb ob q n he=>u.free b ob q n λz=>he (hx b z),λb ob q he=>u.there b ob q λz=>he (hx b z),u.tups,u.frzs,u.tbls⟩
end
def Kk(h:Heap)(H:Hp):List Addr:=(PY h.objs.size).filter λa=>(H a).isSome
def sk(h:Heap)(H:Hp):Heap:=PySem.W.hideAll h (Kk h H)
def zj(h:Heap)(H:Hp):(sk h H).objs.size=h.objs.size:=PySem.W.hideAll_size _ _
def A1{h:Heap}{H:Hp}{b:Addr}{o:Obj}(e:h.get? b=some o)(n:H b=none):(sk h H).get? b=some o:=
 PySem.W.hideAll_get _ e λhm=>by
  have q:(H b).isSome=true:=(Qr.mp hm).2;rw[n] at q;simp at q
def DD{h:Heap}{H:Hp}{b:Addr}{o:Obj}(e:(sk h H).get? b=some o):h.get? b=some o/\H b=none:=by
 have e':h.get? b=some o:=PySem.W.of_hideAll (Kk h H) e;refine⟨e',?_⟩;cases q:H b with
 |none=>rfl
 |some x=>
  have hm:b∈Kk h H:=Qr.mpr ⟨Q3.mpr (Pw e'),by simp[q]⟩;have z:(sk h H).get? b=none:=PySem.W.hideAll_none (Kk h H) hm;rw[z] at e;cases e
def CK(g h:Heap)(L:Addr):List (Addr×Obj):=(PY h.objs.size).filterMap λa=>if a=L\/(g.get? a).isSome=true then none else(h.get? a).map λo=>(a,o)
def T0(g h:Heap)(L d:Addr):List (Addr×Obj):=(CK g h L).filter λp=>decide (p.1≠d)
structure Mod (K:Ph) (mg:Str->Option Value) (base:Heap):Prop where
 kin:K.In base
 glob:base.Ns PK mg
 blt:∃mb,base.Ns builtinsNs mb/\∀x:Str,x≠"__name__"->mb x=Qw x
 nolimit:base.NoLimit
structure Cx where
 prog:PX
 w:World
 K:Ph
 mg:Str->Option Value
 base:Heap
 A:Qm
 N:List Str
 s₀:Pf
 H₀:Hp
 env:Env
 outer:List Env
 stack:List Env
 ex:List Addr
 fn:Str->Bool
 calm:Bool
 pn:List (Addr×Obj)
 xe:Value->Pf->Prop
def nz(l:List Env):List Addr:=l.filterMap (·.frame)
abbrev Cx.fs(X:Cx):List Addr:=nz X.outer
def Kw(sc:Scope)(x:Str):Prop:=sc.names.lookup x=some .local\/sc.names.lookup x=some .cell\/sc.names.lookup x=some .free
def Loc(sc:Scope)(x:Str):Prop:=sc.names.lookup x=some .local\/sc.names.lookup x=some .cell
def Look(env:Env)(h:Heap)(m:Str->Option Value)(x:Str)(u:Value):Prop:=
 (env.kindOf x=some .local/\m x=some u)\/((env.kindOf x=some .cell\/env.kindOf x=some .free)/\∃c,env.cells.lookup x=some c/\h.IsCell c (some u))
structure Cx.Ok (X:Cx):Prop where
 mod:Mod X.K X.mg X.base
 kind:X.env.scope.kind= .function
 glob:X.env.globals=PK
 blt:X.env.builtins=builtinsNs
 above:X.s₀.heap.objs.size<=X.env.locals
 inj:∀x y c,X.env.cells.lookup x=some c->X.env.cells.lookup y=some c->x=y
 has:∀x,(X.env.kindOf x=some .cell\/X.env.kindOf x=some .free)->∃c,X.env.cells.lookup x=some c
 cab:∀x c,X.fn x=true->X.env.cells.lookup x=some c->X.s₀.heap.objs.size<=c
 hd:X.calm=true->X.A.handled=none
 frames:X.A.frames=some X.stack
 stk:X.stack=X.outer\/(X.stack=X.env::X.outer/\X.env.frame=some X.env.locals)
 exf:∀b∈X.ex,b≠X.env.locals/\∀x c,X.env.cells.lookup x=some c->c≠b
 bs:∀b o,X.base.get? b=some o->X.s₀.heap.get? b=some o/\X.H₀ b=none
 bsz:X.base.objs.size<=X.s₀.heap.objs.size
 noex:∀b o,X.base.get? b=some o->b∉X.ex
 exfs:∀b∈X.ex,b∉X.fs
 funs:X.s₀.heap.FunFrames X.base X.outer
 frf:∀b∈X.fs,X.H₀ b=none
structure Inv (X:Cx) (f8:List (Addr×Obj)) (σ:List (Option V)) (H:Hp) (s:Pf):Prop where
 ok:X.Ok
 os:s.os=X.s₀.os
 bare:SI s.gens
 base:Un X.fs X.ex X.H₀ H X.s₀.heap s.heap
 loc:∃m,s.heap.Ns X.env.locals m/\∀(i:Nat) (x:Str) (v:V),X.N[i]? =some x->σ[i]? =some (some v)->Kw X.env.scope x->∃u,RelV v u/\Look X.env s.heap m x u
 cell:∀x c,X.env.cells.lookup x=some c->∃v,s.heap.IsCell c v
 free:H X.env.locals=none
 freeC:∀x c,X.env.cells.lookup x=some c->H c=none
 pin:∀p∈X.pn++f8,s.heap.get? p.1=some p.2/\H p.1=none/\p.1≠X.env.locals/\p.1∉X.fs/\∀v,p.2.data≠ .cell v
 hok:HOk X.prog X.w H s.heap
 len:σ.length=X.N.length
section
variable{X:Cx}{f8:List (Addr×Obj)}{σ:List (Option V)}{H H':Hp}{s:Pf}{h':Heap}
def Cx.Ok.nofr(ok:X.Ok){b:Addr}{o:Obj}(e:X.base.get? b=some o):b∉X.fs:=λhb=>by
 have:=(ok.funs.mem hb).1;rw[e] at this;cases this
def Inv.bs(I:Inv X f8 σ H s):∀b o,X.base.get? b=some o->s.heap.get? b=some o/\H b=none:=λb o e=>
 ⟨I.base.keep b o (I.ok.bs b o e).1 (I.ok.bs b o e).2 (I.ok.nofr e) (I.ok.noex b o e),I.base.free b o (I.ok.bs b o e).1 (I.ok.bs b o e).2 (I.ok.noex b o e)⟩
def Inv.bk(I:Inv X f8 σ H s):∀b o,X.base.get? b=some o->s.heap.get? b=some o:=λb o e=>(I.bs b o e).1
def Inv.mod(I:Inv X f8 σ H s):Mod X.K X.mg X.base:=I.ok.mod
def Inv.kIn(I:Inv X f8 σ H s):X.K.In s.heap:=I.ok.mod.kin.keeps I.bk
def Inv.nolimit(I:Inv X f8 σ H s):s.heap.NoLimit:=I.ok.mod.nolimit.keeps I.bk
def Inv.lt(I:Inv X f8 σ H s):X.env.locals<s.heap.objs.size:=let ⟨_,hn,_⟩:=I.loc;hn.lt
def Inv.sz(I:Inv X f8 σ H s):X.s₀.heap.objs.size<=s.heap.objs.size:=PM I.ok.above (Qz I.lt)
def Inv.nofs(I:Inv X f8 σ H s){a:Addr}(h:s.heap.objs.size<=a):a∉X.fs:=λhb=>by
 obtain⟨_,o,ho,_⟩:=I.ok.funs.mem hb;exact UK (PZ (Pw ho) (PM I.sz h)) (Qp _)
def Inv.cne(I:Inv X f8 σ H s):∀x c,X.env.cells.lookup x=some c->c≠X.env.locals:=λx c e z=>by
 obtain⟨v,o,ho,hd⟩:=I.cell x c e;obtain⟨m,⟨o',es,ep,qN,v3,_⟩,_⟩:=I.loc;rw[z,qN] at ho;cases ho;rw[v3] at hd;cases hd
def Inv.funs(I:Inv X f8 σ H s):s.heap.FunFrames X.base X.outer:=by
 have all:∀(l:List Env),(∀b∈nz l,b∈X.fs)->X.s₀.heap.FunFrames X.base l->s.heap.FunFrames X.base l:=by
  intro l;induction l with
  |nil=>intro _ _;trivial
  |cons env r ih=>
   intro hs hl;obtain⟨hk,⟨L,o,hf,hn,ho,hd⟩,hr⟩:=hl;have hL:L∈X.fs:=hs L (by unfold nz;rw[Sz,hf];exact Pa);obtain⟨sl,e⟩:=I.base.slot L o ho (I.ok.frf L hL) hL λz=>I.ok.exfs L z hL;exact⟨hk,⟨L,_,hf,hn,e,hd⟩,ih (λb hb=>hs b (by unfold nz;rw[Sz,hf];exact O_ _ hb)) hr⟩
 exact all X.outer (λ_ hb=>hb) I.ok.funs
def Inv.stack(I:Inv X f8 σ H s):s.heap.FunFrames X.base X.stack:=by
 rcases I.ok.stk with e | ⟨e,hf⟩
 ·rw[e];exact I.funs
 ·rw[e];obtain⟨m,hn,_⟩:=I.loc;refine .cons (by rw[I.ok.kind];decide) hf hn ?_ I.funs;exact T_ (PM I.ok.bsz I.ok.above)
def Inv.stkSub(I:Inv X f8 σ H s):∀b∈nz X.stack,b∈X.env.locals::X.fs:=λb hb=>by
 rcases I.ok.stk with e | ⟨e,hf⟩
 ·rw[e] at hb;exact O_ _ hb
 ·rw[e] at hb;unfold nz at hb;rw[Sz,hf] at hb;exact hb
def Inv.stkFree(I:Inv X f8 σ H s):∀b∈nz X.stack,H b=none:=λb hb=>by
 rcases Pn.mp (I.stkSub b hb) with e | hb
 ·rw[e];exact I.free
 ·obtain⟨_,o,ho,_⟩:=I.ok.funs.mem hb;exact I.base.free b o ho (I.ok.frf b hb) λz=>I.ok.exfs b z hb
def Inv.step{g':Array GenState}{t':Nat}{d':Drawn}{ch:List Addr}(I:Inv X f8 σ H s)
 (CF:∀b∈ch,(b∈X.ex\/X.s₀.heap.objs.size<=b)/\b≠X.env.locals/\(∀x c,X.env.cells.lookup x=some c->c≠b)/\∀p∈X.pn++f8,p.1≠b)
 (keep:∀b o,b≠X.env.locals->b∉X.fs->b∉ch->s.heap.get? b=some o->H b=none->h'.get? b=some o)
 (slot:∀b o,b≠X.env.locals->b∈X.fs->b∉ch->s.heap.get? b=some o->H b=none->∃sl,h'.get? b=some {o with slots:=sl})(free:∀b o,b∉ch->s.heap.get? b=some o->H b=none->H' b=none)
 (there:∀b o,b∉ch->s.heap.get? b=some o->∃o',h'.get? b=some o')
 (tups:∀b xs,H b=some (.tup xs)->H' b=some (.tup xs))(frzs:∀b o u,H b=some (.frz o u)->H' b=some (.frz o u))(tbls:∀b ps,H b=some (.tbl ps)->∃more,H' b=some (.tbl (ps++more)))
 (ns:∀m,s.heap.Ns X.env.locals m->h'.Ns X.env.locals m)(hok:HOk X.prog X.w H' h')(hg:SI g'):
 Inv X f8 σ H' {s with heap:=h',gens:=g',drawn:=d',toks:=t'}:=by
 have MN:∀b o,X.s₀.heap.get? b=some o->b≠X.env.locals:=λb o e=>P8 (PZ (Pw e) I.ok.above);have Kg:∀b o,X.s₀.heap.get? b=some o->b∉X.ex->b∉ch:=λb o e hx hb=>by
  rcases(CF b hb).1 with z | z
  ·exact hx z
  ·exact UK (PZ (Pw e) z) (Qp _)
 have cellK:∀x c,X.env.cells.lookup x=some c->∀v,s.heap.IsCell c v->h'.IsCell c v:=λx c e v ⟨o,ho,hd⟩=>by
  have Jh:c∉ch:=λz=>(CF c z).2.2.1 x c e rfl;by_cases hc:c∈X.fs
  ·obtain⟨sl,q⟩:=slot c o (I.cne x c e) hc Jh ho (I.freeC x c e);exact⟨_,q,hd⟩
  ·exact⟨o,keep c o (I.cne x c e) hc Jh ho (I.freeC x c e),hd⟩
 refine⟨I.ok,I.os,hg,⟨λb o e n hb hx=>?_,λb o e n hb hx=>?_,λb o e n hx=>?_,λb o e hx=>?_,λb xs e=>tups b xs (I.base.tups b xs e),λb o xs e=>frzs b o xs (I.base.frzs b o xs e),λb ps e=>?_⟩,?_,λx c e=>?_,?_,λx c e=>?_,λp hp=>?_,hok,I.len⟩
 ·exact keep b o (MN b o e) hb (Kg b o e hx) (I.base.keep b o e n hb hx) (I.base.free b o e n hx)
 ·obtain⟨sl,e1⟩:=I.base.slot b o e n hb hx;obtain⟨Hn,e2⟩:=slot b _ (MN b o e) hb (Kg b o e hx) e1 (I.base.free b o e n hx);exact⟨Hn,e2⟩
 ·obtain⟨o',e1⟩:=I.base.there b o e hx;exact free b o' (Kg b o e hx) e1 (I.base.free b o e n hx)
 ·obtain⟨o',e1⟩:=I.base.there b o e hx;exact there b o' (Kg b o e hx) e1
 ·obtain⟨m1,e1⟩:=I.base.tbls b ps e;obtain⟨m2,e2⟩:=tbls b _ e1;exact⟨m1++m2,by rw[e2,SH]⟩
 ·obtain⟨m,hn,hl⟩:=I.loc;refine⟨m,ns m hn,λi x v e1 e2 e3=>?_⟩;obtain⟨u,r,l⟩:=hl i x v e1 e2 e3;refine⟨u,r,?_⟩;rcases l with l | ⟨k,c,e,z⟩
  ·exact .inl l
  ·exact .inr ⟨k,c,e,cellK x c e _ z⟩
 ·obtain⟨v,z⟩:=I.cell x c e;exact⟨v,cellK x c e v z⟩
 ·obtain⟨m,⟨o,_,_,ho,_⟩,_⟩:=I.loc;exact free _ o (λz=>(CF _ z).2.1 rfl) ho I.free
 ·obtain⟨v,o,ho,hd⟩:=I.cell x c e;exact free c o (λz=>(CF c z).2.2.1 x c e rfl) ho (I.freeC x c e)
 ·obtain⟨e,n,ne,nf,d⟩:=I.pin p hp;have Jh:p.1∉ch:=λz=>(CF p.1 z).2.2.2 p hp rfl;exact⟨keep p.1 p.2 ne nf Jh e n,free p.1 p.2 Jh e n,ne,nf,d⟩
def Inv.un{t':Nat}(I:Inv X f8 σ H s)(u:Un X.fs [] H H' s.heap h')(hok:HOk X.prog X.w H' h'):Inv X f8 σ H' {s with heap:=h',toks:=t'}:=by
 obtain⟨m,⟨o,es,ep,ho,r⟩,_⟩:=id I.loc;obtain⟨sl,hL⟩:=u.any ho I.free (by simp);exact I.step (g':=s.gens) (d':=s.drawn) (ch:=[]) (λ_ z=>nomatch z) (λb o _ hb _ e n=>u.keep b o e n hb (by simp)) (λb o _ hb _ e n=>u.slot b o e n hb (by simp)) (λb o _ e n=>u.free b o e n (by simp)) (λb o _ e=>u.there b o e (by simp)) u.tups u.frzs u.tbls (λm' hm=>by
  obtain⟨o',HB,CY,qN,r'⟩:=hm;rw[ho] at qN;cases qN;exact⟨_,HB,CY,hL,r'⟩) hok I.bare
def Inv.call{g':Array GenState}{t':Nat}{d':Drawn}{ch:List Addr}(I:Inv X f8 σ H s)(u:Un (nz X.stack) ch H H' s.heap h')(hok:HOk X.prog X.w H' h')(hg:SI g')
 (CF:∀b∈ch,(b∈X.ex\/X.s₀.heap.objs.size<=b)/\b≠X.env.locals/\(∀x c,X.env.cells.lookup x=some c->c≠b)/\∀p∈X.pn++f8,p.1≠b):
 Inv X f8 σ H' {s with heap:=h',gens:=g',drawn:=d',toks:=t'}:=by
 obtain⟨m,⟨o,es,ep,ho,r⟩,_⟩:=id I.loc;obtain⟨sl,hL⟩:=u.any ho I.free λz=>(CF _ z).2.1 rfl;exact I.step (ch:=ch) CF (λb o hL hb hc e n=>u.keep b o e n (λz=>(Pn.mp (I.stkSub b z)).elim hL hb) hc) (λb o _ _ hc e n=>u.any e n hc) (λb o hc e n=>u.free b o e n hc) (λb o hc e=>u.there b o e hc) u.tups u.frzs u.tbls (λm' hm=>by
  obtain⟨o',HB,CY,qN,r'⟩:=hm;rw[ho] at qN;cases qN;exact⟨_,HB,CY,hL,r'⟩) hok hg
def Inv.turned{t':Nat}{it:Addr}(I:Inv X f8 σ H s)(k:∀b o,b≠it->s.heap.get? b=some o->h'.get? b=some o)(hn:H it=none)(hL:it≠X.env.locals)
 (h1:it∈X.ex\/X.s₀.heap.objs.size<=it)(h2:∀x c,X.env.cells.lookup x=some c->c≠it)(h3:∀p∈X.pn++f8,p.1≠it):Inv X f8 σ H {s with heap:=h',toks:=t'}:=by
 have E4:∀b u,H b=some u->b≠it:=λb u e z=>by rw[z,hn] at e;cases e
 refine I.step (g':=s.gens) (d':=s.drawn) (ch:=[it]) (λb hb=>?_) (λb o _ _ hc e _=>k b o (λz=>hc (by simp[z])) e) (λb o _ _ hc e _=>⟨o.slots,k b o (λz=>hc (by simp[z])) e⟩) (λ_ _ _ _ n=>n)
  (λb o hc e=>⟨o,k b o (λz=>hc (by simp[z])) e⟩) (λ_ _ e=>e) (λ_ _ _ e=>e) (λb ps e=>⟨#[],by rw[e];simp⟩) (λm hm=>?_) (λb u e=>?_) I.bare
 ·have e:b=it:=by simpa using hb
  subst e;exact⟨h1,hL,h2,h3⟩
 ·obtain⟨o,es,ep,ho,r⟩:=hm;exact⟨o,es,ep,k _ o (Qd hL) ho,r⟩
 ·refine(I.hok b u e).stay (λc v hc q=>k c v ?_ q) (λ_ q=>q) λ_ _ q=>q;rcases hc with z | z
  ·rw[z];exact E4 b u e
  ·exact E4 c _ z
def Inv.tok(I:Inv X f8 σ H s)(t:Nat):Inv X f8 σ H {s with toks:=t}:=I.un (h':=s.heap) (t':=t) Un.refl I.hok
def Inv.kept{t':Nat}(I:Inv X f8 σ H s)(k:∀b u,s.heap.get? b=some u->h'.get? b=some u):Inv X f8 σ H {s with heap:=h',toks:=t'}:=I.un (Un.kept k) (I.hok.kept k)
def Inv.laid{a:Addr}{o:HO}{t':Nat}(I:Inv X f8 σ H s)(k:∀b u,s.heap.get? b=some u->h'.get? b=some u)(hp:s.heap.objs.size<=a)(new:ObjOk X.prog X.w (upd H a o) h' a o):
 Inv X f8 σ (upd H a o) {s with heap:=h',toks:=t'}:=I.un (Un.laid k hp (I.hok.fresh hp)) (I.hok.laid k hp new)
def Inv.write{x e:Addr}{o:HO}{t':Nat}(I:Inv X f8 σ H s)(mu:HQ (H x))(he:e=x\/H e=some (.own x))(k:∀b u,b≠e->s.heap.get? b=some u->h'.get? b=some u)(Ac:∃u,h'.get? e=some u)
 (new:ObjOk X.prog X.w (upd H x o) h' x o):Inv X f8 σ (upd H x o) {s with heap:=h',toks:=t'}:=I.un (Un.write mu he k Ac) (I.hok.write mu he k Ac new)
def Inv.pins_of{Fb:List (Addr×Obj)}(I:Inv X f8 σ H s)(h:∀p∈Fb,s.heap.get? p.1=some p.2/\H p.1=none/\p.1≠X.env.locals/\p.1∉X.fs/\∀v,p.2.data≠ .cell v):Inv X Fb σ H s:=
 ⟨I.ok,I.os,I.bare,I.base,I.loc,I.cell,I.free,I.freeC,λp hp=>(PR.mp hp).elim (λz=>I.pin p (RC _ z)) (h p),I.hok,I.len⟩
def uV{N:List Str}(hN:N.Nodup){i j:Nat}{x:Str}(a:N[i]? =some x)(b:N[j]? =some x):i=j:=by
 obtain⟨h1,e1⟩:=Pe.mp a;obtain⟨h2,e2⟩:=Pe.mp b;exact(List.getElem_inj hN).mp (e1.trans e2.symm)
def rK{M:Model}{A:Qm}{E:Value->Pf->Prop}{i:Nat}{x:Str}{v:V}{u:Value}{Q:Unit->Pf->Prop}(I:Inv X f8 σ H s)(hN:X.N.Nodup)(hi:X.N[i]? =some x)(hx:Loc X.env.scope x)(r:RelV v u)
 (h:∀s',Inv X f8 (σ.set i (some v)) H s'->(∃a,Q_ a s.heap s'.heap/\(a=X.env.locals\/X.env.cells.lookup x=some a))->Q () s')(hf:X.fn x=true\/X.env.scope.names.lookup x=some .local:=by first | exact .inl rfl | exact .inr rfl | assumption):wpAny M A (storeName X.env x u) Q E s:=by
 obtain⟨m,hn,hl⟩:=id I.loc;have KN:(X.env.scope.kind== .class||(X.env.scope.kind== .module&&X.env.locals !=X.env.globals))=false:=by rw[I.ok.kind];rfl
 have Ms:i<σ.length:=by rw[I.len];exact(Pe.mp hi).1
 have cne:=I.cne;have tracked:∀{a:Addr}{h':Heap},(∃o,s.heap.get? a=some o/\H a=none)->Q_ a s.heap h'->HOk X.prog X.w H h':=λ{a h'} ha hs b ob e=>by
  obtain⟨_,_,ER⟩:=ha;refine(I.hok b ob e).stay (λc w' hc q=>(hs.2 c ?_).trans q) (λ_ q=>q) λ_ _ q=>q;rintro rfl;rcases hc with rfl | hc
  ·rw[ER] at e;cases e
  ·rw[ER] at hc;cases hc
 rcases hx with hk | hk
 ·refine wpAny_storeName_local hk hn (λh' N3 hs=>?_) KN;obtain⟨oL,_,_,J9,_⟩:=id hn;refine h _ ⟨I.ok,I.os,I.bare,⟨λb o e n hb hx=>?_,λb o e n hb hx=>?_,I.base.free,λb o e hx=>?_,I.base.tups,I.base.frzs,I.base.tbls⟩,⟨_,N3,λj y v' e1 e2 e3=>?_⟩,λy c e=>?_,I.free,I.freeC,λp hp=>?_,tracked ⟨oL,J9,I.free⟩ hs,by simpa using I.len⟩ ⟨_,hs, .inl rfl⟩
  ·exact(hs.2 b (P8 (PZ (Pw e) I.ok.above))).trans (I.base.keep b o e n hb hx)
  ·obtain⟨sl,e1⟩:=I.base.slot b o e n hb hx;exact⟨sl,(hs.2 b (P8 (PZ (Pw e) I.ok.above))).trans e1⟩
  ·obtain⟨o',e1⟩:=I.base.there b o e hx;exact⟨o',(hs.2 b (P8 (PZ (Pw e) I.ok.above))).trans e1⟩
  ·by_cases hj:j=i
   ·subst hj;rw[hi] at e1;cases e1;rw[Pt Ms] at e2;cases e2;exact⟨u,r, .inl ⟨hk,by simp⟩⟩
   ·rw[Pg (Qd hj)] at e2;obtain⟨u',r',q⟩:=hl j y v' e1 e2 e3;refine⟨u',r',?_⟩;rcases q with⟨k,e⟩ | ⟨k,c,e,z⟩
    ·refine .inl ⟨k,?_⟩;have:y≠x:=λe=>hj (uV hN e1 (e▸hi));simp[this,e]
    ·exact .inr ⟨k,c,e,z.sameBut hs (cne y c e)⟩
  ·obtain⟨w',z⟩:=I.cell y c e;exact⟨w',z.sameBut hs (cne y c e)⟩
  ·obtain⟨e,n,ne,nf,d⟩:=I.pin p hp;exact⟨(hs.2 p.1 ne).trans e,n,ne,nf,d⟩
 ·have KR:X.fn x=true:=by
   rcases hf with z | z
   ·exact z
   ·rw[z] at hk;cases hk
  obtain⟨c,hc⟩:=I.ok.has x (.inl hk);obtain⟨w',z⟩:=I.cell x c hc;refine wpAny_storeName_cell I.ok.kind hk hc z (λh' AZ hs=>?_);obtain⟨oc,Gb,Lb⟩:=id z;refine h {s with heap:=h'} ⟨I.ok,I.os,I.bare,⟨λb o e n hb hx=>?_,λb o e n hb hx=>?_,I.base.free,λb o e hx=>?_,I.base.tups,I.base.frzs,I.base.tbls⟩,⟨m,hn.sameBut hs (Qd (cne x c hc)),λj y v' e1 e2 e3=>?_⟩,λy c' e=>?_,I.free,I.freeC,λp hp=>?_,tracked ⟨oc,Gb,I.freeC x c hc⟩ hs,by simpa using I.len⟩ ⟨c,hs, .inr hc⟩
  ·exact(hs.2 b (P8 (PZ (Pw e) (I.ok.cab x c KR hc)))).trans (I.base.keep b o e n hb hx)
  ·obtain⟨sl,e1⟩:=I.base.slot b o e n hb hx;exact⟨sl,(hs.2 b (P8 (PZ (Pw e) (I.ok.cab x c KR hc)))).trans e1⟩
  ·obtain⟨o',e1⟩:=I.base.there b o e hx;exact⟨o',(hs.2 b (P8 (PZ (Pw e) (I.ok.cab x c KR hc)))).trans e1⟩
  ·by_cases hj:j=i
   ·subst hj;rw[hi] at e1;cases e1;rw[Pt Ms] at e2;cases e2;exact⟨u,r, .inr ⟨.inl hk,c,hc,AZ⟩⟩
   ·rw[Pg (Qd hj)] at e2;obtain⟨u',r',q⟩:=hl j y v' e1 e2 e3;refine⟨u',r',?_⟩;rcases q with q | ⟨k,c',e,z'⟩
    ·exact .inl q
    ·refine .inr ⟨k,c',e,z'.sameBut hs ?_⟩;rintro rfl;exact hj (uV hN e1 (I.ok.inj _ _ _ e hc▸hi))
  ·by_cases J4:c'=c
   ·subst J4;exact⟨_,AZ⟩
   ·obtain⟨w2,z2⟩:=I.cell y c' e;exact⟨w2,z2.sameBut hs J4⟩
  ·obtain⟨e,n,ne,nf,d⟩:=I.pin p hp;refine⟨(hs.2 p.1 ?_).trans e,n,ne,nf,d⟩;intro q;rw[q,Gb] at e;have q':oc=p.2:=Pz e;exact d w' (by rw[<-q'];exact Lb)
def vH{M:Model}{A:Qm}{E:Value->Pf->Prop}{i:Nat}{x:Str}{v:V}{u:Value}{Q:Unit->Pf->Prop}(I:Inv X f8 σ H s)(hN:X.N.Nodup)(hi:X.N[i]? =some x)(hx:Loc X.env.scope x)(r:RelV v u)
 (h:∀s',Inv X f8 (σ.set i (some v)) H s'->Q () s')(hf:X.fn x=true\/X.env.scope.names.lookup x=some .local:=by first | exact .inl rfl | exact .inr rfl | assumption):wpAny M A (storeName X.env x u) Q E s:=
 rK I hN hi hx r (λs' I' _=>h s' I') hf
def Inv.call'{s':Pf}{ch:List Addr}(I:Inv X f8 σ H s)(ho:s'.os=s.os)(u:Un (nz X.stack) ch H H' s.heap s'.heap)(hok:HOk X.prog X.w H' s'.heap)(hg:SI s'.gens)
 (CF:∀b∈ch,(b∈X.ex\/X.s₀.heap.objs.size<=b)/\b≠X.env.locals/\(∀x c,X.env.cells.lookup x=some c->c≠b)/\∀p∈X.pn++f8,p.1≠b):Inv X f8 σ H' s':=by
 obtain⟨h',g',d',t',o'⟩:=s';have e:o'=s.os:=ho;subst e;exact I.call (g':=g') (t':=t') (d':=d') u hok hg CF
end
abbrev XK:=Value->Option Addr->Hp->Prop
abbrev St:=List (Option V)
abbrev VK:=V->Hp->Prop
abbrev TE:=St->Hp->VK->Prop
abbrev TT:=St->Hp->(Bool->Hp->Prop)->Prop
abbrev TA:=St->Hp->(List V->Hp->Prop)->Prop
structure Ends where
 nx:St->Hp->Prop
 rt:VK
 bk:St->Hp->Prop:=λ_ _=>False
 ct:St->Hp->Prop:=λ_ _=>False
abbrev TS:=Ends->St->Hp->Prop
def EP(X:Cx)(f8:List (Addr×Obj))(σ:St)(Q:VK)(u:Value)(s':Pf):Prop:=∃v H',Inv X f8 σ H' s'/\RelV v u/\Q v H'
def TP(X:Cx)(f8:List (Addr×Obj))(σ:St)(Q:Bool->Hp->Prop)(b:Bool)(s':Pf):Prop:=∃H',Inv X f8 σ H' s'/\Q b H'
def AP(X:Cx)(f8:List (Addr×Obj))(σ:St)(Q:List V->Hp->Prop)(us:List Value)(s':Pf):Prop:=∃vs H',Inv X f8 σ H' s'/\Vals vs us/\Q vs H'
def SP(X:Cx)(f8:List (Addr×Obj))(D:Ends)(f:Flow)(s':Pf):Prop:=
 match f with
 | .next=>∃σ' H',Inv X f8 σ' H' s'/\D.nx σ' H'
 | .brk=>∃σ' H',Inv X f8 σ' H' s'/\D.bk σ' H'
 | .cont=>∃σ' H',Inv X f8 σ' H' s'/\D.ct σ' H'
 | .ret u=>∃v σ' H',Inv X f8 σ' H' s'/\RelV v u/\D.rt v H'
def PE(X:Cx)(e:Expr)(t:TE):Prop:=
 ∀(f8:List (Addr×Obj)) (s:Pf) (σ:St) (H:Hp) (Q:VK),Inv X f8 σ H s->t σ H Q->wpAny (model X.prog X.w) X.A (eval e X.env) (EP X f8 σ Q) X.xe s
def PT(X:Cx)(e:Expr)(t:TT):Prop:=
 ∀(f8:List (Addr×Obj)) (s:Pf) (σ:St) (H:Hp) (Q:Bool->Hp->Prop),Inv X f8 σ H s->t σ H Q->wpAny (model X.prog X.w) X.A (isTrue e X.env (eval e X.env)) (TP X f8 σ Q) X.xe s
def PW(X:Cx)(e:Expr)(t:TT):Prop:=
 ∀(whole:Sem Value) (f8:List (Addr×Obj)) (s:Pf) (σ:St) (H:Hp) (Q:Bool->Hp->Prop),Inv X f8 σ H s->t σ H Q->wpAny (model X.prog X.w) X.A (isTrue e X.env whole) (TP X f8 σ Q) X.xe s
def PW.pt{X:Cx}{e:Expr}{t:TT}(h:PW X e t):PT X e t:=h _
def PA(X:Cx)(es:List Expr)(t:TA):Prop:=
 ∀(pos:Pos) (f8:List (Addr×Obj)) (s:Pf) (σ:St) (H:Hp) (Q:List V->Hp->Prop),Inv X f8 σ H s->t σ H Q->wpAny (model X.prog X.w) X.A (spliced (Rm pos (PB es X.env))) (AP X f8 σ Q) X.xe s
def PS(X:Cx)(st:Stmt)(t:TS):Prop:=
 ∀(f8:List (Addr×Obj)) (s:Pf) (σ:St) (H:Hp) (D:Ends),Inv X f8 σ H s->t D σ H->wpAny (model X.prog X.w) X.A (exec st X.env) (SP X f8 D) X.xe s
def PSs(X:Cx)(st:List Stmt)(t:TS):Prop:=
 ∀(f8:List (Addr×Obj)) (s:Pf) (σ:St) (H:Hp) (D:Ends),Inv X f8 σ H s->t D σ H->wpAny (model X.prog X.w) X.A (execs st X.env) (SP X f8 D) X.xe s
def b7{α:Type}{t:Sem α}{Q Q':α->Pf->Prop}{M:Model}{A:Qm}{E:Value->Pf->Prop}{s:Pf}(h:wpAny M A t Q E s)(hQ:∀a s,Q a s->Q' a s):wpAny M A t Q' E s:=Qt h hQ λ_ _ x=>x
section
variable{X:Cx}
def bin{a b:Expr}{ta tb:TE}(ha:PE X a ta)(hb:PE X b tb){f8:List (Addr×Obj)}{s:Pf}{σ:St}{H:Hp}{R:V->V->Hp->Prop}(I:Inv X f8 σ H s)(h:ta σ H λx H1=>tb σ H1 λy H2=>R x y H2)
 {α:Type}{Q:α->Pf->Prop}{f:Value->Value->Sem α}
 (hf:∀v u s2 x y H2,Inv X f8 σ H2 s2->RelV x v->RelV y u->R x y H2->wpAny (model X.prog X.w) X.A (f v u) Q X.xe s2):
 wpAny (model X.prog X.w) X.A (eval a X.env) (λv v4=>wpAny (model X.prog X.w) X.A (eval b X.env) (λu u8=>wpAny (model X.prog X.w) X.A (f v u) Q X.xe u8) X.xe v4) X.xe s:=by
 refine b7 (ha f8 s σ H _ I h) λv s1 ⟨x,H1,I1,r1,q1⟩=>?_;refine b7 (hb f8 s1 σ H1 _ I1 q1) λu s2 ⟨y,H2,I2,r2,q2⟩=>?_;exact hf v u s2 x y H2 I2 r1 r2 q2
def kq(i:Nat):TE:=λσ H Q=>∃v,σ[i]? =some (some v)/\Q v H
def tC(v:V):TE:=λ_ H Q=>Q v H
def G6{i:Nat}{x:Str}{pos:Pos}(hN:X.N[i]? =some x)(hv:Kw X.env.scope x)(hd:(x==("__debug__":Str))=false:=by decide)(vZ:(x==("__classdict__":Str))=false:=by decide):PE X (.Name x pos) (kq i):=by
 intro f8 s σ H Q I h;obtain⟨v,e,h⟩:=h;obtain⟨m,hn,hl⟩:=I.loc;obtain⟨u,r,l⟩:=hl i x v hN e hv;have fin:EP X f8 σ Q u s:=⟨v,H,I,r,h⟩
 rcases l with⟨hk,hm⟩ | ⟨hk,c,hc,EN⟩
 ·exact wpAny_Name (wpAny_loadName_local I.ok.kind hk hn hm fin) hd
 ·rcases hk with hk | hk
  ·exact wpAny_Name (wpAny_loadName_cell I.ok.kind hk hc EN fin) hd
  ·exact wpAny_Name (wpAny_loadName_free I.ok.kind hk hc EN fin vZ) hd
def GZ{i j pos}:PE X (.Constant (.int i) j pos) (tC (.int i)):=λ_ _ _ H _ I h=>wpAny_Constant_int ⟨.int i,H,I.tok _,⟨_,rfl⟩,h⟩
def E_{b j pos}:PE X (.Constant (.bool b) j pos) (tC (.bl b)):=λ_ _ _ H _ I h=>Constant_bool ⟨.bl b,H,I,rfl,h⟩
def G0{j pos}:PE X (.Constant .none j pos) (tC .non):=λ_ _ _ H _ I h=>Constant_none ⟨.non,H,I,rfl,h⟩
def G3{x j pos}:PE X (.Constant (.str x) j pos) (tC (.str x)):=λ_ _ _ H _ I h=>Calls.Constant_str ⟨.str x,H,I.tok _,⟨_,rfl⟩,h⟩
def Gl(X:Cx)(x:Str):Prop:=X.env.kindOf x=some .globalImplicit
def yr{E:Value->Pf->Prop}{f8:List (Addr×Obj)}{s:Pf}{σ:St}{H:Hp}{x:Str}{u:Value}{pos:Pos}{Q:Value->Pf->Prop}(I:Inv X f8 σ H s)(hg:Gl X x)(hm:X.mg x=some u)(h:Q u s)
 (hd:(x==("__debug__":Str))=false:=by decide):wpAny (model X.prog X.w) X.A (eval (.Name x pos) X.env) Q E s:=
 Th I.ok.kind hg (Calls.loadGlobal_global (by rw[I.ok.glob];exact I.mod.glob.keeps I.bk) hm h) hd
def oK{E:Value->Pf->Prop}{f8:List (Addr×Obj)}{s:Pf}{σ:St}{H:Hp}{x:Str}{u:Value}{pos:Pos}{Q:Value->Pf->Prop}(I:Inv X f8 σ H s)(hg:Gl X x)(hm:X.mg x=none)(hv:Qw x=some u)(h:Q u s)
 (hn:x≠"__name__":=by decide)(hd:(x==("__debug__":Str))=false:=by decide):wpAny (model X.prog X.w) X.A (eval (.Name x pos) X.env) Q E s:=by
 obtain⟨mb,h1,h2⟩:=I.mod.blt;exact Th I.ok.kind hg (Calls.loadGlobal_builtin (by rw[I.ok.glob];exact I.mod.glob.keeps I.bk) hm (by rw[I.ok.blt];exact h1.keeps I.bk) ((h2 x hn).trans hv) h) hd
def D6{x:Str}{v:V}{u:Value}{pos:Pos}(hg:Gl X x)(hm:X.mg x=some u)(r:RelV v u)(hd:(x==("__debug__":Str))=false:=by decide):PE X (.Name x pos) (tC v):=
 λ_ _ _ H _ I h=>yr I hg hm ⟨v,H,I,r,h⟩ hd
def D1{x:Str}{v:V}{u:Value}{pos:Pos}(hg:Gl X x)(hm:X.mg x=none)(hv:Qw x=some u)(r:RelV v u)(hn:x≠"__name__":=by decide)(hd:(x==("__debug__":Str))=false:=by decide):PE X (.Name x pos) (tC v):=
 λ_ _ _ H _ I h=>oK I hg hm hv ⟨v,H,I,r,h⟩ hn hd
variable{a b:Expr}{ta tb:TE}{pos:Pos}
def PC(X:Cx)(op:CmpOp)(a b:Expr)(t:TE):Prop:=
 ∀(f8:List (Addr×Obj)) (s:Pf) (σ:St) (H:Hp) (Q:VK),Inv X f8 σ H s->t σ H Q->
  wpAny (model X.prog X.w) X.A (eval a X.env) (λv v4=>wpAny (model X.prog X.w) X.A (eval b X.env) (λu u8=>wpAny (model X.prog X.w) X.A (Qj op v u) (EP X f8 σ Q) X.xe u8) X.xe v4) X.xe s
def Bq(b:Expr){op:CmpOp}(h:op≠ .In)(h2:op≠ .NotIn):Ql op b=false:=by
 have e1:(op==CmpOp.In)=false:=by cases op<;>first | rfl | exact UK rfl h
 have e2:(op==CmpOp.NotIn)=false:=by cases op<;>first | rfl | exact UK rfl h2
 cases b<;>simp[Ql,e1,e2]
def GY{op:CmpOp}{t:TE}(h:PC X op a b t)(h1:Ql op b=false:=by first | exact Bq _ (by decide) (by decide) | rfl):PE X (.Compare a [op] [b] pos) t:=λf8 s σ H Q I hw=>wpAny_Compare1 (h f8 s σ H Q I hw) h1
variable{tA bH:TT}{T0:List Expr}
def LI(t u:TT):TT:=λσ H Q=>t σ H λc H1=>if c=true then u σ H1 Q else Q false H1
def OQ(t u:TT):TT:=λσ H Q=>t σ H λc H1=>if c=true then Q true H1 else u σ H1 Q
def LM(t:TT):TT:=λσ H Q=>t σ H λc H1=>Q (!c) H1
def Eg(ha:PT X a tA):PW X (.BoolOp .And [a] pos) tA:=by
 intro wh f8 s σ H Q I h;refine isTrue_and (b7 (ha f8 s σ H Q I h) λc s1 e=>?_);cases c with
 |true=>exact isTrue_and_nil e
 |false=>exact e
def Hf(ha:PT X a tA):PW X (.BoolOp .Or [a] pos) tA:=by
 intro wh f8 s σ H Q I h;refine isTrue_or (b7 (ha f8 s σ H Q I h) λc s1 e=>?_);cases c with
 |false=>exact isTrue_or_nil e
 |true=>exact e
def He(ha:PT X a tA)(hb:PW X (.BoolOp .And (b::T0) pos) bH):PW X (.BoolOp .And (a::b::T0) pos) (LI tA bH):=by
 intro wh f8 s σ H Q I h;refine isTrue_and (b7 (ha f8 s σ H _ I h) λc s1 ⟨H1,I1,q1⟩=>?_);cases c with
 |true=>exact hb wh f8 s1 σ H1 Q I1 q1
 |false=>exact⟨H1,I1,q1⟩
def Jz(ha:PT X a tA)(hb:PW X (.BoolOp .Or (b::T0) pos) bH):PW X (.BoolOp .Or (a::b::T0) pos) (OQ tA bH):=by
 intro wh f8 s σ H Q I h;refine isTrue_or (b7 (ha f8 s σ H _ I h) λc s1 ⟨H1,I1,q1⟩=>?_);cases c with
 |true=>exact⟨H1,I1,q1⟩
 |false=>exact hb wh f8 s1 σ H1 Q I1 q1
def Hc(ha:PT X a tA):PT X (.UnaryOp .Not a pos) (LM tA):=by
 intro f8 s σ H Q I h;exact isTrue_not (ha f8 s σ H (λc H1=>Q (!c) H1) I h)
def JN(ta tb:TE):TE:=λσ H Q=>ta σ H λx H1=>∃c,x= .bl c/\if c=true then tb σ H1 Q else Q (.bl false) H1
def JT(ta:TE):TE:=λσ H Q=>ta σ H λx H1=>∃c,x= .bl c/\Q (.bl (!c)) H1
def G2{op}{t:TE}(h:PE X a t):PE X (.BoolOp op [a] pos) t:=λf8 s σ H Q I hw=>BoolOp_one (h f8 s σ H Q I hw)
def GX(ha:PE X a ta)(hb:PE X (.BoolOp .And (b::T0) pos) tb):PE X (.BoolOp .And (a::b::T0) pos) (JN ta tb):=by
 intro f8 s σ H Q I h;refine BoolOp_and (b7 (ha f8 s σ H _ I h) λv s1 ⟨x,H1,I1,r1,q1⟩=>?_);obtain⟨c,rfl,q1⟩:=q1;cases r1;refine QD ?_;cases c with
 |true=>exact hb f8 s1 σ H1 Q I1 q1
 |false=>exact⟨.bl false,H1,I1,rfl,q1⟩
def G1(ha:PE X a ta):PE X (.UnaryOp .Not a pos) (JT ta):=by
 intro f8 s σ H Q I h;refine UnaryOp_ (b7 (ha f8 s σ H _ I h) λv s1 ⟨x,H1,I1,r1,q1⟩=>?_);obtain⟨c,rfl,q1⟩:=q1;cases r1;exact not_of (QD ⟨.bl (!c),H1,I1,rfl,q1⟩)
def OP(t:TT)(ta tb:TE):TE:=λσ H Q=>t σ H λc H1=>if c=true then ta σ H1 Q else tb σ H1 Q
def BQ{c:Expr}(hc:PT X c tA)(ha:PE X a ta)(hb:PE X b tb):PE X (.IfExp c a b pos) (OP tA ta tb):=by
 intro f8 s σ H Q I h;refine wpAny_IfExp (b7 (hc f8 s σ H _ I h) λd s1 ⟨H1,I1,q1⟩=>?_);cases d with
 |true=>exact ha f8 s1 σ H1 Q I1 q1
 |false=>exact hb f8 s1 σ H1 Q I1 q1
end
def SqL(K:Ph)(H:Hp)(a:Addr)(xs:List V):Prop:=
 Rd H a (.lst xs)\/
  ∃(o:Obj) (aK:Array Value) (n:Nat),K.lookup a=some o/\o.cls= .type "list"/\o.dict=none/\o.data= .seq aK n/\aK.size<=Py/\Vals xs aK.toList
def SqT(K:Ph)(H:Hp)(a:Addr)(xs:List V):Prop:=
 Rd H a (.tup xs)\/
  ∃(o:Obj) (aK:Array Value) (n:Nat),K.lookup a=some o/\o.cls= .type "tuple"/\o.data= .seq aK n/\aK.size<=Py/\Vals xs aK.toList
def Ky:Value->Option V
 | .none=>some .non
 | .bool b=>some (.bl b)
 | .int i _=>some (.int i)
 | .str x _=>some (.str x)
 | .bytes b _=>some (.byt b)
 | .float b _=>some (.flt b)
 | .ref a=>some (.ref a)
 | .type n=>some (.ty n)
 |_=>none
def RelV.abs{x:V}{u:Value}(r:RelV x u):Ky u=some x:=by
 cases x with
 |non=>cases r;rfl
 |bl _=>cases r;rfl
 |int _=>obtain⟨t,rfl⟩:=r;rfl
 |str _=>obtain⟨t,rfl⟩:=r;rfl
 |byt _=>obtain⟨t,rfl⟩:=r;rfl
 |flt _=>obtain⟨t,rfl⟩:=r;rfl
 |ref _=>cases r;rfl
 |ty _=>cases r;rfl
def RelV.inj{x y:V}{u:Value}(r:RelV x u)(q:RelV y u):x=y:=Pz (r.abs.symm.trans q.abs)
def Vals.inj:∀{xs ys:List V}{us:List Value},Vals xs us->Vals ys us->xs=ys
 |_,_,_, .nil, .nil=>rfl
 |_,_,_, .cons r t, .cons r' t'=>by rw[r.inj r',Vals.inj t t']
section
variable{X:Cx}{f8:List (Addr×Obj)}{σ:St}{H:Hp}{s:Pf}{a:Addr}{xs ys:List V}
def SqL.of{K:Ph}(h:H a=some (.lst xs)):SqL K H a xs:= .inl (.inl h)
def SqT.of{K:Ph}(h:H a=some (.tup xs)):SqT K H a xs:= .inl (.inl h)
def Inv.list(I:Inv X f8 σ H s)(h:SqL X.K H a xs):∃aK:List Value,Vals xs aK/\PlainL s.heap a aK.toArray/\xs.length<=Py:=by
 rcases h with h | ⟨o,aK,n,hk,hc,hd,hs,hz,r⟩
 ·obtain⟨z,aK,n,r,e⟩:=h.ok I.hok;exact⟨aK,r,⟨_,n,e,rfl,rfl,rfl⟩,z⟩
 ·refine⟨aK.toList,r,⟨o,n,I.kIn a o hk,hc,hd,by simpa using hs⟩,?_⟩;have e:=r.length;simp only[PO] at e;omega
def Inv.tuple(I:Inv X f8 σ H s)(h:SqT X.K H a xs):∃aK:List Value,Vals xs aK/\IsTup s.heap a aK.toArray/\xs.length<=Py:=by
 rcases h with h | ⟨o,aK,n,hk,hc,hs,hz,r⟩
 ·obtain⟨z,aK,r,p⟩:=h.ok I.hok;exact⟨aK,r,p,z⟩
 ·refine⟨aK.toList,r,⟨o,I.kIn a o hk,hc,n,by simpa using hs⟩,?_⟩;have e:=r.length;simp only[PO] at e;omega
def Inv.list_inj(I:Inv X f8 σ H s)(h:SqL X.K H a xs)(h':SqL X.K H a ys):xs=ys:=by
 obtain⟨aK,r,⟨o,n,e,_,_,d⟩,_⟩:=I.list h;obtain⟨its',r',⟨o',n',e',_,_,d'⟩,_⟩:=I.list h';rw[e] at e';cases e';rw[d] at d';injection d' with d1 _
 have:aK=its':=by simpa using UM Array.toList d1
 subst this;exact r.inj r'
def Inv.tuple_inj(I:Inv X f8 σ H s)(h:SqT X.K H a xs)(h':SqT X.K H a ys):xs=ys:=by
 obtain⟨aK,r,⟨o,e,_,n,d⟩,_⟩:=I.tuple h;obtain⟨its',r',⟨o',e',_,n',d'⟩,_⟩:=I.tuple h';rw[e] at e';cases e';rw[d] at d';injection d' with d1 _
 have:aK=its':=by simpa using UM Array.toList d1
 subst this;exact r.inj r'
end
abbrev Cx.wish(X:Cx)(E:Value->Pf->Prop):Cx:={X with xe:=E}
abbrev Cx.nox(X:Cx):Cx:=X.wish λ_ _=>False
def Cx.Ok.wish{X:Cx}(ok:X.Ok)(E:Value->Pf->Prop):(X.wish E).Ok:=
 ⟨ok.mod,ok.kind,ok.glob,ok.blt,ok.above,ok.inj,ok.has,ok.cab,ok.hd,ok.frames,ok.stk,ok.exf,ok.bs,ok.bsz,ok.noex,ok.exfs,ok.funs,ok.frf⟩
def Cx.Ok.unwish{X:Cx}{E:Value->Pf->Prop}(ok:(X.wish E).Ok):X.Ok:=
 ⟨ok.mod,ok.kind,ok.glob,ok.blt,ok.above,ok.inj,ok.has,ok.cab,ok.hd,ok.frames,ok.stk,ok.exf,ok.bs,ok.bsz,ok.noex,ok.exfs,ok.funs,ok.frf⟩
section
variable{X:Cx}{f8:List (Addr×Obj)}{σ:St}{H:Hp}{s:Pf}{E:Value->Pf->Prop}
def Inv.wish(I:Inv X f8 σ H s)(E:Value->Pf->Prop):Inv (X.wish E) f8 σ H s:=⟨I.ok.wish E,I.os,I.bare,I.base,I.loc,I.cell,I.free,I.freeC,I.pin,I.hok,I.len⟩
def Inv.unwish(I:Inv (X.wish E) f8 σ H s):Inv X f8 σ H s:=⟨I.ok.unwish,I.os,I.bare,I.base,I.loc,I.cell,I.free,I.freeC,I.pin,I.hok,I.len⟩
def SP.unwish{D:Ends}{f:Flow}{s':Pf}(h:SP (X.wish E) f8 D f s'):SP X f8 D f s':=by
 cases f with
 |next=>obtain⟨σ',H',I,q⟩:=h;exact⟨σ',H',I.unwish,q⟩
 |brk=>obtain⟨σ',H',I,q⟩:=h;exact⟨σ',H',I.unwish,q⟩
 |cont=>obtain⟨σ',H',I,q⟩:=h;exact⟨σ',H',I.unwish,q⟩
 |ret u=>obtain⟨v,σ',H',I,r,q⟩:=h;exact⟨v,σ',H',I.unwish,r,q⟩
def PE.nox{e:Expr}{t:TE}(h:PE X.nox e t):PE X e t:=λf8 s σ H Q I hw=>
 Qt (h f8 s σ H Q (I.wish _) hw) (λ_ _ ⟨v,H',I',r,q⟩=>⟨v,H',I'.unwish,r,q⟩) λ_ _ z=>QR z
def PT.nox{e:Expr}{t:TT}(h:PT X.nox e t):PT X e t:=λf8 s σ H Q I hw=>
 Qt (h f8 s σ H Q (I.wish _) hw) (λ_ _ ⟨H',I',q⟩=>⟨H',I'.unwish,q⟩) λ_ _ z=>QR z
def PSs.nox{st:List Stmt}{t:TS}(h:PSs X.nox st t):PSs X st t:=λf8 s σ H D I hw=>
 Qt (h f8 s σ H D (I.wish _) hw) (λ_ _ q=>q.unwish) λ_ _ z=>QR z
end
section
variable{X:Cx}{st:Stmt}{T0:List Stmt}{t u:TS}{e:Expr}{te:TE}{pos:Pos}
def Fi:TS:=λD σ H=>D.nx σ H
def JW(t u:TS):TS:=λD σ H=>t {D with nx:=u D} σ H
def yL:PSs X [] Fi:=λ_ _ σ H _ I h=>SA ⟨σ,H,I,h⟩
def vl(h1:PS X st t)(h2:PSs X T0 u):PSs X (st::T0) (JW t u):=by
 intro f8 s σ H D I h;refine wpAny_execs_cons (b7 (h1 f8 s σ H {D with nx:=u D} I h) λf s1 q=>?_);cases f with
 |next=>
  obtain⟨σ',H',I',q⟩:=q;exact h2 f8 s1 σ' H' D I' q
 |ret v=>exact q
 |brk=>exact q
 |cont=>exact q
def nJ(h1:PS X st t):PSs X [st] t:=by
 intro f8 s σ H D I h;refine wpAny_execs_cons (b7 (h1 f8 s σ H D I h) λf s1 q=>?_);cases f with
 |next=>exact SA q
 |ret v=>exact q
 |brk=>exact q
 |cont=>exact q
def Inv.quiet{f8:List (Addr×Obj)}{σ:St}{H:Hp}{s:Pf}(I:Inv X f8 σ H s):interactive X.env=false:=by simp[interactive,I.ok.kind]
def Cs(te:TE):TS:=λD σ H=>te σ H λ_ H1=>D.nx σ H1
def nH(he:PE X e te)(hs:RW e none pos.line X.env=pure false:=by rfl):PS X (.Expr e pos) (Cs te):=by
 intro f8 s σ H D I h;exact wpAny_Expr_any (b7 (he f8 s σ H _ I h) λv s1 ⟨x,H1,I1,r1,q1⟩=>⟨σ,H1,I1,q1⟩) I.quiet hs
def LO(te:TE):TS:=λD σ H=>te σ H D.rt
def G_(he:PE X e te):PS X (.Return (some e) pos) (LO te):=by
 intro f8 s σ H D I h;exact wpAny_Return_some (b7 (he f8 s σ H _ I h) λv s1 ⟨x,H1,I1,r1,q1⟩=>⟨x,σ,H1,I1,r1,q1⟩)
def JS(c:TT)(t u:TS):TS:=λD σ H=>c σ H λb H1=>if b=true then t D σ H1 else u D σ H1
def Fc{c:Expr}{a b:List Stmt}{tc:TT}(hc:PT X c tc)(ha:PSs X a t)(hb:PSs X b u):PS X (.If c a b pos) (JS tc t u):=by
 intro f8 s σ H D I h;refine wpAny_If (b7 (hc f8 s σ H _ I h) λd s1 ⟨H1,I1,q1⟩=>?_);cases d with
 |true=>exact ha f8 s1 σ H1 D I1 q1
 |false=>exact hb f8 s1 σ H1 D I1 q1
end
abbrev TG:=V->St->Hp->(St->Hp->Prop)->Prop
abbrev Ez:=List V->St->Hp->(St->Hp->Prop)->Prop
def PG(X:Cx)(target:Expr)(t:TG):Prop:=
 ∀(f8:List (Addr×Obj)) (s:Pf) (σ:St) (H:Hp) (v:V) (u:Value) (Q:St->Hp->Prop),Inv X f8 σ H s->RelV v u->t v σ H Q->
  wpAny (model X.prog X.w) X.A (assign target X.env u) (λ_ s'=>∃σ' H',Inv X f8 σ' H' s'/\Q σ' H') X.xe s
def JZ(X:Cx)(ts:List Expr)(t:Ez):Prop:=
 ∀(f8:List (Addr×Obj)) (s:Pf) (σ:St) (H:Hp) (vs:List V) (us:List Value) (Q:St->Hp->Prop),Inv X f8 σ H s->Vals vs us->t vs σ H Q->
  wpAny (model X.prog X.w) X.A (assignInOrder ((Sg ts X.env).map (·.2)) us) (λ_ s'=>∃σ' H',Inv X f8 σ' H' s'/\Q σ' H') X.xe s
abbrev Kt:=V->V->V->Hp->(Hp->Prop)->Prop
section
variable{X:Cx}{pos:Pos}
def jL(i:Nat):TG:=λv σ H Q=>Q (σ.set i (some v)) H
def a5{i:Nat}{x:Str}(hN:X.N.Nodup)(hi:X.N[i]? =some x)(hx:Loc X.env.scope x)(hf:X.fn x=true\/X.env.scope.names.lookup x=some .local:=by first | exact .inl rfl | exact .inr rfl | assumption):PG X (.Name x pos) (jL i):=by
 intro f8 s σ H v u Q I r h;exact Tj (vH I hN hi hx r (λs' I'=>⟨_,H,I',h⟩) hf)
def Ih:Ez:=λvs σ H Q=>vs=[]/\Q σ H
def EJ(t:TG)(u:Ez):Ez:=λvs σ H Q=>∃v r,vs=v::r/\t v σ H λσ' H'=>u r σ' H' Q
def D7:JZ X [] Ih:=by
 intro f8 s σ H vs us Q I r h;obtain⟨e,h⟩:=h;subst e;cases r;exact assignInOrder_nil ⟨σ,H,I,h⟩
def vj{e:Expr}{es:List Expr}{t:TG}{u:Ez}(h1:PG X e t)(h2:JZ X es u)
 (hs:(Sg (e::es) X.env).map (·.2)=assign e X.env::(Sg es X.env).map (·.2):=by rfl):JZ X (e::es) (EJ t u):=by
 intro f8 s σ H vs us Q I r h;obtain⟨v,vr,e1,h⟩:=h;subst e1;cases r with
 |cons r rr=>
  rw[hs];refine assignInOrder_cons (b7 (h1 f8 s σ H _ _ _ I r h) λ_ s1 ⟨σ1,H1,I1,q1⟩=>?_);exact h2 f8 s1 σ1 H1 _ _ Q I1 rr q1
def Ii(K:Ph)(n:Nat)(t:Ez):TG:=λv σ H Q=>∃a xs,v= .ref a/\SqT K H a xs/\xs.length=n/\t xs σ H Q
def G7{es:List Expr}{k:Nat}{t:Ez}{n:Nat}(hc:X.calm=true)(h:JZ X es t)
 (hn:(Sg es X.env).length=n:=by rfl)(Di:(Sg es X.env).findIdx? (·.1)=none:=by rfl):PG X (.Tuple es k pos) (Ii X.K n t):=by
 intro f8 s σ H v u Q I r hw;obtain⟨a,xs,e1,hq,hl,hw⟩:=hw;subst e1;cases r;obtain⟨aK,rv,ht,hz⟩:=I.tuple hq;refine assign_Tuple_tuple (I.ok.hd hc) ht (by simp[hn,<-hl,rv.length]) Di λh' hx=>?_;have I1:Inv X f8 σ H {s with heap:=h'}:=I.kept (t':=s.toks) λb o e=>hx b o (P8 (Pw e)) e;exact h f8 _ σ H xs _ Q I1 (by simpa using rv) hw
def gG(to ti:TE)(t:Kt):TG:=λv σ H Q=>to σ H λo H1=>ti σ H1 λi H2=>t o i v H2 λH3=>Q σ H3
def JO(te:TE)(g:TG):TS:=λD σ H=>te σ H λx H1=>g x σ H1 D.nx
def lT{tg e:Expr}{te:TE}{g:TG}(he:PE X e te)(hg:PG X tg g)(hs:S5 [tg] e pos.line X.env=pure false:=by rfl)(hw:swappedStores [tg] e X.env=pure none:=by rfl)
 (h1:(Sg [tg] X.env).map (·.2)=[assign tg X.env]:=by rfl):PS X (.Assign [tg] e pos) (JO te g):=by
 intro f8 s σ H D I h;refine wpAny_Assign_stores (b7 (he f8 s σ H _ I h) λv s1 ⟨x,H1,I1,r1,q1⟩=>?_) hs hw;rw[h1];exact b7 (hg f8 s1 σ H1 x v _ I1 r1 q1) λ_ s2 q=>q
end
section
variable{X:Cx}{pos:Pos}
def Hu(c:TT)(tb:TS):TS:=λD σ H=>∃W:Nat->St->Hp->Prop,(∃m,W m σ H)/\∀m σ H,W m σ H->
 c σ H λb H1=>if b=true then∃N:St->Hp->Prop,(∀σ' H',N σ' H'->∃m',m'<m/\W m' σ' H')/\tb {D with nx:=N,ct:=N,bk:=D.nx} σ H1 else D.nx σ H1
def BU{c:Expr}{body:List Stmt}{tc:TT}{tb:TS}(hp:TY (model X.prog X.w) X.A X.env X.xe)(hc:PT X c tc)(hb:PSs X body tb):PS X (.While c body [] pos) (Hu tc tb):=by
 intro f8 s σ H D I h;obtain⟨W,⟨m0,w0⟩,turn⟩:=h;refine wpAny_While (codeAny_whileLoop (λn s'=>∃σ' H',Inv X f8 σ' H' s'/\W n σ' H') ?_ m0 ⟨σ,H,I,w0⟩);rintro n s1 ⟨σ1,H1,I1,w1⟩;refine QZ hp (b7 (hc f8 s1 σ1 H1 _ I1 (turn n σ1 H1 w1)) λb s2 ⟨H2,I2,q2⟩=>?_);cases b with
 |true=>
  obtain⟨N,hN,q2⟩:=q2;rw[UD rfl];refine QZ hp (b7 (hb f8 s2 σ1 H2 _ I2 q2) λf s3 q3=>?_);cases f with
  |next=>
   obtain⟨σ3,H3,I3,n3⟩:=q3;obtain⟨m',hm,w3⟩:=hN σ3 H3 n3;exact⟨m',hm,σ3,H3,I3,w3⟩
  |cont=>
   obtain⟨σ3,H3,I3,n3⟩:=q3;obtain⟨m',hm,w3⟩:=hN σ3 H3 n3;exact⟨m',hm,σ3,H3,I3,w3⟩
  |brk=>exact q3
  |ret v=>exact q3
 |false=>
  rw[UE PH];exact SA ⟨σ1,H2,I2,q2⟩
end
structure It where
 go:Nat->Hp->Prop
 yld:Nat->Hp->V->Hp->Prop
 stop:Nat->Hp->Prop
def p9(X:Cx)(f8:List (Addr×Obj))(H:Hp)(b:Addr):Prop:=
 H b=none/\b≠X.env.locals/\b∉X.fs/\(b∈X.ex\/X.s₀.heap.objs.size<=b)/\(∀x c,X.env.cells.lookup x=some c->c≠b)/\∀p∈X.pn++f8,p.1≠b
def Inv.fpOk{X:Cx}{f8:List (Addr×Obj)}{σ:St}{H H':Hp}{s:Pf}{b:Addr}(I:Inv X f8 σ H s)(hb:s.heap.objs.size<=b)(hn:H' b=none):p9 X f8 H' b:=by
 refine⟨hn,Sr (PZ I.lt hb),I.nofs hb, .inr (PM I.sz hb),λx c e z=>?_,λp hp z=>?_⟩
 ·obtain⟨v,q⟩:=I.cell x c e;exact UK (PZ q.lt (by rw[z];exact hb)) (Qp _)
 ·exact UK (PZ (Pw (I.pin p hp).1) (by rw[z];exact hb)) (Qp _)
structure Turn (P:PX) (w:World) (K:Ph) (tg:Expr) (J:It) (fp:List Addr) (it:Addr) (tn:Nat->Heap->Prop):Prop where
 mem:it∈fp
 obj:∀i h,tn i h->∀b∈fp,∃o,h.get? b=some o/\∀v,o.data≠ .cell v
 keep:∀i h h',tn i h->(∀b∈fp,∀o,h.get? b=some o->h'.get? b=some o)->tn i h'
 item:∀(X:Cx),X.prog=P->X.w=w->X.K=K->X.calm=true->∀(i:Nat) (f8:List (Addr×Obj)) (s:Pf) (σ:St) (H:Hp) (E:Value->Pf->Prop),Inv X f8 σ H s->(∀b∈fp,p9 X f8 H b)->tn i s.heap->J.go i H->
  wpAny (model P w) X.A (Ub (.ref it)) (λr s1=>∃u,r=some u/\
   wpAny (model P w) X.A (SD tg (.ref it) u) (λ_ s2=>∃x H',Inv X f8 σ H' s2/\RelV x u/\J.yld i H x H'/\tn (i+1) s2.heap/\∀b∈fp,H' b=none) E s1) E s
 done:∀(X:Cx),X.prog=P->X.w=w->X.K=K->X.calm=true->∀(i:Nat) (f8:List (Addr×Obj)) (s:Pf) (σ:St) (H:Hp) (E:Value->Pf->Prop),Inv X f8 σ H s->(∀b∈fp,p9 X f8 H b)->tn i s.heap->J.stop i H->
  wpAny (model P w) X.A (Ub (.ref it)) (λr s1=>r=none/\Inv X f8 σ H s1) E s
 self:∀(A:Qm) (i:Nat) (s:Pf) (Q:Value->Pf->Prop) (E:Value->Pf->Prop),tn i s.heap->Q (.ref it) s->wpAny (model P w) A (pyIter (.ref it)) Q E s
abbrev TI:=St->Hp->(It->Hp->Prop)->Prop
def LZ(X:Cx)(f8:List (Addr×Obj))(σ:St)(tg:Expr)(R:It->Hp->Prop)(MK:Value)(s2:Pf):Prop:=
 ∃(it:Addr) (fp:List Addr) (tn:Nat->Heap->Prop) (J:It) (H':Hp),MK= .ref it/\Inv X f8 σ H' s2/\Turn X.prog X.w X.K tg J fp it tn/\tn 0 s2.heap/\(∀b∈fp,p9 X f8 H' b)/\R J H'
def PI(X:Cx)(tg iter:Expr)(wi:TI):Prop:=
 ∀(f8:List (Addr×Obj)) (s:Pf) (σ:St) (H:Hp) (R:It->Hp->Prop),Inv X f8 σ H s->wi σ H R->
  wpAny (model X.prog X.w) X.A (eval iter X.env) (λv s1=>wpAny (model X.prog X.w) X.A (pyIter v) (LZ X f8 σ tg R) X.xe s1) X.xe s
def qM{M:Model}{A:Qm}{E:Value->Pf->Prop}{s:Pf}{tg:Expr}{it:Addr}{u:Value}{o:Obj}{n:String}{vs:Array Value}{Q:Unit->Pf->Prop}(ho:s.heap.get? it=some o)(hc:o.cls= .type n)(hd:o.data= .fields vs)
 (hn:["enumerate","zip","dict_itemiterator","dict_reverseitemiterator","odict_iterator","itertools.zip_longest","itertools.pairwise"].contains n=false)(hQ:Q () s):wpAny M A (SD tg (.ref it) u) Q E s:=by
 unfold SD;cases tg<;>first
  |exact Pu hQ
  |(cases u<;>first
    |exact Pu hQ
    |(refine Pc (wpAny_load ho ?_)
      rw[hc,hd];show wpAny M A (if (["enumerate","zip","dict_itemiterator","dict_reverseitemiterator","odict_iterator","itertools.zip_longest","itertools.pairwise"].contains n&&vs[0]? ==some (rawInt _))=true then _ else _) Q E s;rw[UE (by intro h;rw[hn,Bool.false_and] at h;cases h)];exact Pu hQ))
def Ko(K:Ph)(a:Addr):It:=
 ⟨λi H=>∃xs x,SqL K H a xs/\xs[i]? =some x,λi H x H'=>H'=H/\∀xs,SqL K H a xs->xs[i]? =some x,λi H=>∃xs,SqL K H a xs/\xs.length<=i⟩
def Kp(K:Ph)(a:Addr):It:=
 ⟨λi H=>∃xs x,SqT K H a xs/\xs[i]? =some x,λi H x H'=>H'=H/\∀xs,SqT K H a xs->xs[i]? =some x,λi H=>∃xs,SqT K H a xs/\xs.length<=i⟩
def HN(lo:Int)(n:Nat):It:=⟨λi _=>i<n,λi H x H'=>H'=H/\x= .int (lo+i),λi _=>n<=i⟩
def z6{P:PX}{w:World}{K:Ph}{tg:Expr}(a it:Addr):Turn P w K tg (Ko K a) [it] it (λi h=>h.IsListIter it a i) where
 mem:=by simp
 obj:=λi h st b hb=>by
  have e:b=it:=by simpa using hb
  subst e;obtain⟨o,e,c,d⟩:=st;exact⟨o,e,λv z=>by rw[d] at z;cases z⟩
 keep:=λi h h' st k=>st.at λo e=>k it (by simp) o e
 item:=by
  intro X hP hw hK hc i f8 s σ H E I hf st hg;subst hP hw hK;obtain⟨xs,x,hq,hx⟩:=hg;obtain⟨aK,rv,p,hz⟩:=I.list hq;obtain⟨u,hu,ru⟩:=rv.get hx;obtain⟨f0,f1,f2,f3,f4,f5⟩:=hf it (by simp);refine wpAny_pyNext_list_item st p.isList (x:=u) (by simpa using hu) λh' pO sb=>?_;have I1:Inv X f8 σ H {s with heap:=h'}:=I.turned (t':=s.toks) (λb o hb e=>(sb.2 b hb).trans e) f0 f1 f3 f4 f5;obtain⟨o,e,c,d⟩:=id pO;exact⟨u,rfl,qM (s:={s with heap:=h'}) e c d (by decide) ⟨x,H,I1,ru,⟨rfl,λys hy=>by rw[I.list_inj hy hq];exact hx⟩,pO,λb hb=>(hf b hb).1⟩⟩
 done:=by
  intro X hP hw hK hc i f8 s σ H E I hf st hg;subst hP hw hK;obtain⟨xs,hq,hx⟩:=hg;obtain⟨aK,rv,p,hz⟩:=I.list hq;obtain⟨f0,f1,f2,f3,f4,f5⟩:=hf it (by simp);have hl:=rv.length;exact wpAny_pyNext_list_end (I.ok.hd hc) st p.isList (by simp;omega) λh' eb=>⟨rfl,I.turned (t':=s.toks) (λb o hb e=>eb b o hb e) f0 f1 f3 f4 f5⟩
 self:=λ_ _ _ _ _ st h=>wpAny_pyIter_listiter st h
def xH{P:PX}{w:World}{K:Ph}{tg:Expr}(a it:Addr):Turn P w K tg (Kp K a) [it] it (λi h=>h.IsTupleIter it a i) where
 mem:=by simp
 obj:=λi h st b hb=>by
  have e:b=it:=by simpa using hb
  subst e;obtain⟨o,e,c,d⟩:=st;exact⟨o,e,λv z=>by rw[d] at z;cases z⟩
 keep:=λi h h' st k=>st.at λo e=>k it (by simp) o e
 item:=by
  intro X hP hw hK hc i f8 s σ H E I hf st hg;subst hP hw hK;obtain⟨xs,x,hq,hx⟩:=hg;obtain⟨aK,rv,p,hz⟩:=I.tuple hq;obtain⟨u,hu,ru⟩:=rv.get hx;obtain⟨f0,f1,f2,f3,f4,f5⟩:=hf it (by simp);refine wpAny_pyNext_tuple_item st (show s.heap.IsTuple a aK.toArray from p) (x:=u) (by simpa using hu) λh' pO sb=>?_;have I1:Inv X f8 σ H {s with heap:=h'}:=I.turned (t':=s.toks) (λb o hb e=>(sb.2 b hb).trans e) f0 f1 f3 f4 f5;obtain⟨o,e,c,d⟩:=id pO;exact⟨u,rfl,qM (s:={s with heap:=h'}) e c d (by decide) ⟨x,H,I1,ru,⟨rfl,λys hy=>by rw[I.tuple_inj hy hq];exact hx⟩,pO,λb hb=>(hf b hb).1⟩⟩
 done:=by
  intro X hP hw hK hc i f8 s σ H E I hf st hg;subst hP hw hK;obtain⟨xs,hq,hx⟩:=hg;obtain⟨aK,rv,p,hz⟩:=I.tuple hq;obtain⟨f0,f1,f2,f3,f4,f5⟩:=hf it (by simp);have hl:=rv.length;exact wpAny_pyNext_tuple_end (I.ok.hd hc) st (show s.heap.IsTuple a aK.toArray from p) (by simp;omega) λh' eb=>⟨rfl,I.turned (t':=s.toks) (λb o hb e=>eb b o hb e) f0 f1 f3 f4 f5⟩
 self:=λ_ _ _ _ _ st h=>wpAny_pyIter_tupleiter st h
def xG{P:PX}{w:World}{K:Ph}{tg:Expr}(it:Addr)(lo:Int)(n:Nat):Turn P w K tg (HN lo n) [it] it (λi h=>IsRangeIter h it (lo+(i:Nat)*1) ((n:Int) - (i:Nat)) 1) where
 mem:=by simp
 obj:=λi h st b hb=>by
  have e:b=it:=by simpa using hb
  subst e;exact⟨_,st,λv z=>by
   have z':Ui _=Data.cell v:=z;cases z'⟩
 keep:=λi h h' st k=>k it (by simp) _ st
 item:=by
  intro X hP hw hK hc i f8 s σ H E I hf st hg;subst hP hw hK;obtain⟨f0,f1,f2,f3,f4,f5⟩:=hf it (by simp);have W:=Walks.range (prog:=X.prog) (w:=X.w) (I.ok.hd hc) it lo 1 n;refine W.item i s _ _ hg st λv h' tk hv pO kk=>?_;obtain⟨t,rfl⟩:=hv;have I1:Inv X f8 σ H {s with heap:=h',toks:=tk}:=I.turned (λb o hb e=>kk b o (by simpa using hb) e) f0 f1 f3 f4 f5;refine⟨_,rfl,qM (s:={s with heap:=h',toks:=tk}) (n:="range_iterator") pO rfl rfl (by decide) ⟨.int (lo+i),H,I1,⟨t,?_⟩,⟨rfl,rfl⟩,pO,λb hb=>(hf b hb).1⟩⟩;rw[Int.mul_one]
 done:=by
  intro X hP hw hK hc i f8 s σ H E I hf st hg;subst hP hw hK;obtain⟨f0,f1,f2,f3,f4,f5⟩:=hf it (by simp);exact wpAny_pyNext_range_end (I.ok.hd hc) st (by have:n<=i:=hg;omega) λh' eb=>⟨rfl,I.turned (t':=s.toks) (λb o hb e=>eb b o hb e) f0 f1 f3 f4 f5⟩
 self:=λ_ _ _ _ _ st h=>wpAny_pyIter_rangeiter st h
section
variable{X:Cx}{tg:Expr}
def I9(K:Ph)(tl:TE):TI:=λσ H R=>tl σ H λx H1=>∃a,x= .ref a/\(∃xs,SqL K H1 a xs)/\R (Ko K a) H1
def Lp(K:Ph)(tl:TE):TI:=λσ H R=>tl σ H λx H1=>∃a,x= .ref a/\(∃xs,SqT K H1 a xs)/\R (Kp K a) H1
def D8{l:Expr}{tl:TE}(hl:PE X l tl):PI X tg l (I9 X.K tl):=by
 intro f8 s σ H R I h;refine b7 (hl f8 s σ H _ I h) λv s1 ⟨x,H1,I1,r1,q1⟩=>?_;obtain⟨a,e,⟨xs,hq⟩,q⟩:=q1;subst e;cases r1;obtain⟨aK,rv,p,hz⟩:=I1.list hq;refine wpAny_pyIter_list p.isList ?_;refine⟨s1.heap.objs.size,[s1.heap.objs.size],_,_,H1,rfl,I1.kept (t':=s1.toks) λb o e=>Pk _ e,z6 a _,⟨_,PU _ rfl,rfl,rfl⟩,λb hb=>?_,q⟩;have e:b=s1.heap.objs.size:=by simpa using hb
 subst e;exact I1.fpOk (Pm _) (I1.hok.fresh (Pm _))
def G9{l:Expr}{tl:TE}(hl:PE X l tl):PI X tg l (Lp X.K tl):=by
 intro f8 s σ H R I h;refine b7 (hl f8 s σ H _ I h) λv s1 ⟨x,H1,I1,r1,q1⟩=>?_;obtain⟨a,e,⟨xs,hq⟩,q⟩:=q1;subst e;cases r1;obtain⟨aK,rv,p,hz⟩:=I1.tuple hq;refine wpAny_pyIter_tuple (show s1.heap.IsTuple a aK.toArray from p) ?_;refine⟨s1.heap.objs.size,[s1.heap.objs.size],_,_,H1,rfl,I1.kept (t':=s1.toks) λb o e=>Pk _ e,xH a _,⟨_,PU _ rfl,rfl,rfl⟩,λb hb=>?_,q⟩;have e:b=s1.heap.objs.size:=by simpa using hb
 subst e;exact I1.fpOk (Pm _) (I1.hok.fresh (Pm _))
def vo{f8:List (Addr×Obj)}{σ:St}{H:Hp}{s:Pf}{R:It->Hp->Prop}{E:Value->Pf->Prop}{lo hi:Int}{t u v:Tok}{tk:Nat}(I:Inv X f8 σ H s)(h1: -(2 ^ 62)<=lo)(h2:lo<2 ^ 62)(h3: -(2 ^ 62)<=hi)(h4:hi<2 ^ 62)
 (q:R (HN lo (hi - lo).toNat) H):wpAny (model X.prog X.w) X.A (pyIter (.ref s.heap.objs.size)) (LZ X f8 σ tg R) E {s with heap:=s.heap.push {cls:= .type "range",data:= .fields #[.int lo t, .int hi u, .int 1 v]},toks:=tk}:=by
 refine wpAny_pyIter_range (IsRange.new ..) (small_one h1 h2 h3 h4) ?_;have I1:Inv X f8 σ H {s with heap:=s.heap.push {cls:= .type "range",data:= .fields #[.int lo t, .int hi u, .int 1 v]},toks:=tk}:=I.kept λb o e=>Pk _ e;refine⟨(s.heap.push {cls:= .type "range",data:= .fields #[.int lo t, .int hi u, .int 1 v]}).objs.size,[(s.heap.push {cls:= .type "range",data:= .fields #[.int lo t, .int hi u, .int 1 v]}).objs.size],_,_,H,rfl,
  I1.kept (t':=tk) λb o e=>Pk _ e,xG _ lo (hi - lo).toNat,?_,λb hb=>?_,q⟩
 ·have e1:lo+((0:Nat):Int)*1=lo:=by simp
  have e2:(((hi - lo).toNat:Nat):Int) - ((0:Nat):Int)=Builtin.Range.rangeSize lo hi 1:=by rw[rangeSize_one];split<;>omega
  show IsRangeIter _ _ (lo+((0:Nat):Int)*1) ((((hi - lo).toNat:Nat):Int) - ((0:Nat):Int)) 1;rw[e1,e2];exact PU _ rfl
 ·have e:b=(s.heap.push {cls:= .type "range",data:= .fields #[.int lo t, .int hi u, .int 1 v]}).objs.size:=by simpa using hb
  subst e;exact I1.fpOk (Pm _) (I1.hok.fresh (Pm _))
def I_(ta:TA):TI:=λσ H R=>ta σ H λvs H1=>∃j:Int,vs=[.int j]/\ -(2 ^ 62)<=j/\j<2 ^ 62/\R (HN 0 j.toNat) H1
def Ja(ta:TA):TI:=λσ H R=>ta σ H λvs H1=>∃i j:Int,vs=[.int i, .int j]/\(-(2 ^ 62)<=i/\i<2 ^ 62/\ -(2 ^ 62)<=j/\j<2 ^ 62)/\R (HN i (j - i).toNat) H1
def zN{a:Expr}{ta:TA}{p pos:Pos}(hg:Gl X "range")(hm:X.mg "range"=none)(ha:PA X [a] ta)(hs:PB [a] X.env=[(false,eval a X.env)]:=by rfl):PI X tg (.Call (.Name "range" p) [a] [] pos) (I_ ta):=by
 intro f8 s σ H R I h;refine Call_ (oK I hg hm boot_range (Rq (b7 (ha pos f8 s σ H _ I h) λus s1 ⟨vs,H1,I1,r1,q1⟩=>?_) hs rfl));obtain⟨j,e,q1,q2,q⟩:=q1;subst e;cases r1 with
 |cons r rr=>
  cases rr;obtain⟨t,rfl⟩:=r;exact call_range_1 (vo I1 (by omega) (by omega) q1 q2 (by simpa using q))
def zO{a b:Expr}{ta:TA}{p pos:Pos}(hg:Gl X "range")(hm:X.mg "range"=none)(ha:PA X [a,b] ta)(hs:PB [a,b] X.env=[(false,eval a X.env),(false,eval b X.env)]:=by rfl)(HF:PB [b] X.env=[(false,eval b X.env)]:=by rfl):
 PI X tg (.Call (.Name "range" p) [a,b] [] pos) (Ja ta):=by
 intro f8 s σ H R I h;refine Call_ (oK I hg hm boot_range (Rq (b7 (ha pos f8 s σ H _ I h) λus s1 ⟨vs,H1,I1,r1,q1⟩=>?_) (by rw[hs,HF]) (by rw[HF];rfl)));obtain⟨i,j,e,⟨q1,q2,q3,q4⟩,q⟩:=q1;subst e;cases r1 with
 |cons r rr=>
  cases rr with
  |cons r' rr=>
   cases rr;obtain⟨t,rfl⟩:=r;obtain⟨t',rfl⟩:=r';exact call_range_2 (vo I1 q1 q2 q3 q4 q)
def JR(wi:TI)(g:TG)(tb:TS):TS:=λD σ H=>wi σ H λJ H1=>∃W:Nat->Nat->St->Hp->Prop,(∃m,W 0 m σ H1)/\∀i m σ H,W i m σ H->
 (J.stop i H/\D.nx σ H)\/(J.go i H/\∃N:St->Hp->Prop,(∀σ' H',N σ' H'->∃m',m'<m/\W (i+1) m' σ' H')/\∀x H',J.yld i H x H'->g x σ H' λσ2 H2=>tb {D with nx:=N,ct:=N,bk:=D.nx} σ2 H2)
def pw(fp:List Addr)(h:Heap):List (Addr×Obj):=fp.filterMap λb=>(h.get? b).map λo=>(b,o)
def ib{fp:List Addr}{h:Heap}{b:Addr}{o:Obj}(hb:b∈fp)(e:h.get? b=some o):(b,o)∈pw fp h:=Us.mpr ⟨b,hb,by rw[e];rfl⟩
def zF{fp:List Addr}{h:Heap}{p:Addr×Obj}(hp:p∈pw fp h):p.1∈fp/\h.get? p.1=some p.2:=by
 obtain⟨b,hb,e⟩:=Us.mp hp;cases q:h.get? b with
 |none=>rw[q] at e;cases e
 |some o=>
  rw[q] at e;have e':(b,o)=p:=Pz e;subst e';exact⟨hb,q⟩
def Inv.pinned{f8:List (Addr×Obj)}{σ:St}{H:Hp}{s:Pf}{fp:List Addr}(I:Inv X f8 σ H s)(hf:∀b∈fp,p9 X f8 H b)(ho:∀b∈fp,∃o,s.heap.get? b=some o/\∀v,o.data≠ .cell v):Inv X (f8++pw fp s.heap) σ H s:=
 I.pins_of λp hp=>(PR.mp hp).elim (λz=>I.pin p (P9 _ z)) λz=>by
  obtain⟨hb,e⟩:=zF z;obtain⟨f0,f1,f2,_⟩:=hf p.1 hb;obtain⟨o,e',d⟩:=ho p.1 hb;rw[e] at e';cases e';exact⟨e,f0,f1,f2,d⟩
def Inv.unpinned{f8 pl:List (Addr×Obj)}{σ:St}{H:Hp}{s:Pf}(I:Inv X (f8++pl) σ H s):Inv X f8 σ H s:=I.pins_of λp hp=>I.pin p (P9 _ (RC _ hp))
def xo{iter:Expr}{body:List Stmt}{wi:TI}{g:TG}{tb:TS}{pos:Pos}(hp:TY (model X.prog X.w) X.A X.env X.xe)(hc:X.calm=true)(hi:PI X tg iter wi)(hg:PG X tg g)(hb:PSs X body tb)
 (hs:∀x,Q4 iter X.env x=pure x:=by intro _;rfl):PS X (.For tg iter body [] pos) (JR wi g tb):=by
 intro f8 s σ H D I h;refine wpAny_For (b7 (hi f8 s σ H _ I h) λv s1 h1=>b7 h1 λMK s2 h2=>?_) hs;obtain⟨it,fp,tn,J,H2,e,I2,T,xC,f2,W,⟨m0,w0⟩,turn⟩:=h2;subst e;have Ho:∀{H':Hp},(∀b∈fp,H' b=none)->∀b∈fp,p9 X f8 H' b:=λhn b hb=>⟨hn b hb,(f2 b hb).2⟩
 refine codeAny_forLoop_any (λn s'=>∃i σ' H',Inv X f8 σ' H' s'/\tn i s'.heap/\(∀b∈fp,H' b=none)/\W i n σ' H') ?_ m0 ⟨0,σ,H2,I2,xC,λb hb=>(f2 b hb).1,w0⟩;rintro n s3 ⟨i,σ3,H3,I3,HH,J3,w3⟩;rcases turn i n σ3 H3 w3 with⟨stop,qn⟩ | ⟨go,N,hN,step⟩
 ·refine QZ hp (b7 (T.done X rfl rfl rfl hc i f8 s3 σ3 H3 X.xe I3 (Ho J3) HH stop) λr s4 ⟨hr,I4⟩=>?_);subst hr;exact SA ⟨σ3,H3,I4,qn⟩
 ·refine QZ hp (b7 (T.item X rfl rfl rfl hc i f8 s3 σ3 H3 X.xe I3 (Ho J3) HH go) λr s4 ⟨u,hr,h4⟩=>?_);subst hr;refine QZ hp (b7 h4 λ_ s5 ⟨x,H5,I5,r5,y5,LH,Nf⟩=>?_);have I5':=I5.pinned (Ho Nf) (T.obj _ _ LH);refine QZ hp (b7 (hg _ s5 σ3 H5 x u _ I5' r5 (step x H5 y5)) λ_ s6 ⟨σ6,H6,I6,q6⟩=>?_);refine QZ hp (b7 (hb _ s6 σ6 H6 _ I6 q6) λf s7 q7=>?_);have again:∀{σ7:St}{H7:Hp},Inv X (f8++pw fp s5.heap) σ7 H7 s7->N σ7 H7->∃m,m<n/\∃i σ' H',Inv X f8 σ' H' s7/\tn i s7.heap/\(∀b∈fp,H' b=none)/\W i m σ' H':=λ{σ7 H7} I7 n7=>by
   obtain⟨m',hm,w7⟩:=hN σ7 H7 n7;refine⟨m',hm,i+1,σ7,H7,I7.unpinned,T.keep _ _ _ LH λb hb o e=>(I7.pin (b,o) (P9 _ (P9 _ (ib hb e)))).1,λb hb=>?_,w7⟩;obtain⟨o,e,d⟩:=T.obj _ _ LH b hb;exact(I7.pin (b,o) (P9 _ (P9 _ (ib hb e)))).2.1
  cases f with
  |next=>obtain⟨σ7,H7,I7,n7⟩:=q7;exact again I7 n7
  |cont=>obtain⟨σ7,H7,I7,n7⟩:=q7;exact again I7 n7
  |brk=>obtain⟨σ7,H7,I7,q7⟩:=q7;exact⟨σ7,H7,I7.unpinned,q7⟩
  |ret v=>obtain⟨x7,σ7,H7,I7,r7,q7⟩:=q7;exact⟨x7,σ7,H7,I7.unpinned,r7,q7⟩
end
abbrev R2:=V->V->Hp->VK->Prop
def OpR(X:Cx)(f:Value->Value->Sem Value)(r:R2):Prop:=
 ∀(f8:List (Addr×Obj)) (s:Pf) (σ:St) (H:Hp) (x y:V) (v u:Value) (Q:VK),Inv X f8 σ H s->RelV x v->RelV y u->r x y H Q->
  wpAny (model X.prog X.w) X.A (f v u) (EP X f8 σ Q) X.xe s
def Kv(X:Cx)(f:Value->Sem Value)(r:V->Hp->VK->Prop):Prop:=
 ∀(f8:List (Addr×Obj)) (s:Pf) (σ:St) (H:Hp) (x:V) (v:Value) (Q:VK),Inv X f8 σ H s->RelV x v->r x H Q->
  wpAny (model X.prog X.w) X.A (f v) (EP X f8 σ Q) X.xe s
def CallR(X:Cx)(f:Value)(r:List V->Hp->VK->Prop):Prop:=
 ∀(f8:List (Addr×Obj)) (s:Pf) (σ:St) (H:Hp) (xs:List V) (us:List Value) (Q:VK),Inv X f8 σ H s->Vals xs us->r xs H Q->
  wpAny (model X.prog X.w) X.A (call f us) (EP X f8 σ Q) X.xe s
def Ku(X:Cx)(r:V->Hp->(Bool->Hp->Prop)->Prop):Prop:=
 ∀(f8:List (Addr×Obj)) (s:Pf) (σ:St) (H:Hp) (x:V) (v:Value) (Q:Bool->Hp->Prop),Inv X f8 σ H s->RelV x v->r x H Q->
  wpAny (model X.prog X.w) X.A (truthy v) (TP X f8 σ Q) X.xe s
def JV(r:R2)(ta tb:TE):TE:=λσ H Q=>ta σ H λx H1=>tb σ H1 λy H2=>r x y H2 Q
def OS(r:V->Hp->VK->Prop)(ta:TE):TE:=λσ H Q=>ta σ H λx H1=>r x H1 Q
def rI(C:Int->Int->Prop)(g:Int->Int->V):R2:=λx y H Q=>∃i j,x= .int i/\y= .int j/\C i j/\Q (g i j) H
def yR(g:Int->Int->V):R2:=λx y H Q=>∃i j,x= .int i/\y= .int j/\Q (g i j) H
def rU(g:Int->V):V->Hp->VK->Prop:=λx H Q=>∃i,x= .int i/\Q (g i) H
section
variable{X:Cx}{a b:Expr}{ta tb:TE}{pos:Pos}
def Ft(ha:PE X a ta)(hb:PE X b tb){f8:List (Addr×Obj)}{s:Pf}{σ:St}{H:Hp}{R:V->V->Hp->Prop}(I:Inv X f8 σ H s)
 (h:ta σ H λx H1=>tb σ H1 λy H2=>R x y H2){Q:Value->Pf->Prop}{f:Value->Value->Sem Value}
 (hf:∀v u s2 x y H2,Inv X f8 σ H2 s2->RelV x v->RelV y u->R x y H2->wpAny (model X.prog X.w) X.A (f v u) Q X.xe s2):
 wpAny (model X.prog X.w) X.A (eval a X.env) (λv v4=>wpAny (model X.prog X.w) X.A (eval b X.env) (λu u8=>wpAny (model X.prog X.w) X.A (f v u) Q X.xe u8) X.xe v4) X.xe s:=by
 refine b7 (ha f8 s σ H _ I h) λv s1 ⟨x,H1,I1,r1,q1⟩=>?_;refine b7 (hb f8 s1 σ H1 _ I1 q1) λu s2 ⟨y,H2,I2,r2,q2⟩=>?_;exact hf v u s2 x y H2 I2 r1 r2 q2
def Jw{op:Operator}{r:R2}(ho:OpR X (RN op) r)(ha:PE X a ta)(hb:PE X b tb):PE X (.BinOp a op b pos) (JV r ta tb):=by
 intro f8 s σ H Q I h;exact wpAny_BinOp (Ft ha hb I h λv u s2 x y H2 I2 rx ry q=>ho f8 s2 σ H2 x y v u Q I2 rx ry q)
def Jx{op:UnaryOp}{r:V->Hp->VK->Prop}(ho:Kv X (unaryOp op) r)(ha:PE X a ta):PE X (.UnaryOp op a pos) (OS r ta):=by
 intro f8 s σ H Q I h;exact UnaryOp_ (b7 (ha f8 s σ H _ I h) λv s1 ⟨x,H1,I1,r1,q1⟩=>ho f8 s1 σ H1 x v Q I1 r1 q1)
def LA{f:Value->Value->Sem Value}{C:Int->Int->Prop}{g:Int->Int->Int}
 (rule:∀(i j:Int) (t u:Tok) (s:Pf) (Q:Value->Pf->Prop) (E:Value->Pf->Prop),C i j->Q (.int (g i j) s.toks) {s with toks:=s.toks+1}->wpAny (model X.prog X.w) X.A (f (.int i t) (.int j u)) Q E s):
 OpR X f (rI C λi j=> .int (g i j)):=by
 intro f8 s σ H x y v u Q I rx ry h;obtain⟨i,j,rfl,rfl,hc,q⟩:=h;obtain⟨t,rfl⟩:=rx;obtain⟨t',rfl⟩:=ry;exact rule i j t t' s _ _ hc ⟨.int (g i j),H,I.tok _,⟨_,rfl⟩,q⟩
def Jq{f:Value->Value->Sem Value}{g:Int->Int->Int}
 (rule:∀(i j:Int) (t u:Tok) (s:Pf) (Q:Value->Pf->Prop) (E:Value->Pf->Prop),Q (.int (g i j) s.toks) {s with toks:=s.toks+1}->wpAny (model X.prog X.w) X.A (f (.int i t) (.int j u)) Q E s):
 OpR X f (yR λi j=> .int (g i j)):=by
 intro f8 s σ H x y v u Q I rx ry h;obtain⟨i,j,rfl,rfl,q⟩:=h;obtain⟨t,rfl⟩:=rx;obtain⟨t',rfl⟩:=ry;exact rule i j t t' s _ _ ⟨.int (g i j),H,I.tok _,⟨_,rfl⟩,q⟩
def GF{f:Value->Value->Sem Value}{g:Int->Int->Bool}
 (rule:∀(i j:Int) (t u:Tok) (s:Pf) (Q:Value->Pf->Prop) (E:Value->Pf->Prop),Q (.bool (g i j)) s->wpAny (model X.prog X.w) X.A (f (.int i t) (.int j u)) Q E s):
 OpR X f (yR λi j=> .bl (g i j)):=by
 intro f8 s σ H x y v u Q I rx ry h;obtain⟨i,j,rfl,rfl,q⟩:=h;obtain⟨t,rfl⟩:=rx;obtain⟨t',rfl⟩:=ry;exact rule i j t t' s _ _ ⟨.bl (g i j),H,I,rfl,q⟩
def HJ(i j:Int):Prop:=0<j/\j<1073741824
def CMul(i j:Int):Prop:=(-(2 ^ 64)<i/\i<2 ^ 64)\/(-(2 ^ 64)<j/\j<2 ^ 64)
def CMul.ok{i j:Int}(h:CMul i j):IntMulOk i j:=by
 rcases h with⟨h1,h2⟩ | ⟨h1,h2⟩
 ·exact .of_left (intBits_le_64 h1 h2)
 ·exact .of_right (intBits_le_64 h1 h2)
def GG:OpR X (RN .Add) (yR λi j=> .int (i+j)):=Jq λ_ _ _ _ _ _ _ q=>add_int q
def GO:OpR X (RN .Sub) (yR λi j=> .int (i - j)):=Jq λ_ _ _ _ _ _ _ q=>sub_int q
def GL:OpR X (RN .Mult) (rI CMul λi j=> .int (i*j)):=LA λ_ _ _ _ _ _ _ hc q=>mul_int q hc.ok
def DI:OpR X (RN .FloorDiv) (rI HJ λi j=> .int (i / j)):=LA λi j _ _ _ _ _ hc q=>by
 have h1:(0:Int)<j:=hc.1;have h2:j<1073741824:=hc.2;exact floordiv_int (by omega) (by rw[Int.fdiv_eq_ediv_of_nonneg i (by omega)];exact q) (.inl (PyProof.noPylong_small (by omega)))
def GK:OpR X (RN .Mod) (rI (λ_ j=>0<j) λi j=> .int (i % j)):=LA λi j _ _ _ _ _ hc q=>by
 have h1:(0:Int)<j:=hc;exact mod_int' (by omega) (by rw[Int.fmod_eq_emod_of_nonneg i (by omega)];exact q)
def OT{f:Value->Sem Value}{g:Int->Int}
 (rule:∀(i:Int) (t:Tok) (s:Pf) (Q:Value->Pf->Prop) (E:Value->Pf->Prop),Q (.int (g i) s.toks) {s with toks:=s.toks+1}->wpAny (model X.prog X.w) X.A (f (.int i t)) Q E s):
 Kv X f (rU λi=> .int (g i)):=by
 intro f8 s σ H x v Q I rx h;obtain⟨i,rfl,q⟩:=h;obtain⟨t,rfl⟩:=rx;exact rule i t s _ _ ⟨.int (g i),H,I.tok _,⟨_,rfl⟩,q⟩
def Hx:Kv X (unaryOp .USub) (rU λi=> .int (-i)):=OT λ_ _ _ _ _ q=>neg_int q
end
section
variable{X:Cx}{a b c:Expr}{ta tb tc:TE}{pos:Pos}
def wz{f8:List (Addr×Obj)}{σ:St}{H:Hp}{s:Pf}{Q:VK}{k k':Bool}(I:Inv X f8 σ H s)(q:Q (.bl k) H)(e:k=k'):EP X f8 σ Q (.bool k') s:=by
 subst e;exact⟨.bl k,H,I,rfl,q⟩
def yB:OpR X (Qj .Lt) (yR λi j=> .bl (decide (i<j))):=GF λ_ _ _ _ _ _ _ q=>lt_int q
def o6:OpR X (Qj .LtE) (yR λi j=> .bl (decide (i<=j))):=GF λ_ _ _ _ _ _ _ q=>le_int q
def Jr:OpR X (Qj .Gt) (yR λi j=> .bl (decide (j<i))):=GF λ_ _ _ _ _ _ _ q=>gt_int q
def zI:OpR X (Qj .In) (λx y H Q=>∃i j,x= .str i/\y= .str j/\Q (.bl (!(Q0 j i 0 j.length 1).isEmpty)) H):=by
 intro f8 s σ H x y v u Q I rx ry h;obtain⟨i,j,rfl,rfl,q⟩:=h;obtain⟨t,rfl⟩:=rx;obtain⟨t',rfl⟩:=ry;exact in_str (wz I q rfl)
def GJ:OpR X (Qj .Is) (λx y H Q=>y= .non/\Q (.bl (decide (x= .non))) H):=by
 intro f8 s σ H x y v u Q I rx ry h;obtain⟨rfl,q⟩:=h;cases ry;refine is_none_gen (wz I q ?_);cases x<;>first
  |(cases rx;rfl)
  |(obtain ⟨t,rfl⟩:=rx;rfl)
def DJ:OpR X (Qj .IsNot) (λx y H Q=>y= .non/\Q (.bl (!decide (x= .non))) H):=by
 intro f8 s σ H x y v u Q I rx ry h;obtain⟨rfl,q⟩:=h;cases ry;refine isnot_none_gen (wz I q ?_);cases x<;>first
  |(cases rx;rfl)
  |(obtain ⟨t,rfl⟩:=rx;rfl)
def OpR.or{f:Value->Value->Sem Value}{r r':R2}(h:OpR X f r)(h':OpR X f r'):OpR X f (λx y H Q=>r x y H Q\/r' x y H Q):=by
 intro f8 s σ H x y v u Q I rx ry q;rcases q with q | q
 ·exact h f8 s σ H x y v u Q I rx ry q
 ·exact h' f8 s σ H x y v u Q I rx ry q
def Bt(b:Expr){op:CmpOp}(h:op≠ .In:=by decide)(h2:op≠ .NotIn:=by decide):Ql op b=false:=by
 have e1:(op==CmpOp.In)=false:=by cases op<;>first | rfl | exact UK rfl h
 have e2:(op==CmpOp.NotIn)=false:=by cases op<;>first | rfl | exact UK rfl h2
 cases b<;>simp[Ql,e1,e2]
def D3{op:CmpOp}{r:R2}(ho:OpR X (Qj op) r)(ha:PE X a ta)(hb:PE X b tb)(hm:Ql op b=false):PE X (.Compare a [op] [b] pos) (JV r ta tb):=by
 intro f8 s σ H Q I h;exact wpAny_Compare1 (Ft ha hb I h λv u s2 x y H2 I2 rx ry q=>ho f8 s2 σ H2 x y v u Q I2 rx ry q) hm
def Fj(t:TE):TT:=λσ H Q=>t σ H λx H'=>∃k,x= .bl k/\Q k H'
def Ec{op:CmpOp}{r:R2}(ho:OpR X (Qj op) r)(ha:PE X a ta)(hb:PE X b tb)(hm:Ql op b=false):PT X (.Compare a [op] [b] pos) (Fj (JV r ta tb)):=by
 intro f8 s σ H Q I h;refine wpAny_isTrue_Compare1 (b7 (ha f8 s σ H _ I h) λv s1 ⟨x,H1,I1,r1,q1⟩=>b7 (hb f8 s1 σ H1 _ I1 q1) λu s2 ⟨y,H2,I2,r2,q2⟩=>
  b7 (ho f8 s2 σ H2 x y v u _ I2 r1 r2 q2) λc s3 ⟨z,H3,I3,r3,k,e,q3⟩=>?_) hm
 subst e;cases r3;exact QD ⟨H3,I3,q3⟩
def xD(r r':R2)(ta tb tc:TE):TE:=λσ H Q=>ta σ H λx H1=>tb σ H1 λy H2=>r x y H2 λz H3=>∃k,z= .bl k/\
 (if k=true then tc σ H3 λw' H4=>r' y w' H4 Q else Q (.bl false) H3)
def BN{op xc:CmpOp}{r r':R2}(ho:OpR X (Qj op) r)(qN:OpR X (Qj xc) r')(ha:PE X a ta)(hb:PE X b tb)(hc:PE X c tc)
 (hm:lastMarks [op,xc] [b,c]=false:=by with_unfolding_all rfl):PE X (.Compare a [op,xc] [b,c] pos) (xD r r' ta tb tc):=by
 intro f8 s σ H Q I h;refine Compare_chain (b7 (ha f8 s σ H _ I h) λv s1 ⟨x,H1,I1,r1,q1⟩=>chain_link (b7 (hb f8 s1 σ H1 _ I1 q1) λu s2 ⟨y,H2,I2,r2,q2⟩=>
  b7 (ho f8 s2 σ H2 x y v u _ I2 r1 r2 q2) λd s3 ⟨z,H3,I3,r3,k,e,q3⟩=>?_)) hm
 subst e;cases r3;refine QD ?_;cases k with
 |false=>exact ite_ff ⟨.bl false,H3,I3,rfl,q3⟩
 |true=>exact ite_tt (chain_last (b7 (hc f8 s3 σ H3 _ I3 q3) λw' s4 ⟨z',H4,I4,r4,q4⟩=>qN f8 s4 σ H4 y z' u w' Q I4 r2 r4 q4))
def BX{op xc:CmpOp}{r r':R2}(ho:OpR X (Qj op) r)(qN:OpR X (Qj xc) r')(ha:PE X a ta)(hb:PE X b tb)(hc:PE X c tc)
 (hm:lastMarks [op,xc] [b,c]=false:=by with_unfolding_all rfl):PT X (.Compare a [op,xc] [b,c] pos) (Fj (xD r r' ta tb tc)):=by
 intro f8 s σ H Q I h;refine isTrue_chain (b7 (ha f8 s σ H _ I h) λv s1 ⟨x,H1,I1,r1,q1⟩=>test_link (b7 (hb f8 s1 σ H1 _ I1 q1) λu s2 ⟨y,H2,I2,r2,q2⟩=>
  b7 (ho f8 s2 σ H2 x y v u _ I2 r1 r2 q2) λd s3 ⟨z,H3,I3,r3,k,e,q3⟩=>?_)) hm
 subst e;cases r3;refine QD ?_;cases k with
 |false=>
  obtain⟨k',e',q'⟩:=q3;cases e';exact ite_ff ⟨H3,I3,q'⟩
 |true=>
  refine ite_tt (test_last (b7 (hc f8 s3 σ H3 _ I3 q3) λw' s4 ⟨z',H4,I4,r4,q4⟩=>b7 (qN f8 s4 σ H4 y z' u w' _ I4 r2 r4 q4) λd' s5 ⟨z2,H5,I5,r5,k2,e2,q5⟩=>?_));subst e2;cases r5;exact QD ⟨H5,I5,q5⟩
def HR(K:Ph)(x:V)(H:Hp)(k:Bool):Prop:=
 match x with
 | .non=>k=false
 | .bl b=>k=b
 | .int i=>k=(i !=0)
 | .str y=>y.length<=Py/\k=((y.length:Int) !=0)
 | .byt y=>y.size<=Py/\k=((y.size:Int) !=0)
 | .ref p=>(∃xs,SqL K H p xs/\k=!xs.isEmpty)\/(∃xs,SqT K H p xs/\k=!xs.isEmpty)\/∃ax,H p=some (.dK ax)/\k=!ax.isEmpty
 |_=>False
def wK{κ:Type}{ax:List (κ×V)}{vs:List (κ×Value)}(r:KV ax vs):(!vs.isEmpty)=!ax.isEmpty:=by
 cases r<;>rfl
def oC{xs:List V}{aK:List Value}(r:Vals xs aK):(!aK.toArray.isEmpty)=!xs.isEmpty:=by
 cases r<;>simp
def lM:(Py:Nat)<2 ^ 63:=by rw[Rh];decide
def Hv:Ku X (λx H Q=>∃k,HR X.K x H k/\Q k H):=by
 intro f8 s σ H x v Q I rx h;obtain⟨k,e,q⟩:=h;have hl:=lM;have hs:Py=16777216:=Rh;cases x with
 |non=>
  cases rx;have e':k=false:=e;subst e';exact truthy_none ⟨H,I,q⟩
 |bl b=>
  cases rx;have e':k=b:=e;subst e';exact QD ⟨H,I,q⟩
 |int i=>
  obtain⟨t,rfl⟩:=rx;have e':k=(i !=0):=e;subst e';exact PySem.P.truthy_int ⟨H,I,q⟩
 |str y=>
  obtain⟨t,rfl⟩:=rx;obtain⟨hy,e'⟩:y.length<=Py/\k=((y.length:Int) !=0):=e;subst e';exact PySem.P.truthy_str (by omega) ⟨H,I.tok _,q⟩
 |byt y=>
  obtain⟨t,rfl⟩:=rx;obtain⟨hy,e'⟩:y.size<=Py/\k=((y.size:Int) !=0):=e;subst e';exact PySem.W.truthy_bytes (by omega) ⟨H,I.tok _,q⟩
 |ref p=>
  cases rx;have e':(∃xs,SqL X.K H p xs/\k=!xs.isEmpty)\/(∃xs,SqT X.K H p xs/\k=!xs.isEmpty)\/∃ax,H p=some (.dK ax)/\k=!ax.isEmpty:=e;rcases e' with⟨xs,hx,e'⟩ | ⟨xs,hx,e'⟩ | ⟨ax,hx,e'⟩
  ·subst e';obtain⟨aK,r,pl,hz⟩:=I.list hx;have P3:=r.length;exact wpAny_truthy_list pl.isList (by simp only[Po];omega) ⟨H,I.tok _,by rw[oC r];exact q⟩
  ·subst e';obtain⟨aK,r,pl,hz⟩:=I.tuple hx;have P3:=r.length;exact truthy_tuple pl (by simp only[Po];omega) ⟨H,I.tok _,by rw[oC r];exact q⟩
  ·subst e';obtain⟨hz,hS,vs,r,m⟩:ax.length<=Py/\(p==Qy)=false/\∃vs,KV ax vs/\s.heap.DictOf (a9 X.prog X.w) p vs:=I.hok p _ hx;have P3:ax.length=vs.length:=QM r;exact wpAny_truthy_dict hS m (by omega) ⟨H,I.tok _,by rw[wK r];exact q⟩
 |_=>exact(show False from e).elim
def B0(ha:PE X a ta)(he:∀whole,isTrue a X.env whole=(do let v<-whole;standAt a.pos;holding [v] (truthy v))):
 PT X a (λσ H Q=>ta σ H λx H'=>∃k,HR X.K x H' k/\Q k H'):=by
 intro f8 s σ H Q I h;exact isTrue_plain (b7 (ha f8 s σ H _ I h) λv s1 ⟨x,H1,I1,r1,q1⟩=>Hv f8 s1 σ H1 x v Q I1 r1 q1) (he _)
def vals1{x:V}{us:List Value}(r:Vals [x] us):∃u,us=[u]/\RelV x u:=by
 cases r with
 |cons r1 r2=>cases r2;exact⟨_,rfl,r1⟩
def vals2{x y:V}{us:List Value}(r:Vals [x,y] us):∃u w',us=[u,w']/\RelV x u/\RelV y w':=by
 cases r with
 |cons r1 r2=>
  cases r2 with
  |cons r3 r4=>cases r4;exact⟨_,_,rfl,r1,r3⟩
def As:CallR X (.builtin "abs") (λxs H Q=>∃i,xs=[.int i]/\Q (.int (if i<0 then -i else i)) H):=by
 intro f8 s σ H xs us Q I r h;obtain⟨i,rfl,q⟩:=h;obtain⟨u,rfl,t,rfl⟩:=vals1 r;exact call_abs_int λu tk=>⟨.int (if i<0 then -i else i),H,I.tok _,⟨_,rfl⟩,q⟩
def y_(hc:X.calm=true):CallR X (.builtin "max") (λxs H Q=>∃i j,xs=[.int i, .int j]/\Q (.int (if j>i then j else i)) H):=by
 intro f8 s σ H xs us Q I r h;obtain⟨i,j,rfl,q⟩:=h;obtain⟨u,w',rfl,⟨t,rfl⟩,⟨t',rfl⟩⟩:=vals2 r;refine max_two_ints (I.ok.hd hc) λh' tk k=>⟨_,H,I.kept k,?_,q⟩
 by_cases hj:j>i
 ·rw[UD hj,UD hj];exact⟨_,rfl⟩
 ·rw[UE hj,UE hj];exact⟨_,rfl⟩
def za(hc:X.calm=true):CallR X (.builtin "min") (λxs H Q=>∃i j,xs=[.int i, .int j]/\Q (.int (if j<i then j else i)) H):=by
 intro f8 s σ H xs us Q I r h;obtain⟨i,j,rfl,q⟩:=h;obtain⟨u,w',rfl,⟨t,rfl⟩,⟨t',rfl⟩⟩:=vals2 r;refine min_two_ints (I.ok.hd hc) λh' tk k=>⟨_,H,I.kept k,?_,q⟩
 by_cases hj:j<i
 ·rw[UD hj,UD hj];exact⟨_,rfl⟩
 ·rw[UE hj,UE hj];exact⟨_,rfl⟩
end
structure ObjM (h:Heap) (x dx C:Addr) (mA:Str->Option Value):Prop where
 obj:h.get? x=some (SY C dx)
 ns:h.Ns1 dx mA
 ne:dx≠x
def zw{h:Heap}{dx:Addr}{mA:Str->Option Value}(n:h.Ns1 dx mA):∃od,h.get? dx=some od/\∀name,S8 name od=some (mA name):=by
 obtain⟨o,es,ep,ho,hd,hk,_,hm⟩:=n;refine⟨o,ho,λname=>?_⟩;have e:=hm name;unfold nsFind findBy at e;rw[<-Array.find?_toList] at e;unfold S8;rw[hd]
 dsimp only
 split
 ·rename_i y q;rw[q] at e;exact UM some e
 ·rename_i q;rw[q] at e;have a:es.toList.any (·.refKey)=false:=by
   rw[List.any_eq_false];intro y hy;obtain⟨z,t,Dd⟩:=hk y (Array.mem_toList_iff.mp hy);simp[DictEntry.refKey,Dd]
  have a':¬es.toList.any (·.refKey)=true:=by rw[a];exact PH
  rw[UE a'];exact UM some e
def ObjM.look{h:Heap}{x dx C:Addr}{mA:Str->Option Value}(I:ObjM h x dx C mA):∃od,PySem.W.InstAt h x (SY C dx) C (some od)/\∀name,S8 name od=some (mA name):=
 let ⟨od,ho,hl⟩:=zw I.ns
 ⟨od,⟨I.obj,rfl,rfl,ho⟩,hl⟩
def RelO.some_of{v:V}{o:Option Value}(r:RelO (some v) o):∃u,o=some u/\RelV v u:=by
 cases o with
 |none=>exact(show False from r).elim
 |some u=>exact⟨u,rfl,r⟩
def RelO.none_of{o:Option Value}(r:RelO none o):o=none:=by
 cases o with
 |none=>rfl
 |some u=>exact(show False from r).elim
section
variable{P:PX}{w:World}{H:Hp}{h:Heap}{a C dx:Addr}{fs:List (Str×V)}
def Dp(hok:HOk P w H h)(e:H a=some (.ins C dx fs)):∃mA,ObjM h a dx C mA/\(∀f,RelO (fs.lookup f) (mA f))/\PySem.Within mA (fs.map (·.1))/\fs.length<=1000/\H dx=some (.own a):=by
 obtain⟨d,z,ne,ob,mA,n,r,q⟩:=(show ObjOk P w H h a (.ins C dx fs) from hok a _ e)
 exact⟨mA,⟨ob,n,ne⟩,r,q,z,d⟩
end
structure Cls (K:Ph) (C:Addr):Prop where
 pg:Ud K C Str.empty=true
 hd:PySem.W.hasDictIn K C=true
 po:PySem.W.plainOver K C=true
 sa:Uw K (.ref C) "__setattr__"=some (some (.builtin "object.__setattr__"))
def Cls.get{K:Ph}{C:Addr}(c:Cls K C)(f:Str):Ud K C f=true:=c.pg
section
variable{X:Cx}{f8:List (Addr×Obj)}{σ:St}{H:Hp}{s:Pf}{A:Qm}{E:Value->Pf->Prop}{Q:Value->Pf->Prop}{c:Value}{b:Bool}
inductive TyOf (K:Ph) (H:Hp):V->Value->Prop where
 |non:TyOf K H .non (.type "NoneType")
 |bl (x:Bool):TyOf K H (.bl x) (.type "bool")
 |int (i:Int):TyOf K H (.int i) (.type "int")
 |str (x:Str):TyOf K H (.str x) (.type "str")
 |flt (x:UInt64):TyOf K H (.flt x) (.type "float")
 |lst {a:Addr}{xs:List V}(e:H a=some (.lst xs)):TyOf K H (.ref a) (.type "list")
 |frz {a:Addr}{o:Obj}{xs:List V}(e:H a=some (.frz o (.lst xs))):TyOf K H (.ref a) (.type "list")
 |tup {a:Addr}{xs:List V}(e:H a=some (.tup xs)):TyOf K H (.ref a) (.type "tuple")
 |dK {a:Addr}{ax:List (Key×V)}(e:H a=some (.dK ax)):TyOf K H (.ref a) (.type "dict")
 |dT {a:Addr}{ax:List (List Key×V)}(e:H a=some (.dT ax)):TyOf K H (.ref a) (.type "dict")
 |ins {a C dx:Addr}{fs:List (Str×V)}(e:H a=some (.ins C dx fs)) (cl:Cls K C) (ha:Uw K (.ref C) "__class__"=some (some (.builtin "object.__class__")))
   (hn:PySem.W.specialIn K (.builtin "object.__class__") "__get__"=some (some (.builtin "getset_descriptor.__get__"))) (MB:PySem.W.takesIn K (.builtin "object.__class__")=some true)
   (hm:PySem.W.mroIn K C (.type "object")=some true):TyOf K H (.ref a) (.ref C)
def zo{x:V}{u t:Value}(I:Inv X f8 σ H s)(rx:RelV x u)(ty:TyOf X.K H x t)(e:S9 X.K t c=some b)(h:∀tk,Q (.bool b) {s with toks:=tk}):
 wpAny (model X.prog X.w) A (call (.builtin "isinstance") [u,c]) Q E s:=by
 cases ty with
 |non=>cases (show u=Qv from rx);exact Qs PySem.W.kitx_none I.kIn QJ e (λz=>nomatch z) h
 |bl y=>cases (show u=RZ y from rx);exact Qs PySem.W.kitx_bool I.kIn QJ e (λz=>nomatch z) h
 |int i=>obtain⟨t,q⟩:=(show∃t,u=TX i t from rx);cases q;exact Qs PySem.W.kitx_int I.kIn QJ e (λz=>nomatch z) h
 |str y=>obtain⟨t,q⟩:=(show∃t,u=TV y t from rx);cases q;exact Qs PySem.W.kitx_str I.kIn QJ e (λz=>nomatch z) h
 |flt y=>obtain⟨t,q⟩:=(show∃t,u=Value.float y t from rx);cases q;exact Qs PySem.W.kitx_float I.kIn QJ e (λz=>nomatch z) h
 | @lst a xs ea=>
   cases (show u=P_ a from rx);obtain⟨_,_,n,_,h1⟩:=(show ObjOk X.prog X.w H s.heap a (.lst xs) from I.hok a _ ea)
   exact Qs T4 I.kIn ⟨_,h1,rfl⟩ e (λz=>nomatch z) h
 | @frz a ob xs ea=>
   cases (show u=P_ a from rx);obtain⟨_,_,_,n,_,h1⟩:=(show ObjOk X.prog X.w H s.heap a (.frz ob (.lst xs)) from I.hok a _ ea)
   exact Qs T4 I.kIn ⟨_,h1,rfl⟩ e (λz=>nomatch z) h
 | @tup a xs ea=>
   cases (show u=P_ a from rx);obtain⟨_,_,_,p⟩:=(show ObjOk X.prog X.w H s.heap a (.tup xs) from I.hok a _ ea)
   obtain⟨o,h1,h2,_⟩:=p;exact Qs PySem.W.kitx_tuple I.kIn ⟨o,h1,h2⟩ e (λz=>nomatch z) h
 | @dK a ax ea=>
   cases (show u=P_ a from rx);obtain⟨_,_,vs,_,p⟩:=(show ObjOk X.prog X.w H s.heap a (.dK ax) from I.hok a _ ea)
   obtain⟨o,es,ep,h1,h2,_⟩:=p;exact Qs T5 I.kIn ⟨o,h1,h2.1⟩ e (λz=>nomatch z) h
 | @dT a ax ea=>
   cases (show u=P_ a from rx);obtain⟨_,_,xs,_,o,es,ep,h1,h2,_⟩:=(show ObjOk X.prog X.w H s.heap a (.dT ax) from I.hok a _ ea)
   exact Qs T5 I.kIn ⟨o,h1,h2.1⟩ e (λz=>nomatch z) h
 | @ins a C dx fs ea cl ha hn MB hm=>
   cases (show u=P_ a from rx);obtain⟨mA,O,_⟩:=Dp I.hok ea;obtain⟨od,J,_⟩:=O.look;exact Qs (PySem.W.kitx_own (cl.get _) cl.hd ha hn MB hm) I.kIn J e (λz=>nomatch z) h
end
structure Room (k:Nat) (A:Qm):Prop where
 hd:A.handled=none
 dp:A.depth+3*k+5<T3
 un:A.units+16*k+200<cLine
def Room.mono{j k:Nat}{A:Qm}(r:Room k A)(h:j<=k):Room j A:=⟨r.hd,by have:=r.dp;omega,by have:=r.un;omega⟩
def Room.deeper{k:Nat}{A:Qm}(r:Room (k+1) A)(env:Env):Room k (A.deeper env):=
 ⟨r.hd,by have:=r.dp;show A.depth+1+3*k+5<_;omega,by have:=r.un;show A.units+3+16*k+200<_;omega⟩
def Room.depth{k:Nat}{A:Qm}(r:Room k A):A.depth<T3:=by have:=r.dp;omega
def Room.units{k:Nat}{A:Qm}(r:Room k A):A.units+64<cLine:=by have:=r.un;omega
def Ht:TA:=λ_ H Q=>Q [] H
def Cq(ta:TE)(tr:TA):TA:=λσ H Q=>ta σ H λx H1=>tr σ H1 λxs H2=>Q (x::xs) H2
section
variable{X:Cx}{e:Expr}{es:List Expr}{te:TE}{t:TA}{pos:Pos}
def sU:PA X [] Ht:=λ_ _ _ _ H Q I h=>R4 ⟨[],H,I, .nil,h⟩
def sT(ha:PE X e te)(hr:PA X es t)(hs:PB (e::es) X.env=(false,eval e X.env)::PB es X.env:=by rfl):PA X (e::es) (Cq te t):=by
 intro pos f8 s σ H Q I h;rw[hs];show wpAny _ _ (spliced ((false,eval e X.env)::Rm pos (PB es X.env))) _ _ s;refine Rc (b7 (ha f8 s σ H _ I h) λu s1 ⟨x,H1,I1,r1,q1⟩=>?_);exact b7 (hr pos f8 s1 σ H1 _ I1 q1) λus s2 ⟨xs,H2,I2,r2,q2⟩=>⟨x::xs,H2,I2, .cons r1 r2,q2⟩
def LP(t:TA):TE:=λσ H Q=>t σ H λxs H1=>xs.length<=Py/\∀p,H1 p=none->Q (.ref p) (upd H1 p (.tup xs))
def LL(t:TA):TE:=λσ H Q=>t σ H λxs H1=>xs.length<=Py/\∀p,H1 p=none->Q (.ref p) (upd H1 p (.lst xs))
def G4{x1}(h:PA X es t):PE X (.Tuple es x1 pos) (LP t):=by
 intro f8 s σ H Q I hq;refine wpAny_Tuple_spliced (b7 (h pos f8 s σ H _ I hq) λus s1 ⟨xs,H1,I1,r,z,q⟩=>⟨by rw[<-r.length];exact z,?_⟩);have hf:H1 s1.heap.objs.size=none:=I1.hok.fresh (Pm _);refine⟨.ref s1.heap.objs.size,upd H1 s1.heap.objs.size (.tup xs),I1.laid (t':=s1.toks) (λb u e=>Pk _ e) (Pm _) ?_,rfl,q _ hf⟩;exact⟨z,us,r,⟨_,PU _ rfl,rfl,_,rfl⟩⟩
def xm(h:PA X es t):PE X (.List es pos) (LL t):=by
 intro f8 s σ H Q I hq;refine wpAny_List_spliced (b7 (h pos f8 s σ H _ I hq) λus s1 ⟨xs,H1,I1,r,z,q⟩=>⟨by rw[<-r.length];exact z,?_⟩);have hf:H1 s1.heap.objs.size=none:=I1.hok.fresh (Pm _);refine⟨.ref s1.heap.objs.size,upd H1 s1.heap.objs.size (.lst xs),I1.laid (t':=s1.toks) (λb u e=>Pk _ e) (Pm _) ?_,rfl,q _ hf⟩;exact⟨z,us,0,r,PU _ rfl⟩
end
abbrev Sp:=List V->Hp->VK->XK->Prop
abbrev xP:=List Env->Hp->Pf->XK->Value->Pf->Prop
structure Env0 (P:PX) (w:World) (K:Ph) (mg:Str->Option Value) (base:Heap) (A:Qm) (outer:List Env) (s:Pf) (H:Hp):Prop where
 frames:A.frames=some outer
 mod:Mod K mg base
 bs:∀b o,base.get? b=some o->s.heap.get? b=some o/\H b=none
 bsz:base.objs.size<=s.heap.objs.size
 funs:s.heap.FunFrames base outer
 frf:∀b∈nz outer,H b=none
 hok:HOk P w H s.heap
 bare:SI s.gens
def CE(outer:List Env)(P:PX)(w:World)(H:Hp)(s:Pf)(Q:VK)(u:Value)(s':Pf):Prop:=
 ∃v H',s'.os=s.os/\SI s'.gens/\Un (nz outer) [] H H' s.heap s'.heap/\HOk P w H' s'.heap/\RelV v u/\Q v H'
def CR(CX:xP)(outer:List Env)(P:PX)(w:World)(H:Hp)(s:Pf)(Q:VK)(E:XK)(r:Result)(s':Pf):Prop:=
 match r with
 | .ok (.ret u)=>CE outer P w H s Q u s'
 | .ok _=>False
 | .error e=>CX outer H s E e s'
structure FnOk (P:PX) (w:World) (K:Ph) (mg:Str->Option Value) (base:Heap) (CX:xP) (k:Nat) (f:Addr) (fd:Q8) (ps:List Str) (sp:Sp):Prop where
 len:∀vs H Q E,sp vs H Q E->vs.length=ps.length
 run:∀(A:Qm) (outer:List Env) (s:Pf) (H:Hp) (args:Args) (us:List Value) (vs:List V) (Q:VK) (E:XK),Room k A->Env0 P w K mg base A outer s H->Ut s fd args (ps.zip us)->Vals vs us->sp vs H Q E->
  TU (model P w) A (.call (.ref f) args) (CR CX outer P w H s Q E) s
def FnOk.mono{P:PX}{w:World}{K:Ph}{mg:Str->Option Value}{base:Heap}{CX:xP}{j k:Nat}{f:Addr}{fd:Q8}{ps:List Str}{sp:Sp}(F:FnOk P w K mg base CX j f fd ps sp)(h:j<=k):
 FnOk P w K mg base CX k f fd ps sp:=⟨F.len,λA outer s H args us vs Q E hr=>F.run A outer s H args us vs Q E (hr.mono h)⟩
section
variable{X:Cx}{f8:List (Addr×Obj)}{σ:St}{H:Hp}{s s':Pf}
def Inv.env0(I:Inv X f8 σ H s):Env0 X.prog X.w X.K X.mg X.base X.A X.stack s H:=
 ⟨I.ok.frames,I.ok.mod,I.bs,PM I.ok.bsz I.sz,I.stack,I.stkFree,I.hok,I.bare⟩
def Inv.after{Q:VK}{u:Value}(I:Inv X f8 σ H s)(h:CE X.stack X.prog X.w H s Q u s'):EP X f8 σ Q u s':=by
 obtain⟨v,H',os,bare,un,hok,r,q⟩:=h;obtain⟨hh,g,d,t,OM⟩:=s';obtain rfl:OM=s.os:=os;exact⟨v,H',I.call (h':=hh) (g':=g) (d':=d) (t':=t) (ch:=[]) un hok bare (λb z=>UK z (by simp)),r,q⟩
end
def JP(sp:Sp)(EG:List V)(E:XK)(t:TA):TE:=λσ H Q=>t σ H λvs H1=>sp (vs++EG) H1 Q E
def Binds(K:Ph)(fd:Q8)(ps:List Str)(ds:List Value):Prop:=
 ∀(s:Pf) (us:List Value),K.In s.heap->(us++ds).length=ps.length->Ut s fd ⟨us,[]⟩ (ps.zip (us++ds))
def Binds.all{K:Ph}{fd:Q8}{ps:List Str}(h:∀us:List Value,us.length=ps.length->bindArgs fd ⟨us,[]⟩=pure (ps.zip us)):Binds K fd ps []:=λs us _ hl=>by
 rw[Qx] at hl⊢;exact .of_eq (h us hl)
def Passes(CX:xP)(X:Cx)(E:XK):Prop:=∀(f8:List (Addr×Obj)) (σ:St) (H:Hp) (s:Pf) (e:Value) (s':Pf),Inv X f8 σ H s->CX X.stack H s E e s'->X.xe e s'
section
variable{X:Cx}{CX:xP}{k:Nat}{f:Addr}{fd:Q8}{ps:List Str}{sp:Sp}{EG:List V}{ds:List Value}{E:XK}{x:Str}{p pos:Pos}{e:Expr}{es:List Expr}{t:TA}
def Hi{f8:List (Addr×Obj)}{σ:St}{H:Hp}{s:Pf}{Q:VK}{us:List Value}{vs:List V}(F:FnOk X.prog X.w X.K X.mg X.base CX k f fd ps sp)(hr:Room k X.A)(hb:Binds X.K fd ps ds)(hd:Vals EG ds)(hx:Passes CX X E)
 (I:Inv X f8 σ H s)(r:Vals vs us)(h:sp (vs++EG) H Q E):wpAny (model X.prog X.w) X.A (call (.ref f) us) (EP X f8 σ Q) X.xe s:=by
 have r2:Vals (vs++EG) (us++ds):=r.append hd;have hl:(us++ds).length=ps.length:=by rw[<-r2.length];exact F.len _ _ _ _ h
 refine wpAny_call (codeAny_mono (F.run X.A X.stack s H ⟨us,[]⟩ (us++ds) (vs++EG) Q E hr I.env0 (hb s us I.kIn hl) r2 h) λr s' hq=>?_);cases r with
 |error e=>exact hx f8 σ H s e s' I hq
 |ok fl=>
  cases fl with
  |ret u=>exact I.after hq
  |next=>exact QR hq
  |brk=>exact QR hq
  |cont=>exact QR hq
def D2(F:FnOk X.prog X.w X.K X.mg X.base CX k f fd ps sp)(hr:Room k X.A)(hg:Gl X x)(hm:X.mg x=some (.ref f))(hk:QO X.K (.ref f)=true)(hb:Binds X.K fd ps ds)(hd:Vals EG ds)(hx:Passes CX X E)
 (ha:PA X (e::es) t)(wF:(x==("__debug__":Str))=false:=by decide)(he:PB (e::es) X.env=(false,eval e X.env)::PB es X.env:=by rfl)(v7:(Rm pos (PB es X.env)).any (·.1)=false:=by rfl):
 PE X (.Call (.Name x p) (e::es) [] pos) (JP sp EG E t):=by
 intro f8 s σ H Q I h;refine wpAny_Call_Name_kw (yr I hg hm ?_ wF);refine PySem.W.callWith_K (h₀:=X.base) I.ok.mod.kin hk (b7 (ha pos f8 s σ H _ I h) λus s1 ⟨vs,H1,I1,r,q⟩=>⟨I1.kIn,?_⟩) he v7;exact Hi F hr hb hd hx I1 r q
end
section
variable{ks:List Str}
end
structure FnScope (N P:List Str) (sc:Scope):Prop where
 kind:sc.kind= .function
 co:sc.isCoroutine=false
 gen:sc.isGenerator=false
 nd:N.Nodup
 pre:N.take P.length=P
 par:∀x∈P,sc.names.lookup x=some .local\/sc.names.lookup x=some .cell
 nofree:∀y∈sc.names,y.2≠ .free
def qC{Su:Str->Option R7}{x:Str}:∀{binds:List (Str×Value)}{m:Str->Option Value},(∀v,(x,v)∉binds)->bindL Su binds m x=m x
 |[],_,_=>rfl
 |(n,v)::r,m,h=>by
  unfold bindL;rw[qC λw hw=>h w (O_ _ hw)];split
  ·have:x≠n:=by rintro rfl;exact h v Pa
   simp[this]
  ·rfl
def qA{Su:Str->Option R7}{x:Str}:∀{binds:List (Str×Value)}{m:Str->Option Value},(∀v,(x,v)∉binds)->bindC Su binds m x=m x
 |[],_,_=>rfl
 |(n,v)::r,m,h=>by
  unfold bindC;rw[qA λw hw=>h w (O_ _ hw)];split
  ·rfl
  ·have:x≠n:=by rintro rfl;exact h v Pa
   simp[this]
def qB{Su:Str->Option R7}{x:Str}{v:Value}:∀{P:List Str}{vs:List Value}{i:Nat}{m:Str->Option Value},P.Nodup->P[i]? =some x->vs[i]? =some v->Su x=some .local->
 bindL Su (P.zip vs) m x=some v
 |[],_,_,_,_,h,_,_=>by simp at h
 |_::_,[],_,_,_,_,h,_=>by simp at h
 |p::P,w::vs,0,m,nd,h1,h2,hk=>by
  simp at h1 h2;subst h1;subst h2;show bindL Su ((p,w)::P.zip vs) m p=_;unfold bindL;rw[qC λv hv=>(Qg.mp nd).1 (Te hv).1,UD hk];simp
 |p::P,w::vs,i+1,m,nd,h1,h2,hk=>by
  show bindL Su ((p,w)::P.zip vs) m x=_;unfold bindL;exact qB (i:=i) (Qg.mp nd).2 (by simpa using h1) (by simpa using h2) hk
def qz{Su:Str->Option R7}{x:Str}{v:Value}:∀{P:List Str}{vs:List Value}{i:Nat}{m:Str->Option Value},P.Nodup->P[i]? =some x->vs[i]? =some v->Su x≠some .local->
 bindC Su (P.zip vs) m x=some v
 |[],_,_,_,_,h,_,_=>by simp at h
 |_::_,[],_,_,_,_,h,_=>by simp at h
 |p::P,w::vs,0,m,nd,h1,h2,hk=>by
  simp at h1 h2;subst h1;subst h2;show bindC Su ((p,w)::P.zip vs) m p=_;unfold bindC;rw[qA λv hv=>(Qg.mp nd).1 (Te hv).1,UE hk];simp
 |p::P,w::vs,i+1,m,nd,h1,h2,hk=>by
  show bindC Su ((p,w)::P.zip vs) m x=_;unfold bindC;exact qz (i:=i) (Qg.mp nd).2 (by simpa using h1) (by simpa using h2) hk
def start(N:List Str)(vs:List V):St:=vs.map some++Qc (N.length - vs.length) none
def gB(CX:xP)(P:PX)(w:World)(K:Ph)(mg:Str->Option Value)(base:Heap)(N:List Str)(qual:Str)(scope:Scope)(f:Addr)(cd:Value)(A:Qm)(outer:List Env)(s:Pf)(H:Hp)(E:XK):Cx where
 prog:=P
 w:=w
 K:=K
 mg:=mg
 base:=base
 A:=A.deeper (RY qual scope s.heap.objs.size f cd)
 N:=N
 s₀:=s
 H₀:=H
 env:=RY qual scope s.heap.objs.size f cd
 outer:=outer
 stack:=RY qual scope s.heap.objs.size f cd::outer
 ex:=[]
 calm:=true
 fn:=λ_=>true
 pn:=[]
 xe:=λe s'=>wpAny (model P w) (A.deeper (RY qual scope s.heap.objs.size f cd)) (leaving (RY qual scope s.heap.objs.size f cd) e) (λ_ LG=>CX outer H s E e LG) (λe' LG=>CX outer H s E e' LG) s'
def uf{sc:Scope}{n:Nat}{x:Str}(h:sc.names.lookup x=some .cell):∃c,(cellsFrom n sc.names []).lookup x=some c:=by
 have q:=Tw sc.names n [] (.inl h);exact Q5.mp q
def zl{CX:xP}{P:PX}{w:World}{K:Ph}{mg:Str->Option Value}{base:Heap}{N ps:List Str}{qual:Str}{scope:Scope}{f:Addr}{cd:Value}{A:Qm}{outer:List Env}{s s1:Pf}{H:Hp}{E:XK}{us:List Value}{vs:List V}
 (S:FnScope N ps scope)(hd:A.handled=none)(e0:Env0 P w K mg base A outer s H)(hl:vs.length=ps.length)(r:Vals vs us)
 (x:InCallC s s.heap.objs.size (bindL (RY qual scope s.heap.objs.size f cd).kindOf (ps.zip us) λ_=>none) (cellsFrom (s.heap.objs.size+1) scope.names []) (bindC (RY qual scope s.heap.objs.size f cd).kindOf (ps.zip us) λ_=>none) s1):
 Inv (gB CX P w K mg base N qual scope f cd A outer s H E) [] (start N vs) H s1:=by
 have v7:ps.length<=N.length:=by have:=UM Uh S.pre;rw[List.length_take] at this;omega
 obtain⟨h1,tk,rfl,hk⟩:=x.done;have Jj:∀b:Addr,b∉(gB CX P w K mg base N qual scope f cd A outer s H E).ex:=λb z=>UK (show b∈([]:List Addr) from z) (by simp);refine⟨⟨e0.mod,S.kind,rfl,rfl,Pm _,λy z c h1 h2=>?_,λy hy=>?_,λy c _ h=>?_,λ_=>hd,Around.frames_deeper e0.frames, .inr ⟨rfl,rfl⟩,λb z=>UK z (Jj b),e0.bs,e0.bsz,λb _ _=>Jj b,λb z=>UK z (Jj b),e0.funs,e0.frf⟩,
  rfl,e0.bare,Un.kept hk,⟨_,x.toInCall.ns,λi y v h1 h2 h3=>?_⟩,λy c h=>⟨_,x.cell y c h⟩,e0.hok.fresh (Pm _),λy c h=>?_,λp hp=>UK (show p∈([]:List (Addr×Obj)) from hp) (by simp),e0.hok.kept hk,?_⟩
 ·exact name_of_addr x.apart (QB h1) (QB h2)
 ·have hy:scope.names.lookup y=some .cell\/scope.names.lookup y=some .free:=hy;rcases hy with hy | hy
  ·exact uf hy
  ·exact UK rfl (S.nofree _ (QB hy))
 ·exact Qz (x.above y c (QB h))
 ·have hi:i<vs.length:=by
   unfold start at h2;by_cases hi:i<vs.length
   ·exact hi
   ·rw[Qe (by simpa using hi)] at h2;rw[QP] at h2;split at h2<;>cases h2
  have ha:vs[i]? =some v:=by
   unfold start at h2;rw[P6 (by simpa using hi),Pq] at h2;cases e:vs[i]? with
   |none=>rw[e] at h2;cases h2
   |some a=>rw[e] at h2;cases h2;rfl
  obtain⟨u,hu,rv⟩:=r.get ha;have hp:ps[i]? =some y:=by
   rw[<-S.pre,List.getElem?_take_of_lt (by omega)];exact h1
  have MM:ps.Nodup:=by rw[<-S.pre];exact S.nd.sublist (List.take_sublist _ _)
  refine⟨u,rv,?_⟩;rcases S.par y (PF hp) with k | k
  ·exact .inl ⟨k,qB MM hp hu k⟩
  ·obtain⟨c,e⟩:=uf (n:=s.heap.objs.size+1) k;refine .inr ⟨.inl k,c,e,?_⟩;have q:=x.cell y c e;rw[qz MM hp hu (by show scope.names.lookup y≠_;rw[k];decide)] at q;exact q
 ·exact e0.hok.fresh (Qz (x.above y c (QB h)))
 ·unfold start;show _=N.length;rw[Pp,Pb,Sk];omega
def EI{CX:xP}{P:PX}{w:World}{K:Ph}{mg:Str->Option Value}{base:Heap}{k:Nat}{f:Addr}{name qual:Str}{params:Arguments}{body:List Stmt}{scope:Scope}{dV kV doc pm fk ct oc:Value}{an od:Option Addr}
 {DP:Array (Option Value)}{N ps:List Str}{sp:Sp}(lk:K.lookup f=some ⟨oc,od, .func (QF name qual params body scope dV kV doc pm an fk ct),DP⟩)(vZ:Rn K fk qual=true)(S:FnScope N ps scope)
 (len:∀vs H Q E,sp vs H Q E->vs.length=ps.length)
 (ou:∀(A:Qm) (outer:List Env) (s:Pf) (H:Hp) (vs:List V) (Q:VK) (E:XK),Room k (A.deeper (RY qual scope s.heap.objs.size f fk))->sp vs H Q E->
  ∃t,PSs (gB CX P w K mg base N qual scope f fk A outer s H E) body t/\t {nx:=λ_ H'=>Q .non H',rt:=Q} (start N vs) H):
 FnOk P w K mg base CX (k+1) f (QF name qual params body scope dV kV doc pm an fk ct) ps sp:=by
 refine⟨len,λA outer s H args us vs Q E hr e0 hb r CH=>?_⟩;have hl:=len _ _ _ _ CH;have KX:K.In s.heap:=e0.mod.kin.keeps λb o e=>(e0.bs b o e).1;have lim:s.heap.NoLimit:=e0.mod.nolimit.keeps λb o e=>(e0.bs b o e).1;have IE:∀y∈ps.zip us,scope.names.lookup y.1=some .local\/(scope.names.lookup y.1=some .cell/\((cellsFrom (s.heap.objs.size+1) scope.names []).lookup y.1).isSome=true):=λ⟨n,v⟩ hy=>by
  rcases S.par n (Te hy).1 with q | q
  ·exact .inl q
  ·exact .inr ⟨q,Tw _ _ _ (.inl q)⟩
 refine codeAny_call_function hr.depth (KX _ _ lk) rfl S.co S.gen rfl (PySem.W.codeRec_of KX vZ) (hb _ _ _ _ ?_);refine wpAny_newFunctionEnv_cells S.kind IE λenv he s1 x=>?_;subst he;refine⟨lim.keeps x.toInCall.keep,codeAny_func ?_⟩;obtain⟨t,ht,hq⟩:=ou A outer s H vs Q E (hr.deeper _) CH;have I:Inv (gB CX P w K mg base N qual scope f fk A outer s H E) [] (start N vs) H s1:=zl S hr.hd e0 hl r x;refine Qt (ht [] s1 (start N vs) H _ I hq) (λfl s' hs=>?_) λe s' hs=>hs;have fin:∀{σ':St}{H':Hp}{v:V}{u:Value},Inv (gB CX P w K mg base N qual scope f fk A outer s H E) [] σ' H' s'->RelV v u->Q v H'->CE outer P w H s Q u s':=
  λ{σ' H' v u} J rv q=>⟨v,H',J.os,J.bare,J.base,J.hok,rv,q⟩
 cases fl with
 |ret u=>
  obtain⟨v,σ',H',J,rv,q⟩:=hs;exact fin J rv q
 |next=>
  obtain⟨σ',H',J,q⟩:=hs;exact fin (v:=V.non) (u:=Qv) J rfl q
 |brk=>
  obtain⟨_,_,_,q⟩:=hs;exact QR q
 |cont=>
  obtain⟨_,_,_,q⟩:=hs;exact QR q
section
variable{X:Cx}{x:Str}{p pos:Pos}{e:Expr}{es:List Expr}{t:TA}{id:String}{r:List V->Hp->VK->Prop}
def MV(r:List V->Hp->VK->Prop)(t:TA):TE:=λσ H Q=>t σ H λvs H1=>r vs H1 Q
def BM(hc:CallR X (.builtin id) r)(hg:Gl X x)(hm:X.mg x=none)(hv:Qw x=some (.builtin id))(ha:PA X (e::es) t)(hn:x≠"__name__":=by decide)(wF:(x==("__debug__":Str))=false:=by decide)
 (he:PB (e::es) X.env=(false,eval e X.env)::PB es X.env:=by rfl)(v7:(Rm pos (PB es X.env)).any (·.1)=false:=by rfl):PE X (.Call (.Name x p) (e::es) [] pos) (MV r t):=by
 intro f8 s σ H Q I h;refine wpAny_Call_Name_kw (oK I hg hm hv ?_ hn wF);exact PyProof.Rows.callWith_builtin1 (b7 (ha pos f8 s σ H _ I h) λus s1 ⟨vs,H1,I1,r1,q1⟩=>hc f8 s1 σ H1 vs us Q I1 r1 q1) he v7
end
end L2
namespace HT
open PySem PyProof.Rows
section
variable{prog:PX}{w:World}{A:Qm}{E:Value->Pf->Prop}{s:Pf}
def cat_tup{t b:Addr}{vs ws:List Value}{Q:Value->Pf->Prop}(ht:IsTup s.heap t vs.toArray)(hb:IsTup s.heap b ws.toArray)(hv:vs≠[])
 (h1:ws=[]->Q (.ref t) s)(h2:ws≠[]->Q (.ref s.heap.objs.size) {s with heap:=s.heap.push {cls:= .type "tuple",data:= .seq (vs++ws).toArray} })
 (hsz:vs.length+ws.length<=Py):wpAny (model prog w) A (RN .Add (.ref t) (.ref b)) Q E s:=by
 obtain⟨⟨cls,dd,data,sl⟩,ho,hc,n,hd⟩:=id ht;obtain⟨⟨KA,CS,data2,Ki⟩,F_,FR,n2,hd2⟩:=id hb;simp only at hc hd FR hd2;subst hc hd FR hd2;have e:vs.toArray++ws.toArray=(vs++ws).toArray:=by simp
 by_cases hw:ws=[]
 ·exact concat_meets ⟨_,ho,rfl⟩ ⟨_,F_,rfl⟩ TC Uk R6 R3 (RO _ _)
   (tuple_addW1 t b vs.toArray ws.toArray n n2 dd CS sl Ki (by simpa using hv) (by simp[hw])) ⟨ho,F_,h1 hw⟩
 ·refine concat_meets ⟨_,ho,rfl⟩ ⟨_,F_,rfl⟩ TC Uk R6 R3 (RO _ _)
   (tuple_addW2 t b vs.toArray ws.toArray n n2 dd CS sl Ki (by simpa using hv) (by simpa using hw) (by rw[Po,Po];exact hsz)) ⟨ho,F_,?_⟩
  rw[e];exact h2 hw
end
end HT
namespace L2
open PySem PySem.Spec PyProof.Rows
abbrev TO:=St->Hp->(Option Int->Hp->Prop)->Prop
def intsAre_of{ns:List Int}:∀{us:List Value},Vals (ns.map V.int) us->Sb us ns:=by
 induction ns with
 |nil=>intro us r;rw[Q9] at r;cases r;exact .nil
 |cons n ns ih=>
  intro us r;rw[Pj] at r;cases r with
  |cons r1 r2=>
   obtain⟨t,e⟩:=r1;subst e;exact .cons n t (ih r2)
section
variable{X:Cx}{p2:Pos}
def JB(K:Ph):R2:=λx y H Q=>∃a b xs ys,x= .ref a/\y= .ref b/\SqT K H a xs/\SqT K H b ys/\xs≠[]/\xs.length+ys.length<=Py/\
 (ys=[]->Q (.ref a) H)/\(ys≠[]->∀p,H p=none->Q (.ref p) (upd H p (.tup (xs++ys))))
def Vals.nil_iff{xs:List V}{us:List Value}(r:Vals xs us):us=[]↔xs=[]:=by
 cases r with
 |nil=>simp
 |cons _ _=>simp
def DH:OpR X (RN .Add) (JB X.K):=by
 intro f8 s σ H x y v u Q I rx ry h;obtain⟨a,b,xs,ys,rfl,rfl,ha,hb,hx,hz,q1,q2⟩:=h;cases rx;cases ry;obtain⟨aK,r1,p1,_⟩:=I.tuple ha;obtain⟨fM,r2,p2,_⟩:=I.tuple hb;refine HT.cat_tup p1 p2 (λz=>hx (r1.nil_iff.mp z)) (λz=>⟨.ref a,H,I,rfl,q1 (r2.nil_iff.mp z)⟩) (λz=>?_) (by rw[<-r1.length,<-r2.length];exact hz);refine⟨.ref s.heap.objs.size,_,I.laid (t':=s.toks) (o:= .tup (xs++ys)) (λb ob q=>Pk _ q) (Pm _) ?_,rfl,q2 (λw=>z (r2.nil_iff.mpr w)) _ (I.hok.fresh (Pm _))⟩;exact⟨by rw[Pp];exact hz,_,r1.append r2,IsTup.new _ _⟩
end
def CJ(n:Nat)(i:Int):Option Nat:=if 0<=i then(if i<n then some i.toNat else none) else if -(n:Int)<=i then some (i+n).toNat else none
def atI{α:Type}(xs:List α)(i:Int):Option α:=(CJ xs.length i).bind λj=>xs[j]?
def Dv{n:Nat}{i:Int}{j:Nat}(h:CJ n i=some j):seqIndex? i n=some j/\j<n/\ -(n:Int)<=i/\i<n:=by
 unfold CJ at h;by_cases h0:0<=i
 ·rw[UD h0] at h;by_cases h1:i<n
  ·rw[UD h1] at h;have e:i.toNat=j:=Pz h;exact⟨by rw[seqIndex_of h0 h1,e],by omega,by omega,h1⟩
  ·rw[UE h1] at h;cases h
 ·rw[UE h0] at h;by_cases h1: -(n:Int)<=i
  ·rw[UD h1] at h;have e:(i+n).toNat=j:=Pz h;exact⟨by rw[seqIndex_neg (by omega) h1,e],by omega,h1,by omega⟩
  ·rw[UE h1] at h;cases h
def rX{α:Type}{xs:List α}{i:Int}{v:α}(h:atI xs i=some v):∃j,seqIndex? i xs.length=some j/\xs[j]? =some v/\j<xs.length/\ -(xs.length:Int)<=i/\i<xs.length:=by
 unfold atI at h;cases e:CJ xs.length i with
 |none=>rw[e] at h;cases h
 |some j=>
  rw[e] at h;obtain⟨h1,h2,h3,h4⟩:=Dv e;exact⟨j,h1,h,h2,h3,h4⟩
def uc{α:Type}(xs:List α)(v:α):atI (xs++[v]) (-1)=some v:=by
 have hl:(xs++[v]).length=xs.length+1:=by simp
 have e:CJ (xs++[v]).length (-1)=some xs.length:=by
  unfold CJ;rw[hl,UE (by decide),UD (by omega)];congr 1;omega
 unfold atI;rw[e];show (xs++[v])[xs.length]? =some v;simp
def js(b:Expr):Prop:=∀o i,subscripted b false o i=operate [o,i] (getItem o i)
def HP(X:Cx)(r:R2):Prop:=
 ∀(value slice:Expr) (f8:List (Addr×Obj)) (s:Pf) (σ:St) (H:Hp) (x y:V) (v u:Value) (Q:VK),Inv X f8 σ H s->RelV x v->RelV y u->r x y H Q->
  subscripted slice false v u=operate [v,u] (getItem v u)->wpAny (model X.prog X.w) X.A (subscriptTail value slice v u) (EP X f8 σ Q) X.xe s
def Kr(X:Cx)(id:String)(r:V->List V->Hp->VK->Prop):Prop:=
 ∀(f8:List (Addr×Obj)) (s:Pf) (σ:St) (H:Hp) (x:V) (xs:List V) (v:Value) (us:List Value) (Q:VK),Inv X f8 σ H s->RelV x v->Vals xs us->r x xs H Q->
  wpAny (model X.prog X.w) X.A (call (.builtin id) (v::us)) (EP X f8 σ Q) X.xe s
section
variable{X:Cx}{a b:Expr}{ta tb:TE}{pos:Pos}
def Jv{r:R2}(hr:HP X r)(ha:PE X a ta)(hb:PE X b tb)(hs:js b):PE X (.Subscript a b pos) (JV r ta tb):=by
 intro f8 s σ H Q I h;exact Subscript_ (Ft ha hb I h λv u s2 x y H2 I2 rx ry q=>hr a b f8 s2 σ H2 x y v u Q I2 rx ry q (hs _ _))
def Hh(K:Ph):R2:=λx y H Q=>∃p xs i v,x= .ref p/\y= .int i/\SqL K H p xs/\atI xs i=some v/\Q v H
def JG(K:Ph):R2:=λx y H Q=>∃p xs i v,x= .ref p/\y= .int i/\SqT K H p xs/\atI xs i=some v/\Q v H
def JF:R2:=λx y H Q=>∃z i c,x= .str z/\y= .int i/\z.length<=Py/\atI z.cps.toList i=some c/\Q (.str ⟨#[c]⟩) H
def yp:HP X (Hh X.K):=by
 intro value slice f8 s σ H x y v u Q I rx ry h hs;obtain⟨p,xs,i,z,rfl,rfl,hq,he,q⟩:=h;cases rx;obtain⟨t,rfl⟩:=ry;obtain⟨aK,r,pl,hz⟩:=I.list hq;obtain⟨j,h1,h2,h3,h4,h5⟩:=rX he;obtain⟨w,ew,v8⟩:=r.get h2;have hl:=r.length;have hn:=lM;have fin:EP X f8 σ Q w s:=⟨z,H,I,v8,q⟩
 by_cases h0:0<=i
 ·have hj:i.toNat=j:=by
   rw[seqIndex_of h0 h5] at h1;exact Pz h1
  exact item_listR pl.isList h0 (by omega) (by rw[hj];simpa using ew) fin hs
 ·have hj:(i+(aK.toArray.size:Int)).toNat=j:=by
   rw[seqIndex_neg (by omega) h4] at h1;rw[Po,<-hl];exact Pz h1
  exact Uv (x:=w) pl.isList.typeIs slot_list_getitem.lookup
   (wpAny_getItem_list_neg (Q:=λr s'=>r=w/\EP X f8 σ Q r s') pl.isList (by omega) (by rw[Po]<;>omega) (by omega) (by rw[hj];simpa using ew) ⟨rfl,fin⟩) hs
def Gn:HP X (JG X.K):=by
 intro value slice f8 s σ H x y v u Q I rx ry h hs;obtain⟨p,xs,i,z,rfl,rfl,hq,he,q⟩:=h;cases rx;obtain⟨t,rfl⟩:=ry;obtain⟨aK,r,pl,hz⟩:=I.tuple hq;obtain⟨j,h1,h2,h3,h4,h5⟩:=rX he;obtain⟨w,ew,v8⟩:=r.get h2;have hl:=r.length;have hn:=lM;have fin:EP X f8 σ Q w s:=⟨z,H,I,v8,q⟩
 exact Uv (x:=w) pl.typeIs slot_tuple_getitem.lookup
  (getItem_tuple (j:=j) (Q:=λr s'=>r=w/\EP X f8 σ Q r s') pl (by omega) (by omega) (by rw[Po,<-hl];exact h1) (by simpa using ew) ⟨rfl,fin⟩) hs
def Gm:HP X JF:=by
 intro value slice f8 s σ H x y v u Q I rx ry h hs;obtain⟨z,i,c,rfl,rfl,hz,he,q⟩:=h;obtain⟨t,rfl⟩:=rx;obtain⟨t',rfl⟩:=ry;obtain⟨j,h1,h2,h3,h4,h5⟩:=rX he;have hl:z.cps.toList.length=z.length:=by simp[Str.length]
 rw[hl] at h1 h4 h5;have hn:=lM;exact tail_any (typeIs_str s z t) slot_str_getitem.lookup (getItem_str (c:=c) (by
  have e1:decide (i< -(2 ^ 63:Int))=false:=UH (by omega);have e2:decide (i>=2 ^ 63)=false:=UH (by omega);rw[e1,e2,Bool.or_false]) (by rw[h1];simpa using h2) ⟨.str ⟨#[c]⟩,H,I.tok _,⟨_,rfl⟩,q⟩) hs
def Inv.lst{f8:List (Addr×Obj)}{σ:St}{H:Hp}{s:Pf}{p:Addr}{xs:List V}(I:Inv X f8 σ H s)(h:H p=some (.lst xs)):
 ∃(aK:List Value) (n:Nat),Vals xs aK/\s.heap.get? p=some {cls:= .type "list",data:= .seq aK.toArray n}/\xs.length<=Py:=by
 obtain⟨z,aK,n,r,e⟩:=I.hok p _ h;exact⟨aK,n,r,e,z⟩
def ml:V->Bool
 | .non=>true
 | .bl _=>true
 | .int _=>true
 | .str _=>true
 |_=>false
def CC:V->V->Bool
 | .non, .non=>true
 | .bl a, .bl b=>a==b
 | .bl a, .int b=>(if a then 1 else 0)==b
 | .int a, .bl b=>a==(if b then 1 else 0)
 | .int a, .int b=>a==b
 | .str a, .str b=>a==b
 |_,_=>false
def FF{A:Qm}{s:Pf}{y x:V}{u v:Value}(ry:RelV y u)(rx:RelV x v)(fy:ml y=true)(fx:ml x=true):SeqAt.EqAt A s u v (CC y x):=by
 cases y with
 |non=>
  cases ry;cases x with
  |non=>cases rx;exact SeqAt.EqAt.same _
  |bl b=>cases rx;exact SeqAt.EqAt.none_bool b
  |int b=>obtain⟨t,rfl⟩:=rx;exact SeqAt.EqAt.none_int b t
  |str b=>obtain⟨t,rfl⟩:=rx;exact SeqAt.EqAt.none_str b t
  |_=>exact UK (show false=true from fx) PH
 |bl a=>
  cases ry;cases x with
  |non=>cases rx;exact SeqAt.EqAt.bool_none a
  |bl b=>cases rx;exact SeqAt.EqAt.bool_bool a b
  |int b=>obtain⟨t,rfl⟩:=rx;exact SeqAt.EqAt.bool_int a b t
  |str b=>obtain⟨t,rfl⟩:=rx;exact SeqAt.EqAt.bool_str a b t
  |_=>exact UK (show false=true from fx) PH
 |int a=>
  obtain⟨t',rfl⟩:=ry;cases x with
  |non=>cases rx;exact SeqAt.EqAt.int_none a t'
  |bl b=>cases rx;exact SeqAt.EqAt.int_bool a t' b
  |int b=>obtain⟨t,rfl⟩:=rx;exact SeqAt.EqAt.int_int a t' b t
  |str b=>obtain⟨t,rfl⟩:=rx;exact TH a t' b t
  |_=>exact UK (show false=true from fx) PH
 |str a=>
  obtain⟨t',rfl⟩:=ry;cases x with
  |non=>cases rx;exact SeqAt.EqAt.str_none a t'
  |bl b=>cases rx;exact SeqAt.EqAt.str_bool a t' b
  |int b=>obtain⟨t,rfl⟩:=rx;exact TF a t' b t
  |str b=>obtain⟨t,rfl⟩:=rx;exact SeqAt.EqAt.str_str a t' b t
  |_=>exact UK (show false=true from fx) PH
 |_=>exact UK (show false=true from fy) PH
def C1(x:V)(u:Value):Bool:=match u with
 | .none=>CC .non x
 | .bool b=>CC (.bl b) x
 | .int i _=>CC (.int i) x
 | .str z _=>CC (.str z) x
 |_=>false
def AK{x y:V}{u:Value}(r:RelV y u)(f:ml y=true):C1 x u=CC y x:=by
 cases y with
 |non=>cases r;rfl
 |bl b=>cases r;rfl
 |int i=>obtain⟨t,rfl⟩:=r;rfl
 |str z=>obtain⟨t,rfl⟩:=r;rfl
 |_=>exact UK (show false=true from f) PH
def rS{x:V}:∀{xs:List V}{us:List Value},Vals xs us->xs.all ml=true->us.any (C1 x)=xs.any λy=>CC y x
 |_,_, .nil,_=>rfl
 |y::xs,u::us, .cons r t,f=>by
  rw[RF,P7] at f;rw[RE,RE,AK r f.1,rS t f.2]
def oQ{A:Qm}{s:Pf}{x:V}{v:Value}(rx:RelV x v)(fx:ml x=true):∀{xs:List V}{us:List Value},Vals xs us->xs.all ml=true->∀u∈us,SeqAt.EqAt A s u v (C1 x u)
 |_,_, .nil,_=>λu hu=>by cases hu
 |y::xs,u::us, .cons r t,f=>λu' hu=>by
  rw[RF,P7] at f;rcases Pn.mp hu with rfl | hu
  ·rw[AK r f.1];exact FF r rx f.1 fx
  ·exact oQ rx fx t f.2 u' hu
def Ke(x:V)(xs:List V):Bool:=xs.any λy=>CC y x
def MS(K:Ph)(neg:Bool):R2:=λx y H Q=>∃p xs,y= .ref p/\(SqL K H p xs\/SqT K H p xs)/\ml x=true/\xs.all ml=true/\Q (.bl (if neg then !Ke x xs else Ke x xs)) H
def sR:OpR X (Qj .NotIn) (MS X.K true):=by
 intro f8 s σ H x y v u Q I rx ry h;obtain⟨p,xs,rfl,hq,fx,fs,q⟩:=h;cases ry;rcases hq with hq | hq
 ·obtain⟨aK,r,pl,hz⟩:=I.list hq;refine SeqAt.notIn_listAt (C1 x) pl.isList (λw hw=>oQ rx fx r fs w (by simpa using hw)) ⟨.bl _,H,I,rfl,?_⟩;rw[show aK.toArray.any (C1 x)=aK.any (C1 x) by simp,rS r fs];exact q
 ·obtain⟨aK,r,pl,hz⟩:=I.tuple hq;refine SeqAt.notIn_tupleAt (C1 x) pl (λw hw=>oQ rx fx r fs w (by simpa using hw)) ⟨.bl _,H,I,rfl,?_⟩;rw[show aK.toArray.any (C1 x)=aK.any (C1 x) by simp,rS r fs];exact q
def r9:CallR X (.builtin "len") (λxs H Q=>∃p ys,xs=[.ref p]/\(SqL X.K H p ys\/SqT X.K H p ys)/\Q (.int ys.length) H):=by
 intro f8 s σ H xs us Q I r h;obtain⟨p,ys,rfl,hq,q⟩:=h;obtain⟨u,rfl,rx⟩:=vals1 r;cases rx;have hn:=lM;rcases hq with hq | hq
 ·obtain⟨aK,r',pl,hz⟩:=I.list hq;have P3:=r'.length;exact Calls.call_len_list pl.isList (by simp only[Po]<;>omega) ⟨.int ys.length,H,I.tok _,⟨s.toks+1,by rw[Po,P3]⟩,q⟩
 ·obtain⟨aK,r',pl,hz⟩:=I.tuple hq;have P3:=r'.length;exact len_tuple pl (by simp only[Po]<;>omega) ⟨.int ys.length,H,I.tok _,⟨s.toks+1,by rw[Po,P3]⟩,q⟩
def r_:CallR X (.builtin "len") (λxs H Q=>∃z,xs=[.str z]/\z.length<=Py/\Q (.int z.length) H):=by
 intro f8 s σ H xs us Q I r h;obtain⟨z,rfl,hz,q⟩:=h;obtain⟨u,rfl,t,rfl⟩:=vals1 r;have hn:=lM;exact len_str (by omega) ⟨.int z.length,H,I.tok _,⟨_,rfl⟩,q⟩
def CallR.or{f:Value}{r r':List V->Hp->VK->Prop}(h:CallR X f r)(h':CallR X f r'):CallR X f (λxs H Q=>r xs H Q\/r' xs H Q):=by
 intro f8 s σ H xs us Q I rs q;rcases q with q | q
 ·exact h f8 s σ H xs us Q I rs q
 ·exact h' f8 s σ H xs us Q I rs q
def Km(K:Ph)(T:String)(x:V)(H:Hp):Prop:=match x with
 | .str _=>T="str"
 | .int _=>T="int"
 | .ref p=>(T="list"/\∃xs,SqL K H p xs)\/(T="tuple"/\∃o,K.lookup p=some o/\o.cls= .type "tuple"/\o.dict=none)\/
    (T="dict"/\((∃ax,H p=some (.dK ax))\/∃ax,H p=some (.dT ax)))\/(T="set"/\∃S n,H p=some (.set S n))
 |_=>False
def Hw{f8:List (Addr×Obj)}{σ:St}{H:Hp}{s:Pf}{T:String}{x:V}{v:Value}(I:Inv X f8 σ H s)(r:RelV x v)(ty:Km X.K T x H):
 s.TypeIs v T/\∀a,v= .ref a->∃ob,s.heap.get? a=some ob/\ob.dict=none:=by
 cases x with
 |str z=>
  obtain⟨t,rfl⟩:=r;cases (show T="str" from ty);exact⟨typeIs_str s z t,λ_ e=>nomatch e⟩
 |int i=>
  obtain⟨t,rfl⟩:=r;cases (show T="int" from ty);exact⟨typeIs_int s i t,λ_ e=>nomatch e⟩
 |ref p=>
  cases r;rcases ty with⟨rfl,xs,hq⟩ | ⟨rfl,o,hk,hc,hd⟩ | ⟨rfl,hk⟩ | ⟨rfl,S,n,hk⟩
  ·obtain⟨aK,_,pl,_⟩:=I.list hq;refine⟨pl.isList.typeIs,λa e=>?_⟩;cases e;obtain⟨o,n,e,c,hd,_⟩:=pl;exact⟨o,e,hd⟩
  ·refine⟨⟨o,I.kIn p o hk,hc⟩,λa e=>?_⟩;cases e;exact⟨o,I.kIn _ o hk,hd⟩
  ·have z:∃o,s.heap.get? p=some o/\o.ExactDict:=by
    rcases hk with⟨ax,hk⟩ | ⟨ax,hk⟩
    ·obtain⟨_,_,_,_,o,_,_,e,ex,_⟩:=I.hok p _ hk;exact⟨o,e,ex⟩
    ·obtain⟨_,_,_,_,o,_,_,e,ex,_⟩:=I.hok p _ hk;exact⟨o,e,ex⟩
   obtain⟨o,e,ex⟩:=z;refine⟨⟨o,e,ex.1⟩,λa e2=>?_⟩;cases e2;exact⟨o,e,ex.2.1⟩
  ·obtain⟨o,_,_,_,e,ex,_⟩:=I.hok p _ hk;refine⟨⟨o,e,ex.1⟩,λa e2=>?_⟩;cases e2;exact⟨o,e,ex.2.1⟩
 |_=>exact QR ty
def LJ(K:Ph)(T:String)(r:V->List V->Hp->VK->Prop)(to:TE)(t:TA):TE:=λσ H Q=>to σ H λx H1=>Km K T x H1/\t σ H1 λxs H2=>r x xs H2 Q
variable{o e:Expr}{es:List Expr}{to:TE}{t:TA}{name:Str}{v6 bc:Pos}{T id:String}{r:V->List V->Hp->VK->Prop}
def BL(pa:PlainAttrs T)(slot:Slot T name id)(Lh:typeOf (.builtin id)=pure (.type "method_descriptor"))(hm:Kr X id r)(ho:PE X o to)(ha:PA X (e::es) t)
 (kH:Rv o name X.env (eval o X.env)=eval o X.env:=by rfl)
 (sj:((Rm bc (PB (e::es) X.env)).all (λx=>!x.1)&&(S7 bc (RX [] X.env)).all (λx=>x.1.isSome)
  &&decide ((e::es).length+([]:List RM).length+(if ([]:List RM).isEmpty then 0 else 1)<30))=true:=by rfl)
 (kI:(v6.endLine==bc.line)=true:=by rfl) (hs:PB (e::es) X.env=(false,eval e X.env)::PB es X.env:=by rfl) (wH:(Rm bc (PB es X.env)).any (·.1)=false:=by rfl):
 PE X (.Call (.Attribute o name v6) (e::es) [] bc) (LJ X.K T r to t):=by
 intro f8 s σ H Q I h;refine wpAny_Call_method_late kH sj kI rfl (b7 (ho f8 s σ H _ I h) λv s1 ⟨x,H1,I1,r1,ty,q1⟩=>?_);obtain⟨h1,h2⟩:=Hw I1 r1 ty;refine⟨T,id,pa,slot,Lh,h1,h2,?_⟩;have hA:=ha bc f8 s1 σ H1 _ I1 q1;rw[hs] at hA⊢;refine Ro (by show (false||(Rm bc (PB es X.env)).any (·.1))=false;rw[wH]<;>rfl) (RA ?_);exact b7 hA λus s2 ⟨vs,H2,I2,r2,q2⟩=>hm f8 s2 σ H2 x vs v us Q I2 r1 r2 q2
end
def LY(X:Cx)(id:String)(r:V->List V->Hp->VK->Prop):Prop:=
 ∀(f8:List (Addr×Obj)) (s:Pf) (σ:St) (H:Hp) (x:V) (xs:List V) (v:Value) (us:List Value) (Q:VK),Inv X f8 σ H s->RelV x v->Vals xs us->r x xs H Q->
  wpAny (model X.prog X.w) X.A (call (.builtin id) (v::us)) (EP X f8 σ Q) X.xe s
def Vals.one:∀{x:V}{us:List Value},Vals [x] us->∃u,us=[u]/\RelV x u
 |_,_, .cons r .nil=>⟨_,rfl,r⟩
section
variable{X:Cx}{f8:List (Addr×Obj)}{σ:St}{H:Hp}{s:Pf}{l:Addr}{xs ys:List V}
def Inv.lset{aK its':List Value}{n:Nat}{f:Array Value->Array Value}{t':Nat}(I:Inv X f8 σ H s)(hH:H l=some (.lst xs))
 (e:s.heap.get? l=some {cls:= .type "list",data:= .seq aK.toArray n})(hf:f aK.toArray=its'.toArray)(hv:Vals ys its')(hz:ys.length<=Py):
 Inv X f8 σ (upd H l (.lst ys)) {s with heap:=s.heap.update l (QS f),toks:=t'}:=by
 have q:=PySem.IsL.update e f;rw[hf] at q;refine I.write (x:=l) (e:=l) (by rw[hH];exact trivial) (.inl rfl) (λb' u hb hu=>(Heap.get?_update_other s.heap (QS f) (Qd hb)).trans hu) ⟨_,q⟩ ?_;exact⟨hz,its',_,hv,q⟩
def Inv.lnew{aK:List Value}{t':Nat}(I:Inv X f8 σ H s)(hv:Vals ys aK)(hz:ys.length<=Py):
 Inv X f8 σ (upd H s.heap.objs.size (.lst ys)) {s with heap:=s.heap.push {cls:= .type "list",data:= .seq aK.toArray},toks:=t'}:=
 I.laid (λ_ _ q=>Pk _ q) (Pm _) ⟨hz,aK,0,hv,PU _ rfl⟩
def Inv.fresh(I:Inv X f8 σ H s):H s.heap.objs.size=none:=I.hok.fresh (Pm _)
def Inv.lstM(I:Inv X f8 σ H s)(hH:H l=some (.lst xs)):xs.length<=Py/\∃(aK:List Value) (n:Nat),Vals xs aK/\xs.length=aK.length/\s.heap.get? l=some {cls:= .type "list",data:= .seq aK.toArray n}:=by
 obtain⟨z,aK,n,r,e⟩:=I.hok l _ hH;exact⟨z,aK,n,r,r.length,e⟩
def Bu{n:Nat}(h:n<=Py):RG n=false:=by
 unfold RG;exact UH (by omega)
end
section
variable{X:Cx}
def yP:V->List V->Hp->VK->Prop:=λx vs H Q=>∃l xs y,x= .ref l/\vs=[y]/\H l=some (.lst xs)/\xs.length<Py/\Q .non (upd H l (.lst (xs++[y])))
def qZ:LY X "list.append" yP:=by
 intro f8 s σ H x vs v us Q I rx rv h;obtain⟨l,xs,y,rfl,rfl,hH,hz,q⟩:=h;cases rx;obtain⟨u,rfl,ru⟩:=rv.one;obtain⟨z,aK,n,r,hl,e⟩:=I.lstM hH;refine call_meets F.slot_list_append ⟨_,e,rfl⟩ F.entry_list_append (F.args_list_append_2 _ _) (PySem.list_append l aK.toArray n u (by rw[Po];omega)) ⟨e,?_⟩;refine⟨.non,_,I.lset (its':=aK++[u]) hH e (by simp) (r.append (.cons ru .nil)) ?_,rfl,q⟩;rw[Pp,List.length_singleton];omega
def yQ:V->List V->Hp->VK->Prop:=λx vs H Q=>∃l b xs zs,x= .ref l/\vs=[.ref b]/\H l=some (.lst xs)/\H b=some (.lst zs)/\xs.length+zs.length<=Py/\Q .non (upd H l (.lst (xs++zs)))
def zB:LY X "list.extend" yQ:=by
 intro f8 s σ H x vs v us Q I rx rv h;obtain⟨l,b,xs,zs,rfl,rfl,hH,hB,hz,q⟩:=h;cases rx;obtain⟨u,rfl,ru⟩:=rv.one;cases ru;obtain⟨z,aK,n,r,hl,e⟩:=I.lstM hH;obtain⟨z2,fM,n2,r2,FX,e2⟩:=I.lstM hB;have hsz:aK.toArray.size+fM.toArray.size<=Py:=by rw[Po,Po];omega
 have IH:¬(!aK.toArray.isEmpty&&RG (aK.toArray.size+fM.toArray.size))=true:=by
  rw[Bu hsz,Bool.and_false];exact PH
 refine call_meets F.slot_list_extend ⟨_,e,rfl⟩ F.entry_list_extend (F.args_list_extend_2 _ _)
  (AutoSeq1.list_extend_list_list_0 l aK.toArray n b fM.toArray n2 IH (by rw[Po];omega) (by omega)) ⟨e,e2,?_⟩
 refine⟨.non,_,I.lset (its':=aK++fM) hH e (by simp) (r.append r2) ?_,rfl,q⟩;rw[Pp];omega
def LF:R2:=λx y H Q=>∃l b xs zs,x= .ref l/\y= .ref b/\H l=some (.lst xs)/\H b=some (.lst zs)/\xs.length+zs.length<=Py/\∀p,H p=none->Q (.ref p) (upd H p (.lst (xs++zs)))
def GH:OpR X (RN .Add) LF:=by
 intro f8 s σ H x y v u Q I rx ry h;obtain⟨l,b,xs,zs,rfl,rfl,hH,hB,hz,q⟩:=h;cases rx;cases ry;obtain⟨z,aK,n,r,hl,e⟩:=I.lstM hH;obtain⟨z2,fM,n2,r2,FX,e2⟩:=I.lstM hB;refine PySem.P.add_list e e2 ?_ (by rw[Po,Po];omega);have ea:aK.toArray++fM.toArray=(aK++fM).toArray:=by simp
 rw[ea];exact⟨.ref _,_,I.lnew (t':=s.toks) (r.append r2) (by rw[Pp];omega),rfl,q _ I.fresh⟩
end
end L2
namespace Att
open PySem PySem.W PySem.Calls PyProof.Rows
def ints_of_wellAll{P:Params}{h:Heap}:∀(ns:List Int) (vs:List Value),WellAll P h vs (ns.map WData.int)->Sb vs ns:=by
 intro ns;induction ns with
 |nil=>
  intro vs w;rw[Q9] at w;cases w;exact .nil
 |cons n ns ih=>
  intro vs w;rw[Pj] at w;cases w with
  |cons a b=>
   cases a;exact .cons _ _ (ih _ b)
def script_of{l:OpenLaw}{n:Nat}(hn:l.most=some n){P:Params}{h:Heap}{args:List WData}{vals:List Value}
 (Df:l.row.toRowW.claim.pre args=true)(Li:WellAll P h vals args):
 ∃a vs ns,vals=[P_ a]/\args=[WData.list (ns.map WData.int)]/\h.get? a=some {cls:= .type "list",data:= .seq vs.toArray}/\Sb vs ns/\ns.length<=n:=by
 have Od:WShape.hasAll [] args [.list .int]=true:=(pre_splitW Df).1;have hc:l.pre.holds [] {args:=args}=true:=(pre_splitW Df).2;obtain⟨d,r,rfl,h1,h2⟩:=hasAllW_cons Od;obtain rfl:=hasAllW_nil h2;obtain⟨xs,rfl,h3⟩:=hasW_list h1;obtain⟨ns,rfl⟩:=items_int h3;have P3:ns.length<=n:=by
  unfold OpenLaw.pre at hc;have h4:(WTm.not (.lt (.lit (.int (n:Int))) (.len (.arg 0)))).holds [] {args:=[.list (ns.map .int)]}=true:=by
   have h4:=(holds_andW hc).1;rw[hn] at h4;exact h4
  have h5:=condW_of h4 (w_not (w_lt w_lit (w_len_list (w_arg rfl))));rw[Pb] at h5;refine Nat.le_of_not_lt λq=>?_;have q':(n:Int)<((ns.length:Nat):Int):=by omega
  first
   |(rw [UG q'] at h5;exact UK h5 (by decide))
   |(simp at h5;omega)
 cases Li with
 |cons w1 w2=>
  cases w2;cases w1 with
  |list ho j3=>exact⟨_,_,ns,rfl,rfl,ho,ints_of_wellAll ns _ j3,P3⟩
def post_true(l:OpenLaw)(args:List WData):l.row.toRowW.claim.post args (.bool true) args=true:=
 postW_of (r:=l.row.toRowW) (X:=(true==true))
  (show WShape.has [] (.bool true) .bool=true by first | rfl | decide | simp[WShape.has,WShape.arms,WShape.armsAll])
  (show (WTm.eq .res (.lit (.bool true))).value [] {args:=args,res:=some (.bool true),after:=args}=some (.bool (true==true)) from w_eq_bool (w_res rfl) w_lit) rfl
def attach_call{l:OpenLaw}{n:Nat}{q:PX}{loose:List Str}{XP:(Str->Option Value)->Heap->Prop}{YP:World->Heap->Prop}{d:DefRec}
 (hn:l.most=some n)(Iu:d.params.defaults=[])
 (call:∀(w:World) (s₀ v4:Pf) (mg mb:Str->Option Value) (fa:Addr) (o:Obj) (pm cd doc:Value) (a:Addr) (vs:List Value) (ns:List Int),
  Ground q loose [] XP w s₀ mg mb v4.heap->YP w v4.heap->
  v4.heap.get? fa=some o->o.data= .func (docDef d.name d.params d.body d.scope pm cd doc)->v4.heap.CodeRec cd d.name->mg d.name=some (.ref fa)->
  v4.heap.get? a=some {cls:= .type "list",data:= .seq vs.toArray}->Sb vs ns->ns.length<=n->v4.gens= #[]->
  TU (model l.prog w) To (.call (.ref fa) ⟨[.ref a],[]⟩) (λr s'=>r= .ok (.ret (.bool true))/\OldK v4.heap s'.heap/\s'.os=v4.os/\SI s'.gens) v4):
 WalkO q loose XP YP l.row.toRowW d [] (λf vs=>Uo f vs):=by
 intro w s₀ v4 mg mb G Y fa o pm cd doc dV kV ho hd vZ hD F7 hg args vals as Df NZ O7 Li O6;obtain rfl:dV= .none:=Dflts.none hD Iu;obtain rfl:kV= .none:=Dflts.noKw hD;obtain⟨a,vs,ns,rfl,rfl,A2,hints,P3⟩:=script_of hn Df Li;refine enter_call (codeAny_mono (call w s₀ v4 mg mb fa o pm cd doc a vs ns G Y ho (fd_plain hd) vZ F7 A2 hints P3 hg) λr s' hq=>?_);obtain⟨rfl,h2,h3,h4⟩:=hq;exact⟨.inl ⟨.bool true, .bool true,[],rfl,λ_=>rfl, .bool true,post_true l _,λ_=>⟨Tt,λ_ hm=>(nomatch hm)⟩⟩,h2,h3,h4⟩
section
def ledger(h:Heap)(L d:Addr):List (Addr×Obj):=(PY h.objs.size).filterMap λa=>if a=L\/a=d then none else(h.get? a).map λo=>(a,o)
end
end Att
namespace L2
open PySem PySem.Spec PyProof.Rows
def rO:∀{vs:List Value}{ns:List Int},Sb vs ns->Vals (ns.map V.int) vs
 |_,_, .nil=> .nil
 |_,_, .cons n t h=> .cons ⟨t,rfl⟩ (rO h)
def Fp(H:Hp):Prop:=∀b,H b=none\/∃o xs,H b=some (.frz o (.lst xs))
def uJ{P:PX}{w:World}{K:Ph}{mg mb:Str->Option Value}{CX:xP}{k:Nat}{fa a:Addr}{fd:Q8}{x:Str}{sp:Sp}{v4:Pf}{vs:List Value}{ns:List Int}
 (KX:K.In v4.heap)(Mx:v4.heap.Ns PK mg)(hb:v4.heap.Ns builtinsNs mb)(KL:∀x:Str,x≠"__name__"->mb x=Qw x)(FZ:v4.heap.NoLimit)(hg:v4.gens= #[])
 (ha:v4.heap.get? a=some {cls:= .type "list",data:= .seq vs.toArray})(hi:Sb vs ns)(hl:ns.length<=Py)(hr:Room k To)
 (F:∀base:Heap,K.In base->base.Ns PK mg->FnOk P w K mg base CX k fa fd [x] sp)(Iq:∀(s:Pf) (u:Value),Ut s fd ⟨[u],[]⟩ [(x,u)])
 (CH:∀H:Hp,Fp H->SqL K H a (ns.map V.int)->sp [.ref a] H (λv _=>v= .bl true) λ_ _ _=>False)
 (KD:∀H e s',CX [] H v4 (λ_ _ _=>False) e s'->False):
 TU (model P w) To (.call (.ref fa) ⟨[.ref a],[]⟩) (λr s'=>r= .ok (.ret (.bool true))/\OldK v4.heap s'.heap/\s'.os=v4.os/\SI s'.gens) v4:=by
 have rv:=rO hi;have Lw:=hi.length;have core:∀H:Hp,Fp H->SqL K H a (ns.map V.int)->HOk P w H v4.heap->(∀b,H b≠none->b=a)->(H a≠none->K.lookup a=none)->
  TU (model P w) To (.call (.ref fa) ⟨[.ref a],[]⟩) (λr s'=>r= .ok (.ret (.bool true))/\OldK v4.heap s'.heap/\s'.os=v4.os/\SI s'.gens) v4:=by
  intro H hO hS hok hA hK;have xV:∀{b:Addr}{o:Obj},v4.heap.get? b=some o->H b=none->(sk v4.heap H).get? b=some o:=λe n=>A1 e n;have Jj:∀{b:Addr}{o:Obj}{es:Array QQ}{ep:Nat},v4.heap.get? b=some o->o.data= .dict es ep->H b=none:=λ{b o es ep} e d=>by
   cases q:H b with
   |none=>rfl
   |some u=>
    have e':b=a:=hA b (by rw[q];simp);subst e';rw[ha] at e;cases e;have d':Data.seq vs.toArray _=RJ es ep:=d;cases d'
  have Kh:∀{b:Addr}{m:Str->Option Value},v4.heap.Ns b m->(sk v4.heap H).Ns b m:=λ{b m} ⟨o,es,ep,e,d,r⟩=>⟨o,es,ep,xV e (Jj e d),d,r⟩
  have Mh:K.In (sk v4.heap H):=λb o e=>xV (KX b o e) (by
   cases q:H b with
   |none=>rfl
   |some u=>
    have e':b=a:=hA b (by rw[q];simp);subst e';rw[hK (by rw[q];simp)] at e;cases e)
  have hM:Mod K mg (sk v4.heap H):=⟨Mh,Kh Mx,⟨mb,Kh hb,KL⟩,let ⟨mc,h1,h2⟩:=FZ;⟨mc,Kh h1,h2⟩⟩
  have e0:Env0 P w K mg (sk v4.heap H) To [] v4 H:=⟨rfl,hM,λb o e=>DD e,Nat.le_of_eq (zj _ _),trivial,λb hb=>UK (show b∈([]:List Addr) from hb) (by simp),hok, .of_eq hg⟩
  refine codeAny_mono ((F _ Mh (Kh Mx)).run To [] v4 H ⟨[.ref a],[]⟩ [.ref a] [.ref a] _ _ hr e0 (Iq v4 (.ref a)) (.cons rfl .nil) (CH H hO hS)) λr s' h=>?_;cases r with
  |error e=>exact(KD H e s' h).elim
  |ok fl=>
   cases fl with
   |next=>exact QR h
   |brk=>exact QR h
   |cont=>exact QR h
   |ret u=>
    obtain⟨v,H',os,bare,un,Lc,r',q⟩:=h;have q':v= .bl true:=q;subst q';obtain rfl:u=RZ true:=r';refine⟨rfl,OldK.of_keep λb o e=>?_,os,bare⟩;cases q:H b with
    |none=>exact un.keep b o e q (by intro z;exact UK (show b∈([]:List Addr) from z) (by simp)) (by simp)
    |some u=>
     rcases hO b with z | ⟨ob,xs,z⟩
     ·rw[q] at z;cases z
     ·have z2:=un.frzs b ob _ z;obtain⟨e1,_⟩:=hok b _ z;obtain⟨e2,_⟩:=Lc b _ z2;rw[e] at e1;cases e1;exact e2
 cases hk:K.lookup a with
 |some o=>
  have e:=KX a o hk;rw[ha] at e;cases e;refine core (λ_=>none) (λ_=> .inl rfl) (.inr ⟨_,vs.toArray,_,hk,rfl,rfl,rfl,by rw[Po,Lw];exact hl,by simpa using rv⟩) (λb u z=>by have z':(none:Option HO)=some u:=z;cases z') (λb z=>UK rfl z) λz=>UK rfl z
 |none=>
  refine core (λb=>if b=a then some (.frz {cls:= .type "list",data:= .seq vs.toArray} (.lst (ns.map V.int))) else none) (λb=>?_) (.inl (.inr ⟨{cls:= .type "list",data:= .seq vs.toArray},UD rfl⟩)) (λb u z=>?_) (λb z=>?_) λ_=>hk
  ·by_cases hb:b=a
   ·exact .inr ⟨_,_,UD hb⟩
   ·exact .inl (UE hb)
  ·by_cases hb:b=a
   ·have z':=(UD hb).symm.trans z;cases z';subst hb;exact⟨ha,by rw[Pb];exact hl,vs,_,rv,ha⟩
   ·have z':=(UE hb).symm.trans z;cases z'
  ·by_cases hb:b=a
   ·exact hb
   ·exact UK (UE hb) z
abbrev O1{K:Ph}{h:Heap}(_:K.In h):Ph:=K
def Kn{l:Up}{n k:Nat}{q:PX}{loose:List Str}{XP:(Str->Option Value)->Heap->Prop}{YP:World->Heap->Prop}{d:DefRec}{K:Params->Ph}{CX:World->xP}{sp:World->Sp}{x:Str}
 (hn:l.most=some n)(J7:n<=Py)(Iu:d.params.defaults=[])(hr:Room k To)
 (hY:∀(w:World) (h:Heap),YP w h->(K w.params).In h)
 (F:∀(w:World) (mg:Str->Option Value) (fa:Addr) (h:Heap),(K w.params).In h->h.Ns PK mg->mg d.name=some (.ref fa)->
  ∃fd:Q8,(∀(s:Pf) (u:Value),Ut s fd ⟨[u],[]⟩ [(x,u)])/\
   ∀base:Heap,(K w.params).In base->base.Ns PK mg->FnOk l.prog w (K w.params) mg base (CX w) k fa fd [x] (sp w))
 (CH:∀(w:World) (H:Hp) (a:Addr) (ns:List Int),ns.length<=n->Fp H->SqL (K w.params) H a (ns.map V.int)->sp w [.ref a] H (λv _=>v= .bl true) λ_ _ _=>False)
 (KD:∀(w:World) (H:Hp) (s:Pf) (e:Value) (s':Pf),CX w [] H s (λ_ _ _=>False) e s'->False):
 PySem.W.WalkO q loose XP YP l.row.toRowW d [] (λf vs=>Uo f vs):=by
 refine Att.attach_call hn Iu λw s₀ v4 mg mb fa o pm cd doc a vs ns G Y ho hd vZ F7 A2 hints P3 hg=>?_;have KX:=hY w _ Y;obtain⟨fd,hb,hF⟩:=F w mg fa _ KX G.T.g F7;exact uJ KX G.T.g G.T.b G.T.builtins G.T.nolimit hg A2 hints (PM P3 J7) hr hF hb (λH hO hS=>CH w H a ns P3 hO hS) λH e s'=>KD w H v4 e s'
abbrev LV:xP:=λ_ _ _ _ _ _=>False
structure Fun (K:Ph) (x qual:Str) (st:Stmt) (f:Addr) (fd:Q8):Prop where
 ex:∃(oc:Value) (od:Option Addr) (kV doc pm:Value) (an:Option Addr) (fk ct:Value) (DP:Array (Option Value)),
  fd=QF x qual (ei st) (bQ st) (ak st) .none kV doc pm an fk ct/\K.lookup f=some ⟨oc,od, .func fd,DP⟩/\Rn K fk qual=true
 kp:QO K (.ref f)=true
section
variable{P:PX}{w:World}{K:Ph}{mg:Str->Option Value}{base:Heap}
def Fun.ok{x qual:Str}{st:Stmt}{f:Addr}{fd:Q8}{N ps:List Str}{k:Nat}{sp:Sp}(F:Fun K x qual st f fd)(S:FnScope N ps (ak st))(len:∀vs H Q E,sp vs H Q E->vs.length=ps.length)
 (ou:∀(fk:Value) (A:Qm) (outer:List Env) (s:Pf) (H:Hp) (vs:List V) (Q:VK) (E:XK),Room k (A.deeper (RY qual (ak st) s.heap.objs.size f fk))->sp vs H Q E->
  ∃t,PSs (gB LV P w K mg base N qual (ak st) f fk A outer s H E).nox (bQ st) t/\t {nx:=λ_ H'=>Q .non H',rt:=Q} (start N vs) H):FnOk P w K mg base LV (k+1) f fd ps sp:=by
 obtain⟨oc,od,kV,doc,pm,an,fk,ct,DP,rfl,lk,vZ⟩:=F.ex;refine EI lk vZ S len λA outer s H vs Q E hr CH=>?_;obtain⟨t,h,q⟩:=ou fk A outer s H vs Q E hr CH;exact⟨t,h.nox,q⟩
def Fun.binds{x qual:Str}{st:Stmt}{f:Addr}{fd:Q8}{ps:List Str}(F:Fun K x qual st f fd)
 (h:∀(kV doc pm:Value) (an:Option Addr) (fk ct:Value) (us:List Value),us.length=ps.length->bindArgs (QF x qual (ei st) (bQ st) (ak st) .none kV doc pm an fk ct) ⟨us,[]⟩=pure (ps.zip us)):Binds K fd ps []:=by
 obtain⟨oc,od,kV,doc,pm,an,fk,ct,DP,rfl,lk,vZ⟩:=F.ex;exact .all (h kV doc pm an fk ct)
def AO{x qual:Str}{st:Stmt}{f:Addr}{oc:Value}{od an:Option Addr}{DP:Array (Option Value)}{kV doc pm fk ct:Value}(l:K.lookup f=some ⟨oc,od, .func (QF x qual (ei st) (bQ st) (ak st) .none kV doc pm an fk ct),DP⟩)
 (c:Rn K fk qual=true)(k:QO K (.ref f)=true):Fun K x qual st f (QF x qual (ei st) (bQ st) (ak st) .none kV doc pm an fk ct):=⟨⟨oc,od,kV,doc,pm,an,fk,ct,DP,rfl,l,c⟩,k⟩
end
section
variable{X:Cx}
def pv(i:Nat){x:Str}{pos:Pos}(hN:X.N[i]? =some x:=by rfl)(hv:Kw X.env.scope x:=by first | exact Or.inl rfl | exact Or.inr (Or.inl rfl) | exact Or.inr (Or.inr rfl))(hd:(x==("__debug__":Str))=false:=by decide)
 (vZ:(x==("__classdict__":Str))=false:=by decide):PE X (.Name x pos) (kq i):=G6 hN hv hd vZ
end
def Same(H H':Hp):Prop:=∀b o,H b=some o->H' b=some o
def Same.refl(H:Hp):Same H H:=λ_ _ h=>h
def Same.trans{H H1 H2:Hp}(a:Same H H1)(b:Same H1 H2):Same H H2:=λc o h=>b c o (a c o h)
def Same.free{H H':Hp}(e:Same H H'){l:Addr}(h:H' l=Option.none):H l=Option.none:=by
 cases q:H l with
 |none=>rfl
 |some o=>
  rw[e l o q] at h;cases h
def Same.seq{K:Ph}{H H':Hp}{a:Addr}{xs:List V}(e:Same H H')(h:SqL K H a xs):SqL K H' a xs:=by
 rcases h with(h | ⟨o,h⟩) | h
 ·exact .inl (.inl (e _ _ h))
 ·exact .inl (.inr ⟨o,e _ _ h⟩)
 ·exact .inr h
section
variable{κ:Type}[DecidableEq κ]
def eK(ax:List (κ×V))(k:κ):Option V:=(ax.find? λkv=>decide (kv.1=k)).map (·.2)
def putK(ax:List (κ×V))(k:κ)(v:V):List (κ×V):=
 if (ax.any λkv=>decide (kv.1=k))=true then ax.map (λkv=>if kv.1=k then(kv.1,v) else kv) else ax++[(k,v)]
def jr{p:κ×V}{r:List (κ×V)}{k:κ}(e:p.1=k):eK (p::r) k=some p.2:=by simp[eK,Rg,e]
def jq{p:κ×V}{r:List (κ×V)}{k:κ}(e:¬p.1=k):eK (p::r) k=eK r k:=by simp[eK,Rg,e]
def jo(k:κ):∀ax:List (κ×V),(ax.any λkv=>decide (kv.1=k))=(eK ax k).isSome
 |[]=>rfl
 |p::r=>by
  rw[RE];by_cases e:p.1=k
  ·simp only[jr e,UG e,Bool.true_or,Option.isSome_some]
  ·rw[jq e,UH e,Bool.false_or];exact jo k r
def dm(ax:List (κ×V))(k:κ)(v:V):(putK ax k v).length<=ax.length+1:=by
 unfold putK;split
 ·rw[Pb];omega
 ·rw[Pp,Pl,QK];omega
def vn{ax:List (κ×V)}{k:κ}(v:V)(h:eK ax k=none):putK ax k v=ax++[(k,v)]:=by
 unfold putK;rw[jo,h];exact UE (by decide)
def RelO.isSome_eq{o:Option V}{u:Option Value}(r:RelO o u):o.isSome=u.isSome:=by
 cases o with
 |none=>cases u with
  |none=>rfl
  |some _=>exact(show False from r).elim
 |some _=>cases u with
  |none=>exact(show False from r).elim
  |some _=>rfl
def RelO.getD{o:Option V}{u:Option Value}{d:V}{d':Value}(r:RelO o u)(rd:RelV d d'):RelV (o.getD d) (u.getD d'):=by
 cases o with
 |none=>cases u with
  |none=>exact rd
  |some _=>exact(show False from r).elim
 |some _=>cases u with
  |none=>exact(show False from r).elim
  |some _=>exact r
def KV.val{ax:List (κ×V)}{vs:List (κ×Value)}(r:KV ax vs)(k:κ):RelO (eK ax k) (TQ vs k):=by
 unfold KV at r;induction r with
 |nil=>exact QJ
 | @cons p q ps qs h t ih=>
   obtain⟨h1,h2⟩:=h;by_cases e:p.1=k
   ·have e':q.1=k:=h1.symm.trans e;have b:TQ (q::qs) k=some q.2:=by simp[TQ,Rg,e']
    rw[jr e,b];exact h2
   ·have e':¬q.1=k:=λz=>e (h1.trans z);have b:TQ (q::qs) k=TQ qs k:=by simp[TQ,Rg,e']
    rw[jq e,b];exact ih
def KV.any{ax:List (κ×V)}{vs:List (κ×Value)}(r:KV ax vs)(k:κ):(ax.any λkv=>decide (kv.1=k))=vs.any λkv=>decide (kv.1=k):=by
 unfold KV at r;induction r with
 |nil=>rfl
 |cons h t ih=>rw[RE,RE,ih,h.1]
def KV.repl{ax:List (κ×V)}{vs:List (κ×Value)}(r:KV ax vs)(k:κ){y:V}{u:Value}(ry:RelV y u):
 KV (ax.map λkv=>if kv.1=k then(kv.1,y) else kv) (vs.map λkv=>if kv.1=k then(kv.1,u) else kv):=by
 unfold KV at r⊢;induction r with
 |nil=>exact .nil
 | @cons p q ps qs h t ih=>
   rw[Pj,Pj];refine .cons ?_ ih;obtain⟨h1,h2⟩:=h;by_cases e:p.1=k
   ·rw[UD e,UD (h1.symm.trans e)];exact⟨h1,ry⟩
   ·rw[UE e,UE (λz=>e (h1.trans z))];exact⟨h1,h2⟩
def KV.put{ax:List (κ×V)}{vs:List (κ×Value)}(r:KV ax vs)(k:κ){y:V}{u:Value}(ry:RelV y u):KV (putK ax k y) (stored vs k u):=by
 unfold putK stored;rw[r.any k];by_cases e:(vs.any λkv=>decide (kv.1=k))=true
 ·rw[UD e,UD e];exact r.repl k ry
 ·rw[UE e,UE e];exact Paired.snoc r ⟨rfl,ry⟩
def KV.length{ax:List (κ×V)}{vs:List (κ×Value)}(r:KV ax vs):ax.length=vs.length:=QM r
end
def mn{P:PX}{w:World}{k:Key}{u:Value}(r:RelV (kV k) u):(a9 P w).is k u=true:=by
 cases k with
 |inl i=>obtain⟨t,e⟩:=(show∃t,u=TX i t from r);subst e;exact uQ P w i t
 |inr x=>obtain⟨t,e⟩:=(show∃t,u=TV x t from r);subst e;exact uR P w x t
def qR{P:PX}{w:World}:∀{ks:List Key}{us:List Value},Vals (ks.map kV) us->ItemsAre (a9 P w) ks us
 |[],_,r=>by rw[Q9] at r;cases r;exact .nil
 |k::ks,_,r=>by
  rw[Pj] at r;cases r with
  |cons h t=>exact .cons (mn h) (qR t)
abbrev KT(H:Hp):List (List Key×V)->List (List Key×Addr×Value)->Prop:=S_ λp q=>p.1=q.1/\H q.2.1=some (.tup (p.1.map kV))/\RelV p.2 q.2.2
def KT.val{H:Hp}{ax:List (List Key×V)}{xs:List (List Key×Addr×Value)}(r:KT H ax xs)(k:List Key):RelO (eK ax k) ((atKey xs k).map (·.2)):=by
 induction r with
 |nil=>exact QJ
 | @cons p q ps qs h t ih=>
   obtain⟨h1,_,h2⟩:=h;by_cases e:p.1=k
   ·have e':q.1=k:=h1.symm.trans e;have b:atKey (q::qs) k=some q.2:=by simp[atKey,Rg,e']
    rw[jr e,b];exact h2
   ·have e':¬q.1=k:=λz=>e (h1.trans z);have b:atKey (q::qs) k=atKey qs k:=by simp[atKey,Rg,e']
    rw[jq e,b];exact ih
def KT.repl{H:Hp}{ax:List (List Key×V)}{xs:List (List Key×Addr×Value)}(r:KT H ax xs)(k:List Key){y:V}{u:Value}(ry:RelV y u):
 KT H (ax.map λkv=>if kv.1=k then(kv.1,y) else kv) (xs.map (putAt k u)):=by
 induction r with
 |nil=>exact .nil
 | @cons p q ps qs h t ih=>
   rw[Pj,Pj];refine .cons ?_ ih;obtain⟨h1,h2,h3⟩:=h;unfold putAt;by_cases e:p.1=k
   ·rw[UD e,UD (h1.symm.trans e)];exact⟨h1,h2,ry⟩
   ·rw[UE e,UE (λz=>e (h1.trans z))];exact⟨h1,h2,h3⟩
def KT.put{H:Hp}{ax:List (List Key×V)}{xs:List (List Key×Addr×Value)}(r:KT H ax xs)(k:List Key){b:Addr}{y:V}{u:Value}(hb:H b=some (.tup (k.map kV)))(ry:RelV y u):
 KT H (putK ax k y) (Sq xs k b u):=by
 have e:(ax.any λkv=>decide (kv.1=k))=(atKey xs k).isSome:=by
  rw[jo,(r.val k).isSome_eq,SJ]
 unfold putK Sq;rw[e];by_cases q:(atKey xs k).isSome=true
 ·rw[UD q,UD q];exact r.repl k ry
 ·rw[UE q,UE q];exact Paired.snoc r ⟨rfl,hb,ry⟩
def KT.keeps{H H':Hp}{ax:List (List Key×V)}{xs:List (List Key×Addr×Value)}(r:KT H ax xs)(ht:∀b ys,H b=some (.tup ys)->H' b=some (.tup ys)):KT H' ax xs:=
 Paired.mapP r λ_ _ z=>⟨z.1,ht _ _ z.2.1,z.2.2⟩
section
variable{P:PX}{w:World}{H:Hp}{h:Heap}{a:Addr}
def Fd{u:HO}(ok:HOk P w H h)(e:Rd H a u):ObjOk P w H h a u:=e.ok ok
def mf{ax:List (Key×V)}(ok:HOk P w H h)(e:Rd H a (.dK ax)):ax.length<=Py/\(a==Qy)=false/\∃vs,KV ax vs/\h.DictOf (a9 P w) a vs:=
 show ObjOk P w H h a (.dK ax) from Fd ok e
def AF{ax:List (Key×V)}(ok:HOk P w H h)(e:H a=some (.dK ax)):ax.length<=Py/\(a==Qy)=false/\∃vs,KV ax vs/\h.DictOf (a9 P w) a vs:=mf ok (.inl e)
def j5{ks:List Key}(ok:HOk P w H h)(e:H a=some (.tup (ks.map kV))):(QU (a9 P w)).is h ks a:=by
 obtain⟨_,aK,r,o,h1,h2,n,h3⟩:=(show ObjOk P w H h a (.tup (ks.map kV)) from ok a _ e)
 exact⟨o,aK.toArray,n,h1,h2,h3,by simpa using qR r⟩
def mh{ax:List (List Key×V)}(ok:HOk P w H h)(e:Rd H a (.dT ax)):ax.length<=Py/\(a==Qy)=false/\
 ∃xs,KT H ax xs/\h.DictOfH (QU (a9 P w)) a xs:=by
 obtain⟨z,y,xs,r,o,es,ep,h1,h2,h3,h4,h5⟩:=(show ObjOk P w H h a (.dT ax) from Fd ok e)
 refine⟨z,y,xs,r,o,es,ep,h1,h2,h3,h4,λx hx=>?_,h5⟩;have all:∀{l:List (List Key×V)}{m:List (List Key×Addr×Value)},KT H l m->∀x∈m,(QU (a9 P w)).is h x.1 x.2.1:=by
  intro l m q;induction q with
  |nil=>intro x hx;exact nomatch hx
  | @cons p q ps qs hq t ih=>
    intro x hx;rcases Pn.mp hx with e | hx
    ·subst e;exact j5 ok (by rw[<-hq.1];exact hq.2.1)
    ·exact ih x hx
 exact all r x hx
def AH{ax:List (List Key×V)}(ok:HOk P w H h)(e:H a=some (.dT ax)):ax.length<=Py/\(a==Qy)=false/\
 ∃xs,KT H ax xs/\h.DictOfH (QU (a9 P w)) a xs:=mh ok (.inl e)
end
def lr(H:Hp)(a:Addr)(y:V)(r:Option V):Prop:=
 (∃ax k,Rd H a (.dK ax)/\y=kV k/\r=eK ax k)\/∃ax k b,Rd H a (.dT ax)/\y= .ref b/\H b=some (.tup (k.map kV))/\r=eK ax k
def DPut(H:Hp)(a:Addr)(y v:V)(H':Hp):Prop:=
 (∃ax k,H a=some (.dK ax)/\y=kV k/\ax.length<Py/\H'=upd H a (.dK (putK ax k v)))\/
 ∃ax k b,H a=some (.dT ax)/\y= .ref b/\H b=some (.tup (k.map kV))/\ax.length<Py/\H'=upd H a (.dT (putK ax k v))
def DPut.k{H:Hp}{a:Addr}{ax:List (Key×V)}{k:Key}{v:V}(e:H a=some (.dK ax))(hl:ax.length<Py):DPut H a (kV k) v (upd H a (.dK (putK ax k v))):= .inl ⟨ax,k,e,rfl,hl,rfl⟩
def DPut.t{H:Hp}{a b:Addr}{ax:List (List Key×V)}{k:List Key}{v:V}(e:H a=some (.dT ax))(eb:H b=some (.tup (k.map kV)))(hl:ax.length<Py):
 DPut H a (.ref b) v (upd H a (.dT (putK ax k v))):= .inr ⟨ax,k,b,e,rfl,eb,hl,rfl⟩
section
variable{X:Cx}{f8:List (Addr×Obj)}{σ:St}{H:Hp}{s:Pf}{a:Addr}{y v:V}{u r:Value}{o:Option V}{A:Qm}{E:Value->Pf->Prop}
def Inv.big(I:Inv X f8 σ H s):Qy<s.heap.objs.size:=by
 have h:PK<s.heap.objs.size:=(I.mod.glob.keeps I.bk).lt;exact Ra (by decide) h
def ze{Q:Value->Pf->Prop}(hu:A.units+1<cLine)(I:Inv X f8 σ H s)(g:lr H a y (some v))(ry:RelV y u)(h:∀w' s',Inv X f8 σ H s'->RelV v w'->Q w' s'):
 wpAny (model X.prog X.w) A (getItem (.ref a) u) Q E s:=by
 rcases g with⟨ax,k,e,ey,l⟩ | ⟨ax,k,b,e,ey,eb,l⟩
 ·subst ey;obtain⟨z,hd,vs,rel,dd⟩:=mf I.hok e;obtain⟨w',hw,v8⟩:=RelO.some_of (v:=v) (o:=TQ vs k) (by rw[l];exact rel.val k);exact wpAny_getItem_of (mn ry) dd.mapOf hw (h w' _ (I.tok _) v8)
 ·subst ey;cases (show u=P_ b from ry);obtain⟨z,hd,xs,rel,dd⟩:=mh I.hok e;obtain⟨w',hw,v8⟩:=RelO.some_of (v:=v) (o:=(atKey xs k).map (·.2)) (by rw[l];exact rel.val k);obtain⟨p,hp,IM⟩:=TJ.mp hw;refine wpAny_getItem_heap (Ru hu) (j5 I.hok eb) dd hp ?_;rw[IM];exact h w' _ (I.tok _) v8
def HY{Q:Value->Pf->Prop}(hu:A.units+1<cLine)(I:Inv X f8 σ H s)(g:lr H a y o)(ry:RelV y u)(h:∀s',Inv X f8 σ H s'->Q (.bool o.isSome) s'):
 wpAny (model X.prog X.w) A (Qj .In u (.ref a)) Q E s:=by
 rcases g with⟨ax,k,e,ey,l⟩ | ⟨ax,k,b,e,ey,eb,l⟩
 ·subst ey;obtain⟨z,hd,vs,rel,dd⟩:=mf I.hok e;refine wpAny_in_of (mn ry) hd dd.mapOf ?_;rw[<-(rel.val k).isSome_eq,<-l];exact h _ (I.tok _)
 ·subst ey;cases (show u=P_ b from ry);obtain⟨z,hd,xs,rel,dd⟩:=mh I.hok e;refine wpAny_in_heap (Ru hu) (j5 I.hok eb) hd dd ?_;have q:=(rel.val k).isSome_eq;rw[SJ] at q;rw[<-q,<-l];exact h _ (I.tok _)
def CQ{Q:Value->Pf->Prop}(hu:A.units+1<cLine)(I:Inv X f8 σ H s)(g:lr H a y o)(ry:RelV y u)(h:∀s',Inv X f8 σ H s'->Q (.bool (!o.isSome)) s'):
 wpAny (model X.prog X.w) A (Qj .NotIn u (.ref a)) Q E s:=by
 rcases g with⟨ax,k,e,ey,l⟩ | ⟨ax,k,b,e,ey,eb,l⟩
 ·subst ey;obtain⟨z,hd,vs,rel,dd⟩:=mf I.hok e;refine wpAny_notIn_of (mn ry) hd dd.mapOf ?_;rw[<-(rel.val k).isSome_eq,<-l];exact h _ (I.tok _)
 ·subst ey;cases (show u=P_ b from ry);obtain⟨z,hd,xs,rel,dd⟩:=mh I.hok e;refine wpAny_notIn_heap (Ru hu) (j5 I.hok eb) hd dd ?_;have q:=(rel.val k).isSome_eq;rw[SJ] at q;rw[<-q,<-l];exact h _ (I.tok _)
def jv{h':Heap}{t':Nat}{ob:HO}(I:Inv X f8 σ H s)(mu:HQ (H a))(hs:Q_ a s.heap h')(he:∃q,h'.get? a=some q)(new:ObjOk X.prog X.w (upd H a ob) h' a ob):
 Inv X f8 σ (upd H a ob) {s with heap:=h',toks:=t'}:=
 I.write (x:=a) (e:=a) mu (.inl rfl) (λb q hb z=>(hs.2 b hb).trans z) he new
def wt{P:PX}{w:World}{H':Hp}{h':Heap}{ax:List (Key×V)}{vs:List (Key×Value)}(z:ax.length<=Py)(hd:(a==Qy)=false)(rel:KV ax vs)(dd:h'.DictOf (a9 P w) a vs):
 ObjOk P w H' h' a (.dK ax):=⟨z,hd,vs,rel,dd⟩
def zf{H':Hp}{Q:Unit->Pf->Prop}(hu:A.units+1<cLine)(I:Inv X f8 σ H s)(g:DPut H a y v H')(ry:RelV y u)(rv:RelV v r)(h:∀s',Inv X f8 σ H' s'->Q () s'):
 wpAny (model X.prog X.w) A (setItem (.ref a) u r) Q E s:=by
 rcases g with⟨ax,k,e,ey,l,eH⟩ | ⟨ax,k,b,e,ey,eb,l,eH⟩
 ·subst ey eH;obtain⟨z,hd,vs,rel,dd⟩:=AF I.hok e;have hz:vs.length<=Py:=by rw[<-rel.length];exact z
  have hl:(putK ax k v).length<=Py:=by have:=dm ax k v;omega
  refine wpAny_setItem_pairs (hsz:=hz) (mn ry) dd λh' x_ hs=>h _ ?_;have he:∃q,h'.get? a=some q:=let ⟨q,_,_,hq,_⟩:=x_;⟨q,hq⟩
  exact jv I (by rw[e];exact QJ) hs he (wt hl hd (rel.put k rv) x_)
 ·subst ey eH;cases (show u=P_ b from ry);obtain⟨z,hd,xs,rel,dd⟩:=AH I.hok e;have hz:xs.length<=Py:=by rw[<-QM rel];exact z
  have hl:(putK ax k v).length<=Py:=by have:=dm ax k v;omega
  refine wpAny_setItem_heap (hsz:=hz) (Ru hu) (j5 I.hok eb) dd λh' x_ hs=>h _ ?_;obtain⟨q,es,ep,hq,h2,h3,h4,_,h5⟩:=x_;refine jv I (by rw[e];exact QJ) hs ⟨q,hq⟩ ⟨hl,hd,_,(rel.put k eb rv).keeps λc ys ec=>?_,q,es,ep,hq,h2,h3,h4,h5⟩;rw[aw (Bm ec e (λz=>nomatch z))];exact ec
end
section
variable{X:Cx}{f8:List (Addr×Obj)}{σ:St}{H:Hp}{s:Pf}{a:Addr}{ax:List (Key×V)}{A:Qm}{E:Value->Pf->Prop}
def HZ{Q:Value->Pf->Prop}(I:Inv X f8 σ H s)(e:Rd H a (.dK ax))(h:∀t s',Inv X f8 σ H s'->Q (.int ax.length t) s'):wpAny (model X.prog X.w) A (call (.builtin "len") [.ref a]) Q E s:=by
 obtain⟨z,hd,vs,rel,dd⟩:=mf I.hok e;refine call_len_dict hd dd (by rw[<-rel.length];rw[Rh] at z;omega) ?_;rw[<-rel.length];exact h _ _ (I.tok _)
end
def Fo(i:Expr):Prop:=∀ov iv,subscripted i false ov iv=operate [ov,iv] (getItem ov iv)
def Eo{prog:PX}{w:World}{A:Qm}{E:Value->Pf->Prop}{s:Pf}{env:Env}{value slice:Expr}{pos:Pos}{T id:String}{Q:Value->Pf->Prop}
 (hl:typeLookup (.type T) "__getitem__"=pure (some (.builtin id)))(hs:Fo slice)
 (h:wpAny (model prog w) A (eval value env) (λo v4=>wpAny (model prog w) A (eval slice env) (λi u8=>u8.TypeIs o T/\wpAny (model prog w) A (getItem o i) Q E u8) E v4) E s):
 wpAny (model prog w) A (eval (.Subscript value slice pos) env) Q E s:=by
 refine Subscript_ (Qt h (λo v4 UO=>Qt UO (λi u8 US=>?_) λ_ _ x=>x) λ_ _ x=>x);obtain⟨hT,US⟩:=US;unfold subscriptTail;refine Pc ?_;rw[getitemInPython_of_ne hT.not_modules];refine Pc (TN hT hl ?_);have fin:wpAny (model prog w) A (subscripted slice false o i) (λr UP=>wpAny (model prog w) A (letTemporaryGo value o r>>=λ_=>pure r) Q E UP) E u8:=by
  rw[hs o i];exact wpAny_operating (Qt US (λr UP UT=>Pc (wpAny_letTemporaryGo (Pu UT))) λ_ _ x=>x)
 first
  |exact Pu (Pc fin)
  |exact Pc (Pu (Pc fin))
  |exact Pc fin
def um{X:Cx}{f8:List (Addr×Obj)}{σ:St}{H:Hp}{s:Pf}{a:Addr}{y:V}{o:Option V}(I:Inv X f8 σ H s)(g:lr H a y o):s.TypeIs (.ref a) "dict":=by
 rcases g with⟨ax,k,e,_,_⟩ | ⟨ax,k,b,e,_,_,_⟩
 ·obtain⟨_,_,vs,_,dd⟩:=mf I.hok e;exact dd.typeIs
 ·obtain⟨_,_,xs,_,dd⟩:=mh I.hok e;exact dd.typeIs
def JQ(td ty:TE):TE:=λσ H Q=>td σ H λx H1=>ty σ H1 λy H2=>∃a v,x= .ref a/\lr H2 a y (some v)/\Q v H2
def LK(ty td:TE):TE:=λσ H Q=>ty σ H λy H1=>td σ H1 λx H2=>∃a o,x= .ref a/\lr H2 a y o/\Q (.bl o.isSome) H2
def Fe(td ty tv:TE):TS:=λD σ H=>tv σ H λv H1=>td σ H1 λx H2=>ty σ H2 λy H3=>∃a H4,x= .ref a/\DPut H3 a y v H4/\D.nx σ H4
section
variable{X:Cx}{o i value:Expr}{pos pos':Pos}{td ty tv:TE}
def D4(hu:X.A.units+1<cLine)(ho:PE X o td)(hi:PE X i ty)(hs:Fo i):PE X (.Subscript o i pos) (JQ td ty):=by
 intro f8 s σ H Q I h;refine Eo PySem.F.slot_dict_getitem.lookup hs (b7 (ho f8 s σ H _ I h) λu s1 ⟨x,H1,I1,rx,q1⟩=>b7 (hi f8 s1 σ H1 _ I1 q1) λiv s2 ⟨y,H2,I2,ry,a,v,ex,g,q2⟩=>?_);subst ex;obtain rfl:u=P_ a:=rx;exact⟨um I2 g,ze hu I2 g ry λw' s3 I3 v8=>⟨v,H2,I3,v8,q2⟩⟩
def GR(hu:X.A.units+1<cLine)(hi:PE X i ty)(ho:PE X o td):PC X .In i o (LK ty td):=by
 intro f8 s σ H Q I h;refine b7 (hi f8 s σ H _ I h) λiv s1 ⟨y,H1,I1,ry,q1⟩=>b7 (ho f8 s1 σ H1 _ I1 q1) λu s2 ⟨x,H2,I2,rx,a,ov,ex,g,q2⟩=>?_;subst ex;obtain rfl:u=P_ a:=rx;exact HY hu I2 g ry λs3 I3=>⟨.bl ov.isSome,H2,I3,rfl,q2⟩
def yK(hu:X.A.units+1<cLine)(ho:PE X o td)(hi:PE X i ty)(hv:PE X value tv)(hs:RW value (some (.Subscript o i pos')) pos.line X.env=pure false):
 PS X (.Assign [.Subscript o i pos'] value pos) (Fe td ty tv):=by
 intro f8 s σ H D I h;refine wpAny_Assign_Subscript (b7 (hv f8 s σ H _ I h) λr s1 ⟨v,H1,I1,rv,q1⟩=>b7 (ho f8 s1 σ H1 _ I1 q1) λu s2 ⟨x,H2,I2,rx,q2⟩=>b7 (hi f8 s2 σ H2 _ I2 q2) λiv s3 ⟨y,H3,I3,ry,a,H4,ex,g,q3⟩=>?_) hs;subst ex;obtain rfl:u=P_ a:=rx;exact zf hu I3 g ry rv λs4 I4=>⟨σ,H4,I4,q3⟩
end
def ur{P:PX}{w:World}{H:Hp}(h:Heap)(hb:Qy<h.objs.size):ObjOk P w H (h.push {cls:= .type "dict",data:= .dict #[]}) h.objs.size (.dK []):=
 ⟨P2 _,UL.mpr (Qd (P8 hb)),[], .nil,Heap.DictOf.new h⟩
def uu{P:PX}{w:World}{H:Hp}(h:Heap)(hb:Qy<h.objs.size):ObjOk P w H (h.push {cls:= .type "dict",data:= .dict #[]}) h.objs.size (.dT []):=
 ⟨P2 _,UL.mpr (Qd (P8 hb)),[], .nil,_,#[],0,PU _ rfl,⟨rfl,rfl,rfl⟩,rfl,rfl,Q2⟩
def Cr:TE:=λ_ H Q=>∀p,H p=none->Q (.ref p) (upd H p (.dK []))
def Hs:TE:=λ_ H Q=>∀p,H p=none->Q (.ref p) (upd H p (.dT []))
section
variable{X:Cx}{pos:Pos}
def vi:PE X (.Dict [] [] pos) Cr:=λf8 s σ H Q I h=>
 wpAny_Dict_empty ⟨.ref s.heap.objs.size,_,I.laid (a:=s.heap.objs.size) (o:= .dK []) (t':=s.toks) (λ_ _ q=>Pk _ q) (Pm _) (ur s.heap I.big),rfl,h _ (I.hok.fresh (Pm _))⟩
def BP:PE X (.Dict [] [] pos) Hs:=λf8 s σ H Q I h=>
 wpAny_Dict_empty ⟨.ref s.heap.objs.size,_,I.laid (a:=s.heap.objs.size) (o:= .dT []) (t':=s.toks) (λ_ _ q=>Pk _ q) (Pm _) (uu s.heap I.big),rfl,h _ (I.hok.fresh (Pm _))⟩
end
def Ct:List (TE×TE)->St->Hp->(List (V×V)->Hp->Prop)->Prop
 |[],_,H,Q=>Q [] H
 |(tk,tv)::r,σ,H,Q=>tk σ H λx H1=>tv σ H1 λy H2=>Ct r σ H2 λps H3=>Q ((x,y)::ps) H3
abbrev VV:List (V×V)->List (Value×Value)->Prop:=S_ λp q=>RelV p.1 q.1/\RelV p.2 q.2
def Ks(X:Cx)(pos:Pos)(keys:List (Option Expr))(values:List Expr)(Kl:List (TE×TE)):Prop:=
 ∀(f8:List (Addr×Obj)) (s:Pf) (σ:St) (H:Hp) (Q:List (V×V)->Hp->Prop),Inv X f8 σ H s->Ct Kl σ H Q->
  wpAny (model X.prog X.w) X.A (evalPairs (pairTrees keys values X.env pos)) (λvs s'=>∃ps H',Inv X f8 σ H' s'/\VV ps vs/\Q ps H') X.xe s
def D_{X:Cx}{pos:Pos}:Ks X pos [] [] []:=λf8 s σ H Q I h=>pairTrees_nil_walk ⟨[],H,I, .nil,h⟩
def BR{X:Cx}{pos:Pos}{k v:Expr}{ks:List (Option Expr)}{vs:List Expr}{tk tv:TE}{Kl:List (TE×TE)}(hk:PE X k tk)(hv:PE X v tv)(hr:Ks X pos ks vs Kl):
 Ks X pos (some k::ks) (v::vs) ((tk,tv)::Kl):=λf8 s σ H Q I h=>
 pairTrees_cons_walk (b7 (hk f8 s σ H _ I h) λu s1 ⟨x,H1,I1,rx,q1⟩=>b7 (hv f8 s1 σ H1 _ I1 q1) λw2 s2 ⟨y,H2,I2,ry,q2⟩=>
  b7 (hr f8 s2 σ H2 _ I2 q2) λws s3 ⟨ps,H3,I3,rel,q3⟩=>⟨(x,y)::ps,H3,I3, .cons ⟨rx,ry⟩ rel,q3⟩)
structure M1 (X:Cx) (o:Expr) (m:Str) (v6:Pos) (e:Expr) (bc:Pos):Prop where
 base:Rv o m X.env (eval o X.env)=eval o X.env
 few:((Rm bc (PB [e] X.env)).all (λx=>!x.1)&&(S7 bc (RX [] X.env)).all (λx=>x.1.isSome)
  &&decide (([e]:List Expr).length+([]:List RM).length+(if ([]:List RM).isEmpty then 0 else 1)<30))=true
 line:(v6.endLine==bc.line)=true
 trees:Rm bc (PB [e] X.env)=[(false,eval e X.env)]
structure M2 (X:Cx) (o:Expr) (m:Str) (v6:Pos) (e f:Expr) (bc:Pos):Prop where
 base:Rv o m X.env (eval o X.env)=eval o X.env
 few:((Rm bc (PB [e,f] X.env)).all (λx=>!x.1)&&(S7 bc (RX [] X.env)).all (λx=>x.1.isSome)
  &&decide (([e,f]:List Expr).length+([]:List RM).length+(if ([]:List RM).isEmpty then 0 else 1)<30))=true
 line:(v6.endLine==bc.line)=true
 trees:Rm bc (PB [e,f] X.env)=[(false,eval e X.env),(false,eval f X.env)]
def HK(H:Hp)(a:Addr):Prop:=(∃ax,Rd H a (.dK ax))\/∃ax,Rd H a (.dT ax)
def wJ{X:Cx}{f8:List (Addr×Obj)}{σ:St}{H:Hp}{s:Pf}{a:Addr}(I:Inv X f8 σ H s)(d:HK H a):
 s.TypeIs (.ref a) "dict"/\(∀b,P_ a= .ref b->∃ob,s.heap.get? b=some ob/\ob.dict=none)/\(a==Qy)=false:=by
 rcases d with⟨ax,e⟩ | ⟨ax,e⟩
 ·obtain⟨_,hd,vs,_,dd⟩:=mf I.hok e;refine⟨dd.typeIs,λb q=>?_,hd⟩;cases q;obtain⟨ob,_,_,h1,h2,_⟩:=dd;exact⟨ob,h1,h2.2.1⟩
 ·obtain⟨_,hd,xs,_,dd⟩:=mh I.hok e;refine⟨dd.typeIs,λb q=>?_,hd⟩;cases q;obtain⟨ob,_,_,h1,h2,_⟩:=dd;exact⟨ob,h1,h2.2.1⟩
section
variable{X:Cx}{f8:List (Addr×Obj)}{σ:St}{H:Hp}{s:Pf}{a:Addr}{y d:V}{u:Value}{o:Option V}{A:Qm}{E:Value->Pf->Prop}
def Fz{Q:Value->Pf->Prop}(hu:A.units+1<cLine)(I:Inv X f8 σ H s)(g:lr H a y o)(ry:RelV y u)(h:∀w' s',Inv X f8 σ H s'->RelV (o.getD .non) w'->Q w' s'):
 wpAny (model X.prog X.w) A (call (.builtin "dict.get") [.ref a,u]) Q E s:=by
 rcases g with⟨ax,k,e,ey,l⟩ | ⟨ax,k,b,e,ey,eb,l⟩
 ·subst ey;obtain⟨z,hd,vs,rel,dd⟩:=mf I.hok e;refine call_meetsIn R9 dd.typeIs Tx (Tr _ _) (meets_dict_get (a9 X.prog X.w) a (mn ry) hd) ⟨_,dd.mapOf,h _ _ (I.tok _) ?_⟩;rw[l];exact(rel.val k).getD rfl
 ·subst ey;cases (show u=P_ b from ry);obtain⟨z,hd,xs,rel,dd⟩:=mh I.hok e;refine call_meetsIn R9 dd.typeIs Tx (Tr _ _) (meetsH_dict_get (QU (a9 X.prog X.w)) a b hd) ⟨Ru hu,k,xs,j5 I.hok eb,dd,h _ _ (I.tok _) ?_⟩;rw[l];exact(rel.val k).getD rfl
end
def Hr(td ty:TE):TE:=λσ H Q=>td σ H λx H1=>∃a,x= .ref a/\HK H1 a/\ty σ H1 λy H2=>∃o,lr H2 a y o/\Q (o.getD .non) H2
section
variable{X:Cx}{o e:Expr}{v6 bc:Pos}{td ty:TE}
def BO(hu:X.A.units+1<cLine)(ho:PE X o td)(he:PE X e ty)(m:M1 X o "get" v6 e bc):PE X (.Call (.Attribute o "get" v6) [e] [] bc) (Hr td ty):=by
 intro f8 s σ H Q I h;refine Tn m.base m.few m.line R1 R9 PySem.F.type_dict_get (b7 (ho f8 s σ H _ I h) λu s1 ⟨x,H1,I1,rx,a,ex,d,q1⟩=>?_);subst ex;obtain rfl:u=P_ a:=rx;obtain⟨t1,t2,_⟩:=wJ I1 d;refine⟨t1,t2,?_⟩;rw[m.trees];refine Ro rfl (RA (Rc (b7 (he f8 s1 σ H1 _ I1 q1) λiv s2 ⟨y,H2,I2,ry,ov,g,q2⟩=>R4 ?_)));exact Fz hu I2 g ry λw' s3 I3 v8=>⟨_,H2,I3,v8,q2⟩
end
end L2
namespace L3
open PySem PySem.Spec L2
open PyProof.Rows hiding St
inductive Rs (α:Type) where
 |ok (a:α) | ex (n:Nat)
def M(α:Type):=Option (Rs α)
def ab{α:Type}(a:α):M α:=some (.ok a)
def M.bind{α β:Type}(m:M α)(k:α->M β):M β:=match m with
 |none=>none
 |some (.ex n)=>some (.ex n)
 |some (.ok a)=>k a
def af{α:Type}:M α:=none
def nB{α:Type}(n:Nat):M α:=some (.ex n)
instance:Monad M where
 pure:=ab
 bind:=M.bind
@[simp] def au{α β:Type}(a:α)(k:α->M β):(ab a>>=k)=k a:=rfl
@[simp] def Fu{α β:Type}(a:α)(k:α->M β):((pure a:M α)>>=k)=k a:=rfl
@[simp] def Fv{α β:Type}(n:Nat)(k:α->M β):(nB n>>=k)=nB n:=rfl
@[simp] def Fw{α β:Type}(k:α->M β):((af:M α)>>=k)=af:=rfl
def M.cs{α:Type}(m:M α):m=af\/(∃n,m=nB n)\/∃a,m=ab a:=by
 match m with
 |none=>exact .inl rfl
 |some (.ex n)=>exact .inr (.inl ⟨n,rfl⟩)
 |some (.ok a)=>exact .inr (.inr ⟨a,rfl⟩)
def er{α:Type}{a b:α}(h:ab a=ab b):a=b:=by
 have h:some (Rs.ok a)=some (Rs.ok b):=h;cases h;rfl
def dO{α:Type}{a:α}(h:af=ab a):False:=by
 have h:none=some (Rs.ok a):=h;cases h
def B5{α:Type}{n:Nat}{a:α}(h:nB n=ab a):False:=by
 have h:some (Rs.ex n)=some (Rs.ok a):=h;cases h
def c_{α β:Type}{m:M α}{k:α->M β}{r:β}(h:(m>>=k)=ab r):∃a,m=ab a/\k a=ab r:=by
 rcases m.cs with e | ⟨n,e⟩ | ⟨a,e⟩
 ·subst e;exact(dO h).elim
 ·subst e;exact(B5 h).elim
 ·subst e;exact⟨a,rfl,h⟩
def HM(h:Heap)(ea D:Addr):Prop:=∃ox,h.get? ea=some ox/\ox.cls= .ref D
def M4(ea D:Addr):HO:= .ext λh=>HM h ea D
inductive D where
 |non | bl (b:Bool) | int (i:Int) | str (x:Str) | raw (v:V) | exc (C:Addr) | scr (l:List Int) | tup (l:List D) | lst (l:List D)
 |dct (ks:List (List Key)) (l:List D) | dci (ks:List Key) (l:List D)
instance:Inhabited D:=⟨.non⟩
def lim:Nat:=4096
def dg:lim<Py:=by rw[Rh];decide
mutual
def Den(K:Ph)(F:Hp):D->V->Prop
 | .non,v=>v= .non
 | .bl b,v=>v= .bl b
 | .int i,v=>v= .int i
 | .str x,v=>v= .str x/\x.length<=lim
 | .raw u,v=>v=u
 | .exc C,v=>∃ea,v= .ref ea/\F ea=some (M4 ea C)
 | .scr ns,v=>∃a,v= .ref a/\SqL K F a (ns.map V.int)/\ns.length<=lim
 | .tup ds,v=>∃a vs,v= .ref a/\F a=some (.tup vs)/\DenL K F ds vs/\ds.length<=lim
 | .lst ds,v=>∃a vs,v= .ref a/\F a=some (.lst vs)/\DenL K F ds vs/\ds.length<=lim
 | .dct ks ds,v=>∃a ob vs,v= .ref a/\F a=some (.frz ob (.dT (ks.zip vs)))/\DenL K F ds vs/\ks.length=ds.length/\ds.length<=lim
 | .dci ks ds,v=>∃a ob vs,v= .ref a/\F a=some (.frz ob (.dK (ks.zip vs)))/\DenL K F ds vs/\ks.length=ds.length/\ds.length<=lim
def DenL(K:Ph)(F:Hp):List D->List V->Prop
 |[],vs=>vs=[]
 |d::ds,vs=>∃v r,vs=v::r/\Den K F d v/\DenL K F ds r
end
def Same.rd{H H':Hp}{a:Addr}{u:HO}(e:Same H H')(h:Rd H a u):Rd H' a u:=by
 rcases h with h | ⟨o,h⟩
 ·exact .inl (e _ _ h)
 ·exact .inr ⟨o,e _ _ h⟩
def Same.tup{K:Ph}{H H':Hp}{a:Addr}{xs:List V}(e:Same H H')(h:SqT K H a xs):SqT K H' a xs:=by
 rcases h with h | h
 ·exact .inl (Same.rd e h)
 ·exact .inr h
section
variable{K:Ph}{F F':Hp}
mutual
def Den.mono(e:Same F F'):∀{d:D}{v:V},Den K F d v->Den K F' d v
 | .non,_,h=>h
 | .bl _,_,h=>h
 | .int _,_,h=>h
 | .str _,_,h=>h
 | .raw _,_,h=>h
 | .exc _,_,⟨a,h1,h2⟩=>⟨a,h1,e _ _ h2⟩
 | .scr _,_,⟨a,h1,h2,h3⟩=>⟨a,h1,Same.seq e h2,h3⟩
 | .tup _,_,⟨a,vs,h1,h2,h3,h4⟩=>⟨a,vs,h1,e _ _ h2,DenL.mono e h3,h4⟩
 | .lst _,_,⟨a,vs,h1,h2,h3,h4⟩=>⟨a,vs,h1,e _ _ h2,DenL.mono e h3,h4⟩
 | .dct _ _,_,⟨a,ob,vs,h1,h2,h3,h4⟩=>⟨a,ob,vs,h1,e _ _ h2,DenL.mono e h3,h4⟩
 | .dci _ _,_,⟨a,ob,vs,h1,h2,h3,h4⟩=>⟨a,ob,vs,h1,e _ _ h2,DenL.mono e h3,h4⟩
def DenL.mono(e:Same F F'):∀{ds:List D}{vs:List V},DenL K F ds vs->DenL K F' ds vs
 |[],_,h=>h
 |_::_,_,⟨v,r,h1,h2,h3⟩=>⟨v,r,h1,Den.mono e h2,DenL.mono e h3⟩
end
def DenL.nil:DenL K F [] []:=rfl
def DenL.cons{d:D}{v:V}{ds:List D}{vs:List V}(h:Den K F d v)(r:DenL K F ds vs):DenL K F (d::ds) (v::vs):=⟨v,vs,rfl,h,r⟩
def DenL.len:∀{ds:List D}{vs:List V},DenL K F ds vs->ds.length=vs.length
 |[],_,h=>by cases (show _=_ from h);rfl
 |_::ds,_,⟨v,r,h1,_,h3⟩=>by subst h1;rw[Pl,Pl,DenL.len h3]
def DenL.get:∀{ds:List D}{vs:List V}{i:Nat}{d:D},DenL K F ds vs->ds[i]? =some d->∃v,vs[i]? =some v/\Den K F d v
 |[],_,_,_,_,e=>by simp at e
 |d::ds,_,0,_,⟨v,r,h1,h2,h3⟩,e=>by subst h1;simp at e;subst e;exact⟨v,rfl,h2⟩
 |d::ds,_,i+1,_,⟨v,r,h1,h2,h3⟩,e=>by
  subst h1;obtain⟨w,e1,e2⟩:=DenL.get (i:=i) h3 (by simpa using e);exact⟨w,by simpa using e1,e2⟩
def DenL.at:∀{ds:List D}{vs:List V}{i:Nat}{v:V},DenL K F ds vs->vs[i]? =some v->∃d,ds[i]? =some d/\Den K F d v
 |[],_,_,_,h,e=>by cases (show _=_ from h);simp at e
 |d::ds,_,0,_,⟨v,r,h1,h2,h3⟩,e=>by subst h1;simp at e;subst e;exact⟨d,rfl,h2⟩
 |d::ds,_,i+1,_,⟨v,r,h1,h2,h3⟩,e=>by
  subst h1;obtain⟨w,e1,e2⟩:=DenL.at (i:=i) h3 (by simpa using e);exact⟨w,by simpa using e1,e2⟩
def DenL.append:∀{ds es:List D}{vs ws:List V},DenL K F ds vs->DenL K F es ws->DenL K F (ds++es) (vs++ws)
 |[],_,_,_,h,h'=>by cases (show _=_ from h);exact h'
 |d::ds,_,_,_,⟨v,r,h1,h2,h3⟩,h'=>by subst h1;exact⟨v,_,rfl,h2,DenL.append h3 h'⟩
def DenL.take:∀{ds:List D}{vs:List V}(n:Nat),DenL K F ds vs->DenL K F (ds.take n) (vs.take n)
 |_,_,0,_=>by simp[List.take];rfl
 |[],_,_+1,h=>by cases (show _=_ from h);rfl
 |d::ds,_,n+1,⟨v,r,h1,h2,h3⟩=>by subst h1;exact⟨v,_,rfl,h2,DenL.take n h3⟩
def DenL.ints(ns:List Int):DenL K F (ns.map D.int) (ns.map V.int):=by
 induction ns with
 |nil=>rfl
 |cons n ns ih=>exact .cons rfl ih
end
structure Ext (F H F' H':Hp):Prop where
 hh:Same H H'
 ff:Same F F'
 fh:Same F' H'
 new:∀a,H a≠none->F' a=F a\/∃ts,H a=some (.tup ts)
def Ext.old{F H F' H':Hp}(e:Ext F H F' H'){a:Addr}{o:HO}(h:H a=some o)(hn:∀ts,o≠ .tup ts):F' a=F a:=by
 rcases e.new a (by rw[h];exact λz=>nomatch z) with q | ⟨ts,q⟩
 ·exact q
 ·rw[h] at q;cases q;exact UK rfl (hn ts)
def Ext.refl{F H:Hp}(h:Same F H):Ext F H F H:=⟨Same.refl _,Same.refl _,h,λ_ _=> .inl rfl⟩
def Ext.trans{F H F' H' F'' H'':Hp}(a:Ext F H F' H')(b:Ext F' H' F'' H''):Ext F H F'' H'':=
 ⟨a.hh.trans b.hh,a.ff.trans b.ff,b.fh,λc hc=>by
  have:H' c≠none:=by
   cases q:H c with
   |none=>exact UK q hc
   |some o=>rw[a.hh c o q];exact λz=>nomatch z
  rcases a.new c hc with p | p
  ·rcases b.new c this with q | ⟨ts,q⟩
   ·exact .inl (q.trans p)
   ·cases z:H c with
    |none=>exact UK z hc
    |some o=>
     rw[a.hh c o z] at q;exact .inr ⟨ts,q⟩
  ·exact .inr p⟩
def Ext.lay{F H:Hp}{a:Addr}{o:HO}(h:Same F H)(n:H a=none):Ext F H (upd F a o) (upd H a o):=by
 have nf:F a=none:=Same.free h n;refine⟨λb u e=>?_,λb u e=>?_,λb u e=>?_,λb hb=>?_⟩
 ·rw[aw (ba e n)];exact e
 ·rw[aw (ba e nf)];exact e
 ·by_cases q:b=a
  ·subst q;rw[aD] at e⊢;exact e
  ·rw[aw q] at e⊢;exact h b u e
 ·exact .inl (aw λz=>hb (by rw[z];exact n))
def Ext.free{F H:Hp}{a:Addr}{o:HO}(h:Same F H)(n:H a=none):Ext F H F (upd H a o):=
 ⟨λb u e=>by rw[aw (ba e n)];exact e,Same.refl _,λb u e=>by rw[aw (ba (h b u e) n)];exact h b u e,λ_ _=> .inl rfl⟩
def Ext.tup{F H:Hp}{a:Addr}{ts:List V}(h:Same F H)(e:H a=some (.tup ts)):Ext F H (upd F a (.tup ts)) H:=by
 refine⟨Same.refl _,λb u q=>?_,λb u q=>?_,λb hb=>?_⟩
 ·by_cases z:b=a
  ·subst z;rw[aD,<-e];exact h b u q
  ·rw[aw z];exact q
 ·by_cases z:b=a
  ·subst z;rw[aD] at q;rw[e];exact q
  ·rw[aw z] at q;exact h b u q
 ·by_cases z:b=a
  ·subst z;exact .inr ⟨ts,e⟩
  ·exact .inl (aw z)
def WP(K:Ph)(Xw:Nat->Hp->Prop)(F H:Hp)(m:M D)(Q:VK):Prop:=
 match m with
 |none=>False
 |some (.ok d)=>∀v H' F',Ext F H F' H'->Den K F' d v->Q v H'
 |some (.ex n)=>∀F' H',Ext F H F' H'->Xw n H'
def WPL(K:Ph)(Xw:Nat->Hp->Prop)(F H:Hp)(m:M (List D))(Q:List V->Hp->Prop):Prop:=
 match m with
 |none=>False
 |some (.ok ds)=>∀vs H' F',Ext F H F' H'->DenL K F' ds vs->Q vs H'
 |some (.ex n)=>∀F' H',Ext F H F' H'->Xw n H'
def WPB(Xw:Nat->Hp->Prop)(F H:Hp)(m:M Bool)(Q:Bool->Hp->Prop):Prop:=
 match m with
 |none=>False
 |some (.ok b)=>∀H' F',Ext F H F' H'->Q b H'
 |some (.ex n)=>∀F' H',Ext F H F' H'->Xw n H'
section
variable{K:Ph}{Xw:Nat->Hp->Prop}{F F' H H':Hp}{Q:VK}
def WP.ext{m:M D}(e:Ext F H F' H')(h:WP K Xw F H m Q):WP K Xw F' H' m Q:=by
 match m,h with
 |none,h=>exact h
 |some (.ok d),h=>exact λv H2 F2 e2 q=>h v H2 F2 (e.trans e2) q
 |some (.ex n),h=>exact λF2 H2 e2=>h F2 H2 (e.trans e2)
def WPL.ext{m:M (List D)}{Q:List V->Hp->Prop}(e:Ext F H F' H')(h:WPL K Xw F H m Q):WPL K Xw F' H' m Q:=by
 match m,h with
 |none,h=>exact h
 |some (.ok d),h=>exact λv H2 F2 e2 q=>h v H2 F2 (e.trans e2) q
 |some (.ex n),h=>exact λF2 H2 e2=>h F2 H2 (e.trans e2)
def WPB.ext{m:M Bool}{Q:Bool->Hp->Prop}(e:Ext F H F' H')(h:WPB Xw F H m Q):WPB Xw F' H' m Q:=by
 match m,h with
 |none,h=>exact h
 |some (.ok d),h=>exact λH2 F2 e2=>h H2 F2 (e.trans e2)
 |some (.ex n),h=>exact λF2 H2 e2=>h F2 H2 (e.trans e2)
def WP.fin{d:D}{v:V}(h:WP K Xw F H (ab d) Q)(e:Ext F H F' H')(q:Den K F' d v):Q v H':=h v H' F' e q
def WP.now{d:D}{v:V}(h:WP K Xw F H (ab d) Q)(s:Same F H)(q:Den K F d v):Q v H:=h v H F (Ext.refl s) q
def WP.bind{m:M D}{k:D->M D}(h:WP K Xw F H (m>>=k) Q):WP K Xw F H m λv H1=>∃F1 d,Ext F H F1 H1/\Den K F1 d v/\WP K Xw F1 H1 (k d) Q:=by
 match m,h with
 |none,h=>exact h
 |some (.ok d),h=>exact λv H2 F2 e2 q=>⟨F2,d,e2,q,WP.ext e2 (show WP K Xw F H (k d) Q from h)⟩
 |some (.ex n),h=>exact h
def WP.bindL{m:M (List D)}{k:List D->M D}(h:WP K Xw F H (m>>=k) Q):WPL K Xw F H m λvs H1=>∃F1 ds,Ext F H F1 H1/\DenL K F1 ds vs/\WP K Xw F1 H1 (k ds) Q:=by
 match m,h with
 |none,h=>exact h
 |some (.ok d),h=>exact λv H2 F2 e2 q=>⟨F2,d,e2,q,WP.ext e2 (show WP K Xw F H (k d) Q from h)⟩
 |some (.ex n),h=>exact h
def WP.bindB{m:M Bool}{k:Bool->M D}(h:WP K Xw F H (m>>=k) Q):WPB Xw F H m λb H1=>∃F1,Ext F H F1 H1/\WP K Xw F1 H1 (k b) Q:=by
 match m,h with
 |none,h=>exact h
 |some (.ok d),h=>exact λH2 F2 e2=>⟨F2,e2,WP.ext e2 (show WP K Xw F H (k d) Q from h)⟩
 |some (.ex n),h=>exact h
def WPB.bind{m:M D}{k:D->M Bool}{Q:Bool->Hp->Prop}(h:WPB Xw F H (m>>=k) Q):WP K Xw F H m λv H1=>∃F1 d,Ext F H F1 H1/\Den K F1 d v/\WPB Xw F1 H1 (k d) Q:=by
 match m,h with
 |none,h=>exact h
 |some (.ok d),h=>exact λv H2 F2 e2 q=>⟨F2,d,e2,q,WPB.ext e2 (show WPB Xw F H (k d) Q from h)⟩
 |some (.ex n),h=>exact h
def WPB.bindB{m:M Bool}{k:Bool->M Bool}{Q:Bool->Hp->Prop}(h:WPB Xw F H (m>>=k) Q):WPB Xw F H m λb H1=>∃F1,Ext F H F1 H1/\WPB Xw F1 H1 (k b) Q:=by
 match m,h with
 |none,h=>exact h
 |some (.ok d),h=>exact λH2 F2 e2=>⟨F2,e2,WPB.ext e2 (show WPB Xw F H (k d) Q from h)⟩
 |some (.ex n),h=>exact h
def WPL.bind{m:M D}{k:D->M (List D)}{Q:List V->Hp->Prop}(h:WPL K Xw F H (m>>=k) Q):WP K Xw F H m λv H1=>∃F1 d,Ext F H F1 H1/\Den K F1 d v/\WPL K Xw F1 H1 (k d) Q:=by
 match m,h with
 |none,h=>exact h
 |some (.ok d),h=>exact λv H2 F2 e2 q=>⟨F2,d,e2,q,WPL.ext e2 (show WPL K Xw F H (k d) Q from h)⟩
 |some (.ex n),h=>exact h
def WPL.bindL{m:M (List D)}{k:List D->M (List D)}{Q:List V->Hp->Prop}(h:WPL K Xw F H (m>>=k) Q):WPL K Xw F H m λvs H1=>∃F1 ds,Ext F H F1 H1/\DenL K F1 ds vs/\WPL K Xw F1 H1 (k ds) Q:=by
 match m,h with
 |none,h=>exact h
 |some (.ok d),h=>exact λv H2 F2 e2 q=>⟨F2,d,e2,q,WPL.ext e2 (show WPL K Xw F H (k d) Q from h)⟩
 |some (.ex n),h=>exact h
def WP.mono{m:M D}{Q':VK}(h:WP K Xw F H m Q)(k:∀v H',Q v H'->Q' v H'):WP K Xw F H m Q':=by
 match m,h with
 |none,h=>exact h
 |some (.ok d),h=>exact λv H2 F2 e2 q=>k _ _ (h v H2 F2 e2 q)
 |some (.ex n),h=>exact h
def WPL.mono{m:M (List D)}{Q Q':List V->Hp->Prop}(h:WPL K Xw F H m Q)(k:∀v H',Q v H'->Q' v H'):WPL K Xw F H m Q':=by
 match m,h with
 |none,h=>exact h
 |some (.ok d),h=>exact λv H2 F2 e2 q=>k _ _ (h v H2 F2 e2 q)
 |some (.ex n),h=>exact h
def WPB.mono{m:M Bool}{Q Q':Bool->Hp->Prop}(h:WPB Xw F H m Q)(k:∀v H',Q v H'->Q' v H'):WPB Xw F H m Q':=by
 match m,h with
 |none,h=>exact h
 |some (.ok d),h=>exact λH2 F2 e2=>k _ _ (h H2 F2 e2)
 |some (.ex n),h=>exact h
end
inductive C where
 |lst (l:List D) | dct (ks:List (List Key)) (l:List D) | dci (ks:List Key) (l:List D)
def C.d:C->D
 | .lst ds=> .lst ds
 | .dct ks ds=> .dct ks ds
 | .dci ks ds=> .dci ks ds
inductive Sl where
 |fz (d:D) | ow (c:C)
abbrev aP:=List (Option Sl)
def DenC(K:Ph)(F:Hp):C->HO->Prop
 | .lst ds,o=>∃vs,o= .lst vs/\DenL K F ds vs/\ds.length<=lim
 | .dct ks ds,o=>∃vs,o= .dT (ks.zip vs)/\DenL K F ds vs/\ks.length=ds.length/\ds.length<=lim
 | .dci ks ds,o=>∃vs,o= .dK (ks.zip vs)/\DenL K F ds vs/\ks.length=ds.length/\ds.length<=lim
def DenC.mono{K:Ph}{F F':Hp}(e:Same F F'):∀{c:C}{o:HO},DenC K F c o->DenC K F' c o
 | .lst _,_,⟨vs,h1,h2,h3⟩=>⟨vs,h1,DenL.mono e h2,h3⟩
 | .dct _ _,_,⟨vs,h1,h2,h3⟩=>⟨vs,h1,DenL.mono e h2,h3⟩
 | .dci _ _,_,⟨vs,h1,h2,h3⟩=>⟨vs,h1,DenL.mono e h2,h3⟩
def DenC.notup{K:Ph}{F:Hp}:∀{c:C}{o:HO},DenC K F c o->∀ts,o≠ .tup ts
 | .lst _,_,⟨_,h1,_⟩,ts,z=>by rw[h1] at z;cases z
 | .dct _ _,_,⟨_,h1,_⟩,ts,z=>by rw[h1] at z;cases z
 | .dci _ _,_,⟨_,h1,_⟩,ts,z=>by rw[h1] at z;cases z
def m8(ob:Obj):HO->HO
 | .dT ax=> .frz ob (.dT ax)
 | .dK ax=> .frz ob (.dK ax)
 |o=>o
def DenC.den{K:Ph}{F F':Hp}{a:Addr}{ob:Obj}:∀{c:C}{o:HO},DenC K F c o->Same F F'->F' a=some (m8 ob o)->Den K F' c.d (.ref a)
 | .lst _,_,⟨vs,h1,h2,h3⟩,e,q=>by subst h1;exact⟨a,vs,rfl,q,DenL.mono e h2,h3⟩
 | .dct _ _,_,⟨vs,h1,h2,h3⟩,e,q=>by subst h1;exact⟨a,ob,vs,rfl,q,DenL.mono e h2,h3⟩
 | .dci _ _,_,⟨vs,h1,h2,h3⟩,e,q=>by subst h1;exact⟨a,ob,vs,rfl,q,DenL.mono e h2,h3⟩
def DenO(K:Ph)(F H:Hp):Sl->V->Prop
 | .fz d,v=>Den K F d v
 | .ow c,v=>∃a o,v= .ref a/\H a=some o/\F a=none/\DenC K F c o
structure StE (K:Ph) (F H:Hp) (σ:St) (Z:aP):Prop where
 fh:Same F H
 den:∀(i:Nat) (sl:Sl),Z[i]? =some (some sl)->∃v,σ[i]? =some (some v)/\DenO K F H sl v
def DenO.ext{K:Ph}{F H F' H':Hp}(e:Ext F H F' H'):∀{sl:Sl}{v:V},DenO K F H sl v->DenO K F' H' sl v
 | .fz _,_,h=>Den.mono e.ff h
 | .ow _,_,⟨a,o,h1,h2,h3,h4⟩=>⟨a,o,h1,e.hh _ _ h2,by rw[e.old h2 h4.notup];exact h3,DenC.mono e.ff h4⟩
def StE.ext{K:Ph}{F H F' H':Hp}{σ:St}{Z:aP}(s:StE K F H σ Z)(e:Ext F H F' H'):StE K F' H' σ Z:=
 ⟨e.fh,λi sl q=>let ⟨v,h1,h2⟩:=s.den i sl q;⟨v,h1,h2.ext e⟩⟩
abbrev DE:=aP->M D
abbrev DT:=aP->M Bool
abbrev DA:=aP->M (List D)
def tD(K:Ph)(Xw:Nat->Hp->Prop)(δ:DE):TE:=λσ H Q=>∃F Z,StE K F H σ Z/\WP K Xw F H (δ Z) Q
def Kj(K:Ph)(Xw:Nat->Hp->Prop)(δ:DT):TT:=λσ H Q=>∃F Z,StE K F H σ Z/\WPB Xw F H (δ Z) Q
def MW(K:Ph)(Xw:Nat->Hp->Prop)(δ:DA):TA:=λσ H Q=>∃F Z,StE K F H σ Z/\WPL K Xw F H (δ Z) Q
def PD(X:Cx)(Xw:Nat->Hp->Prop)(e:Expr)(δ:DE):Prop:=PE X e (tD X.K Xw δ)
def lx(X:Cx)(Xw:Nat->Hp->Prop)(e:Expr)(δ:DT):Prop:=PT X e (Kj X.K Xw δ)
def p8(X:Cx)(Xw:Nat->Hp->Prop)(es:List Expr)(δ:DA):Prop:=PA X es (MW X.K Xw δ)
def PE.weak{X:Cx}{e:Expr}{t t':TE}(h:PE X e t)(k:∀σ H Q,t' σ H Q->t σ H Q):PE X e t':=λf8 s σ H Q I w=>h f8 s σ H Q I (k σ H Q w)
def PT.weak{X:Cx}{e:Expr}{t t':TT}(h:PT X e t)(k:∀σ H Q,t' σ H Q->t σ H Q):PT X e t':=λf8 s σ H Q I w=>h f8 s σ H Q I (k σ H Q w)
def PA.weak{X:Cx}{e:List Expr}{t t':TA}(h:PA X e t)(k:∀σ H Q,t' σ H Q->t σ H Q):PA X e t':=λpos f8 s σ H Q I w=>h pos f8 s σ H Q I (k σ H Q w)
def dV(i:Nat):DE:=λZ=>match Z[i]? with
 |some (some (.fz d))=>ab d
 |_=>af
def dC(d:D):DE:=λ_=>ab d
def d1(g:D->M D)(a:DE):DE:=λZ=>a Z>>=g
def d2(g:D->D->M D)(a b:DE):DE:=λZ=>a Z>>=λx=>b Z>>=λy=>g x y
def aN:DA:=λ_=>ab []
def aC(a:DE)(r:DA):DA:=λZ=>a Z>>=λx=>r Z>>=λxs=>ab (x::xs)
def dA(g:List D->M D)(a:DA):DE:=λZ=>a Z>>=g
def Aa:D->M Bool
 | .bl b=>ab b
 |_=>af
def bH(a:DE):DT:=λZ=>a Z>>=Aa
def ky(a b:DT):DT:=λZ=>a Z>>=λx=>if x then b Z else ab false
def lq(a b:DT):DT:=λZ=>a Z>>=λx=>if x then ab true else b Z
def cG(a:DT):DT:=λZ=>a Z>>=λx=>ab (!x)
def Az(c:DT)(a b:DE):DE:=λZ=>c Z>>=λx=>if x then a Z else b Z
def fF(a b:DE):DE:=λZ=>a Z>>=λx=>Aa x>>=λc=>if c then b Z else ab (.bl false)
def EC(a:DE):DE:=λZ=>a Z>>=λx=>Aa x>>=λc=>ab (.bl (!c))
section
variable{X:Cx}{Xw:Nat->Hp->Prop}{a b:Expr}{δa δb:DE}{pos:Pos}
def ae{i:Nat}{x:Str}(h:PE X (.Name x pos) (kq i)):PD X Xw (.Name x pos) (dV i):=PE.weak h λσ H Q ⟨F,Z,s,w⟩=>by
 unfold dV at w;split at w
 ·rename_i d e;obtain⟨v,h1,h2⟩:=s.den i _ e;exact⟨v,h1,WP.now w s.fh h2⟩
 ·exact w.elim
def gS{e:Expr}{d:D}{v:V}(h:PE X e (tC v))(hd:∀F,Den X.K F d v):PD X Xw e (dC d):=PE.weak h λσ H Q ⟨F,Z,s,w⟩=>WP.now w s.fh (hd F)
def av{i j}:PD X Xw (.Constant (.int i) j pos) (dC (.int i)):=gS GZ λ_=>rfl
def fP{i j}:PD X Xw (.Constant (.bool i) j pos) (dC (.bl i)):=gS E_ λ_=>rfl
def i7{j}:PD X Xw (.Constant .none j pos) (dC .non):=gS G0 λ_=>rfl
def gm{x j}(h:x.length<=lim:=by decide):PD X Xw (.Constant (.str x) j pos) (dC (.str x)):=gS G3 λ_=>⟨rfl,h⟩
def t7(K:Ph)(r:R2)(g:D->D->M D):Prop:=∀(Xw:Nat->Hp->Prop) (F H:Hp) (x y:V) (dx dy:D) (Q:VK),Same F H->Den K F dx x->Den K F dy y->WP K Xw F H (g dx dy) Q->r x y H Q
def tO{r:R2}{g:D->D->M D}(hg:t7 X.K r g):∀σ H Q,tD X.K Xw (d2 g δa δb) σ H Q->JV r (tD X.K Xw δa) (tD X.K Xw δb) σ H Q:=λσ H Q ⟨F,Z,s,w⟩=>by
 refine⟨F,Z,s,WP.mono (WP.bind w) λv H1 ⟨F1,d,e1,q1,w1⟩=>?_⟩;refine⟨F1,Z,s.ext e1,WP.mono (WP.bind w1) λu H2 ⟨F2,d',e2,q2,w2⟩=>?_⟩;exact hg Xw F2 H2 v u d d' Q e2.fh (Den.mono e2.ff q1) q2 w2
def ph{op:Operator}{r:R2}{g:D->D->M D}(ho:OpR X (RN op) r)(hg:t7 X.K r g)(ha:PD X Xw a δa)(hb:PD X Xw b δb):PD X Xw (.BinOp a op b pos) (d2 g δa δb):=
 PE.weak (Jw ho ha hb) (tO hg)
def xj{op:CmpOp}{r:R2}{g:D->D->M D}(ho:OpR X (Qj op) r)(hg:t7 X.K r g)(ha:PD X Xw a δa)(hb:PD X Xw b δb)(hm:Ql op b=false:=by first | exact Bt _ | rfl):PD X Xw (.Compare a [op] [b] pos) (d2 g δa δb):=
 PE.weak (D3 ho ha hb hm) (tO hg)
def eo{op:CmpOp}{r:R2}{g:D->D->M D}(ho:OpR X (Qj op) r)(hg:t7 X.K r g)(ha:PD X Xw a δa)(hb:PD X Xw b δb)(hm:Ql op b=false:=by first | exact Bt _ | rfl):lx X Xw (.Compare a [op] [b] pos) (bH (d2 g δa δb)):=
 PT.weak (Ec ho ha hb hm) λσ H Q ⟨F,Z,s,w⟩=>by
  refine tO hg σ H _ ⟨F,Z,s,WP.mono (WPB.bind w) λv H1 ⟨F1,d,e1,q1,w1⟩=>?_⟩;cases d with
  |bl k=>exact⟨k,q1,w1 _ _ (Ext.refl e1.fh)⟩
  |_=>exact w1.elim
def yG{r:R2}{g:D->D->M D}(hr:HP X r)(hg:t7 X.K r g)(ha:PD X Xw a δa)(hb:PD X Xw b δb)(hs:js b:=by intro _ _;rfl):PD X Xw (.Subscript a b pos) (d2 g δa δb):=
 PE.weak (Jv hr ha hb hs) (tO hg)
def ag:p8 X Xw [] aN:=PA.weak sU λσ H Q ⟨F,Z,s,w⟩=>w [] H F (Ext.refl s.fh) rfl
def aa{es:List Expr}{δs:DA}(ha:PD X Xw a δa)(hr:p8 X Xw es δs)(hs:PB (a::es) X.env=(false,eval a X.env)::PB es X.env:=by rfl):p8 X Xw (a::es) (aC δa δs):=
 PA.weak (sT ha hr hs) λσ H Q ⟨F,Z,s,w⟩=>by
  refine⟨F,Z,s,WP.mono (WPL.bind w) λv H1 ⟨F1,d,e1,q1,w1⟩=>?_⟩;refine⟨F1,Z,s.ext e1,WPL.mono (WPL.bindL w1) λvs H2 ⟨F2,ds,e2,q2,w2⟩=>?_⟩;exact w2 _ _ _ (Ext.refl e2.fh) (.cons (Den.mono e2.ff q1) q2)
def dF(ds:List D):M D:=if ds.length<=lim then ab (.tup ds) else af
def eF(ds:List D):M D:=if ds.length<=lim then ab (.lst ds) else af
def wR{ds:List D}{f:List D->D}{Q:VK}{F H:Hp}(w:WP X.K Xw F H (if ds.length<=lim then ab (f ds) else af) Q):ds.length<=lim/\WP X.K Xw F H (ab (f ds)) Q:=by
 split at w
 ·rename_i h;exact⟨h,w⟩
 ·exact w.elim
def iq{x1}{es:List Expr}{δs:DA}(h:p8 X Xw es δs):PD X Xw (.Tuple es x1 pos) (dA dF δs):=PE.weak (G4 h) λσ H Q ⟨F,Z,s,w⟩=>by
 refine⟨F,Z,s,WPL.mono (WP.bindL w) λvs H1 ⟨F1,ds,e1,q1,w1⟩=>?_⟩;obtain⟨hl,w1⟩:=wR (X:=X) w1;have hv:=q1.len;refine⟨by have:=dg;omega,λp hp=>WP.fin w1 (Ext.lay e1.fh hp) ⟨p,vs,rfl,aD,DenL.mono (Ext.lay e1.fh hp).ff q1,hl⟩⟩
def i6{es:List Expr}{δs:DA}(h:p8 X Xw es δs):PD X Xw (.List es pos) (dA eF δs):=PE.weak (xm h) λσ H Q ⟨F,Z,s,w⟩=>by
 refine⟨F,Z,s,WPL.mono (WP.bindL w) λvs H1 ⟨F1,ds,e1,q1,w1⟩=>?_⟩;obtain⟨hl,w1⟩:=wR (X:=X) w1;have hv:=q1.len;refine⟨by have:=dg;omega,λp hp=>WP.fin w1 (Ext.lay e1.fh hp) ⟨p,vs,rfl,aD,DenL.mono (Ext.lay e1.fh hp).ff q1,hl⟩⟩
end
def ItD(K:Ph)(F:Hp)(J:It)(ds:List D):Prop:=∀(F' H':Hp) (i:Nat),Same F F'->Same F' H'->
 (∀d,ds[i]? =some d->J.go i H'/\∀x H'',J.yld i H' x H''->∃F'',Ext F' H' F'' H''/\Den K F'' d x)/\(ds.length<=i->J.stop i H')
def ItD.mono{K:Ph}{F F1:Hp}{J:It}{ds:List D}(h:ItD K F J ds)(e:Same F F1):ItD K F1 J ds:=λF' H' i s1 s2=>h F' H' i (e.trans s1) s2
def WPI(K:Ph)(Xw:Nat->Hp->Prop)(F H:Hp)(m:M (List D))(R:It->Hp->Prop):Prop:=
 match m with
 |none=>False
 |some (.ok ds)=>∀J H' F',Ext F H F' H'->ItD K F' J ds->R J H'
 |some (.ex n)=>∀F' H',Ext F H F' H'->Xw n H'
def MX(K:Ph)(Xw:Nat->Hp->Prop)(δ:DA):TI:=λσ H R=>∃F Z,StE K F H σ Z/\WPI K Xw F H (δ Z) R
def vX(X:Cx)(Xw:Nat->Hp->Prop)(tg iter:Expr)(δ:DA):Prop:=PI X tg iter (MX X.K Xw δ)
def PI.weak{X:Cx}{tg e:Expr}{t t':TI}(h:PI X tg e t)(k:∀σ H Q,t' σ H Q->t σ H Q):PI X tg e t':=λf8 s σ H Q I w=>h f8 s σ H Q I (k σ H Q w)
def WPI.bind{K:Ph}{Xw:Nat->Hp->Prop}{F H:Hp}{m:M D}{k:D->M (List D)}{R:It->Hp->Prop}(h:WPI K Xw F H (m>>=k) R):
 WP K Xw F H m λv H1=>∃F1 d,Ext F H F1 H1/\Den K F1 d v/\WPI K Xw F1 H1 (k d) R:=by
 match m,h with
 |none,h=>exact h
 |some (.ok d),h=>
  refine λv H2 F2 e2 q=>⟨F2,d,e2,q,?_⟩
  have h:WPI K Xw F H (k d) R:=h;show WPI K Xw F2 H2 (k d) R
  match k d,h with
  |none,h=>exact h
  |some (.ok ds),h=>exact λJ H3 F3 e3 q3=>h J H3 F3 (e2.trans e3) q3
  |some (.ex n),h=>exact λF3 H3 e3=>h F3 H3 (e2.trans e3)
 |some (.ex n),h=>exact h
def WPI.bindL{K:Ph}{Xw:Nat->Hp->Prop}{F H:Hp}{m:M (List D)}{k:List D->M (List D)}{R:It->Hp->Prop}(h:WPI K Xw F H (m>>=k) R):
 WPL K Xw F H m λv H1=>∃F1 d,Ext F H F1 H1/\DenL K F1 d v/\WPI K Xw F1 H1 (k d) R:=by
 match m,h with
 |none,h=>exact h
 |some (.ok d),h=>
  refine λv H2 F2 e2 q=>⟨F2,d,e2,q,?_⟩
  have h:WPI K Xw F H (k d) R:=h;show WPI K Xw F2 H2 (k d) R
  match k d,h with
  |none,h=>exact h
  |some (.ok ds),h=>exact λJ H3 F3 e3 q3=>h J H3 F3 (e2.trans e3) q3
  |some (.ex n),h=>exact λF3 H3 e3=>h F3 H3 (e2.trans e3)
 |some (.ex n),h=>exact h
def lstM:D->M (List D)
 | .lst ds=>ab ds
 |_=>af
def LU:D->M (List D)
 | .tup ds=>ab ds
 |_=>af
def de(a:DE):DA:=λZ=>a Z>>=lstM
def uh(a:DE):DA:=λZ=>a Z>>=LU
def Ba{K:Ph}{F:Hp}{a:Addr}{vs:List V}{ds:List D}(h:SqL K F a vs)(hd:DenL K F ds vs):ItD K F (Ko K a) ds:=λF' H' i s1 s2=>by
 have hs:=Same.seq s2 (Same.seq s1 h);refine⟨λd e=>?_,λhl=>⟨vs,hs,by rw[<-hd.len];exact hl⟩⟩;obtain⟨v,e1,q⟩:=hd.get e;refine⟨⟨vs,v,hs,e1⟩,λx H'' y=>?_⟩;obtain⟨e2,y⟩:=y;subst e2;have:=y vs hs;rw[e1] at this;cases this;exact⟨F',Ext.refl s2,Den.mono s1 q⟩
def Du{K:Ph}{F:Hp}{a:Addr}{vs:List V}{ds:List D}(h:SqT K F a vs)(hd:DenL K F ds vs):ItD K F (Kp K a) ds:=λF' H' i s1 s2=>by
 have hs:=Same.tup s2 (Same.tup s1 h);refine⟨λd e=>?_,λhl=>⟨vs,hs,by rw[<-hd.len];exact hl⟩⟩;obtain⟨v,e1,q⟩:=hd.get e;refine⟨⟨vs,v,hs,e1⟩,λx H'' y=>?_⟩;obtain⟨e2,y⟩:=y;subst e2;have:=y vs hs;rw[e1] at this;cases this;exact⟨F',Ext.refl s2,Den.mono s1 q⟩
def gY(lo:Int)(n:Nat):List D:=(PY n).map λ(i:Nat)=>D.int (lo+(i:Int))
def qQ{K:Ph}{F:Hp}(lo:Int)(n:Nat):ItD K F (HN lo n) (gY lo n):=λF' H' i s1 s2=>by
 refine⟨λd e=>?_,λhl=>show n<=i by simpa[gY] using hl⟩;unfold gY at e;rw[Pq] at e;have hi:i<n:=by
  by_cases hi:i<n
  ·exact hi
  ·rw[Sm (by simpa using hi)] at e;cases e
 rw[RI hi] at e;cases e;refine⟨hi,λx H'' y=>?_⟩;obtain⟨e2,y⟩:=y;subst e2 y;exact⟨F',Ext.refl s2,rfl⟩
section
variable{X:Cx}{Xw:Nat->Hp->Prop}{tg l:Expr}{δ:DE}{pos:Pos}
def bE(h:PD X Xw l δ):vX X Xw tg l (de δ):=PI.weak (D8 h) λσ H R ⟨F,Z,s,w⟩=>by
 refine⟨F,Z,s,WP.mono (WPI.bind w) λv H1 ⟨F1,d,e1,q1,w1⟩=>?_⟩;cases d with
 |lst ds=>
  obtain⟨a,vs,h1,h2,h3,h4⟩:=q1;exact⟨a,h1,⟨vs,Same.seq e1.fh (SqL.of h2)⟩,w1 _ _ _ (Ext.refl e1.fh) (Ba (SqL.of h2) h3)⟩
 |_=>exact w1.elim
def s9(h:PD X Xw l δ):vX X Xw tg l (uh δ):=PI.weak (G9 h) λσ H R ⟨F,Z,s,w⟩=>by
 refine⟨F,Z,s,WP.mono (WPI.bind w) λv H1 ⟨F1,d,e1,q1,w1⟩=>?_⟩;cases d with
 |tup ds=>
  obtain⟨a,vs,h1,h2,h3,h4⟩:=q1;exact⟨a,h1,⟨vs,Same.tup e1.fh (SqT.of h2)⟩,w1 _ _ _ (Ext.refl e1.fh) (Du (SqT.of h2) h3)⟩
 |_=>exact w1.elim
def gc:List D->M (List D)
 |[.int j]=>if -4096<=j/\j<=4096 then ab (gY 0 j.toNat) else af
 |_=>af
def rE:List D->M (List D)
 |[.int i, .int j]=>if (-4096<=i/\i<=4096)/\(-4096<=j/\j<=4096) then ab (gY i (j - i).toNat) else af
 |_=>af
def DenL.one{K:Ph}{F:Hp}{d:D}{vs:List V}(h:DenL K F [d] vs):∃v,vs=[v]/\Den K F d v:=by
 obtain⟨v,r,h1,h2,h3⟩:=h;cases (show r=[] from h3);exact⟨v,h1,h2⟩
def DenL.two{K:Ph}{F:Hp}{d d':D}{vs:List V}(h:DenL K F [d,d'] vs):∃v v',vs=[v,v']/\Den K F d v/\Den K F d' v':=by
 obtain⟨v,r,h1,h2,h3⟩:=h;obtain⟨v',h4,h5⟩:=h3.one;subst h4;exact⟨v,v',h1,h2,h5⟩
def dh{a:Expr}{δs:DA}{p:Pos}(hg:Gl X "range")(hm:X.mg "range"=none)(ha:p8 X Xw [a] δs)(hs:PB [a] X.env=[(false,eval a X.env)]:=by rfl):vX X Xw tg (.Call (.Name "range" p) [a] [] pos) (λZ=>δs Z>>=gc):=
 PI.weak (zN hg hm ha hs) λσ H R ⟨F,Z,s,w⟩=>by
  refine⟨F,Z,s,WPL.mono (WPI.bindL w) λvs H1 ⟨F1,ds,e1,q1,w1⟩=>?_⟩;unfold gc at w1;split at w1
  ·rename_i j;obtain⟨v,h1,h2⟩:=q1.one;cases (show v=_ from h2);split at w1
   ·exact⟨j,h1,by omega,by omega,w1 _ _ _ (Ext.refl e1.fh) (qQ 0 _)⟩
   ·exact w1.elim
  ·exact w1.elim
def pk{a b:Expr}{δs:DA}{p:Pos}(hg:Gl X "range")(hm:X.mg "range"=none)(ha:p8 X Xw [a,b] δs)(hs:PB [a,b] X.env=[(false,eval a X.env),(false,eval b X.env)]:=by rfl)
 (HF:PB [b] X.env=[(false,eval b X.env)]:=by rfl):vX X Xw tg (.Call (.Name "range" p) [a,b] [] pos) (λZ=>δs Z>>=rE):=
 PI.weak (zO hg hm ha hs HF) λσ H R ⟨F,Z,s,w⟩=>by
  refine⟨F,Z,s,WPL.mono (WPI.bindL w) λvs H1 ⟨F1,ds,e1,q1,w1⟩=>?_⟩;unfold rE at w1;split at w1
  ·rename_i i j;obtain⟨v,v',h1,h2,h3⟩:=q1.two;cases (show v=_ from h2);cases (show v'=_ from h3);split at w1
   ·exact⟨i,j,h1,⟨by omega,by omega,by omega,by omega⟩,w1 _ _ _ (Ext.refl e1.fh) (qQ i _)⟩
   ·exact w1.elim
  ·exact w1.elim
end
def dj(tg N:List Str):List Str:=N.map λy=>if tg.contains y then y++(" ":Str) else y
def jK(X:Cx)(scope:Scope)(tn:List Str)(f8:List (Addr×Obj))(cl:List (Str×Addr))(C:Addr)(fp:List Addr)(u8:Pf)(H:Hp):Cx:=
 {X with N:=tn++dj tn X.N,s₀:=u8,H₀:=H,env:=compEnvC scope cl C X.env,outer:=X.stack,ex:=fp,fn:=λ_=>false,pn:=X.pn++f8,xe:=λ_ _=>False}
structure CompSc (X:Cx) (scope:Scope) (tn:List Str):Prop where
 kind:scope.kind= .function
 nocell:∀y∈scope.names,y.2≠ .cell
 names:∀y∈scope.names,y.2= .local->scope.names.lookup y.1=some .local
 frees:∀y∈scope.names,y.2= .free->X.env.kindOf y.1=some .cell\/X.env.kindOf y.1=some .free
 vis:∀p∈(dj tn X.N).zip X.N,scope.names.lookup p.1=none\/(p.1=p.2/\scope.names.lookup p.1=some .free)
def j1{env:Env}:∀(names:List (Str×R7)) (v2:List (Str×Addr)),(∀y∈names,y.2= .free->∃c,env.cells.lookup y.1=some c)->
 (∀x c,v2.lookup x=some c->env.cells.lookup x=some c)->
 ∃cl,(forIn names v2 (λ(x:Str×R7) (r:List (Str×Addr))=>do
   let __x:=x
   if (__x.2==Uz)=true then do let c<-cellOf env __x.1;pure (Qq ((__x.1,c)::r)) else pure (Qq r)):Sem (List (Str×Addr)))=pure cl/\
  (∀x c,cl.lookup x=some c->env.cells.lookup x=some c)/\(∀x c,v2.lookup x=some c->∃c',cl.lookup x=some c')/\(∀x,names.lookup x=some .free->∃c,cl.lookup x=some c)
 |[],v2,_,h2=>⟨v2,rfl,h2,λx c e=>⟨c,e⟩,λx e=>by simp at e⟩
 |(n,k)::r,v2,h1,h2=>by
  by_cases hk:k= .free
  ·subst hk;obtain⟨c,hc⟩:=h1 (n, .free) Pa rfl;obtain⟨cl,e,a1,a2,a3⟩:=j1 r ((n,c)::v2) (λy hy=>h1 y (O_ _ hy)) (λx c' q=>by
    rw[QG] at q;split at q
    ·rename_i hx;cases q;rw[show x=n from by simpa using hx];exact hc
    ·exact h2 x c' q)
   refine⟨cl,?_,a1,λx c' q=>?_,λx q=>?_⟩
   ·rw[Tf];have:cellOf env n=pure c:=by unfold cellOf;rw[hc]
    simp only[beq_self_eq_true,if_true,this,pure_bind];exact e
   ·by_cases hx:x=n
    ·subst hx;exact a2 x c (by simp[QG])
    ·exact a2 x c' (by rw[QG,show (x==n)=false from by simpa using hx];exact q)
   ·rw[QG] at q;split at q
    ·rename_i hx;exact a2 x c (by rw[QG,hx])
    ·exact a3 x q
  ·obtain⟨cl,e,a1,a2,a3⟩:=j1 r v2 (λy hy=>h1 y (O_ _ hy)) h2;refine⟨cl,?_,a1,a2,λx q=>?_⟩
   ·rw[Tf];have:((k==Uz)=true)=False:=by simpa using hk
    simp only[this,if_false,pure_bind];exact e
   ·rw[QG] at q;split at q
    ·cases q;exact UK rfl hk
    ·exact a3 x q
def nY{scope:Scope}{env:Env}(h:∀y∈scope.names,y.2= .free->∃c,env.cells.lookup y.1=some c):
 ∃cl,closureFor scope env=pure cl/\(∀x c,cl.lookup x=some c->env.cells.lookup x=some c)/\(∀x,scope.names.lookup x=some .free->∃c,cl.lookup x=some c):=by
 obtain⟨cl,e,a1,_,a3⟩:=j1 (env:=env) scope.names [] h (λx c q=>by simp at q);refine⟨cl,?_,a1,a3⟩;unfold closureFor;show (forIn scope.names [] _>>=λr=>pure r)=_;rw[bind_pure];exact e
def noex{α:Type}:M α->M α
 |some (.ok a)=>some (.ok a)
 |_=>none
def di(f:D->M (Option D)):List D->M (List D)
 |[]=>ab []
 |d::ds=>f d>>=λo=>di f ds>>=λr=>ab (match o with | some y=>y::r | none=>r)
def MY(n:Nat):D->M (List D):=λd=>match n,d with
 |0,d=>ab [d]
 |n, .tup ds=>if ds.length=n then ab ds else af
 |_,_=>af
def iE(n:Nat)(δt:DT)(δe:DE)(Z:aP):D->M (Option D):=λd=>
 MY n d>>=λts=>δt (ts.map (λt=>some (Sl.fz t))++Z)>>=λb=>if b then δe (ts.map (λt=>some (Sl.fz t))++Z)>>=λy=>ab (some y) else ab none
def bB(n:Nat)(δi:DA)(δt:DT)(δe:DE):DE:=λZ=>δi Z>>=λds=>noex (di (iE n δt δe Z) ds)>>=eF
def cH:DT:=λ_=>ab true
def fE(f:D->M (Option D))(d:D)(ds:List D):di f (d::ds)=(f d>>=λo=>di f ds>>=λr=>ab (match o with | some y=>y::r | none=>r)):=rfl
def wm{f:D->M (Option D)}{ds:List D}{i:Nat}{d:D}{ys R:List D}(hd:ds[i]? =some d)
 (h:di f ds=(di f (ds.drop i)>>=λr=>ab (ys++r)))(hR:di f ds=ab R):
 ∃o,f d=ab o/\di f ds=(di f (ds.drop (i+1))>>=λr=>ab ((match o with | some y=>ys++[y] | none=>ys)++r)):=by
 have e:ds.drop i=d::ds.drop (i+1):=by
  obtain⟨hi,e⟩:=Pe.mp hd;rw[RT hi,e]
 rw[e,fE] at h;have h':=h.symm.trans hR;obtain⟨r,h1,h2⟩:=c_ h';obtain⟨o,h3,h4⟩:=c_ h1;refine⟨o,h3,?_⟩;obtain⟨r',h5,h6⟩:=c_ h4;rw[h5,hR];rw[<-h2,<-er h6];show ab _=ab _;cases o with
 |none=>rfl
 |some y=>simp
def zc{prog:PX}{w:World}{A:Qm}{R:Result->Pf->Prop}{s:Pf}{UR target iter:Expr}{ifs:List Expr}{scope:Scope}{pos:Pos}{it v2:Value}{env:Env}(I:Nat->Pf->Prop)
 (turn:∀n s,I n s->wpAny (model prog w) A (Ub it) (λr v4=>match r with
  |none=>R (.ok .next) v4
  |some v=>wpAny (model prog w) A (SD target it v) (λ_ MU=>wpAny (model prog w) A (assign target env v) (λ_ u8=>
    wpAny (model prog w) A (forIn ifs true λc r=>if r=true then do let ok<-isTrue c env (eval c env);pure (Qq ok) else pure (Qq r)) (λok UP=>
     if ok=true then wpAny (model prog w) A (eval UR env) (λx UU=>
      wpAny (model prog w) A (call (.builtin "list.append") [v2,x]) (λ_ UZ=>∃m,m<n/\I m UZ) (Ul (model prog w) A env λe s'=>R (.error e) s') UU) (Ul (model prog w) A env λe s'=>R (.error e) s') UP
     else∃m,m<n/\I m UP) (Ul (model prog w) A env λe s'=>R (.error e) s') u8) (Ul (model prog w) A env λe s'=>R (.error e) s') MU) (Ul (model prog w) A env λe s'=>R (.error e) s') v4) (Ul (model prog w) A env λe s'=>R (.error e) s') s)
 (n:Nat) (h:I n s):
 TU (model prog w) A (.compLoop (.ListComp UR [⟨target,iter,ifs,0⟩] scope pos) 0 it v2 env) R s:=by
 refine codeAny_loop rfl I (λn s hI=>?_) n h;show wpAny _ A ((compTurn (.ListComp UR [⟨target,iter,ifs,0⟩] scope pos) 0 it v2 env).onRaise (λx=>do noteFrame x env;theTreesLotGoes x)) _ _ s;refine wpAny_noted ?_;rw[compTurn_list];refine Pc (wpAny_standAt (Pc (Qt (turn n s hI) (λr v4 UO=>?_) λ_ _ h'=>h')));cases r with
 |none=>exact Pu UO
 |some v=>
  refine Pc (Qt UO (λ_ MU UO=>?_) λ_ _ h'=>h');refine Pc (Qt UO (λ_ u8 US=>Pc (Qt US (λok UP UT=>?_) λ_ _ h'=>h')) λ_ _ h'=>h');cases ok with
  |false=>exact Pu ⟨rfl,UT⟩
  |true=>
   exact Pc (Pc (Qt UT (λx UU U0=>Pc (Qt U0 (λ_ UZ U1=>Pu (Pu ⟨rfl,U1⟩)) λ_ _ h'=>h')) λ_ _ h'=>h'))
def Ai(X:Cx)(tg:Expr)(n:Nat)(σ:St):Prop:=∀(f8:List (Addr×Obj)) (s:Pf) (σ':St) (F H:Hp) (d:D) (ts:List D) (v:V) (u:Value),Inv X f8 σ' H s->Same F H->σ'.drop (max n 1)=σ->RelV v u->Den X.K F d v->MY n d=ab ts->
 wpAny (model X.prog X.w) X.A (assign tg X.env u) (λ_ s'=>∃vs,Inv X f8 (vs.map some++σ) H s'/\DenL X.K F ts vs) X.xe s
def ly(X:Cx)(ifs:List Expr)(δt:DT):Prop:=∀(f8:List (Addr×Obj)) (s:Pf) (σ:St) (H:Hp) (Q:Bool->Hp->Prop),Inv X f8 σ H s->Kj X.K (λ_ _=>False) δt σ H Q->
 wpAny (model X.prog X.w) X.A (forIn ifs true λc r=>if r=true then do let ok<-isTrue c X.env (eval c X.env);pure (Qq ok) else pure (Qq r)) (TP X f8 σ Q) X.xe s
def eJ{X:Cx}:ly X [] cH:=λf8 s σ H Q I ⟨F,Z,S,w⟩=>wpAny_tests_nil ⟨H,I,w H F (Ext.refl S.fh)⟩
def pQ{X:Cx}{c:Expr}{δ:DT}(h:lx X (λ_ _=>False) c δ):ly X [c] δ:=λf8 s σ H Q I w=>wpAny_tests_one (h f8 s σ H Q I w)
def StE.cons{K:Ph}{F H:Hp}{σ:St}{Z:aP}{ts:List D}{vs:List V}(s:StE K F H σ Z)(h:DenL K F ts vs):StE K F H (vs.map some++σ) (ts.map (λt=>some (Sl.fz t))++Z):=by
 refine⟨s.fh,λi sl e=>?_⟩;have hl:=h.len;by_cases hi:i<ts.length
 ·rw[P6 (by simpa using hi),Pq] at e;cases q:ts[i]? with
  |none=>rw[q] at e;cases e
  |some t=>
   rw[q] at e;cases e;obtain⟨v,e1,e2⟩:=h.get q;exact⟨v,by rw[P6 (by simp;omega),Pq,e1];rfl,e2⟩
 ·rw[Qe (by simpa using hi)] at e;obtain⟨v,e1,e2⟩:=s.den _ _ e;refine⟨v,?_,e2⟩;rw[Qe (by simp;omega)];simpa[hl] using e1
def WPB.take{Xw:Nat->Hp->Prop}{F H:Hp}{b:Bool}:WPB Xw F H (ab b) λb' H'=>b'=b/\∃F',Ext F H F' H':=λH' F' e=>⟨rfl,F',e⟩
def WP.take{K:Ph}{Xw:Nat->Hp->Prop}{F H:Hp}{d:D}:WP K Xw F H (ab d) λv H'=>∃F',Ext F H F' H'/\Den K F' d v:=λv H' F' e q=>⟨F',e,q⟩
def lV(env:Env)(p:Str×R7):Str×R7:=if (p.2== .free&&env.scope.kind== .function&&env.kindOf p.1==some .cell) then(p.1, .cell) else(p.1,p.2)
def gp(scope:Scope)(env:Env):(relabel scope env).names=scope.names.map (lV env):=rfl
def B6(env:Env)(p:Str×R7):(lV env p).1=p.1:=by unfold lV;split<;>rfl
def h9(env:Env)(x:Str):∀ns:List (Str×R7),(ns.map (lV env)).lookup x=(ns.lookup x).map λk=>(lV env (x,k)).2
 |[]=>rfl
 |(m,k)::r=>by
  rw[Pj,QG,QG];have e:lV env (m,k)=(m,(lV env (m,k)).2):=Uq (B6 env (m,k)) rfl;rw[e]
  dsimp only
  by_cases hx:(x==m)=true
  ·have hm:x=m:=by simpa using hx
   subst hm;rw[hx];rfl
  ·have hx:(x==m)=false:=by simpa using hx
   rw[hx];exact h9 env x r
def tm{scope:Scope}{env:Env}{x:Str}(h:scope.names.lookup x=none):(relabel scope env).names.lookup x=none:=by
 rw[gp,h9,h];rfl
def tj{scope:Scope}{env:Env}{x:Str}(hc:∀y∈scope.names,y.2≠ .cell)(h:(relabel scope env).names.lookup x=some .cell\/(relabel scope env).names.lookup x=some .free):scope.names.lookup x=some .free:=by
 rw[gp,h9] at h;cases q:scope.names.lookup x with
 |none=>rw[q] at h;rcases h with h | h<;>cases h
 |some k=>
  rw[q] at h;have hk:k≠ .cell:=hc _ (QB q);have h:(lV env (x,k)).2= .cell\/(lV env (x,k)).2= .free:=by simpa using h
  by_cases hf:k= .free
  ·rw[hf]
  ·have:(lV env (x,k)).2=k:=by
    unfold lV;rw[UE];simp[hf]
   rw[this] at h;rcases h with h | h
   ·exact UK h hk
   ·exact UK h hf
def lW{scope:Scope}{env:Env}{x:Str}(h:scope.names.lookup x=some .free):¬(relabel scope env).names.lookup x=some .local:=by
 rw[gp,h9,h];intro z;have z:(lV env (x, .free)).2= .local:=by simpa using z
 unfold lV at z;split at z<;>cases z
structure BlockEnd (X:Cx) (f8:List (Addr×Obj)) (C:Addr) (H':Hp) (s1:Pf):Prop where
 ns:∃m,s1.heap.Ns C m
 free:H' C=none
 nl:C≠X.env.locals
 nw:X.s₀.heap.objs.size<=C
 nc:∀x c,X.env.cells.lookup x=some c->c≠C
 np:∀p∈X.pn++f8,p.1≠C
def ug{X:Cx}{Xw:Nat->Hp->Prop}{UR iter tg:Expr}{ifs:List Expr}{scope:Scope}{pos:Pos}{tn:List Str}{n:Nat}{δi:DA}{δt:DT}{δe:DE}{cl:List (Str×Addr)}{f8:List (Addr×Obj)}{s:Pf}{σ:St}{H F:Hp}{Z:aP}{Q:VK}{RR:Value->Addr->Result->Pf->Prop}
 (sc:CompSc X scope tn)(hn:tn.length=max n 1)(hc:X.calm=true)(hi:vX X Xw tg iter δi)
 (hg:∀f8 cl C fp u8 H σ,Ai (jK X scope tn f8 cl C fp u8 H) tg n σ)
 (ht:∀f8 cl C fp u8 H,ly (jK X scope tn f8 cl C fp u8 H) ifs δt)
 (he:∀f8 cl C fp u8 H,PD (jK X scope tn f8 cl C fp u8 H) (λ_ _=>False) UR δe)
 (I:Inv X f8 σ H s)(S:StE X.K F H σ Z)(w:WP X.K Xw F H (bB n δi δt δe Z) Q)
 (Ax:∀x c,cl.lookup x=some c->X.env.cells.lookup x=some c)(Hz:∀x,scope.names.lookup x=some .free->∃c,cl.lookup x=some c)
 (Nq:∀(s1:Pf) (C D:Addr) (H':Hp),Inv X f8 σ H' s1->Q (.ref D) H'->BlockEnd X f8 C H' s1->RR (.ref D) C (.ok .next) s1):
 wpAny (model X.prog X.w) X.A (eval iter X.env) (λx v4=>wpAny (model X.prog X.w) X.A (pyIter x) (λit u8=>wpAny (model X.prog X.w) X.A (newList []) (λv2 UP=>
  wpAny (model X.prog X.w) X.A (newFunctionEnv scope X.env.globals cl [] X.env.qual none .none (some X.env)) (λHV UU=>
   TU (model X.prog X.w) X.A (.compStart (.ListComp UR [⟨tg,iter,ifs,0⟩] scope pos) 0 it v2 {HV with scope:=relabel scope X.env}) (RR v2 HV.locals) UU) X.xe UP) X.xe u8) X.xe v4) X.xe s:=by
 refine b7 (hi f8 s σ H (λJ H2=>∃F2 ds,Ext F H F2 H2/\ItD X.K F2 J ds/\WP X.K Xw F2 H2 (noex (di (iE n δt δe Z) ds)>>=eF) Q) I ⟨F,Z,S,?_⟩) λxv v4 UO=>b7 UO λit u8 US=>?_
 ·unfold bB at w;rcases(δi Z).cs with hq | ⟨m,hq⟩ | ⟨ds,hq⟩
  ·rw[hq] at w;exact w.elim
  ·rw[hq] at w⊢;exact w
  ·rw[hq] at w⊢;exact λJ H' F' e q=>⟨F',ds,e,q,WP.ext e w⟩
 obtain⟨ia,fp,MZ,J,H2,rfl,I2,T,xC,f2,F2,ds,e2,MH,w2⟩:=US;obtain⟨R,hR,Mi,w2⟩:∃R,di (iE n δt δe Z) ds=ab R/\R.length<=lim/\WP X.K Xw F2 H2 (ab (.lst R)) Q:=by
  rcases(di (iE n δt δe Z) ds).cs with hq | ⟨m,hq⟩ | ⟨R,hq⟩
  ·rw[hq] at w2;exact w2.elim
  ·rw[hq] at w2;exact w2.elim
  ·rw[hq] at w2;obtain⟨h1,h2⟩:=wR (X:=X) (f:=D.lst) (show WP X.K Xw F2 H2 (eF R) Q from w2);exact⟨R,hq,h1,h2⟩
 refine Sf (wpAny_newFunctionEnv sc.nocell (by intro y hy;simp at hy) (λUO F9 Dh=>?_) sc.kind)
 dsimp only at F9 Dh⊢
 generalize KH:u8.heap.push {cls:= .type "list",dict:=none,data:= .seq ([]:List Value).toArray}=HL at F9 Dh⊢;have hC:HL.objs.size=u8.heap.objs.size+1:=by rw[<-KH,Heap.size_push]
 have zh:u8.heap.objs.size<HL.objs.size:=by rw[hC];exact Ta _
 have old:∀b o,u8.heap.get? b=some o->UO.get? b=some o:=λb o e=>Dh.extBut b o (P8 (Ra (Pw e) zh)) (Pk _ (KH▸Pk _ e));have AX:UO.get? u8.heap.objs.size=some {cls:= .type "list",data:= .seq ([]:List Value).toArray}:=Dh.extBut _ _ (P8 zh) (Pk _ (KH▸PU _ rfl));have nD:H2 u8.heap.objs.size=none:=I2.hok.fresh (Pm _);have nC:H2 HL.objs.size=none:=I2.hok.fresh (Qz zh);have gC:u8.heap.get? HL.objs.size=none:=T_ (Qz zh);have fl:∀b∈fp,b<u8.heap.objs.size:=λb hb=>by
  obtain⟨o,e,_⟩:=T.obj 0 _ xC b hb;exact Pw e
 generalize uE:jK X scope tn f8 cl HL.objs.size fp u8 H2=X';have MP:X'.Ok:=by
  subst uE;refine⟨I2.ok.mod,sc.kind,I2.ok.glob,I2.ok.blt,Qz zh,λx y c h1 h2=>I2.ok.inj x y c (Ax _ _ h1) (Ax _ _ h2),λx hx=>?_,λ_ _ h=>(by cases h),I2.ok.hd,I2.ok.frames, .inl rfl,
   λb hb=>⟨P8 (Ra (fl b hb) zh),λx c h=>(f2 b hb).2.2.2.2.1 x c (Ax _ _ h)⟩,I2.bs,PM I2.ok.bsz I2.sz,λb o e hb=>?_,λb hb z=>?_,I2.stack,I2.stkFree⟩
  ·have hx:(relabel scope X.env).names.lookup x=some .cell\/(relabel scope X.env).names.lookup x=some .free:=hx;exact Hz x (tj sc.nocell hx)
  ·rcases(f2 b hb).2.2.2.1 with z | z
   ·exact I2.ok.noex b o e z
   ·exact UK (PZ (Pw (I2.ok.bs b o e).1) z) (Qp _)
  ·rcases Pn.mp (I2.stkSub b z) with q | q
   ·exact(f2 b hb).2.1 q
   ·exact(f2 b hb).2.2.1 q
 have Lx:∀b o,H2 b=some o->b≠u8.heap.objs.size:=λb o e=>ba e nD;have FK:∀{H':Hp},(∀b∈fp,H' b=none)->∀b∈fp,p9 X' [] H' b:=λN6 b hb=>by
  subst uE;refine⟨N6 b hb,P8 (Ra (fl b hb) zh),λz=>MP.exfs b hb z, .inl hb,λx c h=>(f2 b hb).2.2.2.2.1 x c (Ax _ _ h),λp hp=>?_⟩;rw[Qx] at hp;exact(f2 b hb).2.2.2.2.2 p hp
 have I0:Inv X' [] (Qc (max n 1) none++σ) (upd H2 u8.heap.objs.size (.lst [])) {u8 with heap:=UO,toks:=u8.toks+([]:List (Str×Value)).length}:=by
  subst uE;have Ld:HOk X.prog X.w (upd H2 u8.heap.objs.size (.lst [])) UO:=I2.hok.laid old (Pm _) ⟨P2 _,[],_, .nil,AX⟩;refine⟨MP,rfl,I2.bare,Un.laid old (Pm _) nD,⟨_,F9,λi x v h1 h2 h3=>?_⟩,λx c h=>?_,?_,λx c h=>?_,λp hp=>?_,Ld,?_⟩
  ·by_cases hi:i<max n 1
   ·rw[P6 (by simpa using hi),QP,UD hi] at h2;cases h2
   ·have IB:tn.length<=i:=by omega
    have h1:(tn++dj tn X.N)[i]? =some x:=h1;rw[Qe IB] at h1;rw[Qe (by simpa using hi),Sk,<-hn] at h2;have hN:∃y,X.N[i - tn.length]? =some y/\(x,y)∈(dj tn X.N).zip X.N:=by
     have iO:=(Pe.mp h1).1;have II:i - tn.length<X.N.length:=by simpa[dj] using iO
     refine⟨X.N[i - tn.length],Pd II,?_⟩;refine List.mem_iff_getElem?.mpr ⟨i - tn.length,?_⟩;rw[List.getElem?_zip_eq_some];exact⟨h1,Pd II⟩
    obtain⟨y,hy,hm⟩:=hN;have hV:(relabel scope X.env).names.lookup x=some .local\/(relabel scope X.env).names.lookup x=some .cell\/(relabel scope X.env).names.lookup x=some .free:=h3;rcases sc.vis _ hm with De | ⟨Ll,EO⟩
    ·have De:scope.names.lookup x=none:=De;have:(relabel scope X.env).names.lookup x=none:=tm De;rw[this] at hV;rcases hV with z | z | z<;>cases z
    ·have Ll:x=y:=Ll;subst Ll;have EO:scope.names.lookup x=some .free:=EO;have hk:=sc.frees (x, .free) (QB EO) rfl;obtain⟨m,F4,FX⟩:=I2.loc;obtain⟨u,ru,lk⟩:=FX _ x v hy h2 (by rcases hk with z | z;exact .inr (.inl z);exact .inr (.inr z));refine⟨u,ru, .inr ⟨?_,?_⟩⟩
     ·rcases hV with z | z | z
      ·exact UK z (lW EO)
      ·exact .inl z
      ·exact .inr z
     ·rcases lk with⟨z,_⟩ | ⟨_,c,NA,FR⟩
      ·rcases hk with q | q
       ·rw[show X.env.kindOf x=some .local from z] at q;cases q
       ·rw[show X.env.kindOf x=some .local from z] at q;cases q
      ·obtain⟨c',AZ⟩:=Hz x EO;have:=Ax _ _ AZ;rw[NA] at this;cases this;obtain⟨o,ho,hd⟩:=FR;exact⟨c,AZ,o,old _ _ ho,hd⟩
  ·obtain⟨v,o,ho,hd⟩:=I2.cell x c (Ax _ _ h);exact⟨v,o,old _ _ ho,hd⟩
  ·show upd H2 u8.heap.objs.size (.lst []) HL.objs.size=none;rw[aw (Sr zh)];exact nC
  ·have Mm:=Ax _ _ h;obtain⟨v,q⟩:=I2.cell x c Mm;rw[aw (P8 q.lt)];exact I2.freeC x c Mm
  ·rw[Qx] at hp;obtain⟨e,nn,ne,nf,d⟩:=I2.pin p hp;have iO:=Pw e;refine⟨old _ _ e,by rw[aw (P8 iO)];exact nn,P8 (Ra iO zh),λz=>?_,d⟩;rcases Pn.mp (I2.stkSub p.1 z) with q | q
   ·exact ne q
   ·exact nf q
  ·show (Qc (max n 1) none++σ).length=(tn++dj tn X.N).length;rw[Pp,Pp,Sk,hn,show (dj tn X.N).length=X.N.length from by simp[dj],I2.len]
 have loop:∀UP:Pf,UP={u8 with heap:=UO,toks:=u8.toks+([]:List (Str×Value)).length}->
  TU (model X.prog X.w) X.A (.compLoop (.ListComp UR [⟨tg,iter,ifs,0⟩] scope pos) 0 (.ref ia) (.ref u8.heap.objs.size) (compEnvC scope cl HL.objs.size X.env))
   (RR (.ref u8.heap.objs.size) HL.objs.size) UP:=by
  intro UP Of;have AJ:X'.env=compEnvC scope cl HL.objs.size X.env:=by subst uE;rfl
  have hA:X'.A=X.A:=by subst uE;rfl
  have hP:X'.prog=X.prog:=by subst uE;rfl
  have hw:X'.w=X.w:=by subst uE;rfl
  have hK:X'.K=X.K:=by subst uE;rfl
  have OA:X'.xe=λ_ _=>False:=by subst uE;rfl
  have EM:X'.calm=true:=by subst uE;exact hc
  have NI:X'.fs=nz X.stack:=by subst uE;rfl
  have hex:X'.ex=fp:=by subst uE;rfl
  have Nl:X'.H₀=H2:=by subst uE;rfl
  have MA:X'.s₀=u8:=by subst uE;rfl
  have pass:∀{α:Type}{t:Sem α}{P:α->Pf->Prop}{E':Value->Pf->Prop}{s:Pf},wpAny (model X'.prog X'.w) X'.A t P X'.xe s->wpAny (model X.prog X.w) X.A t P E' s:=λ{α t P E' s} h=>by
   rw[hP,hw,hA,OA] at h;exact Qt h (λ_ _ q=>q) λ_ _ q=>q.elim
  refine zc (λm s'=>∃(i:Nat) (F' H':Hp) (vs:List V) (ys:List D) (σt:St),m=ds.length - i/\i<=ds.length/\σt.length=max n 1/\Inv X' [] (σt++σ) H' s'/\MZ i s'.heap/\(∀b∈fp,H' b=none)/\Ext F2 H2 F' H'/\
   H' u8.heap.objs.size=some (.lst vs)/\F' u8.heap.objs.size=none/\DenL X.K F' ys vs/\di (iE n δt δe Z) ds=(di (iE n δt δe Z) (ds.drop i)>>=λr=>ab (ys++r))) ?_ ds.length ?_
  ·rintro m s' ⟨i,F',H',vs,ys,σt,rfl,KY,OD,I',pO,L9,wy,hD,fD,Kd,heq⟩;by_cases iO:i<ds.length
   ·
    obtain⟨d,hd⟩:∃d,ds[i]? =some d:=⟨_,Pd iO⟩
    obtain⟨FW,wI⟩:=(MH F' H' i wy.ff wy.fh).1 d hd;obtain⟨o,ho,Iv⟩:=wm hd heq hR;have Lm:ys.length<=lim:=by
     rw[heq] at hR;obtain⟨r,_,hr⟩:=c_ hR;rw[<-er hr,Pp] at Mi;omega
    obtain⟨ts,Ol,ho⟩:=c_ ho;refine pass ?_;rw[hP,hw];refine b7 (T.item X' hP hw hK EM i [] s' (σt++σ) H' X'.xe I' (FK L9) pO FW) ?_;rintro r s1 ⟨u,rfl,h1⟩;refine pass ?_;rw[hP,hw];refine b7 h1 ?_;rintro _ s2 ⟨x,H3,I3,rx,y3,HH,J3⟩;obtain⟨F3,ye,q3⟩:=wI x H3 y3;have Mf:H3 u8.heap.objs.size=some (.lst vs):=ye.hh _ _ hD;have Nd:F3 u8.heap.objs.size=none:=by rw[ye.old hD (λ_ z=>nomatch z)];exact fD
    have I3':=I3.pinned (FK J3) (T.obj _ _ HH);have yq:∀{σ7:St}{H7:Hp}{s7:Pf},Inv X' ([]++pw fp s2.heap) σ7 H7 s7->MZ (i+1) s7.heap/\∀b∈fp,H7 b=none:=λ{σ7 H7 s7} I7=>
     ⟨T.keep _ _ _ HH λb hb o e=>(I7.pin (b,o) (P9 _ (P9 _ (ib hb e)))).1,λb hb=>by
      obtain⟨o,e,_⟩:=T.obj _ _ HH b hb;exact(I7.pin (b,o) (P9 _ (P9 _ (ib hb e)))).2.1⟩
    have NM:Ai X' tg n σ:=by subst uE;exact hg _ _ _ _ _ _ _
    have Og:ly X' ifs δt:=by subst uE;exact ht _ _ _ _ _ _
    have NF:PD X' (λ_ _=>False) UR δe:=by subst uE;exact he _ _ _ _ _ _
    refine pass ?_;rw[<-AJ];refine b7 (NM _ s2 (σt++σ) F3 H3 d ts x u I3' ye.fh (by rw[<-OD];simp) rx (by rw[hK];exact q3) Ol) ?_;rintro _ s4 ⟨vt,I4,dt⟩;rw[hK] at dt;have S4:StE X.K F3 H3 (vt.map some++σ) (ts.map (λt=>some (Sl.fz t))++Z):=StE.cons ((S.ext e2).ext (wy.trans ye)) dt;obtain⟨b,hb,ho⟩:=c_ ho;refine pass ?_
    try rw[<-AJ]
    refine b7 (Og _ s4 _ H3 (λb' H5=>b'=b/\∃F5,Ext F3 H3 F5 H5) I4 ⟨F3,_,by rw[hK];exact S4,by rw[hb];exact WPB.take⟩) ?_;rintro b' s5 ⟨H5,I5,rfl,F5,FH⟩;have KG:H5 u8.heap.objs.size=some (.lst vs):=FH.hh _ _ Mf;have L6:F5 u8.heap.objs.size=none:=by rw[FH.old Mf (λ_ z=>nomatch z)];exact Nd
    cases b' with
    |false=>
     rw[UE PH] at ho⊢;obtain rfl:=er ho;refine⟨ds.length - (i+1),by omega,i+1,F5,H5,vs,ys,vt.map some,rfl,iO,?_,I5.unpinned,(yq I5).1,(yq I5).2,wy.trans (ye.trans FH),KG,L6,DenL.mono (ye.trans FH).ff Kd,Iv⟩;have h1:=I5.len;have h2:=I3.len;rw[Pp] at h1 h2;omega
    |true=>
     rw[UD rfl] at ho⊢;obtain⟨yv,hy,ho⟩:=c_ ho;obtain rfl:=er ho;refine pass ?_
     try rw[<-AJ]
     refine b7 (NF _ s5 _ H5 (λv H6=>∃F6,Ext F5 H5 F6 H6/\Den X.K F6 yv v) I5 ⟨F5,_,by rw[hK];exact S4.ext FH,by rw[hy,hK];exact WP.take⟩) ?_;rintro xv s6 ⟨v,H6,I6,rv,F6,J2,qv⟩;have Nk:H6 u8.heap.objs.size=some (.lst vs):=J2.hh _ _ KG;have L7:F6 u8.heap.objs.size=none:=by rw[J2.old KG (λ_ z=>nomatch z)];exact L6
     have Ot:vs.length<Py:=by
      have:=Kd.len;have:=dg;omega
     refine pass ?_;refine b7 (qZ _ s6 _ H6 (.ref u8.heap.objs.size) [v] (.ref u8.heap.objs.size) [xv] (λ_ H7=>H7=upd H6 u8.heap.objs.size (.lst (vs++[v]))) I6 rfl (.cons rv .nil) ⟨_,vs,v,rfl,rfl,Nk,Ot,rfl⟩) ?_;rintro _ s7 ⟨_,H7,I7,_,rfl⟩;have Nc:Ext F2 H2 F6 (upd H6 u8.heap.objs.size (.lst (vs++[v]))):=by
      have e:=wy.trans (ye.trans (FH.trans J2));refine⟨λb u q=>?_,e.ff,λb u q=>?_,e.new⟩
      ·rw[aw (Lx b u q)];exact e.hh b u q
      ·rw[aw (λz=>by rw[z,L7] at q;cases q)];exact e.fh b u q
     refine⟨ds.length - (i+1),by omega,i+1,F6,_,vs++[v],ys++[yv],vt.map some,rfl,iO,?_,I7.unpinned,(yq I7).1,(yq I7).2,Nc,aD,L7,
      DenL.append (DenL.mono (ye.trans (FH.trans J2)).ff Kd) (.cons qv .nil),Iv⟩
     have h1:=I5.len;have h2:=I3.len;rw[Pp] at h1 h2;omega
   ·
    have hi:i=ds.length:=by omega
    subst hi;rw[Sa] at heq;have Nt:R=ys:=by
     rw[heq] at hR;have hR:ab (ys++[])=ab R:=hR;rw[<-er hR,Qx]
    subst Nt;refine pass ?_;rw[hP,hw];refine b7 (T.done X' hP hw hK EM ds.length [] s' (σt++σ) H' X'.xe I' (FK L9) pO ((MH F' H' ds.length wy.ff wy.fh).2 (Pm _))) ?_;rintro r s1 ⟨rfl,I1⟩;obtain⟨m,hm,_⟩:=I1.loc;rw[AJ] at hm;have Nj:H' HL.objs.size=none:=by
     have:=I1.free;rw[AJ] at this;exact this
    have u:=I1.base;rw[NI,hex,Nl,MA] at u;have Le:s1.os=u8.os:=by have:=I1.os;rw[MA] at this;exact this
    have IA:=I1.hok;rw[hP,hw] at IA;refine Nq s1 HL.objs.size u8.heap.objs.size H' (I2.call' (s':=s1) (ch:=fp) Le u IA I1.bare (λb hb=>⟨(f2 b hb).2.2.2.1,(f2 b hb).2.1,(f2 b hb).2.2.2.2.1,(f2 b hb).2.2.2.2.2⟩)) ?_
     ⟨⟨m,hm⟩,Nj,Sr (Ra I2.lt zh),PM I2.sz (Qz zh),λx c q z=>?_,λp hp z=>?_⟩
    rotate_left
    ·obtain⟨v,q'⟩:=I2.cell x c q;exact UK (Ra q'.lt zh) (by rw[z];exact Qp _)
    ·exact UK (Ra (Pw (I2.pin p hp).1) zh) (by rw[z];exact Qp _)
    refine WP.fin w2 (F':=upd F' u8.heap.objs.size (.lst vs)) ⟨wy.hh,λb u q=>?_,λb u q=>?_,λa ha=>?_⟩ ⟨_,vs,rfl,aD,DenL.mono (λb u q=>?_) Kd,Mi⟩
    ·rw[aw (λz=>by have:=wy.ff b u q;rw[z,fD] at this;cases this)];exact wy.ff b u q
    ·by_cases z:b=u8.heap.objs.size
     ·rw[z,aD] at q;rw[z,hD];exact q
     ·rw[aw z] at q;exact wy.fh b u q
    ·rcases wy.new a ha with q | q
     ·exact .inl (by rw[aw (λz=>ha (by rw[z];exact nD))];exact q)
     ·exact .inr q
    ·rw[aw (λz=>by rw[z,fD] at q;cases q)];exact q
  ·rw[Of];refine⟨0,F2,_,[],[],Qc (max n 1) none,by simp,P2 _,by simp,I0,T.keep _ _ _ xC (λb hb o e=>old b o e),λb hb=>?_,⟨λb u q=>?_,Same.refl _,λb u q=>?_,λ_ _=> .inl rfl⟩,aD,Same.free e2.fh nD,rfl,?_⟩
   ·rw[aw (P8 (fl b hb))];exact(f2 b hb).1
   ·rw[aw (Lx b u q)];exact q
   ·rw[aw (Lx b u (e2.fh b u q))];exact e2.fh b u q
   ·rw[List.drop_zero];rcases(di (iE n δt δe Z) ds).cs with hq | ⟨m,hq⟩ | ⟨R,hq⟩<;>rw[hq]<;>rfl
 exact codeAny_compStart_list (loop _ rfl) (T.self X.A 0 _ _ _ (T.keep _ _ _ xC (λb hb o e=>old b o e)) (loop _ rfl))
def Inv.block{X:Cx}{f8:List (Addr×Obj)}{σ:St}{H':Hp}{s1:Pf}{C:Addr}{h':Heap}(I:Inv X f8 σ H' s1)(b:BlockEnd X f8 C H' s1)(IV:Q_ C s1.heap h'):Inv X f8 σ H' {s1 with heap:=h'}:=
 I.turned (t':=s1.toks) (λa o ha e=>(IV.2 a ha).trans e) b.free b.nl (.inr b.nw) b.nc b.np
section
variable{X:Cx}{Xw:Nat->Hp->Prop}{UR iter tg:Expr}{ifs:List Expr}{scope:Scope}{pos:Pos}{tn:List Str}{n:Nat}{δi:DA}{δt:DT}{δe:DE}
def ek(sc:CompSc X scope tn)(hn:tn.length=max n 1)(hc:X.calm=true)(hi:vX X Xw tg iter δi)
 (hg:∀f8 cl C fp u8 H σ,Ai (jK X scope tn f8 cl C fp u8 H) tg n σ)
 (ht:∀f8 cl C fp u8 H,ly (jK X scope tn f8 cl C fp u8 H) ifs δt)
 (he:∀f8 cl C fp u8 H,PD (jK X scope tn f8 cl C fp u8 H) (λ_ _=>False) UR δe)
 (hs:∀x,Q4 iter X.env x=pure x:=by intro _;rfl):
 PD X Xw (.ListComp UR [⟨tg,iter,ifs,0⟩] scope pos) (bB n δi δt δe):=by
 intro f8 s σ H Q I ⟨F,Z,S,w⟩;obtain⟨cl,A0,Ax,Hz⟩:=nY (scope:=scope) (env:=X.env) λy hy hf=>I.ok.has y.1 (sc.frees y hy hf);rw[eval_ListComp];refine Ua (use:=none) rfl hs A0 sc.kind sc.names (ug (RR:=λv2 C=>compPost (model X.prog X.w) X.A X.xe none (EP X f8 σ Q) v2 C) sc hn hc hi hg ht he I S w Ax Hz λs1 C D H' I1 q b=>?_);obtain⟨m,hm⟩:=b.ns;exact⟨m,hm,λh' IV=>⟨.ref D,H',Inv.block I1 b IV,rfl,q⟩⟩
end
inductive Out where
 |nx (Z:aP) | rt (d:D)
abbrev DS:=aP->M Out
structure StOk (K:Ph) (t0 H₀ F H:Hp) (σ:St) (Z:aP):Prop where
 ext:Ext t0 H₀ F H
 st:StE K F H σ Z
 len:Z.length=σ.length
 own:∀(i:Nat) (c:C) (a:Addr),Z[i]? =some (some (.ow c))->σ[i]? =some (some (.ref a))->H₀ a=none
 sep:∀(i j:Nat) (c c':C) (a:Addr),Z[i]? =some (some (.ow c))->Z[j]? =some (some (.ow c'))->σ[i]? =some (some (.ref a))->σ[j]? =some (some (.ref a))->i=j
def WPS(K:Ph)(Xw:Nat->Hp->Prop)(t0 H₀:Hp)(m:M Out)(Dn:Ends):Prop:=
 match m with
 |none=>False
 |some (.ok (.nx Z))=>∀σ F H,StOk K t0 H₀ F H σ Z->Dn.nx σ H
 |some (.ok (.rt d))=>∀v F H,Ext t0 H₀ F H->Den K F d v->Dn.rt v H
 |some (.ex n)=>∀F H,Ext t0 H₀ F H->Xw n H
def tS(K:Ph)(Xw:Nat->Hp->Prop)(t0 H₀:Hp)(τ:DS):TS:=λDn σ H=>∃F Z,StOk K t0 H₀ F H σ Z/\WPS K Xw t0 H₀ (τ Z) Dn
def ku(X:Cx)(Xw:Nat->Hp->Prop)(st:Stmt)(τ:DS):Prop:=∀t0 H₀,PS X st (tS X.K Xw t0 H₀ τ)
def PSDs(X:Cx)(Xw:Nat->Hp->Prop)(st:List Stmt)(τ:DS):Prop:=∀t0 H₀,PSs X st (tS X.K Xw t0 H₀ τ)
def PS.weak{X:Cx}{st:Stmt}{t t':TS}(h:PS X st t)(k:∀D σ H,t' D σ H->t D σ H):PS X st t':=λf8 s σ H D I w=>h f8 s σ H D I (k D σ H w)
def PSs.weak{X:Cx}{st:List Stmt}{t t':TS}(h:PSs X st t)(k:∀D σ H,t' D σ H->t D σ H):PSs X st t':=λf8 s σ H D I w=>h f8 s σ H D I (k D σ H w)
section
variable{K:Ph}{t0 H₀ F H F' H':Hp}{σ:St}{Z:aP}
def StOk.ext'(s:StOk K t0 H₀ F H σ Z)(e:Ext F H F' H'):StOk K t0 H₀ F' H' σ Z:=⟨s.ext.trans e,s.st.ext e,s.len,s.own,s.sep⟩
def StOk.set(s:StOk K t0 H₀ F H σ Z){i:Nat}{d:D}{v:V}(h:Den K F d v):StOk K t0 H₀ F H (σ.set i (some v)) (Z.set i (some (.fz d))):=by
 have hl:=s.len;have get:∀(j:Nat) (sl:Sl),(Z.set i (some (.fz d)))[j]? =some (some sl)->(j=i/\i<Z.length/\sl= .fz d)\/(j≠i/\Z[j]? =some (some sl)):=λj sl e=>by
  by_cases hj:j=i
  ·subst hj;have hi:j<Z.length:=by
    have:=(Pe.mp e).1;simpa using this
   rw[Pt hi] at e;cases e;exact .inl ⟨rfl,hi,rfl⟩
  ·rw[Pg (Qd hj)] at e;exact .inr ⟨hj,e⟩
 refine⟨s.ext,⟨s.st.fh,λj sl e=>?_⟩,by simp[hl],λj c a e e'=>?_,λj k c c' a e1 e2 e3 e4=>?_⟩
 ·rcases get j sl e with⟨rfl,hi,rfl⟩ | ⟨hj,e⟩
  ·exact⟨v,by rw[Pt (by omega)],h⟩
  ·obtain⟨u,h1,h2⟩:=s.st.den j sl e;exact⟨u,by rw[Pg (Qd hj)];exact h1,h2⟩
 ·rcases get j _ e with⟨_,_,z⟩ | ⟨hj,e⟩
  ·cases z
  ·rw[Pg (Qd hj)] at e';exact s.own j c a e e'
 ·rcases get j _ e1 with⟨_,_,z⟩ | ⟨hj,e1⟩
  ·cases z
  ·rcases get k _ e2 with⟨_,_,z⟩ | ⟨hk,e2⟩
   ·cases z
   ·rw[Pg (Qd hj)] at e3;rw[Pg (Qd hk)] at e4;exact s.sep j k c c' a e1 e2 e3 e4
def StOk.setNew(s:StOk K t0 H₀ F H σ Z){i:Nat}{a:Addr}{o:HO}{c₀:C}(n:H a=none)(h:DenC K F c₀ o):
 StOk K t0 H₀ F (upd H a o) (σ.set i (some (.ref a))) (Z.set i (some (.ow c₀))):=by
 have hle:=s.len;have e0:=Ext.free (o:=o) s.st.fh n;have nF:F a=none:=Same.free s.st.fh n;have get:∀(j:Nat) (sl:Sl),(Z.set i (some (.ow c₀)))[j]? =some (some sl)->(j=i/\i<Z.length/\sl= .ow c₀)\/(j≠i/\Z[j]? =some (some sl)):=λj sl e=>by
  by_cases hj:j=i
  ·subst hj;have hi:j<Z.length:=by
    have:=(Pe.mp e).1;simpa using this
   rw[Pt hi] at e;cases e;exact .inl ⟨rfl,hi,rfl⟩
  ·rw[Pg (Qd hj)] at e;exact .inr ⟨hj,e⟩
 have old:∀(j:Nat) (c:C) (b:Addr),Z[j]? =some (some (.ow c))->σ[j]? =some (some (.ref b))->b≠a:=λj c b e e' z=>by
  obtain⟨u,h1,b',o,h2,h3,_⟩:=s.st.den j _ e;rw[h1] at e';cases e';cases h2;rw[z,n] at h3;cases h3
 refine⟨s.ext.trans e0,⟨e0.fh,λj sl e=>?_⟩,by simp[hle],λj c b e e'=>?_,λj k c c' b e1 e2 e3 e4=>?_⟩
 ·rcases get j sl e with⟨rfl,hi,rfl⟩ | ⟨hj,e⟩
  ·exact⟨.ref a,by rw[Pt (by omega)],a,_,rfl,aD,nF,h⟩
  ·obtain⟨u,h1,h2⟩:=s.st.den j sl e;exact⟨u,by rw[Pg (Qd hj)];exact h1,h2.ext e0⟩
 ·rcases get j _ e with⟨rfl,hi,_⟩ | ⟨hj,e⟩
  ·rw[Pt (by omega)] at e';cases e';exact Same.free s.ext.hh n
  ·rw[Pg (Qd hj)] at e';exact s.own j c b e e'
 ·rcases get j _ e1 with⟨rfl,hi,_⟩ | ⟨hj,e1⟩
  ·rw[Pt (by omega)] at e3;cases e3;rcases get k _ e2 with⟨rfl,_,_⟩ | ⟨hk,e2⟩
   ·rfl
   ·rw[Pg (Qd hk)] at e4;exact UK rfl (old k c' a e2 e4)
  ·rcases get k _ e2 with⟨K5,hi,_⟩ | ⟨hk,e2⟩
   ·rw[K5,Pt (by omega)] at e4;cases e4;rw[Pg (Qd hj)] at e3;exact UK rfl (old j c a (by assumption) e3)
   ·rw[Pg (Qd hj)] at e3;rw[Pg (Qd hk)] at e4;exact s.sep j k c c' b e1 e2 e3 e4
def StOk.chg(s:StOk K t0 H₀ F H σ Z){i:Nat}{a:Addr}{c c₀:C}{UW:HO}(hi:Z[i]? =some (some (.ow c)))(ha:σ[i]? =some (some (.ref a)))(h:DenC K F c₀ UW):
 StOk K t0 H₀ F (upd H a UW) σ (Z.set i (some (.ow c₀))):=by
 have hle:=s.len;have h0:=s.own i c a hi ha;obtain⟨u,q1,a',o,q2,q3,q4,q5⟩:=s.st.den i _ hi;rw[ha] at q1;cases q1;cases q2;have KW:i<Z.length:=(Pe.mp hi).1;have get:∀(j:Nat) (sl:Sl),(Z.set i (some (.ow c₀)))[j]? =some (some sl)->(j=i/\sl= .ow c₀)\/(j≠i/\Z[j]? =some (some sl)):=λj sl e=>by
  by_cases hj:j=i
  ·subst hj;rw[Pt KW] at e;cases e;exact .inl ⟨rfl,rfl⟩
  ·rw[Pg (Qd hj)] at e;exact .inr ⟨hj,e⟩
 have fh:Same F (upd H a UW):=λb o e=>by
  rw[aw (λz=>by rw[z,q4] at e;cases e)];exact s.st.fh b o e
 refine⟨⟨λb o e=>?_,s.ext.ff,fh,s.ext.new⟩,⟨fh,λj sl e=>?_⟩,by simp[hle],λj c' b e e'=>?_,λj k c1 c2 b e1 e2 e3 e4=>?_⟩
 ·rw[aw (λz=>by rw[z,h0] at e;cases e)];exact s.ext.hh b o e
 ·rcases get j sl e with⟨rfl,rfl⟩ | ⟨hj,e⟩
  ·exact⟨.ref a,ha,a,_,rfl,aD,q4,h⟩
  ·obtain⟨u,h1,h2⟩:=s.st.den j sl e;refine⟨u,h1,?_⟩;cases sl with
   |fz d=>exact h2
   |ow c'=>
    obtain⟨b,o',r1,r2,r3,r4⟩:=h2;refine⟨b,o',r1,?_,r3,r4⟩;rw[aw (λz=>hj (s.sep j i c' c a e hi (by rw[h1,r1,z]) ha))];exact r2
 ·rcases get j _ e with⟨rfl,_⟩ | ⟨hj,e⟩
  ·rw[ha] at e';cases e';exact h0
  ·exact s.own j c' b e e'
 ·have k1:∃c,Z[j]? =some (some (.ow c)):=by
   rcases get j _ e1 with⟨rfl,_⟩ | ⟨_,e⟩
   ·exact⟨c,hi⟩
   ·exact⟨_,e⟩
  have k2:∃c,Z[k]? =some (some (.ow c)):=by
   rcases get k _ e2 with⟨rfl,_⟩ | ⟨_,e⟩
   ·exact⟨c,hi⟩
   ·exact⟨_,e⟩
  obtain⟨_,k1⟩:=k1;obtain⟨_,k2⟩:=k2;exact s.sep j k _ _ b k1 k2 e3 e4
def frz(i:Nat)(Z:aP):aP:=match Z[i]? with
 |some (some (.ow c))=>Z.set i (some (.fz c.d))
 |_=>Z
def StOk.frz(s:StOk K t0 H₀ F H σ Z)(i:Nat)(obj:Addr->Obj):(∃a o,H a=some o/\DenC K F (Z[i]?.elim (.lst []) λx=>x.elim (.lst []) λy=>match y with | .ow c=>c | _=> .lst []) o/\σ[i]? =some (some (.ref a))/\StOk K t0 H₀ (upd F a (m8 (obj a) o)) (upd H a (m8 (obj a) o)) σ (frz i Z))\/frz i Z=Z:=by
 unfold L3.frz;split
 ·rename_i c₀ hi;have hle:=s.len;obtain⟨u,ha,a,o,rfl,q3,q4,FT⟩:=s.st.den i _ hi;refine .inl ⟨a,o,q3,by rw[hi];exact FT,ha,?_⟩;have h0:=s.own i _ a hi ha;have KW:i<Z.length:=(Pe.mp hi).1;have ff:Same F (upd F a (m8 (obj a) o)):=λb o e=>by rw[aw (λz=>by rw[z,q4] at e;cases e)];exact e
  have fh:Same (upd F a (m8 (obj a) o)) (upd H a (m8 (obj a) o)):=λb o e=>by
   by_cases z:b=a
   ·rw[z,aD] at e⊢;exact e
   ·rw[aw z] at e⊢;exact s.st.fh b o e
  have get:∀(j:Nat) (sl:Sl),(Z.set i (some (.fz c₀.d)))[j]? =some (some sl)->(j=i/\sl= .fz c₀.d)\/(j≠i/\Z[j]? =some (some sl)):=λj sl e=>by
   by_cases hj:j=i
   ·subst hj;rw[Pt KW] at e;cases e;exact .inl ⟨rfl,rfl⟩
   ·rw[Pg (Qd hj)] at e;exact .inr ⟨hj,e⟩
  refine⟨⟨λb u q=>?_,s.ext.ff.trans ff,fh,λb hb=>?_⟩,⟨fh,λj sl e=>?_⟩,by simp[hle],λj c' b e e'=>?_,λj k c1 c2 b e1 e2 e3 e4=>?_⟩
  ·rw[aw (λz=>by rw[z,h0] at q;cases q)];exact s.ext.hh b u q
  ·rcases s.ext.new b hb with q | q
   ·exact .inl (by rw[aw (λz=>hb (by rw[z];exact h0))];exact q)
   ·exact .inr q
  ·rcases get j sl e with⟨rfl,rfl⟩ | ⟨hj,e⟩
   ·exact⟨.ref a,ha,DenC.den FT ff aD⟩
   ·obtain⟨u,h1,h2⟩:=s.st.den j sl e;refine⟨u,h1,?_⟩;cases sl with
    |fz d=>exact Den.mono ff h2
    |ow c'=>
     obtain⟨b,o',r1,r2,r3,r4⟩:=h2;have g6:b≠a:=λz=>hj (s.sep j i c' _ a e hi (by rw[h1,r1,z]) ha);exact⟨b,o',r1,by rw[aw g6];exact r2,by rw[aw g6];exact r3,DenC.mono ff r4⟩
  ·rcases get j _ e with⟨_,z⟩ | ⟨hj,e⟩
   ·cases z
   ·exact s.own j c' b e e'
  ·rcases get j _ e1 with⟨_,z⟩ | ⟨_,e1⟩
   ·cases z
   ·rcases get k _ e2 with⟨_,z⟩ | ⟨_,e2⟩
    ·cases z
    ·exact s.sep j k _ _ b e1 e2 e3 e4
 ·exact .inr rfl
end
def join(F H:Hp):Hp:=λa=>match F a with
 |some o=>some o
 |none=>H a
def StOk.rebase{K:Ph}{t0 H₀ F H:Hp}{σ:St}{Z:aP}(s:StOk K t0 H₀ F H σ Z):StOk K F (join F H₀) F H σ Z/\∀F' H',Ext F (join F H₀) F' H'->Ext t0 H₀ F' H':=by
 have hj:Same (join F H₀) H:=λb o e=>by
  unfold join at e;cases q:F b with
  |some u=>rw[q] at e;cases e;exact s.st.fh b _ q
  |none=>rw[q] at e;exact s.ext.hh b o e
 have h0:Same H₀ (join F H₀):=λb o e=>by
  unfold join;cases q:F b with
  |some u=>
   have h1:=s.st.fh b u q;rw[s.ext.hh b o e] at h1;exact h1.symm
  |none=>exact e
 refine⟨⟨⟨hj,Same.refl _,s.st.fh,λ_ _=> .inl rfl⟩,s.st,s.len,λi c a e e'=>?_,s.sep⟩,λF' H' x=>⟨h0.trans x.hh,s.ext.ff.trans x.ff,x.fh,λa ha=>?_⟩⟩
 ·have h1:=s.own i c a e e';obtain⟨v,q1,a',o,q2,q3,q4,_⟩:=s.st.den i _ e;rw[e'] at q1;cases q1;cases q2;unfold join;rw[q4];exact h1
 ·have:join F H₀ a≠none:=by
   cases q:H₀ a with
   |none=>exact UK q ha
   |some o=>rw[h0 a o q];exact λz=>nomatch z
  rcases s.ext.new a ha with p | p
  ·rcases x.new a this with q | ⟨ts,q⟩
   ·exact .inl (q.trans p)
   ·cases z:H₀ a with
    |none=>exact UK z ha
    |some o=>
     rw[h0 a o z] at q;exact .inr ⟨ts,q⟩
  ·exact .inr p
def StOk.unbase{K:Ph}{t0 H₀ F U F' H':Hp}{σ:St}{Z:aP}(k:∀F' H',Ext F U F' H'->Ext t0 H₀ F' H')(s:StOk K F U F' H' σ Z)(h:Same H₀ U):StOk K t0 H₀ F' H' σ Z:=
 ⟨k _ _ s.ext,s.st,s.len,λi c a e e'=>Same.free h (s.own i c a e e'),s.sep⟩
def zp{K:Ph}{t0 H₀ F H:Hp}{σ:St}{Z:aP}(s:StOk K t0 H₀ F H σ Z):Same H₀ (join F H₀):=λb o e=>by
 unfold join;cases q:F b with
 |some u=>
  have h1:=s.st.fh b u q;rw[s.ext.hh b o e] at h1;exact h1.symm
 |none=>exact e
def Inv.refrz{X:Cx}{f8:List (Addr×Obj)}{σ:St}{H:Hp}{s:Pf}{a:Addr}{o o':HO}(I:Inv X f8 σ H s)(e:H a=some o)
 (ho:o'=o\/∃u,o'= .frz ((s.heap.get? a).getD {cls:= .none,data:= .fields #[]}) u/\((∃k,o= .dT k/\u= .dT k)\/∃k,o= .dK k/\u= .dK k)):Inv X f8 σ (upd H a o') s:=by
 rcases ho with rfl | ⟨u,rfl,hu⟩
 ·have:upd H a o'=H:=by
   funext b;by_cases z:b=a
   ·rw[z,aD,e]
   ·rw[aw z]
  rw[this];exact I
 have N8:o=u:=by rcases hu with⟨k,h1,h2⟩ | ⟨k,h1,h2⟩<;>rw[h1,h2]
 subst N8;have nt:∀ts,o≠ .tup ts:=λts z=>by rcases hu with⟨k,h1,_⟩ | ⟨k,h1,_⟩<;>rw[h1] at z<;>cases z
 have nf:∀ob v,o≠ .frz ob v:=λob v z=>by rcases hu with⟨k,h1,_⟩ | ⟨k,h1,_⟩<;>rw[h1] at z<;>cases z
 have nb:∀p,o≠ .tbl p:=λp z=>by rcases hu with⟨k,h1,_⟩ | ⟨k,h1,_⟩<;>rw[h1] at z<;>cases z
 have no:∀p,o≠ .own p:=λp z=>by rcases hu with⟨k,h1,_⟩ | ⟨k,h1,_⟩<;>rw[h1] at z<;>cases z
 have ne:∀b,H b=none->b≠a:=λb hb z=>by rw[z,e] at hb;cases hb
 have hk:=I.hok a o e;have iO:=hk.lt;obtain⟨ob,Ga⟩:∃ob,s.heap.get? a=some ob:=by
  rcases hu with⟨k,h1,_⟩ | ⟨k,h1,_⟩
  ·subst h1;obtain⟨_,_,_,_,ob,_,_,q,_⟩:=hk;exact⟨ob,q⟩
  ·subst h1;obtain⟨_,_,_,_,ob,_,_,q,_⟩:=hk;exact⟨ob,q⟩
 rw[Ga];refine⟨I.ok,I.os,I.bare,⟨I.base.keep,I.base.slot,λb q h1 h2 h3=>?_,I.base.there,λb xs q=>?_,λb q1 v q=>?_,λb ps q=>?_⟩,I.loc,I.cell,?_,λx c q=>?_,λp hp=>?_,λb v q=>?_,I.len⟩
 ·have:=I.base.free b q h1 h2 h3;rw[aw (ne b this)];exact this
 ·have:=I.base.tups b xs q;rw[aw (λz=>by rw[z,e] at this;exact nt xs (Pz this))];exact this
 ·have:=I.base.frzs b q1 v q;rw[aw (λz=>by rw[z,e] at this;exact nf _ _ (Pz this))];exact this
 ·obtain⟨m,this⟩:=I.base.tbls b ps q;exact⟨m,by rw[aw (λz=>by rw[z,e] at this;exact nb _ (Pz this))];exact this⟩
 ·rw[aw (ne _ I.free)];exact I.free
 ·rw[aw (ne _ (I.freeC x c q))];exact I.freeC x c q
 ·obtain⟨h1,h2,h3⟩:=I.pin p hp;exact⟨h1,by rw[aw (ne _ h2)];exact h2,h3⟩
 ·have st:∀{c:Addr}{v:HO},ObjOk X.prog X.w H s.heap c v->ObjOk X.prog X.w (upd H a (.frz ob o)) s.heap c v:=λ{c v} k=>k.stay (λ_ _ _ q=>q)
   (λc' q=>by rw[aw (λz=>by rw[z,e] at q;exact no _ (Pz q))];exact q) λc' xs q=>by rw[aw (λz=>by rw[z,e] at q;exact nt _ (Pz q))];exact q
  by_cases z:b=a
  ·subst z;rw[show (some ob).getD _=ob from rfl,aD] at q;cases q;exact⟨Ga,st hk⟩
  ·rw[aw z] at q;exact st (I.hok b v q)
def ay(a b:DS):DS:=λZ=>a Z>>=λo=>match o with | .nx Z'=>b Z' | .rt d=>ab (.rt d)
def bY:DS:=λZ=>ab (.nx Z)
def aX(δ:DE):DS:=λZ=>δ Z>>=λd=>ab (.rt d)
def fQ(δ:DE):DS:=λZ=>δ Z>>=λ_=>ab (.nx Z)
def bg(i:Nat)(δ:DE):DS:=λZ=>δ Z>>=λd=>ab (.nx (Z.set i (some (.fz d))))
def fb(c:DT)(a b:DS):DS:=λZ=>c Z>>=λx=>if x then a Z else b Z
def t6(i:Nat)(a:DS):DS:=λZ=>a (frz i Z)
def tB(i:Nat):DS:=λZ=>ab (.nx (Z.set i (some (.ow (.lst [])))))
def zK(Z:aP)(i:Nat):Option (List D):=match Z[i]? with
 |some (some (.ow (.lst ds)))=>some ds
 |_=>none
def rb{Z:aP}{i:Nat}{ds:List D}(h:zK Z i=some ds):Z[i]? =some (some (.ow (.lst ds))):=by
 unfold zK at h;split at h
 ·rename_i ds' e;cases h;exact e
 ·cases h
def jb(i:Nat)(δ:DE):DS:=λZ=>match zK Z i with
 |some ds=>δ Z>>=λd=>if ds.length<lim then ab (.nx (Z.set i (some (.ow (.lst (ds++[d])))))) else af
 |none=>af
def B_(i:Nat)(δ:DE):DS:=λZ=>match zK Z i with
 |some ds=>δ Z>>=λd=>lstM d>>=λes=>if ds.length+es.length<=lim then ab (.nx (Z.set i (some (.ow (.lst (ds++es)))))) else af
 |none=>af
def forL(put:D->aP->Option aP)(body:DS):List D->DS
 |[],Z=>ab (.nx Z)
 |d::ds,Z=>(match put d Z with | none=>af | some Z1=>body Z1>>=λo=>match o with | .nx Z2=>forL put body ds Z2 | .rt v=>ab (.rt v))
def putN(i:Nat):D->aP->Option aP:=λd Z=>some (Z.set i (some (.fz d)))
def dq(put:D->aP->Option aP)(δi:DA)(body:DS):DS:=λZ=>δi Z>>=λds=>forL put body ds Z
section
variable{X:Cx}{Xw:Nat->Hp->Prop}{t0 H₀:Hp}{st:Stmt}{T0:List Stmt}{τ τ':DS}{e:Expr}{δ:DE}{pos:Pos}
def a6:PSDs X Xw [] bY:=λt0 H₀=>PSs.weak yL λD σ H ⟨F,Z,s,w⟩=>w σ F H s
def ah(h1:ku X Xw st τ)(h2:PSDs X Xw T0 τ'):PSDs X Xw (st::T0) (ay τ τ'):=λt0 H₀=>PSs.weak (vl (h1 t0 H₀) (h2 t0 H₀)) λD σ H ⟨F,Z,s,w⟩=>by
 refine⟨F,Z,s,?_⟩;unfold ay at w
 match τ Z,w with
 |none,w=>exact w
 |some (.ok (.nx Z')),w=>exact λσ' F' H' s'=>⟨F',Z',s',w⟩
 |some (.ok (.rt d)),w=>exact w
 |some (.ex n),w=>exact w
def ar(h1:ku X Xw st τ):PSDs X Xw [st] τ:=λt0 H₀=>nJ (h1 t0 H₀)
def cY{i:Nat}(h:ku X Xw st τ):ku X Xw st (t6 i τ):=λt0 H₀ f8 sh σ H D I ⟨F,Z,s,w⟩=>by
 rcases s.frz i (λa=>(sh.heap.get? a).getD {cls:= .none,data:= .fields #[]}) with⟨a,o,ha,hc,hσ,s'⟩ | e
 ·refine h t0 H₀ f8 sh σ _ D (L3.Inv.refrz I ha ?_) ⟨_,_,s',w⟩;generalize (Z[i]?.elim (C.lst []) λx=>x.elim (.lst []) λy=>match y with | .ow c=>c | _=> .lst [])=c at hc;cases c with
  |lst ds=>obtain⟨vs,rfl,_⟩:=hc;exact .inl rfl
  |dct ks ds=>obtain⟨vs,rfl,_⟩:=hc;exact .inr ⟨_,rfl, .inl ⟨_,rfl,rfl⟩⟩
  |dci ks ds=>obtain⟨vs,rfl,_⟩:=hc;exact .inr ⟨_,rfl, .inr ⟨_,rfl,rfl⟩⟩
 ·exact h t0 H₀ f8 sh σ H D I ⟨F,Z,s,by unfold t6 at w;rw[e] at w;exact w⟩
def aA(h:PD X Xw e δ):ku X Xw (.Return (some e) pos) (aX δ):=λt0 H₀=>PS.weak (G_ h) λD σ H ⟨F,Z,s,w⟩=>by
 refine⟨F,Z,s.st,?_⟩;unfold aX at w
 match δ Z,w with
 |none,w=>exact w
 |some (.ok d),w=>exact λv H' F' e' q=>w v F' H' (s.ext.trans e') q
 |some (.ex n),w=>exact λF' H' e'=>w F' H' (s.ext.trans e')
def bR(h:PD X Xw e δ)(hs:RW e none pos.line X.env=pure false:=by rfl):ku X Xw (.Expr e pos) (fQ δ):=λt0 H₀=>PS.weak (nH h hs) λD σ H ⟨F,Z,s,w⟩=>by
 refine⟨F,Z,s.st,?_⟩;unfold fQ at w
 match δ Z,w with
 |none,w=>exact w
 |some (.ok d),w=>exact λv H' F' e' q=>w σ F' H' (s.ext' e')
 |some (.ex n),w=>exact λF' H' e'=>w F' H' (s.ext.trans e')
def aE{i:Nat}{x:Str}{pos':Pos}(hN:X.N.Nodup)(hi:X.N[i]? =some x)(hx:Loc X.env.scope x)(he:PD X Xw e δ)(hf:X.fn x=true\/X.env.scope.names.lookup x=some .local:=by first | exact .inl rfl | exact .inr rfl)
 (hs:S5 [.Name x pos'] e pos.line X.env=pure false:=by rfl):
 ku X Xw (.Assign [.Name x pos'] e pos) (bg i δ):=λt0 H₀=>PS.weak (lT he (a5 hN hi hx hf) hs) λD σ H ⟨F,Z,s,w⟩=>by
 refine⟨F,Z,s.st,?_⟩;unfold bg at w
 match δ Z,w with
 |none,w=>exact w
 |some (.ok d),w=>exact λv H' F' e' q=>w _ F' H' ((s.ext' e').set q)
 |some (.ex n),w=>exact λF' H' e'=>w F' H' (s.ext.trans e')
def vk{UR iter tg:Expr}{ifs:List Expr}{scope:Scope}{bc:Pos}{tn:List Str}{n:Nat}{δi:DA}{δt:DT}{δe:DE}{i:Nat}{x:Str}{pos':Pos}(hN:X.N.Nodup)(IB:X.N[i]? =some x)(hx:Loc X.env.scope x)
 (sc:CompSc X scope tn)(hn:tn.length=max n 1)(hc:X.calm=true)(hi:vX X Xw tg iter δi)
 (hg:∀f8 cl C fp u8 H σ,Ai (jK X scope tn f8 cl C fp u8 H) tg n σ)
 (ht:∀f8 cl C fp u8 H,ly (jK X scope tn f8 cl C fp u8 H) ifs δt)
 (he:∀f8 cl C fp u8 H,PD (jK X scope tn f8 cl C fp u8 H) (λ_ _=>False) UR δe)
 (hf:X.fn x=true\/X.env.scope.names.lookup x=some .local:=by first | exact .inl rfl | exact .inr rfl)
 (Oe:RW (.ListComp UR [⟨tg,iter,ifs,0⟩] scope bc) (some (.Name x pos')) pos.line X.env=pure true:=by rfl)
 (hs:∀x,Q4 iter X.env x=pure x:=by intro _;rfl):
 ku X Xw (.Assign [.Name x pos'] (.ListComp UR [⟨tg,iter,ifs,0⟩] scope bc) pos) (bg i (bB n δi δt δe)):=λt0 H₀ f8 s σ H D I ⟨F,Z,S,w⟩=>by
 obtain⟨cl,A0,Ax,Hz⟩:=nY (scope:=scope) (env:=X.env) λy hy hf=>I.ok.has y.1 (sc.frees y hy hf);have w':WP X.K Xw F H (bB n δi δt δe Z) (λv H'=>D.nx (σ.set i (some v)) H'):=by
  have w:WPS X.K Xw t0 H₀ (bB n δi δt δe Z>>=λd=>ab (.nx (Z.set i (some (.fz d))))) D:=w
  match bB n δi δt δe Z,w with
  |none,w=>exact w
  |some (.ok d),w=>exact λv H' F' e' q=>w _ F' H' ((S.ext' e').set q)
  |some (.ex n),w=>exact λF' H' e'=>w F' H' (S.ext.trans e')
 rw[exec_Assign_Name_used _ _ _ _ Oe];refine Pc (wpAny_standAt (Pc ?_));show wpAny _ X.A (do let _<-comprehension (.ListComp UR [⟨tg,iter,ifs,0⟩] scope bc) scope X.env _ (newList []) false (eval iter X.env) (some (assign (.Name x pos') X.env))) _ _ s;refine Pc (Qt (Ua (use:=some (assign (.Name x pos') X.env)) (Q:=λ_ s'=>SP X f8 D .next s') rfl hs A0 sc.kind sc.names
  (ug (RR:=λv2 C=>compPost (model X.prog X.w) X.A X.xe (some (assign (.Name x pos') X.env)) (λ_ s'=>SP X f8 D .next s') v2 C) sc hn hc hi hg ht he I S.st w' Ax Hz λs1 C D' H' I1 q b=>?_)) (λ_ s' hq=>Pu (Pu hq)) λ_ _ e=>e)
 show wpAny _ X.A (assign (.Name x pos') X.env (.ref D')) _ _ _;refine Tj (rK I1 hN IB hx (v:= .ref D') rfl (λs2 I2 ⟨a,sb,ha⟩=>?_) hf);have Ni:C≠a:=by
  rcases ha with z | z
  ·rw[z];exact b.nl
  ·exact Qd (b.nc x a z)
 obtain⟨m,hm⟩:=b.ns;have F4:s2.heap.Ns C m:=hm.sameBut sb Ni;refine⟨m,F4,λh' IV=>⟨_,H',Inv.block I2 ⟨⟨m,F4⟩,b.free,b.nl,b.nw,b.nc,b.np⟩ IV,q⟩⟩
def bz{c:Expr}{a b:List Stmt}{tc:DT}(hc:lx X Xw c tc)(ha:PSDs X Xw a τ)(hb:PSDs X Xw b τ'):ku X Xw (.If c a b pos) (fb tc τ τ'):=λt0 H₀=>PS.weak (Fc hc (ha t0 H₀) (hb t0 H₀)) λD σ H ⟨F,Z,s,w⟩=>by
 refine⟨F,Z,s.st,?_⟩;unfold fb at w
 match tc Z,w with
 |none,w=>exact w
 |some (.ok true),w=>exact λH' F' e'=>⟨F',Z,s.ext' e',w⟩
 |some (.ok false),w=>exact λH' F' e'=>⟨F',Z,s.ext' e',w⟩
 |some (.ex n),w=>exact λF' H' e'=>w F' H' (s.ext.trans e')
def jE{i:Nat}{x:Str}{pos' D9:Pos}(hN:X.N.Nodup)(hi:X.N[i]? =some x)(hx:Loc X.env.scope x)(hf:X.fn x=true\/X.env.scope.names.lookup x=some .local:=by first | exact .inl rfl | exact .inr rfl):
 ku X Xw (.Assign [.Name x pos'] (.List [] D9) pos) (tB i):=λt0 H₀=>PS.weak (lT (xm sU) (a5 hN hi hx hf) rfl) λD σ H ⟨F,Z,s,w⟩=>by
 refine⟨P2 _,λp hp=>?_⟩;exact w _ F _ (s.setNew (c₀:= .lst []) hp ⟨[],rfl,rfl,P2 _⟩)
def Ah(K:Ph)(g:TG)(put:D->aP->Option aP):Prop:=∀(t0 H₀ F H:Hp) (σ:St) (Z Z':aP) (d:D) (v:V) (Q:St->Hp->Prop),StOk K t0 H₀ F H σ Z->Den K F d v->put d Z=some Z'->
 (∀σ',StOk K t0 H₀ F H σ' Z'->Q σ' H)->g v σ H Q
def bF{K:Ph}{i:Nat}:Ah K (jL i) (putN i):=λt0 H₀ F H σ Z Z' d v Q s q e k=>by
 cases e;exact k _ (s.set q)
def OR(K:Ph)(Xw:Nat->Hp->Prop)(τ:DS):TS:=λD σ H=>∃t0 H₀,tS K Xw t0 H₀ τ D σ H
def PSDs.ex{body:List Stmt}(h:PSDs X Xw body τ):PSs X body (OR X.K Xw τ):=λf8 s σ H D I ⟨t0,H₀,w⟩=>h t0 H₀ f8 s σ H D I w
def bX{tg iter:Expr}{body:List Stmt}{δi:DA}{g:TG}{put:D->aP->Option aP}(hp:TY (model X.prog X.w) X.A X.env X.xe)(hc:X.calm=true)(hi:vX X Xw tg iter δi)(hg:PG X tg g)(Lf:Ah X.K g put)(hb:PSDs X Xw body τ)
 (hs:∀x,Q4 iter X.env x=pure x:=by intro _;rfl):ku X Xw (.For tg iter body [] pos) (dq put δi τ):=λt0 H₀=>PS.weak (xo hp hc hi hg hb.ex hs) λD σ H ⟨F,Z,s,w⟩=>by
 refine⟨F,Z,s.st,?_⟩;unfold dq at w
 match δi Z,w with
 |none,w=>exact w
 |some (.ex n),w=>exact λF' H' e'=>w F' H' (s.ext.trans e')
 |some (.ok ds),w=>
  have w:WPS X.K Xw t0 H₀ (forL put τ ds Z) D:=w;intro J H1 F1 e1 MJ;obtain⟨s1,back⟩:=(s.ext' e1).rebase;have hU:=zp (s.ext' e1);generalize join F1 H₀=U at s1 back hU;refine⟨λi m σ H=>m=ds.length - i/\i<=ds.length/\∃F Z,StOk X.K F1 U F H σ Z/\WPS X.K Xw t0 H₀ (forL put τ (ds.drop i) Z) D,⟨ds.length,by simp,P2 _,F1,Z,s1,by simpa using w⟩,?_⟩;rintro i m σ2 H2 ⟨rfl,KY,F2,Z2,s2,w2⟩;by_cases iO:i<ds.length
  ·obtain⟨d,hd⟩:∃d,ds[i]? =some d:=⟨_,Pd iO⟩
   obtain⟨FW,wI⟩:=(MJ F2 H2 i s2.ext.ff s2.st.fh).1 d hd;have ed:ds.drop i=d::ds.drop (i+1):=by
    obtain⟨hi,e⟩:=Pe.mp hd;rw[RT hi,e]
   rw[ed] at w2;unfold forL at w2;refine .inr ⟨FW,λσ' H'=>∃F' Z',StOk X.K F1 U F' H' σ' Z'/\WPS X.K Xw t0 H₀ (forL put τ (ds.drop (i+1)) Z') D,λσ' H' ⟨F',Z',h2,h3⟩=>⟨ds.length - (i+1),by omega,rfl,iO,F',Z',h2,h3⟩,λx H3 y3=>?_⟩;obtain⟨F3,ye,q3⟩:=wI x H3 y3
   match N9:put d Z2,w2 with
   |none,w2=>exact w2.elim
   |some Z3,w2=>
    refine Lf F1 U F3 H3 σ2 Z2 Z3 d x _ (s2.ext' ye) q3 N9 λσ3 s3=>⟨F1,U,F3,Z3,s3,?_⟩
    have w2:WPS X.K Xw t0 H₀ (τ Z3>>=λo=>match o with | .nx Z2=>forL put τ (ds.drop (i+1)) Z2 | .rt v=>ab (.rt v)) D:=w2
    match τ Z3,w2 with
    |none,w2=>exact w2
    |some (.ok (.nx Z')),w2=>exact λσ' F' H' s'=>⟨F',Z',s',w2⟩
    |some (.ok (.rt d)),w2=>exact λv F' H' e q=>w2 v F' H' (back _ _ e) q
    |some (.ex n),w2=>exact λF' H' e=>w2 F' H' (back _ _ e)
  ·have hi:i=ds.length:=by omega
   subst hi;rw[Sa] at w2;exact .inl ⟨(MJ F2 H2 ds.length s2.ext.ff s2.st.fh).2 (Pm _),w2 σ2 F2 H2 (s2.unbase back hU)⟩
end
def gI(f:Int->Int->D):D->D->M D
 | .int i, .int j=>ab (f i j)
 |_,_=>af
def Ie(c:Int->Int->Bool)(f:Int->Int->D):D->D->M D
 | .int i, .int j=>if c i j then ab (f i j) else af
 |_,_=>af
def va{K:Ph}{gv:Int->Int->V}{gd:Int->Int->D}(h:∀F i j,Den K F (gd i j) (gv i j)):t7 K (yR gv) (gI gd):=λXw F H x y dx dy Q s hx hy w=>by
 unfold gI at w;split at w
 ·rename_i i j;exact⟨i,j,hx,hy,WP.now w s (h F i j)⟩
 ·exact w.elim
def xf{K:Ph}{gv:Int->Int->V}{gd:Int->Int->D}{c:Int->Int->Bool}{C:Int->Int->Prop}(h:∀F i j,Den K F (gd i j) (gv i j))(hc:∀i j,c i j=true->C i j):t7 K (rI C gv) (Ie c gd):=λXw F H x y dx dy Q s hx hy w=>by
 unfold Ie at w;split at w
 ·rename_i i j;split at w
  ·rename_i J4;exact⟨i,j,hx,hy,hc i j J4,WP.now w s (h F i j)⟩
  ·exact w.elim
 ·exact w.elim
def cy:=gI λi j=> .int (i+j)
def gG:=gI λi j=> .int (i - j)
def iN:=Ie (λi j=>decide ((-(2 ^ 64)<i/\i<2 ^ 64)\/(-(2 ^ 64)<j/\j<2 ^ 64))) λi j=> .int (i*j)
def p_:=Ie (λ_ j=>decide (0<j/\j<1073741824)) λi j=> .int (i / j)
def kF:=Ie (λ_ j=>decide (0<j)) λi j=> .int (i % j)
def Ig:=gI λi j=> .bl (decide (i<j))
def C3:=gI λi j=> .bl (decide (j<i))
section
variable{X:Cx}{Xw:Nat->Hp->Prop}{a b:Expr}{δa δb:DE}{pos:Pos}
def b5(ha:PD X Xw a δa)(hb:PD X Xw b δb):PD X Xw (.BinOp a .Add b pos) (d2 cy δa δb):=ph GG (va λ_ _ _=>rfl) ha hb
def i8(ha:PD X Xw a δa)(hb:PD X Xw b δb):PD X Xw (.BinOp a .Sub b pos) (d2 gG δa δb):=ph GO (va λ_ _ _=>rfl) ha hb
def kg(ha:PD X Xw a δa)(hb:PD X Xw b δb):PD X Xw (.BinOp a .Mult b pos) (d2 iN δa δb):=ph GL (xf (λ_ _ _=>rfl) λi j h=>by unfold CMul;exact UI h) ha hb
def sZ(ha:PD X Xw a δa)(hb:PD X Xw b δb):PD X Xw (.BinOp a .FloorDiv b pos) (d2 p_ δa δb):=ph DI (xf (λ_ _ _=>rfl) λi j h=>by unfold HJ;exact UI h) ha hb
def lR(ha:PD X Xw a δa)(hb:PD X Xw b δb):PD X Xw (.BinOp a .Mod b pos) (d2 kF δa δb):=ph GK (xf (λ_ _ _=>rfl) λi j h=>UI h) ha hb
def Jy(ha:PD X Xw a δa)(hb:PD X Xw b δb):lx X Xw (.Compare a [.Lt] [b] pos) (bH (d2 Ig δa δb)):=eo yB (va λ_ _ _=>rfl) ha hb
def BY(ha:PD X Xw a δa)(hb:PD X Xw b δb):lx X Xw (.Compare a [.Gt] [b] pos) (bH (d2 C3 δa δb)):=eo Jr (va λ_ _ _=>rfl) ha hb
def eP:D->D->M D
 | .lst ds, .int i=>match atI ds i with | some d=>ab d | none=>af
 |_,_=>af
def aU:D->D->M D
 | .tup ds, .int i=>match atI ds i with | some d=>ab d | none=>af
 |_,_=>af
def AR:D->D->M D
 | .scr ns, .int i=>match atI ns i with | some n=>ab (.int n) | none=>af
 |_,_=>af
def qa:D->D->M D
 | .str x, .int i=>match atI x.cps.toList i with | some c=>ab (.str ⟨#[c]⟩) | none=>af
 |_,_=>af
def DenL.atI{K:Ph}{F:Hp}{ds:List D}{vs:List V}(h:DenL K F ds vs){i:Int}{d:D}(e:L2.atI ds i=some d):∃v,L2.atI vs i=some v/\Den K F d v:=by
 unfold L2.atI at e⊢;rw[<-h.len];cases q:CJ ds.length i with
 |none=>rw[q] at e;cases e
 |some j=>
  rw[q] at e;exact h.get e
def DK{K:Ph}:t7 K (Hh K) eP:=λXw F H x y dx dy Q s hx hy w=>by
 unfold eP at w;split at w
 ·rename_i ds i;obtain⟨a,vs,h1,h2,h3,h4⟩:=hx;split at w
  ·rename_i d e;obtain⟨v,e1,q⟩:=h3.atI e;exact⟨a,vs,i,v,h1,hy,SqL.of (s _ _ h2),e1,WP.now w s q⟩
  ·exact w.elim
 ·exact w.elim
def DN{K:Ph}:t7 K (JG K) aU:=λXw F H x y dx dy Q s hx hy w=>by
 unfold aU at w;split at w
 ·rename_i ds i;obtain⟨a,vs,h1,h2,h3,h4⟩:=hx;split at w
  ·rename_i d e;obtain⟨v,e1,q⟩:=h3.atI e;exact⟨a,vs,i,v,h1,hy,SqT.of (s _ _ h2),e1,WP.now w s q⟩
  ·exact w.elim
 ·exact w.elim
def DL{K:Ph}:t7 K (Hh K) AR:=λXw F H x y dx dy Q s hx hy w=>by
 unfold AR at w;split at w
 ·rename_i ns i;obtain⟨a,h1,h2,h3⟩:=hx;split at w
  ·rename_i n e;refine⟨a,_,i, .int n,h1,hy,Same.seq s h2,?_,WP.now w s rfl⟩;unfold L2.atI at e⊢;rw[Pb];cases q:CJ ns.length i with
   |none=>rw[q] at e;cases e
   |some j=>
    rw[q] at e;have e:ns[j]? =some n:=e;show (ns.map V.int)[j]? =some (.int n);rw[Pq,e];rfl
  ·exact w.elim
 ·exact w.elim
def DM{K:Ph}:t7 K JF qa:=λXw F H x y dx dy Q s hx hy w=>by
 unfold qa at w;split at w
 ·rename_i z i;obtain⟨h1,h2⟩:=hx;split at w
  ·rename_i c e;exact⟨z,i,c,h1,hy,by have:=dg;omega,e,WP.now w s ⟨rfl,by show 1<=lim;decide⟩⟩
  ·exact w.elim
 ·exact w.elim
def kf(ha:PD X Xw a δa)(hb:PD X Xw b δb)(hs:js b:=by intro _ _;rfl):PD X Xw (.Subscript a b pos) (d2 eP δa δb):=yG yp DK ha hb hs
def GV(ha:PD X Xw a δa)(hb:PD X Xw b δb)(hs:js b:=by intro _ _;rfl):PD X Xw (.Subscript a b pos) (d2 AR δa δb):=yG yp DL ha hb hs
def a7(ha:PD X Xw a δa)(hb:PD X Xw b δb)(hs:js b:=by intro _ _;rfl):PD X Xw (.Subscript a b pos) (d2 aU δa δb):=yG Gn DN ha hb hs
def xk(ha:PD X Xw a δa)(hb:PD X Xw b δb)(hs:js b:=by intro _ _;rfl):PD X Xw (.Subscript a b pos) (d2 qa δa δb):=yG Gm DM ha hb hs
def qK:D->D->M D
 | .lst x, .lst y=>if x.length+y.length<=lim then ab (.lst (x++y)) else af
 |_,_=>af
def jl(x y:Str):(x++y).length=x.length+y.length:=by
 show (x.cps++y.cps).size=_;simp[Str.length]
def yD(ha:PD X Xw a δa)(hb:PD X Xw b δb):PD X Xw (.BinOp a .Add b pos) (d2 qK δa δb):=ph GH (λXw F H x y dx dy Q s hx hy w=>by
 unfold qK at w;split at w
 ·rename_i i j;obtain⟨a,vs,h1,h2,h3,h4⟩:=hx;obtain⟨a',vs',k1,k2,k3,k4⟩:=hy;split at w
  ·rename_i hl;have e1:=h3.len;have e2:=k3.len;have:=dg;refine⟨a,a',vs,vs',h1,k1,s _ _ h2,s _ _ k2,by omega,λp hp=>?_⟩;exact WP.fin w (Ext.lay s hp) ⟨p,_,rfl,aD,DenL.mono (Ext.lay s hp).ff (h3.append k3),by rw[Pp];exact hl⟩
  ·exact w.elim
 ·exact w.elim) ha hb
end
end L3
namespace L3
open PySem PySem.Spec L2 SeqAt
open PyProof.Rows hiding St
def se(f:D->D->Option Bool):List D->List D->Option Bool
 |[],[]=>some true
 |x::xs,y::ys=>match f x y,se f xs ys with
  |some b,some r=>some (b&&r)
  |_,_=>none
 |[],_::_=>some false
 |_::_,[]=>some false
def wu:D->D->Option Bool
 | .non, .non=>some true
 | .bl a, .bl b=>some (a==b)
 | .bl a, .int j=>some ((if a then 1 else 0)==j)
 | .int i, .bl b=>some (i==(if b then 1 else 0))
 | .int i, .int j=>some (i==j)
 | .str x, .str y=>some (x==y)
 | .non, .bl _=>some false
 | .non, .int _=>some false
 | .non, .str _=>some false
 | .non, .lst _=>some false
 | .non, .tup _=>some false
 | .bl _, .non=>some false
 | .bl _, .str _=>some false
 | .bl _, .lst _=>some false
 | .bl _, .tup _=>some false
 | .int _, .non=>some false
 | .int _, .str _=>some false
 | .int _, .lst _=>some false
 | .int _, .tup _=>some false
 | .str _, .non=>some false
 | .str _, .bl _=>some false
 | .str _, .int _=>some false
 | .str _, .lst _=>some false
 | .str _, .tup _=>some false
 | .lst _, .non=>some false
 | .lst _, .bl _=>some false
 | .lst _, .int _=>some false
 | .lst _, .str _=>some false
 | .lst _, .tup _=>some false
 | .tup _, .non=>some false
 | .tup _, .bl _=>some false
 | .tup _, .int _=>some false
 | .tup _, .str _=>some false
 | .tup _, .lst _=>some false
 |_,_=>none
def m7:Nat->D->D->Option Bool
 |n+1, .tup xs, .tup ys=>se (m7 n) xs ys
 |n+1, .lst xs, .lst ys=>se (m7 n) xs ys
 |n+1, .scr xs, .lst ys=>se (m7 n) (xs.map D.int) ys
 |_,x,y=>wu x y
structure EqAll (A:Qm) (s:Pf) (u v:Value) (b:Bool):Prop where
 rc:RcAt A s u v b
 ne:RcNeAt A s u v (!b)
 eq:EqAt A s u v b
section
variable{X:Cx}{f8:List (Addr×Obj)}{σ:St}{F H:Hp}{s:Pf}{A:Qm}
def eR(I:Inv X f8 σ H s)(hs:Same F H){ds:List D}{v:V}{u:Value}(h:Den X.K F (.tup ds) v)(r:RelV v u):∃a vs aK,u= .ref a/\v= .ref a/\F a=some (.tup vs)/\DenL X.K F ds vs/\Vals vs aK/\s.heap.IsTuple a aK.toArray:=by
 obtain⟨a,vs,rfl,h2,h3,h4⟩:=h;obtain⟨aK,r1,p1,_⟩:=I.tuple (SqT.of (hs _ _ h2));exact⟨a,vs,aK,r,rfl,h2,h3,r1,p1⟩
def dX(I:Inv X f8 σ H s)(hs:Same F H){ds:List D}{v:V}{u:Value}(h:Den X.K F (.lst ds) v)(r:RelV v u):∃a vs aK,u= .ref a/\v= .ref a/\F a=some (.lst vs)/\DenL X.K F ds vs/\Vals vs aK/\s.heap.IsList a aK.toArray:=by
 obtain⟨a,vs,rfl,h2,h3,h4⟩:=h;obtain⟨aK,r1,p1,_⟩:=I.list (SqL.of (hs _ _ h2));exact⟨a,vs,aK,r,rfl,h2,h3,r1,p1.isList⟩
def Hl(I:Inv X f8 σ H s)(hs:Same F H){ns:List Int}{v:V}{u:Value}(h:Den X.K F (.scr ns) v)(r:RelV v u):∃a aK,u= .ref a/\v= .ref a/\SqL X.K F a (ns.map V.int)/\Vals (ns.map V.int) aK/\s.heap.IsList a aK.toArray:=by
 obtain⟨a,rfl,h2,h3⟩:=h;obtain⟨aK,r1,p1,_⟩:=I.list (Same.seq hs h2);exact⟨a,aK,r,rfl,h2,r1,p1.isList⟩
def ux(I:Inv X f8 σ H s)(hs:Same F H)(hu:A.units<cLine){x y:D}{v w:V}{u t:Value}{b:Bool}(hx:Den X.K F x v)(hy:Den X.K F y w)(rx:RelV v u)(ry:RelV w t)(e:wu x y=some b):EqAll A s u t b:=by
 cases x with
 |non=>
  cases y with
  |non=>
   cases e;cases (show _=_ from hx);cases rx;cases (show _=_ from hy);cases ry;exact⟨RcAt.none_none,RcNeAt.none_none,EqAt.same _⟩
  |bl d=>
   cases e;cases (show _=_ from hx);cases rx;cases (show _=_ from hy);cases ry;exact⟨RcAt.none_bool _,RcNeAt.none_bool _,EqAt.none_bool _⟩
  |int d=>
   cases e;cases (show _=_ from hx);cases rx;cases (show _=_ from hy);obtain⟨t2,rfl⟩:=ry;exact⟨RcAt.none_int _ _,RcNeAt.none_int _ _,EqAt.none_int _ _⟩
  |str d=>
   cases e;cases (show _=_ from hx);cases rx;cases (show _=_ from hy.1);obtain⟨t2,rfl⟩:=ry;exact⟨RcAt.none_str _ _,RcNeAt.none_str _ _,EqAt.none_str _ _⟩
  |raw d=>cases e
  |dct _ _=>cases e
  |dci _ _=>cases e
  |exc d=>cases e
  |scr d=>cases e
  |tup d=>
   cases e;cases (show _=_ from hx);cases rx;obtain⟨a2,_,_,rfl,_,_,_,_,p2⟩:=eR I hs hy ry;exact⟨RcAt.none_tuple p2 hu,RcNeAt.none_tuple p2 hu,EqAt.none_tuple p2 hu⟩
  |lst d=>
   cases e;cases (show _=_ from hx);cases rx;obtain⟨a2,_,_,rfl,_,_,_,_,p2⟩:=dX I hs hy ry;exact⟨RcAt.none_list p2 hu,RcNeAt.none_list p2 hu,EqAt.none_list p2 hu⟩
 |bl c=>
  cases y with
  |non=>
   cases e;cases (show _=_ from hx);cases rx;cases (show _=_ from hy);cases ry;exact⟨RcAt.bool_none _,RcNeAt.bool_none _,EqAt.bool_none _⟩
  |bl d=>
   cases e;cases (show _=_ from hx);cases rx;cases (show _=_ from hy);cases ry;exact⟨RcAt.bool_bool _ _,RcNeAt.bool_bool _ _,EqAt.bool_bool _ _⟩
  |int d=>
   cases e;cases (show _=_ from hx);cases rx;cases (show _=_ from hy);obtain⟨t2,rfl⟩:=ry;exact⟨RcAt.bool_int _ _ _,RcNeAt.bool_int _ _ _,EqAt.bool_int _ _ _⟩
  |str d=>
   cases e;cases (show _=_ from hx);cases rx;cases (show _=_ from hy.1);obtain⟨t2,rfl⟩:=ry;exact⟨RcAt.bool_str _ _ _,RcNeAt.bool_str _ _ _,EqAt.bool_str _ _ _⟩
  |raw d=>cases e
  |dct _ _=>cases e
  |dci _ _=>cases e
  |exc d=>cases e
  |scr d=>cases e
  |tup d=>
   cases e;cases (show _=_ from hx);cases rx;obtain⟨a2,_,_,rfl,_,_,_,_,p2⟩:=eR I hs hy ry;exact⟨RcAt.bool_tuple _ p2 hu,RcNeAt.bool_tuple _ p2 hu,EqAt.bool_tuple _ p2 hu⟩
  |lst d=>
   cases e;cases (show _=_ from hx);cases rx;obtain⟨a2,_,_,rfl,_,_,_,_,p2⟩:=dX I hs hy ry;exact⟨RcAt.bool_list _ p2 hu,RcNeAt.bool_list _ p2 hu,EqAt.bool_list _ p2 hu⟩
 |int c=>
  cases y with
  |non=>
   cases e;cases (show _=_ from hx);obtain⟨t1,rfl⟩:=rx;cases (show _=_ from hy);cases ry;exact⟨RcAt.int_none _ _,RcNeAt.int_none _ _,EqAt.int_none _ _⟩
  |bl d=>
   cases e;cases (show _=_ from hx);obtain⟨t1,rfl⟩:=rx;cases (show _=_ from hy);cases ry;exact⟨RcAt.int_bool _ _ _,RcNeAt.int_bool _ _ _,EqAt.int_bool _ _ _⟩
  |int d=>
   cases e;cases (show _=_ from hx);obtain⟨t1,rfl⟩:=rx;cases (show _=_ from hy);obtain⟨t2,rfl⟩:=ry;exact⟨RcAt.int_int _ _ _ _,RcNeAt.int_int _ _ _ _,EqAt.int_int _ _ _ _⟩
  |str d=>
   cases e;cases (show _=_ from hx);obtain⟨t1,rfl⟩:=rx;cases (show _=_ from hy.1);obtain⟨t2,rfl⟩:=ry;exact⟨RcAt.int_str _ _ _ _,RcNeAt.int_str _ _ _ _,EqAt.int_str _ _ _ _⟩
  |raw d=>cases e
  |dct _ _=>cases e
  |dci _ _=>cases e
  |exc d=>cases e
  |scr d=>cases e
  |tup d=>
   cases e;cases (show _=_ from hx);obtain⟨t1,rfl⟩:=rx;obtain⟨a2,_,_,rfl,_,_,_,_,p2⟩:=eR I hs hy ry;exact⟨RcAt.int_tuple _ _ p2 hu,RcNeAt.int_tuple _ _ p2 hu,EqAt.int_tuple _ _ p2 hu⟩
  |lst d=>
   cases e;cases (show _=_ from hx);obtain⟨t1,rfl⟩:=rx;obtain⟨a2,_,_,rfl,_,_,_,_,p2⟩:=dX I hs hy ry;exact⟨RcAt.int_list _ _ p2 hu,RcNeAt.int_list _ _ p2 hu,EqAt.int_list _ _ p2 hu⟩
 |str c=>
  cases y with
  |non=>
   cases e;cases (show _=_ from hx.1);obtain⟨t1,rfl⟩:=rx;cases (show _=_ from hy);cases ry;exact⟨RcAt.str_none _ _,RcNeAt.str_none _ _,EqAt.str_none _ _⟩
  |bl d=>
   cases e;cases (show _=_ from hx.1);obtain⟨t1,rfl⟩:=rx;cases (show _=_ from hy);cases ry;exact⟨RcAt.str_bool _ _ _,RcNeAt.str_bool _ _ _,EqAt.str_bool _ _ _⟩
  |int d=>
   cases e;cases (show _=_ from hx.1);obtain⟨t1,rfl⟩:=rx;cases (show _=_ from hy);obtain⟨t2,rfl⟩:=ry;exact⟨RcAt.str_int _ _ _ _,RcNeAt.str_int _ _ _ _,EqAt.str_int _ _ _ _⟩
  |str d=>
   cases e;cases (show _=_ from hx.1);obtain⟨t1,rfl⟩:=rx;cases (show _=_ from hy.1);obtain⟨t2,rfl⟩:=ry;exact⟨RcAt.str_str _ _ _ _,RcNeAt.str_str _ _ _ _,EqAt.str_str _ _ _ _⟩
  |raw d=>cases e
  |dct _ _=>cases e
  |dci _ _=>cases e
  |exc d=>cases e
  |scr d=>cases e
  |tup d=>
   cases e;cases (show _=_ from hx.1);obtain⟨t1,rfl⟩:=rx;obtain⟨a2,_,_,rfl,_,_,_,_,p2⟩:=eR I hs hy ry;exact⟨RcAt.str_tuple _ _ p2 hu,RcNeAt.str_tuple _ _ p2 hu,EqAt.str_tuple _ _ p2 hu⟩
  |lst d=>
   cases e;cases (show _=_ from hx.1);obtain⟨t1,rfl⟩:=rx;obtain⟨a2,_,_,rfl,_,_,_,_,p2⟩:=dX I hs hy ry;exact⟨RcAt.str_list _ _ p2 hu,RcNeAt.str_list _ _ p2 hu,EqAt.str_list _ _ p2 hu⟩
 |raw _=>cases y<;>cases e
 |dct _ _=>cases y<;>cases e
 |dci _ _=>cases y<;>cases e
 |exc _=>cases y<;>cases e
 |scr c=>cases y<;>cases e
 |tup c=>
  cases y with
  |non=>
   cases e;obtain⟨a1,_,_,rfl,_,_,_,_,p1⟩:=eR I hs hx rx;cases (show _=_ from hy);cases ry;exact⟨RcAt.tuple_none p1 hu,RcNeAt.tuple_none p1 hu,EqAt.tuple_none p1 hu⟩
  |bl d=>
   cases e;obtain⟨a1,_,_,rfl,_,_,_,_,p1⟩:=eR I hs hx rx;cases (show _=_ from hy);cases ry;exact⟨RcAt.tuple_bool _ p1 hu,RcNeAt.tuple_bool _ p1 hu,EqAt.tuple_bool _ p1 hu⟩
  |int d=>
   cases e;obtain⟨a1,_,_,rfl,_,_,_,_,p1⟩:=eR I hs hx rx;cases (show _=_ from hy);obtain⟨t2,rfl⟩:=ry;exact⟨RcAt.tuple_int _ _ p1 hu,RcNeAt.tuple_int _ _ p1 hu,EqAt.tuple_int _ _ p1 hu⟩
  |str d=>
   cases e;obtain⟨a1,_,_,rfl,_,_,_,_,p1⟩:=eR I hs hx rx;cases (show _=_ from hy.1);obtain⟨t2,rfl⟩:=ry;exact⟨RcAt.tuple_str _ _ p1 hu,RcNeAt.tuple_str _ _ p1 hu,EqAt.tuple_str _ _ p1 hu⟩
  |raw d=>cases e
  |dct _ _=>cases e
  |dci _ _=>cases e
  |exc d=>cases e
  |scr d=>cases e
  |tup d=>cases e
  |lst d=>
   cases e;obtain⟨a1,_,_,rfl,_,_,_,_,p1⟩:=eR I hs hx rx;obtain⟨a2,_,_,rfl,_,_,_,_,p2⟩:=dX I hs hy ry;exact⟨RcAt.tuple_list p1 p2 hu,RcNeAt.tuple_list p1 p2 hu,EqAt.tuple_list p1 p2 hu⟩
 |lst c=>
  cases y with
  |non=>
   cases e;obtain⟨a1,_,_,rfl,_,_,_,_,p1⟩:=dX I hs hx rx;cases (show _=_ from hy);cases ry;exact⟨RcAt.list_none p1 hu,RcNeAt.list_none p1 hu,EqAt.list_none p1 hu⟩
  |bl d=>
   cases e;obtain⟨a1,_,_,rfl,_,_,_,_,p1⟩:=dX I hs hx rx;cases (show _=_ from hy);cases ry;exact⟨RcAt.list_bool _ p1 hu,RcNeAt.list_bool _ p1 hu,EqAt.list_bool _ p1 hu⟩
  |int d=>
   cases e;obtain⟨a1,_,_,rfl,_,_,_,_,p1⟩:=dX I hs hx rx;cases (show _=_ from hy);obtain⟨t2,rfl⟩:=ry;exact⟨RcAt.list_int _ _ p1 hu,RcNeAt.list_int _ _ p1 hu,EqAt.list_int _ _ p1 hu⟩
  |str d=>
   cases e;obtain⟨a1,_,_,rfl,_,_,_,_,p1⟩:=dX I hs hx rx;cases (show _=_ from hy.1);obtain⟨t2,rfl⟩:=ry;exact⟨RcAt.list_str _ _ p1 hu,RcNeAt.list_str _ _ p1 hu,EqAt.list_str _ _ p1 hu⟩
  |raw d=>cases e
  |dct _ _=>cases e
  |dci _ _=>cases e
  |exc d=>cases e
  |scr d=>cases e
  |tup d=>
   cases e;obtain⟨a1,_,_,rfl,_,_,_,_,p1⟩:=dX I hs hx rx;obtain⟨a2,_,_,rfl,_,_,_,_,p2⟩:=eR I hs hy ry;exact⟨RcAt.list_tuple p1 p2 hu,RcNeAt.list_tuple p1 p2 hu,EqAt.list_tuple p1 p2 hu⟩
  |lst d=>cases e
end
def ev(f:D->D->Option Bool)(xs ys:List D)(j:Nat):Bool:=match xs[j]?,ys[j]? with
 |some x,some y=>(f x y).getD false
 |_,_=>false
def uv{f:D->D->Option Bool}:∀{xs ys:List D}{b:Bool},se f xs ys=some b->∀(j:Nat) (x y:D),xs[j]? =some x->ys[j]? =some y->∃c,f x y=some c
 |[],_,_,_,_,_,_,h,_=>by simp at h
 |_::_,[],_,_,_,_,_,_,h=>by simp at h
 |x::xs,y::ys,b,e,j,x',y',hx,hy=>by
  unfold se at e;split at e
  ·rename_i b1 r1 e1 e2;cases j with
   |zero=>simp at hx hy;subst hx hy;exact⟨_,e1⟩
   |succ j=>exact uv e2 j x' y' (by simpa using hx) (by simpa using hy)
  ·cases e
def sf{f:D->D->Option Bool}:∀{xs ys:List D}{b:Bool},se f xs ys=some b->b=((PY (min xs.length ys.length)).all (ev f xs ys)&&xs.length==ys.length)
 |[],[],_,e=>by cases e;rfl
 |[],_::_,_,e=>by cases e;simp
 |_::_,[],_,e=>by cases e;simp
 |x::xs,y::ys,b,e=>by
  unfold se at e;split at e
  ·rename_i b1 r1 e1 e2;cases e;have h:=sf e2;rw[Pl,Pl,Nat.succ_min_succ,TZ,RF,Rx];have e0:ev f (x::xs) (y::ys) 0=b1:=by unfold ev;simp[e1]
   have e3:(ev f (x::xs) (y::ys)∘Nat.succ)=ev f xs ys:=by funext j;simp[ev,UC]
   have e4:(xs.length+1==ys.length+1)=(xs.length==ys.length):=by simp
   rw[e0,e3,e4,h,Bool.and_assoc]
  ·cases e
section
variable{X:Cx}{f8:List (Addr×Obj)}{σ:St}{F H:Hp}{s:Pf}
def kB{f:D->D->Option Bool}(h:∀x y v b,Den X.K F x v->Den X.K F y v->f x y=some b->b=true):∀{xs ys:List D}{vs:List V}{b:Bool},DenL X.K F xs vs->DenL X.K F ys vs->se f xs ys=some b->b=true
 |[],[],_,_,_,_,e=>by cases e;rfl
 |[],_::_,_,_,h1,h2,_=>by
  cases (show _=_ from h1);obtain⟨v,r,z,_⟩:=h2;cases z
 |_::_,[],_,_,h1,h2,_=>by
  cases (show _=_ from h2);obtain⟨v,r,z,_⟩:=h1;cases z
 |x::xs,y::ys,_,b,⟨v,r,e1,q1,q2⟩,⟨v',r',e2,q3,q4⟩,e=>by
  subst e1;cases e2;unfold se at e;split at e
  ·rename_i b1 r1 f1 f2;cases e;rw[h x y v b1 q1 q3 f1,kB h q2 q4 f2];rfl
  ·cases e
def qI{x y:D}{v:V}{b:Bool}(hx:Den X.K F x v)(hy:Den X.K F y v)(e:wu x y=some b):b=true:=by
 cases x<;>cases y<;>first
  |(cases e;done)
  |(cases e;cases (show _=_ from hx);cases (show _=_ from hy);first | rfl | simp)
  |(cases e;cases (show _=_ from hx.1);cases (show _=_ from hy.1);simp)
  |(cases e;cases (show _=_ from hx);cases (show _=_ from hy.1))
  |(cases e;cases (show _=_ from hx.1);cases (show _=_ from hy))
  |(cases e;obtain⟨_,_,z,_⟩:=hx;subst z;cases (show _=_ from hy);done)
  |(cases e;obtain⟨_,_,z,_⟩:=hx;subst z;cases (show _=_ from hy.1);done)
  |(cases e;obtain⟨_,z,_⟩:=hx;subst z;cases (show _=_ from hy);done)
  |(cases e;obtain⟨_,z,_⟩:=hx;subst z;cases (show _=_ from hy.1);done)
  |(cases e;obtain⟨_,_,z,_⟩:=hy;subst z;cases (show _=_ from hx);done)
  |(cases e;obtain⟨_,_,z,_⟩:=hy;subst z;cases (show _=_ from hx.1);done)
  |(cases e;obtain⟨_,z,_⟩:=hy;subst z;cases (show _=_ from hx);done)
  |(cases e;obtain⟨_,z,_⟩:=hy;subst z;cases (show _=_ from hx.1);done)
  |(cases e;obtain⟨_,_,z,h2,_⟩:=hx;obtain⟨_,_,z',Md,_⟩:=hy;subst z;cases z';rw[h2] at Md;cases Md;done)
  |(cases e;cases (show _=_ from hx);cases (show _=_ from hy);done)
  |(cases e;cases (show _=_ from hx.1);cases (show _=_ from hy.1);done)
def kA(I:Inv X f8 σ H s)(hs:Same F H):∀(n:Nat) (x y:D) (v:V) (b:Bool),Den X.K F x v->Den X.K F y v->m7 n x y=some b->b=true
 |0,x,y,v,b,hx,hy,e=>qI hx hy (by unfold m7 at e;exact e)
 |n+1,x,y,v,b,hx,hy,e=>by
  unfold m7 at e;split at e
  ·rename_i xs ys _;obtain⟨a,vs,rfl,h2,h3,_⟩:=hx;obtain⟨a',vs',z,k2,k3,_⟩:=hy;cases z;rw[h2] at k2;cases k2;exact kB (kA I hs _) h3 k3 (by simpa using e)
  ·rename_i xs ys _;obtain⟨a,vs,rfl,h2,h3,_⟩:=hx;obtain⟨a',vs',z,k2,k3,_⟩:=hy;cases z;rw[h2] at k2;cases k2;exact kB (kA I hs _) h3 k3 (by simpa using e)
  ·rename_i xs ys _;obtain⟨a,rfl,h2,_⟩:=hx;obtain⟨a',vs',z,k2,k3,_⟩:=hy;cases z;have hv:=I.list_inj (Same.seq hs h2) (SqL.of (hs _ _ k2));rw[<-hv] at k3;exact kB (kA I hs _) (DenL.ints xs) k3 (by simpa using e)
  ·exact qI hx hy e
def Vals.at{vs:List V}{aK:List Value}(r:Vals vs aK){j:Nat}(h:j<aK.toArray.size):∃v,vs[j]? =some v/\RelV v aK.toArray[j]:=by
 have hl:=r.length;have hj:j<vs.length:=by rw[Po] at h;omega
 obtain⟨u,e1,e2⟩:=r.get (Pd hj);refine⟨vs[j],Pd hj,?_⟩;have:aK.toArray[j]=u:=by
  have:=(Pe.mp e1).2;simpa using this
 rw[this];exact e2
def ny{f:D->D->Option Bool}{A:Qm}{xs ys:List D}{vs ws:List V}{aK fM:List Value}{b:Bool}(h1:DenL X.K F xs vs)(h2:DenL X.K F ys ws)(r1:Vals vs aK)(r2:Vals ws fM)(e:se f xs ys=some b)
 (ih:∀x y v w u t c,Den X.K F x v->Den X.K F y w->RelV v u->RelV w t->f x y=some c->EqAt A s u t c):
 ∀j (k1:j<aK.toArray.size) (k2:j<fM.toArray.size),EqAt A s aK.toArray[j] fM.toArray[j] (ev f xs ys j):=λj k1 k2=>by
 obtain⟨v,e1,q1⟩:=Vals.at r1 k1;obtain⟨w,e2,q2⟩:=Vals.at r2 k2;obtain⟨x,e3,q3⟩:=h1.at e1;obtain⟨y,e4,q4⟩:=h2.at e2;obtain⟨c,hc⟩:=uv e j x y e3 e4;have:ev f xs ys j=c:=by unfold ev;rw[e3,e4];simp[hc]
 rw[this];exact ih x y v w _ _ c q3 q4 q1 q2 hc
def qY{f:D->D->Option Bool}{A:Qm}(hu:A.units<cLine){xs ys:List D}{vs ws:List V}{aK fM:List Value}{b:Bool}{a a':Addr}(h1:DenL X.K F xs vs)(h2:DenL X.K F ys ws)(r1:Vals vs aK)(r2:Vals ws fM)
 (p1:s.heap.IsList a aK.toArray)(p2:s.heap.IsList a' fM.toArray)(e:se f xs ys=some b)(hr:a=a'->b=true)
 (ih:∀x y v w u t c,Den X.K F x v->Den X.K F y w->RelV v u->RelV w t->f x y=some c->EqAt A.in1 s u t c):EqAll A s (.ref a) (.ref a') b:=by
 have l1:=h1.len;have l2:=h2.len;have l3:=r1.length;have l4:=r2.length;have hv:=sf e;have core:RcAt A s (.ref a) (.ref a') b/\RcNeAt A s (.ref a) (.ref a') (!b):=by
  by_cases hl:xs.length=ys.length
  ·have hsz:aK.toArray.size=fM.toArray.size:=by rw[Po,Po];omega
   have hb:b=(PY aK.toArray.size).all (ev f xs ys):=by
    rw[hv,hl,T6,beq_self_eq_true,TM];congr 2;rw[Po];omega
   rw[hb];exact⟨RcAt.lists p1 p2 hsz hu (ny h1 h2 r1 r2 e ih),RcNeAt.lists p1 p2 hsz hu (ny h1 h2 r1 r2 e ih)⟩
  ·have hb:b=false:=by rw[hv,show (xs.length==ys.length)=false from by simpa using hl,Bool.and_false]
   have hsz:(aK.toArray.size !=fM.toArray.size)=true:=by
    rw[Po,Po];simp;omega
   rw[hb];exact⟨RcAt.lists_lengths p1 p2 hsz hu,RcNeAt.lists_lengths p1 p2 hsz hu⟩
 refine⟨core.1,core.2,?_⟩;by_cases hq:a=a'
 ·rw[hr hq];subst hq;exact EqAt.same _
 ·exact EqAt.of_refs hq core.1
def xF{f:D->D->Option Bool}{A:Qm}(hu:A.units<cLine){xs ys:List D}{vs ws:List V}{aK fM:List Value}{b:Bool}{a a':Addr}(h1:DenL X.K F xs vs)(h2:DenL X.K F ys ws)(r1:Vals vs aK)(r2:Vals ws fM)
 (p1:s.heap.IsTuple a aK.toArray)(p2:s.heap.IsTuple a' fM.toArray)(e:se f xs ys=some b)(hr:a=a'->b=true)
 (ih:∀x y v w u t c,Den X.K F x v->Den X.K F y w->RelV v u->RelV w t->f x y=some c->EqAt A.in1 s u t c):EqAll A s (.ref a) (.ref a') b:=by
 have l1:=h1.len;have l2:=h2.len;have l3:=r1.length;have l4:=r2.length;have hb:b=((PY (min aK.toArray.size fM.toArray.size)).all (ev f xs ys)&&aK.toArray.size==fM.toArray.size):=by
  rw[sf e,Po,Po,<-l3,<-l4,<-l1,<-l2]
 have core:RcAt A s (.ref a) (.ref a') b/\RcNeAt A s (.ref a) (.ref a') (!b):=by
  rw[hb];exact⟨RcAt.tuples p1 p2 hu (ny h1 h2 r1 r2 e ih),RcNeAt.tuples p1 p2 hu (ny h1 h2 r1 r2 e ih)⟩
 refine⟨core.1,core.2,?_⟩;by_cases hq:a=a'
 ·rw[hr hq];subst hq;exact EqAt.same _
 ·exact EqAt.of_refs hq core.1
def si(I:Inv X f8 σ H s)(hs:Same F H):∀(n:Nat) (A:Qm) (x y:D) (v w:V) (u t:Value) (b:Bool),A.units+n<cLine->Den X.K F x v->Den X.K F y w->RelV v u->RelV w t->m7 n x y=some b->EqAll A s u t b
 |0,A,x,y,v,w,u,t,b,hu,hx,hy,rx,ry,e=>ux I hs (by omega) hx hy rx ry (by unfold m7 at e;exact e)
 |n+1,A,x,y,v,w,u,t,b,hu,hx,hy,rx,ry,e=>by
  have Kb:A.units<cLine:=by omega
  have Oo:A.in1.units+n<cLine:=by show A.units+1+n<cLine;omega
  have hrefl:=kA (F:=F) I hs (n+1) x y;have ih:∀x y v w u t c,Den X.K F x v->Den X.K F y w->RelV v u->RelV w t->m7 n x y=some c->EqAt A.in1 s u t c:=λx y v w u t c q1 q2 q3 q4 q5=>(si I hs n A.in1 x y v w u t c Oo q1 q2 q3 q4 q5).eq;have e0:=e;unfold m7 at e;split at e
  ·rename_i xs ys heq;cases heq;obtain⟨a,vs,aK,rfl,Ia,h2,h3,r1,p1⟩:=eR I hs hx rx;obtain⟨a',vs',its',rfl,Ib,k2,k3,JA,Jt⟩:=eR I hs hy ry;exact xF Kb h3 k3 r1 JA p1 Jt e (λz=>by subst z;exact hrefl v b hx (by rw[Ia,<-Ib];exact hy) e0) ih
  ·rename_i xs ys heq;cases heq;obtain⟨a,vs,aK,rfl,Ia,h2,h3,r1,p1⟩:=dX I hs hx rx;obtain⟨a',vs',its',rfl,Ib,k2,k3,JA,Jt⟩:=dX I hs hy ry;exact qY Kb h3 k3 r1 JA p1 Jt e (λz=>by subst z;exact hrefl v b hx (by rw[Ia,<-Ib];exact hy) e0) ih
  ·rename_i xs ys heq;cases heq;obtain⟨a,aK,rfl,Ia,h2,r1,p1⟩:=Hl I hs hx rx;obtain⟨a',vs',its',rfl,Ib,k2,k3,JA,Jt⟩:=dX I hs hy ry;exact qY Kb (DenL.ints _) k3 r1 JA p1 Jt e (λz=>by subst z;exact hrefl v b hx (by rw[Ia,<-Ib];exact hy) e0) ih
  ·exact ux I hs Kb hx hy rx ry e
end
def lH(x y:D):M D:=match m7 6 x y with | some b=>ab (.bl b) | none=>af
def kr(x y:D):M D:=match m7 6 x y with | some b=>ab (.bl (!b)) | none=>af
def JC(K:Ph):R2:=λx y H Q=>∃F dx dy b,Same F H/\Den K F dx x/\Den K F dy y/\m7 6 dx dy=some b/\Q (.bl b) H
def JH(K:Ph):R2:=λx y H Q=>∃F dx dy b,Same F H/\Den K F dx x/\Den K F dy y/\m7 6 dx dy=some b/\Q (.bl (!b)) H
section
variable{X:Cx}{Xw:Nat->Hp->Prop}{a b:Expr}{δa δb:DE}{pos:Pos}
def BC(hu:X.A.units+64<cLine):OpR X (Qj .Eq) (JC X.K):=by
 intro f8 s σ H x y v u Q I rx ry h;obtain⟨F,dx,dy,b,hs,hx,hy,e,q⟩:=h;exact(si I hs 6 X.A dx dy x y v u b (by omega) hx hy rx ry e).rc _ _ _ _ ⟨.bl b,H,I,rfl,q⟩
def GN(hu:X.A.units+64<cLine):OpR X (Qj .NotEq) (JH X.K):=by
 intro f8 s σ H x y v u Q I rx ry h;obtain⟨F,dx,dy,b,hs,hx,hy,e,q⟩:=h;exact(si I hs 6 X.A dx dy x y v u b (by omega) hx hy rx ry e).ne _ _ _ _ ⟨.bl (!b),H,I,rfl,q⟩
def BE{K:Ph}:t7 K (JC K) lH:=λXw F H x y dx dy Q s hx hy w=>by
 unfold lH at w;split at w
 ·rename_i b e;exact⟨F,dx,dy,b,s,hx,hy,e,WP.now w s rfl⟩
 ·exact w.elim
def GP{K:Ph}:t7 K (JH K) kr:=λXw F H x y dx dy Q s hx hy w=>by
 unfold kr at w;split at w
 ·rename_i b e;exact⟨F,dx,dy,b,s,hx,hy,e,WP.now w s rfl⟩
 ·exact w.elim
def vm(hu:X.A.units+64<cLine)(ha:PD X Xw a δa)(hb:PD X Xw b δb):lx X Xw (.Compare a [.Eq] [b] pos) (bH (d2 lH δa δb)):=eo (BC hu) BE ha hb
def mT(hu:X.A.units+64<cLine)(ha:PD X Xw a δa)(hb:PD X Xw b δb):lx X Xw (.Compare a [.NotEq] [b] pos) (bH (d2 kr δa δb)):=eo (GN hu) GP ha hb
def vg(hu:X.A.units+64<cLine)(ha:PD X Xw a δa)(hb:PD X Xw b δb):PD X Xw (.Compare a [.Eq] [b] pos) (d2 lH δa δb):=xj (BC hu) BE ha hb
end
def PDW(X:Cx)(Xw:Nat->Hp->Prop)(e:Expr)(δ:DT):Prop:=PW X e (Kj X.K Xw δ)
def PW.weak{X:Cx}{e:Expr}{t t':TT}(h:PW X e t)(k:∀σ H Q,t' σ H Q->t σ H Q):PW X e t':=λwh f8 s σ H Q I w=>h wh f8 s σ H Q I (k σ H Q w)
section
variable{X:Cx}{Xw:Nat->Hp->Prop}{a b c:Expr}{T0:List Expr}{δa δb δc:DE}{τa τb:DT}{pos:Pos}
def pq(ha:lx X Xw a τa):PDW X Xw (.BoolOp .And [a] pos) τa:=Eg ha
def e_(ha:lx X Xw a τa):PDW X Xw (.BoolOp .Or [a] pos) τa:=Hf ha
def tf(ha:lx X Xw a τa)(hb:PDW X Xw (.BoolOp .And (b::T0) pos) τb):PDW X Xw (.BoolOp .And (a::b::T0) pos) (ky τa τb):=PW.weak (He ha hb) λσ H Q ⟨F,Z,s,w⟩=>by
 refine⟨F,Z,s,WPB.mono (WPB.bindB w) λv H1 ⟨F1,e1,w1⟩=>?_⟩;cases v with
 |true=>exact⟨F1,Z,s.ext e1,w1⟩
 |false=>exact w1 _ _ (Ext.refl e1.fh)
def ir(ha:lx X Xw a τa)(hb:PDW X Xw (.BoolOp .Or (b::T0) pos) τb):PDW X Xw (.BoolOp .Or (a::b::T0) pos) (lq τa τb):=PW.weak (Jz ha hb) λσ H Q ⟨F,Z,s,w⟩=>by
 refine⟨F,Z,s,WPB.mono (WPB.bindB w) λv H1 ⟨F1,e1,w1⟩=>?_⟩;cases v with
 |false=>exact⟨F1,Z,s.ext e1,w1⟩
 |true=>exact w1 _ _ (Ext.refl e1.fh)
def PDW.t(h:PDW X Xw a τa):lx X Xw a τa:=PW.pt h
def cC(ha:lx X Xw a τa):lx X Xw (.UnaryOp .Not a pos) (cG τa):=PT.weak (Hc ha) λσ H Q ⟨F,Z,s,w⟩=>
 ⟨F,Z,s,WPB.mono (WPB.bindB w) λv H1 ⟨F1,e1,w1⟩=>w1 _ _ (Ext.refl e1.fh)⟩
def vL:D->M Bool
 | .non=>ab false
 | .bl b=>ab b
 | .lst ds=>ab (!ds.isEmpty)
 | .tup ds=>ab (!ds.isEmpty)
 |_=>af
def b9(δ:DE):DT:=λZ=>δ Z>>=vL
def DenL.isEmpty{K:Ph}{F:Hp}{ds:List D}{vs:List V}(h:DenL K F ds vs):ds.isEmpty=vs.isEmpty:=by
 have:=h.len;cases ds<;>cases vs<;>simp_all
def cE(ha:PD X Xw a δa)(he:∀whole,isTrue a X.env whole=(do let v<-whole;standAt a.pos;holding [v] (truthy v)):=by intro _;rfl):lx X Xw a (b9 δa):=PT.weak (B0 ha he) λσ H Q ⟨F,Z,s,w⟩=>by
 refine⟨F,Z,s,WP.mono (WPB.bind (K:=X.K) w) λv H1 ⟨F1,d,e1,q1,w1⟩=>?_⟩;cases d with
 |non=>cases (show _=_ from q1);exact⟨false,rfl,w1 _ _ (Ext.refl e1.fh)⟩
 |bl b=>cases (show _=_ from q1);exact⟨b,rfl,w1 _ _ (Ext.refl e1.fh)⟩
 |lst ds=>
  obtain⟨a,vs,rfl,h2,h3,_⟩:=q1;exact⟨!ds.isEmpty, .inl ⟨vs,SqL.of (e1.fh _ _ h2),by rw[h3.isEmpty]⟩,w1 _ _ (Ext.refl e1.fh)⟩
 |tup ds=>
  obtain⟨a,vs,rfl,h2,h3,_⟩:=q1;exact⟨!ds.isEmpty, .inr (.inl ⟨vs,SqT.of (e1.fh _ _ h2),by rw[h3.isEmpty]⟩),w1 _ _ (Ext.refl e1.fh)⟩
 |_=>exact w1.elim
def xl{op}(h:PD X Xw a δa):PD X Xw (.BoolOp op [a] pos) δa:=G2 h
def sY(ha:PD X Xw a δa)(hb:PD X Xw (.BoolOp .And (b::T0) pos) δb):PD X Xw (.BoolOp .And (a::b::T0) pos) (fF δa δb):=PE.weak (GX ha hb) λσ H Q ⟨F,Z,s,w⟩=>by
 refine⟨F,Z,s,WP.mono (WP.bind w) λv H1 ⟨F1,d,e1,q1,w1⟩=>?_⟩;cases d with
 |bl k=>
  refine⟨k,q1,?_⟩;cases k with
  |true=>exact⟨F1,Z,s.ext e1,w1⟩
  |false=>exact WP.now w1 e1.fh rfl
 |_=>exact w1.elim
def GW(ha:PD X Xw a δa):PD X Xw (.UnaryOp .Not a pos) (EC δa):=PE.weak (G1 ha) λσ H Q ⟨F,Z,s,w⟩=>by
 refine⟨F,Z,s,WP.mono (WP.bind w) λv H1 ⟨F1,d,e1,q1,w1⟩=>?_⟩;cases d with
 |bl k=>exact⟨k,q1,WP.now w1 e1.fh rfl⟩
 |_=>exact w1.elim
def E8(hc:lx X Xw c τa)(ha:PD X Xw a δa)(hb:PD X Xw b δb):PD X Xw (.IfExp c a b pos) (Az τa δa δb):=PE.weak (BQ hc ha hb) λσ H Q ⟨F,Z,s,w⟩=>by
 refine⟨F,Z,s,WPB.mono (WP.bindB w) λv H1 ⟨F1,e1,w1⟩=>?_⟩;cases v with
 |true=>exact⟨F1,Z,s.ext e1,w1⟩
 |false=>exact⟨F1,Z,s.ext e1,w1⟩
def vY(p q:Int->Int->Bool)(a b c:DE):DE:=λZ=>a Z>>=λx=>b Z>>=λy=>match x,y with
 | .int i, .int j=>if p i j then c Z>>=λz=>gI (λi j=> .bl (q i j)) y z else ab (.bl false)
 |_,_=>af
def rL{p q:Int->Int->Bool}:∀σ H Q,tD X.K Xw (vY p q δa δb δc) σ H Q->xD (yR λi j=> .bl (p i j)) (yR λi j=> .bl (q i j)) (tD X.K Xw δa) (tD X.K Xw δb) (tD X.K Xw δc) σ H Q:=λσ H Q ⟨F,Z,s,w⟩=>by
 refine⟨F,Z,s,WP.mono (WP.bind w) λv H1 ⟨F1,d,e1,q1,w1⟩=>?_⟩;refine⟨F1,Z,s.ext e1,WP.mono (WP.bind w1) λu H2 ⟨F2,d',e2,q2,w2⟩=>?_⟩;cases d with
 |int i=>
  cases d' with
  |int j=>
   refine⟨i,j,q1,q2,p i j,rfl,?_⟩;have w2:WP X.K Xw F2 H2 (if p i j then δc Z>>=λz=>gI (λi j=> .bl (q i j)) (.int j) z else ab (.bl false)) Q:=w2;cases hp:p i j with
   |false=>
    rw[hp] at w2;exact WP.now w2 e2.fh rfl
   |true=>
    rw[hp] at w2;refine⟨F2,Z,(s.ext e1).ext e2,WP.mono (WP.bind w2) λu' H3 ⟨F3,M6,e3,q3,w3⟩=>?_⟩;exact va (K:=X.K) (gv:=λi j=> .bl (q i j)) (gd:=λi j=> .bl (q i j)) (λ_ _ _=>rfl) Xw F3 H3 u u' (.int j) M6 Q e3.fh q2 q3 w3
  |_=>exact w2.elim
 |_=>exact w2.elim
def BH{op xc:CmpOp}{p q:Int->Int->Bool}(ho:OpR X (Qj op) (yR λi j=> .bl (p i j)))(qN:OpR X (Qj xc) (yR λi j=> .bl (q i j)))(ha:PD X Xw a δa)(hb:PD X Xw b δb)(hc:PD X Xw c δc)
 (hm:lastMarks [op,xc] [b,c]=false:=by with_unfolding_all rfl):PD X Xw (.Compare a [op,xc] [b,c] pos) (vY p q δa δb δc):=PE.weak (BN ho qN ha hb hc hm) rL
def xp{op xc:CmpOp}{p q:Int->Int->Bool}(ho:OpR X (Qj op) (yR λi j=> .bl (p i j)))(qN:OpR X (Qj xc) (yR λi j=> .bl (q i j)))(ha:PD X Xw a δa)(hb:PD X Xw b δb)(hc:PD X Xw c δc)
 (hm:lastMarks [op,xc] [b,c]=false:=by with_unfolding_all rfl):lx X Xw (.Compare a [op,xc] [b,c] pos) (bH (vY p q δa δb δc)):=PT.weak (BX ho qN ha hb hc hm) λσ H Q ⟨F,Z,s,w⟩=>by
 refine rL σ H _ ⟨F,Z,s,WP.mono (WPB.bind w) λv H1 ⟨F1,d,e1,q1,w1⟩=>?_⟩;cases d with
 |bl k=>exact⟨k,q1,w1 _ _ (Ext.refl e1.fh)⟩
 |_=>exact w1.elim
def xQ(K:Ph)(r:List V->Hp->VK->Prop)(g:List D->M D):Prop:=∀(Xw:Nat->Hp->Prop) (F H:Hp) (vs:List V) (ds:List D) (Q:VK),Same F H->DenL K F ds vs->WP K Xw F H (g ds) Q->r vs H Q
variable{x:Str}{p:Pos}{e:Expr}{es:List Expr}{δs:DA}{id:String}{r:List V->Hp->VK->Prop}{g:List D->M D}
def Hq(h:xQ X.K r g):∀σ H Q,tD X.K Xw (dA g δs) σ H Q->MV r (MW X.K Xw δs) σ H Q:=λσ H Q ⟨F,Z,s,w⟩=>
 ⟨F,Z,s,WPL.mono (WP.bindL w) λvs H1 ⟨F1,ds,e1,q1,w1⟩=>h Xw F1 H1 vs ds Q e1.fh q1 w1⟩
def eG(hc:CallR X (.builtin id) r)(hd:xQ X.K r g)(hg:Gl X x)(hm:X.mg x=none)(hv:Qw x=some (.builtin id))(ha:p8 X Xw (e::es) δs)(hn:x≠"__name__":=by decide)(wF:(x==("__debug__":Str))=false:=by decide)
 (he:PB (e::es) X.env=(false,eval e X.env)::PB es X.env:=by rfl)(v7:(Rm pos (PB es X.env)).any (·.1)=false:=by rfl):PD X Xw (.Call (.Name x p) (e::es) [] pos) (dA g δs):=
 PE.weak (BM hc hg hm hv ha hn wF he v7) (Hq hd)
def bh:List D->M D
 |[.lst ds]=>ab (.int ds.length)
 |[.tup ds]=>ab (.int ds.length)
 |[.str x]=>ab (.int x.length)
 |[.scr ns]=>ab (.int ns.length)
 |_=>af
def zt:xQ X.K (λxs H Q=>(∃p ys,xs=[.ref p]/\(SqL X.K H p ys\/SqT X.K H p ys)/\Q (.int ys.length) H)\/∃z,xs=[.str z]/\z.length<=Py/\Q (.int z.length) H) bh:=λXw F H vs ds Q s h w=>by
 unfold bh at w;split at w
 ·obtain⟨v,rfl,h1⟩:=h.one;obtain⟨a,vs,rfl,h2,h3,_⟩:=h1;exact .inl ⟨a,vs,rfl, .inl (SqL.of (s _ _ h2)),by rw[<-h3.len];exact WP.now w s rfl⟩
 ·obtain⟨v,rfl,h1⟩:=h.one;obtain⟨a,vs,rfl,h2,h3,_⟩:=h1;exact .inl ⟨a,vs,rfl, .inr (SqT.of (s _ _ h2)),by rw[<-h3.len];exact WP.now w s rfl⟩
 ·obtain⟨v,rfl,h1⟩:=h.one;cases (show _=_ from h1.1);exact .inr ⟨_,rfl,by have:=h1.2;have:=dg;omega,WP.now w s rfl⟩
 ·obtain⟨v,rfl,h1⟩:=h.one;obtain⟨a,rfl,h2,_⟩:=h1;exact .inl ⟨a,_,rfl, .inl (Same.seq s h2),by rw[Pb];exact WP.now w s rfl⟩
 ·exact w.elim
def bT(hg:Gl X "len")(hm:X.mg "len"=none)(ha:p8 X Xw [e] δs)(he:PB [e] X.env=[(false,eval e X.env)]:=by rfl):PD X Xw (.Call (.Name "len" p) [e] [] pos) (dA bh δs):=
 eG (r9.or r_) zt hg hm PySem.boot_len ha (by decide) (by decide) he rfl
def rR:List D->M D
 |[.int i]=>ab (.int (if i<0 then -i else i))
 |_=>af
def qd:List D->M D
 |[.int i, .int j]=>ab (.int (if j>i then j else i))
 |_=>af
def zA:List D->M D
 |[.int i, .int j]=>ab (.int (if j<i then j else i))
 |_=>af
def sW(hg:Gl X "abs")(hm:X.mg "abs"=none)(ha:p8 X Xw [e] δs)(hb:Qw "abs"=some (.builtin "abs"))(he:PB [e] X.env=[(false,eval e X.env)]:=by rfl):PD X Xw (.Call (.Name "abs" p) [e] [] pos) (dA rR δs):=
 eG As (λXw F H vs ds Q s h w=>by
  unfold rR at w;split at w
  ·obtain⟨v,rfl,h1⟩:=h.one;cases (show _=_ from h1);exact⟨_,rfl,WP.now w s rfl⟩
  ·exact w.elim) hg hm hb ha (by decide) (by decide) he rfl
end
def WP.xw{K:Ph}{Xw Xw':Nat->Hp->Prop}{F H:Hp}{m:M D}{Q:VK}(h:WP K Xw F H m Q)(k:∀n H,Xw n H->Xw' n H):WP K Xw' F H m Q:=by
 match m,h with
 |none,h=>exact h
 |some (.ok d),h=>exact h
 |some (.ex n),h=>exact λF' H' e=>k n H' (h F' H' e)
def cO{X:Cx}{Xw:Nat->Hp->Prop}{st:Stmt}{τ:DS}(h:ku X.nox (λ_ _=>False) st τ):ku X Xw st (λZ=>noex (τ Z)):=λt0 H₀ f8 s σ H D I ⟨F,Z,S,w⟩=>by
 have w:WPS X.K Xw t0 H₀ (noex (τ Z)) D:=w;have w':tS X.K (λ_ _=>False) t0 H₀ τ D σ H:=by
  refine⟨F,Z,S,?_⟩;rcases(τ Z).cs with e | ⟨n,e⟩ | ⟨o,e⟩
  ·rw[e] at w;exact w.elim
  ·rw[e] at w;exact w.elim
  ·rw[e] at w⊢;cases o with
   |nx Z'=>exact w
   |rt d=>exact w
 refine Qt (h t0 H₀ f8 s σ H D (I.wish _) w') (λf s' q=>SP.unwish q) λ_ _ z=>z.elim
def EX(cv:Nat->Value)(Xw:Nat->Hp->Prop):XK:=λc _ H=>∃n,c=cv n/\Xw n H
def HG(K:Ph)(cv:Nat->Value)(k:Nat)(f:List D->M D):Sp:=λvs H Q E=>∃F ds,Same F H/\DenL K F ds vs/\vs.length=k/\WP K (λn H'=>E (cv n) none H') F H (f ds) Q
def bS(n:Nat)(τ:DS):List D->M D:=λds=>τ (ds.map (λd=>some (Sl.fz d))++Qc (n - ds.length) none)>>=λo=>match o with
 | .nx _=>ab .non
 | .rt d=>ab d
section
variable{P:PX}{w:World}{K:Ph}{mg:Str->Option Value}{base:Heap}{CX:xP}{cv:Nat->Value}
def Ic{x qual:Str}{st:Stmt}{f:Addr}{fd:Q8}{N ps:List Str}{k:Nat}{τ:DS}(Fn:Fun K x qual st f fd)(S:FnScope N ps (ak st))
 (ou:∀(fk:Value) (A:Qm) (outer:List Env) (s:Pf) (H:Hp) (E:XK),Room k (A.deeper (RY qual (ak st) s.heap.objs.size f fk))->
  PSDs (gB CX P w K mg base N qual (ak st) f fk A outer s H E) (λn H'=>E (cv n) none H') (bQ st) τ):FnOk P w K mg base CX (k+1) f fd ps (HG K cv ps.length (bS N.length τ)):=by
 obtain⟨oc,od,kV,doc,pm,an,fk,ct,DP,rfl,lk,vZ⟩:=Fn.ex;refine EI lk vZ S (λvs H Q E ⟨_,_,_,_,hl,_⟩=>hl) λA outer s H vs Q E hr CH=>?_;obtain⟨F,ds,fh,hd,hl,hw⟩:=CH;refine⟨_,ou fk A outer s H E hr F H,F,ds.map (λd=>some (Sl.fz d))++Qc (N.length - ds.length) none,⟨Ext.refl fh,⟨fh,λi sl e=>?_⟩,?_,λi c a e=>?_,λi j c c' a e=>?_⟩,?_⟩
 ·have P3:=hd.len;by_cases hi:i<ds.length
  ·rw[P6 (by simpa using hi),Pq] at e;cases q:ds[i]? with
   |none=>rw[q] at e;cases e
   |some d=>
    rw[q] at e;cases e;obtain⟨v,e1,e2⟩:=hd.get q;refine⟨v,?_,e2⟩;unfold L2.start;rw[P6 (by simp;omega),Pq,e1];rfl
  ·rw[Qe (by simpa using hi),QP] at e;split at e<;>cases e
 ·have P3:=hd.len;unfold L2.start;simp[P3]
 ·exfalso
  by_cases hi:i<ds.length
  ·rw[P6 (by simpa using hi),Pq] at e;cases q:ds[i]? with
   |none=>rw[q] at e;cases e
   |some d=>rw[q] at e;cases e
  ·rw[Qe (by simpa using hi),QP] at e;split at e<;>cases e
 ·exfalso
  by_cases hi:i<ds.length
  ·rw[P6 (by simpa using hi),Pq] at e;cases q:ds[i]? with
   |none=>rw[q] at e;cases e
   |some d=>rw[q] at e;cases e
  ·rw[Qe (by simpa using hi),QP] at e;split at e<;>cases e
 ·have hw:WP K (λn H'=>E (cv n) none H') F H (τ (ds.map (λd=>some (Sl.fz d))++Qc (N.length - ds.length) none)>>=λo=>match o with | .nx _=>ab .non | .rt d=>ab d) Q:=hw;rcases(τ (ds.map (λd=>some (Sl.fz d))++Qc (N.length - ds.length) none)).cs with e | ⟨n,e⟩ | ⟨o,e⟩
  ·rw[e] at hw;exact hw.elim
  ·rw[e] at hw⊢;exact hw
  ·rw[e] at hw⊢;cases o with
   |nx Z'=>exact λσ' F' H' s'=>hw .non H' F' s'.ext rfl
   |rt d=>exact λv F' H' e' q=>hw v H' F' e' q
end
section
variable{X:Cx}{Xw:Nat->Hp->Prop}{CX:xP}{cv:Nat->Value}{k m:Nat}{f:Addr}{fd:Q8}{ps:List Str}{g:List D->M D}{x:Str}{p pos:Pos}{e:Expr}{es:List Expr}{δs:DA}
def DQ(F:FnOk X.prog X.w X.K X.mg X.base CX k f fd ps (HG X.K cv m g))(hr:Room k X.A)(hg:Gl X x)(hm:X.mg x=some (.ref f))(hk:QO X.K (.ref f)=true)(hb:Binds X.K fd ps [])(hx:Passes CX X (EX cv Xw))
 (ha:p8 X Xw (e::es) δs)(hl:(e::es).length=m)(wF:(x==("__debug__":Str))=false:=by decide)(he:PB (e::es) X.env=(false,eval e X.env)::PB es X.env:=by rfl)(v7:(Rm pos (PB es X.env)).any (·.1)=false:=by rfl):
 PD X Xw (.Call (.Name x p) (e::es) [] pos) (λZ=>δs Z>>=λds=>if ds.length=m then g ds else af):=PE.weak (D2 F hr hg hm hk hb .nil hx ha wF he v7) λσ H Q ⟨F,Z,s,w⟩=>by
 refine⟨F,Z,s,WPL.mono (WP.bindL w) λvs H1 ⟨F1,ds,e1,q1,w1⟩=>?_⟩;split at w1
 ·rename_i IF;refine⟨F1,ds,e1.fh,by simpa using q1,by rw[Qx,<-q1.len];exact IF,WP.xw w1 λn H h=>⟨n,rfl,h⟩⟩
 ·exact w1.elim
def yE{x:Str}{d:D}{v:V}{u:Value}(hg:Gl X x)(hm:X.mg x=some u)(r:RelV v u)(hd:∀F,Den X.K F d v)(wF:(x==("__debug__":Str))=false:=by decide):PD X Xw (.Name x pos) (dC d):=
 gS (D6 hg hm r wF) hd
end
def obj_some{P:PX}{w:World}{H:Hp}{h:Heap}{a:Addr}{o:HO}(x:ObjOk P w H h a o):∃ob,h.get? a=some ob:=by
 cases o with
 |lst xs=>obtain⟨_,_,_,_,e⟩:=x;exact⟨_,e⟩
 |tup xs=>obtain⟨_,_,_,ob,e,_⟩:=x;exact⟨_,e⟩
 |dK ax=>obtain⟨_,_,_,_,o,_,_,e,_⟩:=x;exact⟨_,e⟩
 |dT ax=>obtain⟨_,_,_,_,o,_,_,e,_⟩:=x;exact⟨_,e⟩
 |set S n=>obtain⟨o,_,_,_,e,_⟩:=x;exact⟨_,e⟩
 |ins C dx fs=>obtain⟨_,_,_,e,_⟩:=x;exact⟨_,e⟩
 |own y=>obtain⟨_,e⟩:=x;exact⟨_,e⟩
 |xd fs=>obtain⟨_,⟨_,_,_,e,_⟩,_⟩:=x;exact⟨_,e⟩
 |rng lo hi=>obtain⟨_,_,_,e⟩:=x;exact⟨_,e⟩
 |frz ob u=>obtain⟨e,_⟩:=x;exact⟨_,e⟩
 |tbl ps=>exact⟨_,(show h.get? a=some _ from x)⟩
 |met f y=>exact⟨_,(show h.get? a=some _ from x)⟩
 |ext φ=>obtain⟨_,⟨_,e⟩,_⟩:=x;exact⟨_,e⟩
def qw(P:PX)(w:World)(cv:Nat->Value):xP:=λouter H s E e s'=>∃(ea:Addr) (n:Nat) (a0:Value) (B:Heap) (H':Hp),e= .ref ea/\s'.os=s.os/\SI s'.gens/\HOk P w H' s'.heap/\Un (nz outer) [] H H' s.heap s'.heap/\
 Heap.FlyingW B outer ea (cv n) a0 s'.heap/\(∀b o,s'.heap.get? b=some o->(H' b≠none\/(s.heap.get? b).isSome=true)->b∉nz outer->B.get? b=some o)/\E (cv n) none H'
section
variable{P:PX}{w:World}{fs:List Addr}{H₀ H:Hp}{h₀ h h':Heap}
def Et(u:Un fs [] H₀ H h₀ h)(ka:∀b o,h.get? b=some o->b∉fs->(H b≠none\/(h₀.get? b).isSome=true)->h'.get? b=some o)(kb:∀b o,h.get? b=some o->b∈fs->∃sl,h'.get? b=some {o with slots:=sl}):Un fs [] H₀ H h₀ h' where
 keep:=λb o e n hb hx=>ka b o (u.keep b o e n hb hx) hb (.inr (by rw[e];rfl))
 slot:=λb o e n hb hx=>by
  obtain⟨sl,q⟩:=u.slot b o e n hb hx;obtain⟨Hn,q'⟩:=kb b _ q hb;exact⟨Hn,q'⟩
 free:=u.free
 there:=λb o e hx=>by
  obtain⟨o',q⟩:=u.there b o e hx;by_cases hb:b∈fs
  ·obtain⟨sl,q'⟩:=kb b _ q hb;exact⟨_,q'⟩
  ·exact⟨o',ka b o' q hb (.inr (by rw[e];rfl))⟩
 tups:=u.tups
 frzs:=u.frzs
 tbls:=u.tbls
def A3(x:HOk P w H h)(hf:∀b∈fs,H b=none)(ka:∀b o,h.get? b=some o->b∉fs->H b≠none->h'.get? b=some o):HOk P w H h':=λa o e=>by
 refine(x a o e).stay (λb u hb q=>ka b u q (λz=>?_) ?_) (λ_ q=>q) λ_ _ q=>q
 ·have hz:=hf b z;rcases hb with rfl | hb
  ·rw[hz] at e;cases e
  ·rw[hz] at hb;cases hb
 ·rcases hb with rfl | hb
  ·rw[e];exact λz=>nomatch z
  ·rw[hb];exact λz=>nomatch z
end
section
variable{P:PX}{w:World}{K:Ph}{mg:Str->Option Value}{base:Heap}{N:List Str}{qual:Str}{scope:Scope}{f:Addr}{cd:Value}{A:Qm}{outer:List Env}{s₀:Pf}{H₀:Hp}{E:XK}{cv:Nat->Value}
def aT:Passes (qw P w cv) (gB (qw P w cv) P w K mg base N qual scope f cd A outer s₀ H₀ E) (EX cv λn H'=>E (cv n) none H'):=by
 intro f8 σ H s e s' I ⟨ea,n,a0,B,H',he,Le,hg,hok,un,L8,hB,m,hm,hE⟩;subst he;have F0:((gB (qw P w cv) P w K mg base N qual scope f cd A outer s₀ H₀ E)).env.locals=s₀.heap.objs.size:=rfl;have Dj:nz ((gB (qw P w cv) P w K mg base N qual scope f cd A outer s₀ H₀ E)).stack=s₀.heap.objs.size::nz outer:=rfl;show wpAny (model P w) (A.deeper (RY qual scope s₀.heap.objs.size f cd)) (leaving (RY qual scope s₀.heap.objs.size f cd) (.ref ea)) _ _ s';refine wpAny_leaves_onW (base:=B) (outer:=outer) (L:=s₀.heap.objs.size) I.ok.frames rfl L8 λh' FJ ups=>?_;have EO:∀b∈nz ((gB (qw P w cv) P w K mg base N qual scope f cd A outer s₀ H₀ E)).stack,H' b=none:=λb hb=>by
  obtain⟨o,ho⟩:∃o,s.heap.get? b=some o:=by
   obtain⟨_,o,ho,_⟩:=I.stack.mem hb;exact⟨o,ho⟩
  exact un.free b o ho (I.stkFree b hb) (by simp)
 have EW:∀b o,s'.heap.get? b=some o->b∉nz ((gB (qw P w cv) P w K mg base N qual scope f cd A outer s₀ H₀ E)).stack->(H' b≠none\/(s.heap.get? b).isSome=true)->h'.get? b=some o:=λb o e hb hc=>FJ.1 b o (hB b o e hc hb);have unA:Un (nz outer) [] H₀ H' s₀.heap s'.heap:=by
  have u1:Un (nz outer) [] H₀ H s₀.heap s.heap:=I.base;refine⟨λb o e nn hb hx=>?_,λb o e nn hb hx=>?_,λb o e nn hx=>?_,λb o e hx=>?_,λb xs q=>un.tups b xs (u1.tups b xs q),λb o u q=>un.frzs b o u (u1.frzs b o u q),λb ps q=>?_⟩
  ·refine un.keep b o (u1.keep b o e nn hb hx) (u1.free b o e nn hx) (λz=>?_) (by simp);rw[Dj] at z;rcases Pn.mp z with z | z
   ·exact UK (Pw e) (by rw[z];exact Qp _)
   ·exact hb z
  ·obtain⟨sl,q⟩:=u1.slot b o e nn hb hx;obtain⟨Hn,q'⟩:=un.slot b _ q (u1.free b o e nn hx) (by rw[Dj];exact O_ _ hb) (by simp);exact⟨Hn,q'⟩
  ·obtain⟨o',q⟩:=u1.there b o e hx;exact un.free b o' q (u1.free b o e nn hx) (by simp)
  ·obtain⟨o',q⟩:=u1.there b o e hx;exact un.there b o' q (by simp)
  ·obtain⟨m1,q1⟩:=u1.tbls b ps q;obtain⟨m2,q2⟩:=un.tbls b _ q1;exact⟨m1++m2,by rw[q2,SH]⟩
 have MF:∀b,(s₀.heap.get? b).isSome=true->(s.heap.get? b).isSome=true:=λb hb=>by
  obtain⟨o,ho⟩:=Q5.mp hb;obtain⟨o',q⟩:=(show Un (nz outer) [] H₀ H s₀.heap s.heap from I.base).there b o ho (by simp);rw[q];rfl
 have Ly:∀b,(s₀.heap.get? b).isSome=true->b≠s₀.heap.objs.size:=λb hb z=>by
  obtain⟨o,ho⟩:=Q5.mp hb;exact UK (Pw ho) (by rw[z];exact Qp _)
 have Jm:∀b,b∉nz outer->(H' b≠none\/(s₀.heap.get? b).isSome=true)->b∉nz ((gB (qw P w cv) P w K mg base N qual scope f cd A outer s₀ H₀ E)).stack:=λb hb hc z=>by
  rcases hc with hc | hc
  ·exact hc (EO b z)
  ·rw[Dj] at z;rcases Pn.mp z with z | z
   ·exact Ly b hc z
   ·exact hb z
 refine⟨ea,n,a0,B,H',rfl,Le.trans I.os,hg,A3 hok EO (λb o e hb hc=>EW b o e hb (.inl hc)),Et unA (λb o e hb hc=>EW b o e (Jm b hb hc) (hc.imp id (MF b))) (λb o e hb=>?_),FJ,λb o e hc hb=>?_,?_⟩
 ·obtain⟨_,o',qN,hd⟩:=L8.2.2.1.mem (show b∈nz ((gB (qw P w cv) P w K mg base N qual scope f cd A outer s₀ H₀ E)).stack by rw[Dj];exact O_ _ hb);rw[e] at qN;cases qN;exact ups b o e hd
 ·have Ny:=Jm b hb hc;obtain⟨o',qN⟩:∃o',s'.heap.get? b=some o':=by
   rcases hc with hc | hc
   ·cases q:H' b with
    |none=>exact UK q hc
    |some u=>
     exact obj_some (hok b u q)
   ·obtain⟨o1,h1⟩:=Q5.mp hc;exact unA.there b o1 h1 (by simp)
  have:=hB b o' qN (hc.imp id (MF b)) Ny;rw[FJ.1 b o' this] at e;cases e;exact this
 ·rw[hm];exact hE
end
def EY:D->Option String
 | .non=>some "NoneType"
 | .bl _=>some "bool"
 | .int _=>some "int"
 | .str _=>some "str"
 | .tup _=>some "tuple"
 | .lst _=>some "list"
 |_=>none
def Gj(k T:String):Option Bool:=if T="str"\/T="int"\/T="bool"\/T="tuple"\/T="list" then some (decide (k=T)||(decide (k="bool")&&decide (T="int"))) else none
def hX:List D->M D
 |[d, .raw (.ty T)]=>match EY d with
  |some k=>match Gj k T with
   |some b=>ab (.bl b)
   |none=>af
  |none=>af
 |_=>af
def Gw{K:Ph}{k T:String}{b:Bool}(hk:k="NoneType"\/k="bool"\/k="int"\/k="str"\/k="tuple"\/k="list")(h:Gj k T=some b):S9 K (.type k) (.type T)=some b:=by
 unfold Gj at h;split at h
 ·rename_i hT;cases h;rcases hk with rfl | rfl | rfl | rfl | rfl | rfl<;>rcases hT with rfl | rfl | rfl | rfl | rfl<;>with_unfolding_all rfl
 ·cases h
section
variable{X:Cx}{Xw:Nat->Hp->Prop}{a b e e2:Expr}{δs:DA}{pos p:Pos}
def JE(K:Ph):List V->Hp->VK->Prop:=λxs H Q=>∃x T t b,xs=[x, .ty T]/\TyOf K H x t/\S9 K t (.type T)=some b/\Q (.bl b) H
def Au:CallR X (.builtin "isinstance") (JE X.K):=by
 intro f8 s σ H xs us Q I r h;obtain⟨x,T,t,b,rfl,ty,e,q⟩:=h;obtain⟨u,w',rfl,r1,r2⟩:=vals2 r;cases (show w'=_ from r2);exact zo I r1 ty e λtk=>⟨.bl b,H,I.tok tk,rfl,q⟩
def Cv{K:Ph}{F H:Hp}{d:D}{v:V}{k:String}(s:Same F H)(h:Den K F d v)(hk:EY d=some k):TyOf K H v (.type k)/\(k="NoneType"\/k="bool"\/k="int"\/k="str"\/k="tuple"\/k="list"):=by
 cases d with
 |non=>cases hk;cases (show _=_ from h);exact⟨.non, .inl rfl⟩
 |bl x=>cases hk;cases (show _=_ from h);exact⟨.bl x, .inr (.inl rfl)⟩
 |int x=>cases hk;cases (show _=_ from h);exact⟨.int x, .inr (.inr (.inl rfl))⟩
 |str x=>cases hk;cases (show _=_ from h.1);exact⟨.str x, .inr (.inr (.inr (.inl rfl)))⟩
 |tup x=>cases hk;obtain⟨a,vs,rfl,h2,_⟩:=h;exact⟨.tup (s _ _ h2), .inr (.inr (.inr (.inr (.inl rfl))))⟩
 |lst x=>cases hk;obtain⟨a,vs,rfl,h2,_⟩:=h;exact⟨.lst (s _ _ h2), .inr (.inr (.inr (.inr (.inr rfl))))⟩
 |_=>cases hk
def zm{K:Ph}:xQ K (JE K) hX:=λXw F H vs ds Q s h w=>by
 unfold hX at w;split at w
 ·rename_i d T;obtain⟨v,v',rfl,h1,h2⟩:=h.two;cases (show _=_ from h2);split at w
  ·rename_i k hk;split at w
   ·rename_i b hb;obtain⟨ty,IC⟩:=Cv s h1 hk;exact⟨v,T, .type k,b,rfl,ty,Gw IC hb,WP.now w s rfl⟩
   ·exact w.elim
  ·exact w.elim
 ·exact w.elim
def ke(hg:Gl X "isinstance")(hm:X.mg "isinstance"=none)(hb:Qw "isinstance"=some (.builtin "isinstance"))(ha:p8 X Xw [e,e2] δs)(he:PB [e,e2] X.env=(false,eval e X.env)::PB [e2] X.env:=by rfl)
 (v7:(Rm pos (PB [e2] X.env)).any (·.1)=false:=by rfl):PD X Xw (.Call (.Name "isinstance" p) [e,e2] [] pos) (dA hX δs):=
 eG Au zm hg hm hb ha (by decide) (by decide) he v7
def pj{x:Str}{T:String}(hg:Gl X x)(hm:X.mg x=none)(hv:Qw x=some (.type T))(hn:x≠"__name__":=by decide)(hd:(x==("__debug__":Str))=false:=by decide):PD X Xw (.Name x pos) (dC (.raw (.ty T))):=
 gS (v:= .ty T) (D1 hg hm hv (show RelV (.ty T) (.type T) from rfl) hn hd) λ_=>rfl
def bools:List D->Option (List Bool)
 |[]=>some []
 | .bl b::r=>(bools r).map (b:: ·)
 |_=>none
def allM:List D->M D
 |[.lst ds]=>match bools ds with
  |some bs=>ab (.bl (bs.all id))
  |none=>af
 |_=>af
def qD{K:Ph}{F:Hp}:∀{ds:List D}{vs:List V}{bs:List Bool},bools ds=some bs->DenL K F ds vs->vs=bs.map V.bl
 |[],_,_,e,h=>by cases e;exact h
 | .bl b::r,_,_,e,⟨v,r',h1,h2,h3⟩=>by
   unfold bools at e;cases q:bools r with
   |none=>rw[q] at e;cases e
   |some bs=>rw[q] at e;cases e;subst h1;rw[qD q h3,show v= .bl b from h2];rfl
 | .non::_,_,_,e,_=>by cases e
 | .int _::_,_,_,e,_=>by cases e
 | .str _::_,_,_,e,_=>by cases e
 | .raw _::_,_,_,e,_=>by cases e
 | .exc _::_,_,_,e,_=>by cases e
 | .scr _::_,_,_,e,_=>by cases e
 | .tup _::_,_,_,e,_=>by cases e
 | .lst _::_,_,_,e,_=>by cases e
def yW:∀{bs:List Bool}{aK:List Value},Vals (bs.map V.bl) aK->aK=bs.map RZ
 |[],_,r=>by cases r;rfl
 |b::bs,_,r=>by
  cases r with
  |cons r1 r2=>cases (show _=_ from r1);rw[yW r2];rfl
def LD:List V->Hp->VK->Prop:=λxs H Q=>∃(a:Addr) (bs:List Bool),xs=[.ref a]/\H a=some (.lst (bs.map V.bl))/\Q (.bl (bs.all id)) H
def all_range{bs:List Bool}:(PY bs.length).all (λi=>bs.getD i false)=bs.all id:=by
 induction bs with
 |nil=>rfl
 |cons b bs ih=>
  rw[Pl,TZ,RF,Rx,RF];congr 1
def y9(hc:X.calm=true):CallR X (.builtin "all") LD:=by
 intro f8 s σ H xs us Q I r h;obtain⟨a,bs,rfl,hH,q⟩:=h;obtain⟨u,rfl,r1⟩:=vals1 r;cases (show u=_ from r1);obtain⟨aK,r2,pl,hz⟩:=I.list (SqL.of (K:=X.K) hH);obtain rfl:=yW r2;have g6:a≠s.heap.objs.size:=P8 (I.hok.lt hH);refine call_all_walk (wpAny_pyIter_list pl.isList ?_);refine⟨s.heap.objs.size,_,_,_,_,_,λi=>bs.getD i false,rfl,Walks.list (A:=X.A.in1) (show X.A.in1.handled=none from I.ok.hd hc) s.heap.objs.size a g6 (bs.map RZ).toArray,⟨⟨_,PU _ rfl,rfl,rfl⟩,Heap.IsList.at pl.isList λo e=>Pk _ e⟩,?_,λh' tk k=>?_⟩
 ·intro i v s' Q' E' hv hq;have hv:(bs.map RZ).toArray[i]? =some v:=hv;rw[List.getElem?_toArray,Pq] at hv;cases q':bs[i]? with
  |none=>rw[q'] at hv;cases hv
  |some b=>
   rw[q'] at hv;cases hv;have:bs.getD i false=b:=by rw[PV,q'];rfl
   have hq:Q' (bs.getD i false) s':=hq;rw[this] at hq;exact QD hq
 ·have e:(PY (bs.map RZ).toArray.size).all (λi=>bs.getD i false)=bs.all id:=by
   rw[Po,Pb];exact all_range
  rw[e];refine⟨.bl (bs.all id),H,I.kept (h':=h') (t':=tk) λb o e'=>k b o (λz=>?_) (Pk _ e'),rfl,q⟩;have z:b=s.heap.objs.size:=by simpa using z
  exact UK (Pw e') (by rw[z];exact Qp _)
def sX(hc:X.calm=true)(hg:Gl X "all")(hm:X.mg "all"=none)(hb:Qw "all"=some (.builtin "all"))(ha:p8 X Xw [e] δs)(he:PB [e] X.env=[(false,eval e X.env)]:=by rfl):PD X Xw (.Call (.Name "all" p) [e] [] pos) (dA allM δs):=
 eG (y9 hc) (λXw F H vs ds Q s h w=>by
  unfold allM at w;split at w
  ·rename_i ds;obtain⟨v,rfl,h1⟩:=h.one;obtain⟨a,ws,rfl,h2,h3,_⟩:=h1;split at w
   ·rename_i bs hb;exact⟨a,bs,rfl,by rw[<-qD hb h3];exact s _ _ h2,WP.now w s rfl⟩
   ·exact w.elim
  ·exact w.elim) hg hm hb ha (by decide) (by decide) he rfl
end
section
variable{X:Cx}{Xw:Nat->Hp->Prop}{a b e e2:Expr}{es:List Expr}{δ δa δb:DE}{pos p v6 bc:Pos}
def Ep{i:Nat}:∀t0 H₀ D σ H,tS X.K Xw t0 H₀ (jb i δ) D σ H->Cs (LJ X.K "list" yP (kq i) (Cq (tD X.K Xw δ) Ht)) D σ H:=λt0 H₀ D σ H ⟨F,Z,s,w⟩=>by
 unfold jb at w;cases ho:zK Z i with
 |none=>rw[ho] at w;exact w.elim
 |some ds=>
  rw[ho] at w;have hi:=rb ho;obtain⟨v,hv,a,o,rfl,hH,hF,vs,rfl,hd,hl⟩:=s.st.den i _ hi;have w:WPS X.K Xw t0 H₀ (δ Z>>=λd=>if ds.length<lim then ab (.nx (Z.set i (some (.ow (.lst (ds++[d])))))) else af) D:=w;refine⟨.ref a,hv, .inl ⟨rfl,vs,SqL.of hH⟩,F,Z,s.st,?_⟩;rcases(δ Z).cs with q | ⟨n,q⟩ | ⟨d,q⟩
  ·rw[q] at w;exact w.elim
  ·rw[q] at w⊢;exact λF' H' e'=>w F' H' (s.ext.trans e')
  ·rw[q] at w⊢;intro u H1 F1 e1 hq;have w:WPS X.K Xw t0 H₀ (if ds.length<lim then ab (.nx (Z.set i (some (.ow (.lst (ds++[d])))))) else af) D:=w;split at w
   ·rename_i iO;have P3:=hd.len;refine⟨a,vs,u,rfl,rfl,e1.hh _ _ hH,by have:=dg;omega,?_⟩;exact w σ F1 _ ((s.ext' e1).chg (c₀:= .lst (ds++[d])) hi hv ⟨_,rfl,DenL.append (DenL.mono e1.ff hd) (.cons hq .nil),by rw[Pp];exact iO⟩)
   ·exact w.elim
def Er{i:Nat}:∀t0 H₀ D σ H,tS X.K Xw t0 H₀ (B_ i δ) D σ H->Cs (LJ X.K "list" yQ (kq i) (Cq (tD X.K Xw δ) Ht)) D σ H:=λt0 H₀ D σ H ⟨F,Z,s,w⟩=>by
 unfold B_ at w;cases ho:zK Z i with
 |none=>rw[ho] at w;exact w.elim
 |some ds=>
  rw[ho] at w;have hi:=rb ho;obtain⟨v,hv,a,o,rfl,hH,hF,vs,rfl,hd,hl⟩:=s.st.den i _ hi;have w:WPS X.K Xw t0 H₀ (δ Z>>=λd=>lstM d>>=λes=>if ds.length+es.length<=lim then ab (.nx (Z.set i (some (.ow (.lst (ds++es)))))) else af) D:=w;refine⟨.ref a,hv, .inl ⟨rfl,vs,SqL.of hH⟩,F,Z,s.st,?_⟩;rcases(δ Z).cs with q | ⟨n,q⟩ | ⟨d,q⟩
  ·rw[q] at w;exact w.elim
  ·rw[q] at w⊢;exact λF' H' e'=>w F' H' (s.ext.trans e')
  ·rw[q] at w⊢;intro u H1 F1 e1 hq;cases d with
   |lst es=>
    obtain⟨b,ws,rfl,k2,k3,k4⟩:=hq;have w:WPS X.K Xw t0 H₀ (if ds.length+es.length<=lim then ab (.nx (Z.set i (some (.ow (.lst (ds++es)))))) else af) D:=w;split at w
    ·rename_i iO;have P3:=hd.len;have Mu:=k3.len;refine⟨a,b,vs,ws,rfl,rfl,e1.hh _ _ hH,e1.fh _ _ k2,by have:=dg;omega,?_⟩;exact w σ F1 _ ((s.ext' e1).chg (c₀:= .lst (ds++es)) hi hv ⟨_,rfl,DenL.append (DenL.mono e1.ff hd) k3,by rw[Pp];exact iO⟩)
    ·exact w.elim
   |_=>exact w.elim
def jD{i:Nat}{x:Str}(hv:PE X (.Name x p) (kq i))(he:PD X Xw e δ)(hs:RW (.Call (.Attribute (.Name x p) "append" v6) [e] [] bc) none pos.line X.env=pure false:=by rfl)
 (kH:Rv (.Name x p) "append" X.env (eval (.Name x p) X.env)=eval (.Name x p) X.env:=by rfl)
 (sj:((Rm bc (PB [e] X.env)).all (λx=>!x.1)&&(S7 bc (RX [] X.env)).all (λx=>x.1.isSome)&&decide ([e].length+([]:List RM).length+(if ([]:List RM).isEmpty then 0 else 1)<30))=true:=by rfl)
 (kI:(v6.endLine==bc.line)=true:=by rfl)(Di:PB [e] X.env=[(false,eval e X.env)]:=by rfl):ku X Xw (.Expr (.Call (.Attribute (.Name x p) "append" v6) [e] [] bc) pos) (jb i δ):=λt0 H₀=>
 PS.weak (nH (BL Tq PySem.F.slot_list_append PySem.F.type_list_append qZ hv (sT he sU Di) kH sj kI Di rfl) hs) λD σ H w=>Ep t0 H₀ D σ H w
def Ea{i:Nat}{x:Str}(hv:PE X (.Name x p) (kq i))(he:PD X Xw e δ)(hs:RW (.Call (.Attribute (.Name x p) "extend" v6) [e] [] bc) none pos.line X.env=pure false:=by rfl)
 (kH:Rv (.Name x p) "extend" X.env (eval (.Name x p) X.env)=eval (.Name x p) X.env:=by rfl)
 (sj:((Rm bc (PB [e] X.env)).all (λx=>!x.1)&&(S7 bc (RX [] X.env)).all (λx=>x.1.isSome)&&decide ([e].length+([]:List RM).length+(if ([]:List RM).isEmpty then 0 else 1)<30))=true:=by rfl)
 (kI:(v6.endLine==bc.line)=true:=by rfl)(Di:PB [e] X.env=[(false,eval e X.env)]:=by rfl):ku X Xw (.Expr (.Call (.Attribute (.Name x p) "extend" v6) [e] [] bc) pos) (B_ i δ):=λt0 H₀=>
 PS.weak (nH (BL Tq PySem.F.slot_list_extend PySem.F.type_list_extend zB hv (sT he sU Di) kH sj kI Di rfl) hs) λD σ H w=>Er t0 H₀ D σ H w
def BB:OpR X (RN .Add) (λx y H Q=>∃a b ys,x= .ref a/\y= .ref b/\SqT X.K H a []/\SqT X.K H b ys/\Q (.ref b) H):=by
 intro f8 s σ H x y v u Q I rx ry h;obtain⟨a,b,ys,rfl,rfl,ha,hb,q⟩:=h;cases rx;cases ry;obtain⟨aK,r1,p1,_⟩:=I.tuple ha;obtain⟨fM,r2,p2,_⟩:=I.tuple hb;cases r1;obtain⟨⟨cls,dd,data,sl⟩,ho,hc,n,hd⟩:=id p1;obtain⟨⟨KA,CS,data2,Ki⟩,F_,FR,n2,hd2⟩:=id p2;simp only at hc hd FR hd2;subst hc hd FR hd2;exact concat_meets ⟨_,ho,rfl⟩ ⟨_,F_,rfl⟩ TC Uk R6 R3 (RO _ _)
  (tuple_addW0 a b _ _ n n2 dd CS sl Ki (by simp)) ⟨ho,F_,⟨.ref b,H,I,rfl,q⟩⟩
def uD:D->D->M D
 | .tup x, .tup y=>if x.length+y.length<=lim then ab (.tup (x++y)) else af
 |_,_=>af
def DR(ha:PD X Xw a δa)(hb:PD X Xw b δb):PD X Xw (.BinOp a .Add b pos) (d2 uD δa δb):=ph (BB.or DH) (λXw F H x y dx dy Q s hx hy w=>by
 unfold uD at w;split at w
 ·rename_i i j;obtain⟨a,vs,h1,h2,h3,h4⟩:=hx;obtain⟨a',vs',k1,k2,k3,k4⟩:=hy;split at w
  ·rename_i hl;have e1:=h3.len;have e2:=k3.len;have:=dg;by_cases hv:vs=[]
   ·subst hv;have:i=[]:=by cases i with | nil=>rfl | cons _ _=>simp at e1
    subst this;exact .inl ⟨a,a',vs',h1,k1,SqT.of (s _ _ h2),SqT.of (s _ _ k2),WP.now w s ⟨a',vs',k1▸rfl,k2,k3,k4⟩⟩
   ·refine .inr ⟨a,a',vs,vs',h1,k1,SqT.of (s _ _ h2),SqT.of (s _ _ k2),hv,by omega,λz=>?_,λz p hp=>?_⟩
    ·subst z;have:j=[]:=by cases j with | nil=>rfl | cons _ _=>simp at e2
     subst this;rw[Qx] at w;exact WP.now w s ⟨a,vs,rfl,h2,h3,h4⟩
    ·exact WP.fin w (Ext.lay s hp) ⟨p,_,rfl,aD,DenL.mono (Ext.lay s hp).ff (h3.append k3),by rw[Pp];exact hl⟩
  ·exact w.elim
 ·exact w.elim) ha hb
end
section
variable{X:Cx}{Xw:Nat->Hp->Prop}{a b e e2 o:Expr}{es:List Expr}{δa δb δo:DE}{δs:DA}{pos p v6 bc:Pos}
def dM(kd:D->Bool)(g:D->List D->M D)(o:DE)(s:DA):DE:=λZ=>o Z>>=λd=>if kd d then s Z>>=λds=>g d ds else af
def Ju{T:String}{name:Str}{id:String}{r:V->List V->Hp->VK->Prop}{kd:D->Bool}{g:D->List D->M D}(pa:PlainAttrs T)(slot:Slot T name id)(Lh:typeOf (.builtin id)=pure (.type "method_descriptor"))(hm:Kr X id r)
 (hk:∀(F H:Hp) (x:V) (d:D),kd d=true->Same F H->Den X.K F d x->Km X.K T x H)
 (hd:∀(Xw:Nat->Hp->Prop) (F H:Hp) (x:V) (vs:List V) (d:D) (ds:List D) (Q:VK),Same F H->Den X.K F d x->DenL X.K F ds vs->WP X.K Xw F H (g d ds) Q->r x vs H Q)
 (ho:PD X Xw o δo)(ha:p8 X Xw (e::es) δs)
 (kH:Rv o name X.env (eval o X.env)=eval o X.env:=by rfl)
 (sj:((Rm bc (PB (e::es) X.env)).all (λx=>!x.1)&&(S7 bc (RX [] X.env)).all (λx=>x.1.isSome)
  &&decide ((e::es).length+([]:List RM).length+(if ([]:List RM).isEmpty then 0 else 1)<30))=true:=by rfl)
 (kI:(v6.endLine==bc.line)=true:=by rfl) (hs:PB (e::es) X.env=(false,eval e X.env)::PB es X.env:=by rfl) (wH:(Rm bc (PB es X.env)).any (·.1)=false:=by rfl):
 PD X Xw (.Call (.Attribute o name v6) (e::es) [] bc) (dM kd g δo δs):=PE.weak (BL pa slot Lh hm ho ha kH sj kI hs wH) λσ H Q ⟨F,Z,s,w⟩=>by
 refine⟨F,Z,s,WP.mono (WP.bind w) λv H1 ⟨F1,d,e1,q1,w1⟩=>?_⟩;split at w1
 ·rename_i Dc;refine⟨hk F1 H1 v d Dc e1.fh q1,F1,Z,s.ext e1,WPL.mono (WP.bindL w1) λvs H2 ⟨F2,ds,e2,q2,w2⟩=>?_⟩;exact hd Xw F2 H2 v vs d ds Q e2.fh (Den.mono e2.ff q1) q2 w2
 ·exact w1.elim
def Jc:D->Bool
 | .str _=>true
 |_=>false
def Gi{K:Ph}(F H:Hp)(x:V)(d:D)(h:Jc d=true)(s:Same F H)(q:Den K F d x):Km K "str" x H:=by
 cases d with
 |str z=>cases (show _=_ from q.1);exact rfl
 |_=>cases h
def tP:List D->Option (List Str)
 |[]=>some []
 | .str x::r=>(tP r).map (x:: ·)
 |_=>none
def pR{K:Ph}{F:Hp}:∀{ds:List D}{vs:List V}{xs:List Str},tP ds=some xs->DenL K F ds vs->vs=xs.map V.str
 |[],_,_,e,h=>by cases e;exact h
 | .str b::r,_,_,e,⟨v,r',h1,h2,h3⟩=>by
   unfold tP at e;cases q:tP r with
   |none=>rw[q] at e;cases e
   |some bs=>rw[q] at e;cases e;subst h1;rw[pR q h3,show v= .str b from h2.1];rfl
 | .non::_,_,_,e,_=>by cases e
 | .int _::_,_,_,e,_=>by cases e
 | .bl _::_,_,_,e,_=>by cases e
 | .raw _::_,_,_,e,_=>by cases e
 | .exc _::_,_,_,e,_=>by cases e
 | .scr _::_,_,_,e,_=>by cases e
 | .tup _::_,_,_,e,_=>by cases e
 | .lst _::_,_,_,e,_=>by cases e
def pT:∀{xs:List Str}{aK:List Value},Vals (xs.map V.str) aK->StrsAre aK xs
 |[],_,r=>by cases r;exact .nil
 |b::bs,_,r=>by
  cases r with
  |cons r1 r2=>obtain⟨t,rfl⟩:=r1;exact .cons b t (pT r2)
def eN:List Str->Str
 |[]=>⟨#[]⟩
 |x::r=>x++eN r
def joinM:D->List D->M D
 | .str sep,[.lst ds]=>match tP ds with
   |some xs=>if sep.length=0/\(xs.map (·.length)).sum<=lim then ab (.str (eN xs)) else af
   |none=>af
 | .str sep,[.tup ds]=>match tP ds with
   |some xs=>if sep.length=0/\(xs.map (·.length)).sum<=lim then ab (.str (eN xs)) else af
   |none=>af
 |_,_=>af
def nX:∀xs:List Str,(eN xs).length=(xs.map (·.length)).sum
 |[]=>rfl
 |x::r=>by
  show (x++eN r).length=_;rw[jl,nX r,Pj,SK]
def En{x:Str}(h:x.length=0):x=⟨#[]⟩:=by
 obtain⟨⟨l⟩⟩:=x;have:l.length=0:=h;cases l with
 |nil=>rfl
 |cons _ _=>simp at this
def mU(x:Str):x++(⟨#[]⟩:Str)=x:=by
 obtain⟨c⟩:=x;show (⟨c++ #[]⟩:Str)=⟨c⟩
 simp
def mm(sep:Str)(h:sep.length=0):∀xs:List Str,Txt.join sep xs=eN xs:=by
 have e:=En h;subst e;intro xs;show Builtin.Str.glued _ xs=_;rw[StrLaws.glued_eq_join];induction xs with
 |nil=>rfl
 |cons x r ih=>
  cases r with
  |nil=>show x=x++(⟨#[]⟩:Str);rw[mU]
  |cons y r=>show x++(⟨#[]⟩:Str)++Str.join _ (y::r)=x++eN (y::r);rw[mU,ih]
def rJoin(K:Ph):V->List V->Hp->VK->Prop:=λx vs H Q=>∃(sep:Str) (a:Addr) (xs:List Str),x= .str sep/\vs=[.ref a]/\(H a=some (.lst (xs.map V.str))\/H a=some (.tup (xs.map V.str)))/\sep.length=0/\(xs.map (·.length)).sum<=lim/\Q (.str (eN xs)) H
def DB:Kr X "str.join" (rJoin X.K):=by
 intro f8 s σ H x vs v us Q I rx rv h;obtain⟨sep,a,xs,rfl,rfl,hH,hs,hl,q⟩:=h;obtain⟨t,rfl⟩:=rx;obtain⟨u,rfl,r1⟩:=rv.one;cases (show u=_ from r1);have hok:(xs.map (·.length)).sum+xs.length*sep.length<=16777216:=by
  rw[hs,Nat.mul_zero];unfold lim at hl;omega
 rcases hH with hH | hH
 ·obtain⟨aK,r2,pl,hz⟩:=I.list (SqL.of (K:=X.K) hH);refine join_list pl.isList (by simpa using pT r2) hok λt' k=>⟨.str (eN xs),H,I.tok k,⟨t',by rw[mm sep hs]⟩,q⟩
 ·obtain⟨aK,r2,pl,hz⟩:=I.tuple (SqT.of (K:=X.K) hH);refine join_tuple pl (by simpa using pT r2) hok λt' k=>⟨.str (eN xs),H,I.tok k,⟨t',by rw[mm sep hs]⟩,q⟩
def DV(ho:PD X Xw o δo)(ha:p8 X Xw [e] δs)(kH:Rv o "join" X.env (eval o X.env)=eval o X.env:=by rfl)
 (sj:((Rm bc (PB [e] X.env)).all (λx=>!x.1)&&(S7 bc (RX [] X.env)).all (λx=>x.1.isSome)&&decide ([e].length+([]:List RM).length+(if ([]:List RM).isEmpty then 0 else 1)<30))=true:=by rfl)
 (kI:(v6.endLine==bc.line)=true:=by rfl)(Di:PB [e] X.env=[(false,eval e X.env)]:=by rfl):PD X Xw (.Call (.Attribute o "join" v6) [e] [] bc) (dM Jc joinM δo δs):=
 Ju PySem.F.plainAttrs_str PySem.F.slot_str_join PySem.F.type_str_join DB Gi (λXw F H x vs d ds Q s hx hv w=>by
  unfold joinM at w;split at w
  ·rename_i sep ds;obtain⟨v,rfl,h1⟩:=hv.one;obtain⟨a,ws,rfl,h2,h3,_⟩:=h1;split at w
   ·rename_i xs IX;split at w
    ·rename_i hc;exact⟨sep,a,xs,hx.1,rfl, .inl (by rw[<-pR IX h3];exact s _ _ h2),hc.1,hc.2,WP.now w s ⟨rfl,by rw[nX];exact hc.2⟩⟩
    ·exact w.elim
   ·exact w.elim
  ·rename_i sep ds;obtain⟨v,rfl,h1⟩:=hv.one;obtain⟨a,ws,rfl,h2,h3,_⟩:=h1;split at w
   ·rename_i xs IX;split at w
    ·rename_i hc;exact⟨sep,a,xs,hx.1,rfl, .inr (by rw[<-pR IX h3];exact s _ _ h2),hc.1,hc.2,WP.now w s ⟨rfl,by rw[nX];exact hc.2⟩⟩
    ·exact w.elim
   ·exact w.elim
  ·exact w.elim) ho ha kH sj kI Di rfl
def s8(hc:X.calm=true)(hg:Gl X "max")(hm:X.mg "max"=none)(hb:Qw "max"=some (.builtin "max"))(ha:p8 X Xw [e,e2] δs)(he:PB [e,e2] X.env=(false,eval e X.env)::PB [e2] X.env:=by rfl)
 (v7:(Rm pos (PB [e2] X.env)).any (·.1)=false:=by rfl):PD X Xw (.Call (.Name "max" p) [e,e2] [] pos) (dA qd δs):=
 eG (y_ hc) (λXw F H vs ds Q s h w=>by
  unfold qd at w;split at w
  ·obtain⟨v,v',rfl,h1,h2⟩:=h.two;cases (show _=_ from h1);cases (show _=_ from h2);exact⟨_,_,rfl,WP.now w s rfl⟩
  ·exact w.elim) hg hm hb ha (by decide) (by decide) he v7
def BI(hc:X.calm=true)(hg:Gl X "min")(hm:X.mg "min"=none)(hb:Qw "min"=some (.builtin "min"))(ha:p8 X Xw [e,e2] δs)(he:PB [e,e2] X.env=(false,eval e X.env)::PB [e2] X.env:=by rfl)
 (v7:(Rm pos (PB [e2] X.env)).any (·.1)=false:=by rfl):PD X Xw (.Call (.Name "min" p) [e,e2] [] pos) (dA zA δs):=
 eG (za hc) (λXw F H vs ds Q s h w=>by
  unfold zA at w;split at w
  ·obtain⟨v,v',rfl,h1,h2⟩:=h.two;cases (show _=_ from h1);cases (show _=_ from h2);exact⟨_,_,rfl,WP.now w s rfl⟩
  ·exact w.elim) hg hm hb ha (by decide) (by decide) he v7
def nums:List D->Option (List Int)
 |[]=>some []
 | .int x::r=>(nums r).map (x:: ·)
 |_=>none
def uG{K:Ph}{F:Hp}:∀{ds:List D}{vs:List V}{xs:List Int},nums ds=some xs->DenL K F ds vs->vs=xs.map V.int
 |[],_,_,e,h=>by cases e;exact h
 | .int b::r,_,_,e,⟨v,r',h1,h2,h3⟩=>by
   unfold nums at e;cases q:nums r with
   |none=>rw[q] at e;cases e
   |some bs=>rw[q] at e;cases e;subst h1;rw[uG q h3,show v= .int b from h2];rfl
 | .non::_,_,_,e,_=>by cases e
 | .str _::_,_,_,e,_=>by cases e
 | .bl _::_,_,_,e,_=>by cases e
 | .raw _::_,_,_,e,_=>by cases e
 | .exc _::_,_,_,e,_=>by cases e
 | .scr _::_,_,_,e,_=>by cases e
 | .tup _::_,_,_,e,_=>by cases e
 | .lst _::_,_,_,e,_=>by cases e
def C4(neg:Bool):D->D->M D
 | .int i, .tup ds=>match nums ds with | some ns=>ab (.bl (if neg then !ns.contains i else ns.contains i)) | none=>af
 |_,_=>af
def A6(i:Int)(ns:List Int):Ke (.int i) (ns.map V.int)=ns.contains i:=by
 unfold Ke;rw[List.any_map];induction ns with
 |nil=>rfl
 |cons n ns ih=>
  rw[RE,List.contains_cons,ih];congr 1;show CC (.int n) (.int i)=(i==n)
  unfold CC;exact Bool.beq_comm
def Gg{neg:Bool}{K:Ph}:t7 K (MS K neg) (C4 neg):=λXw F H x y dx dy Q s hx hy w=>by
 unfold C4 at w;split at w
 ·rename_i i ds;obtain⟨a,vs,h1,h2,h3,h4⟩:=hy;split at w
  ·rename_i ns hn;have hv:=uG hn h3;subst hv;cases (show _=_ from hx);refine⟨a,ns.map V.int,h1, .inr (SqT.of (s _ _ h2)),rfl,?_,?_⟩
   ·rw[Rx];exact PJ.mpr λ_ _=>rfl
   ·rw[A6];exact WP.now w s rfl
  ·exact w.elim
 ·exact w.elim
def zP(ha:PD X Xw a δa)(hb:PD X Xw b δb)(hm:Ql .NotIn b=false:=by rfl):lx X Xw (.Compare a [.NotIn] [b] pos) (bH (d2 (C4 true) δa δb)):=eo sR Gg ha hb hm
def AQ(neg:Bool):D->D->M D
 | .str x, .str y=>ab (.bl (if neg then !(!(Q0 y x 0 y.length 1).isEmpty) else !(Q0 y x 0 y.length 1).isEmpty))
 |_,_=>af
def GU(ha:PD X Xw a δa)(hb:PD X Xw b δb)(hm:Ql .In b=false:=by rfl):PD X Xw (.Compare a [.In] [b] pos) (d2 (AQ false) δa δb):=xj zI (λXw F H x y dx dy Q s hx hy w=>by
 unfold AQ at w;split at w
 ·exact⟨_,_,hx.1,hy.1,WP.now w s rfl⟩
 ·exact w.elim) ha hb hm
end
end L3
namespace L3
open PySem PySem.Spec L2 SeqAt HT
open PyProof.Rows hiding St
section
variable{Xw:Nat->Hp->Prop}{b:Expr}
def WPO(Xw:Nat->Hp->Prop)(F H:Hp)(m:M (Option Int))(Q:Option Int->Hp->Prop):Prop:=
 match m with
 |none=>False
 |some (.ok b)=>∀H' F',Ext F H F' H'->Q b H'
 |some (.ex n)=>∀F' H',Ext F H F' H'->Xw n H'
def WPO.mono{Xw:Nat->Hp->Prop}{F H:Hp}{m:M (Option Int)}{Q Q':Option Int->Hp->Prop}(h:WPO Xw F H m Q)(k:∀v H',Q v H'->Q' v H'):WPO Xw F H m Q':=by
 match m,h with
 |none,h=>exact h
 |some (.ok d),h=>exact λH2 F2 e2=>k _ _ (h H2 F2 e2)
 |some (.ex n),h=>exact h
end
def JY(x:Str):It:=⟨λi _=>i<x.cps.size,λi H v H'=>H'=H/\∃c,x.cps[i]? =some c/\v= .str ⟨#[c]⟩,λi _=>x.cps.size<=i⟩
def z7{P:PX}{w:World}{K:Ph}{tg:Expr}(it:Addr)(x:Str)(t:Tok):Turn P w K tg (JY x) [it] it (λi h=>i<=x.cps.size/\h.IsStrIter it "str_ascii_iterator" x t i) where
 mem:=by simp
 obj:=λi h st b hb=>by
  have e:b=it:=by simpa using hb
  subst e;obtain⟨_,o,e,c,d⟩:=st;exact⟨o,e,λv z=>by rw[d] at z;cases z⟩
 keep:=λi h h' st k=>⟨st.1,let ⟨o,e,r⟩:=st.2;⟨o,k it (by simp) o e,r⟩⟩
 item:=by
  intro X hP hw hK hc i f8 s σ H E I hf st hg;subst hP hw hK;obtain⟨f0,f1,f2,f3,f4,f5⟩:=hf it (by simp);have hi:i<x.cps.size:=hg;refine(Walks.strAscii (prog:=X.prog) (w:=X.w) (I.ok.hd hc) it x t).item i s _ _ hi st.2 λv h' tk hv pO kk=>?_;obtain⟨c,u,KO,rfl⟩:=hv;have I1:Inv X f8 σ H {s with heap:=h',toks:=tk}:=I.turned (λb o hb e=>kk b o (by simpa using hb) e) f0 f1 f3 f4 f5;obtain⟨o,e,cc,dd⟩:=id pO;exact⟨_,rfl,qM (s:={s with heap:=h',toks:=tk}) e cc dd (by decide) ⟨.str ⟨#[c]⟩,H,I1,⟨u,rfl⟩,⟨rfl,c,KO,rfl⟩,⟨hi,pO⟩,λb hb=>(hf b hb).1⟩⟩
 done:=by
  intro X hP hw hK hc i f8 s σ H E I hf st hg;subst hP hw hK;obtain⟨f0,f1,f2,f3,f4,f5⟩:=hf it (by simp);have hi:i=x.cps.size:=Rj st.1 hg;subst hi;exact(Walks.strAscii (prog:=X.prog) (w:=X.w) (I.ok.hd hc) it x t).done s _ _ st.2 λh' tk kk=>⟨rfl,I.turned (λb o hb e=>kk b o (by simpa using hb) e) f0 f1 f3 f4 f5⟩
 self:=λ_ _ _ _ _ st h=>wpAny_pyIter_striter_ascii st.2 h
def z8{P:PX}{w:World}{K:Ph}{tg:Expr}(it:Addr)(x:Str)(t:Tok):Turn P w K tg (JY x) [it] it (λi h=>i<=x.cps.size/\h.IsStrIter it "str_iterator" x t i) where
 mem:=by simp
 obj:=λi h st b hb=>by
  have e:b=it:=by simpa using hb
  subst e;obtain⟨_,o,e,c,d⟩:=st;exact⟨o,e,λv z=>by rw[d] at z;cases z⟩
 keep:=λi h h' st k=>⟨st.1,let ⟨o,e,r⟩:=st.2;⟨o,k it (by simp) o e,r⟩⟩
 item:=by
  intro X hP hw hK hc i f8 s σ H E I hf st hg;subst hP hw hK;obtain⟨f0,f1,f2,f3,f4,f5⟩:=hf it (by simp);have hi:i<x.cps.size:=hg;refine(Walks.strWide (prog:=X.prog) (w:=X.w) (I.ok.hd hc) it x t).item i s _ _ hi st.2 λv h' tk hv pO kk=>?_;obtain⟨c,u,KO,rfl⟩:=hv;have I1:Inv X f8 σ H {s with heap:=h',toks:=tk}:=I.turned (λb o hb e=>kk b o (by simpa using hb) e) f0 f1 f3 f4 f5;obtain⟨o,e,cc,dd⟩:=id pO;exact⟨_,rfl,qM (s:={s with heap:=h',toks:=tk}) e cc dd (by decide) ⟨.str ⟨#[c]⟩,H,I1,⟨u,rfl⟩,⟨rfl,c,KO,rfl⟩,⟨hi,pO⟩,λb hb=>(hf b hb).1⟩⟩
 done:=by
  intro X hP hw hK hc i f8 s σ H E I hf st hg;subst hP hw hK;obtain⟨f0,f1,f2,f3,f4,f5⟩:=hf it (by simp);have hi:i=x.cps.size:=Rj st.1 hg;subst hi;exact(Walks.strWide (prog:=X.prog) (w:=X.w) (I.ok.hd hc) it x t).done s _ _ st.2 λh' tk kk=>⟨rfl,I.turned (λb o hb e=>kk b o (by simpa using hb) e) f0 f1 f3 f4 f5⟩
 self:=λ_ _ _ _ _ st h=>wpAny_pyIter_striter_wide st.2 h
section
variable{X:Cx}{Xw:Nat->Hp->Prop}{tg a b e l o:Expr}{δ:DE}
def Lo(tl:TE):TI:=λσ H R=>tl σ H λx H1=>∃z,x= .str z/\R (JY z) H1
def G8{tl:TE}(hl:PE X l tl):PI X tg l (Lo tl):=by
 intro f8 s σ H R I h;refine b7 (hl f8 s σ H _ I h) λv s1 ⟨x,H1,I1,r1,q1⟩=>?_;obtain⟨z,e,q⟩:=q1;subst e;obtain⟨t,rfl⟩:=r1;have fp:∀b∈[s1.heap.objs.size],p9 X f8 H1 b:=λb hb=>by
  have e:b=s1.heap.objs.size:=by simpa using hb
  subst e;exact I1.fpOk (Pm _) (I1.hok.fresh (Pm _))
 cases ha:z.cps.all (· <128)
 ·exact wpAny_pyIter_wide ha ⟨s1.heap.objs.size,[s1.heap.objs.size],_,_,H1,rfl,I1.kept (t':=s1.toks) λb o e=>Pk _ e,z8 _ z t,⟨P2 _,_,PU _ rfl,rfl,rfl⟩,fp,q⟩
 ·exact wpAny_pyIter_ascii ha ⟨s1.heap.objs.size,[s1.heap.objs.size],_,_,H1,rfl,I1.kept (t':=s1.toks) λb o e=>Pk _ e,z7 _ z t,⟨P2 _,_,PU _ rfl,rfl,rfl⟩,fp,q⟩
def signs(x:Str):List D:=x.cps.toList.map λc=>D.str ⟨#[c]⟩
def Hm:D->M (List D)
 | .str x=>ab (signs x)
 |_=>af
def Dt{K:Ph}{F:Hp}(x:Str):ItD K F (JY x) (signs x):=λF' H' i s1 s2=>by
 refine⟨λd e=>?_,λhl=>show x.cps.size<=i by simpa[signs] using hl⟩;unfold signs at e;rw[Pq] at e;cases q:x.cps.toList[i]? with
 |none=>rw[q] at e;cases e
 |some c=>
  rw[q] at e;cases e;have hi:i<x.cps.size:=by
   have:=(Pe.mp q).1;simpa using this
  refine⟨hi,λv H'' y=>?_⟩;obtain⟨e2,c',AZ,rfl⟩:=y;subst e2;have:c'=c:=by
   have q':x.cps[i]? =some c:=by simpa using q
   rw[q'] at AZ;exact(Pz AZ).symm
  subst this;exact⟨F',Ext.refl s2,rfl,by show 1<=lim;decide⟩
def D0(h:PD X Xw l δ):vX X Xw tg l (λZ=>δ Z>>=Hm):=PI.weak (G8 h) λσ H R ⟨F,Z,s,w⟩=>by
 refine⟨F,Z,s,WP.mono (WPI.bind w) λv H1 ⟨F1,d,e1,q1,w1⟩=>?_⟩;cases d with
 |str z=>exact⟨z,q1.1,w1 _ _ _ (Ext.refl e1.fh) (Dt z)⟩
 |_=>exact w1.elim
end
end L3
namespace L3
open PySem PySem.Spec L2 SeqAt HT
open PyProof.Rows hiding St
open PySem.W (Frag Looks InstAt findIn mroIn)
open PySem.Builtin PySem.Builtin.ObjectAttr PySem.Builtin.Getset_descriptor
section
end
end L3
namespace L3
open PySem PySem.Spec L2 SeqAt HT
open PyProof.Rows hiding St
structure RoomH (k:Nat) (A:Qm):Prop where
 dp:A.depth+3*k+5<T3
 un:A.units+16*k+200<cLine
def RoomH.deeper{k:Nat}{A:Qm}(r:RoomH (k+1) A)(env:Env):RoomH k (A.deeper env):=
 ⟨by have:=r.dp;show A.depth+1+3*k+5<_;omega,by have:=r.un;show A.units+3+16*k+200<_;omega⟩
def RoomH.units{k:Nat}{A:Qm}(r:RoomH k A):A.units+64<cLine:=by have:=r.un;omega
def xX(N:List Str)(osc scope:Scope)(tn:List Str):Bool:=
 decide (scope.kind= .function)&&scope.names.all (λy=>decide (y.2≠ .cell))&&scope.names.all (λy=>decide (y.2= .local->scope.names.lookup y.1=some .local))&&
 scope.names.all (λy=>decide (y.2= .free->(osc.names.lookup y.1=some .cell\/osc.names.lookup y.1=some .free)))&&
 ((dj tn N).zip N).all (λp=>decide (scope.names.lookup p.1=none\/(p.1=p.2/\scope.names.lookup p.1=some .free)))
def cf{X:Cx}{N:List Str}{osc scope:Scope}{tn:List Str}(hN:X.N=N)(ho:X.env.scope=osc)(h:xX N osc scope tn=true):CompSc X scope tn:=by
 unfold xX at h;simp only[P7,PJ,UJ] at h;obtain⟨⟨⟨⟨h1,h2⟩,h3⟩,h4⟩,h5⟩:=h;refine⟨h1,h2,h3,λy hy hf=>?_,?_⟩
 ·have:=h4 y hy hf;rw[<-ho] at this;exact this
 ·rw[hN];exact h5
def dP{X:Cx}{x:Str}{px:Pos}{σ:St}(hN:X.N.Nodup)(h0:X.N[0]? =some x)(F0:X.env.scope.names.lookup x=some .local):Ai X (.Name x px) 0 σ:=λf8 s σ' F H d ts v u I fh hd rv q e=>by
 have e:ab [d]=ab ts:=e;have e:=er e;subst e;refine Tj (vH I hN h0 (.inl F0) rv (λs' I'=>⟨[v],?_, .cons q .nil⟩) (.inr F0));have hl:0<σ'.length:=by rw[I.len];exact(Pe.mp h0).1
 have:σ'.set 0 (some v)=[v].map some++σ:=by
  cases σ' with
  |nil=>simp at hl
  |cons a r=>
   have hd:r=σ:=by simpa using hd
   subst hd;rfl
 rw[<-this];exact I'
def bP{P:PX}{w:World}{cv:Nat->Value}{X:Cx}:Passes (qw P w cv) X (EX cv λ_ _=>False):=λ_ _ _ _ _ _ _ ⟨_,_,_,_,_,_,_,_,_,_,_,_,_,_,z⟩=>z.elim
def bj(K:Ph)(mg:Str->Option Value)(x:Str)(st:Stmt)(f:Addr):Prop:=mg x=some (.ref f)/\∃fd,Fun K x x st f fd
def ao(P:PX)(w:World)(K:Ph)(mg:Str->Option Value)(base:Heap)(cv:Nat->Value)(k:Nat)(x:Str)(m:Nat)(g:List D->M D):Prop:=
 ∃f fd ps,mg x=some (.ref f)/\QO K (.ref f)=true/\Binds K fd ps []/\FnOk P w K mg base (qw P w cv) k f fd ps (HG K cv m g)
section
variable{X:Cx}{Xw:Nat->Hp->Prop}{cv:Nat->Value}{k m:Nat}{g:List D->M D}{x:Str}{p pos:Pos}{e:Expr}{es:List Expr}{δs:DA}
def aq(m:Nat)(g:List D->M D)(δs:DA):DE:=λZ=>δs Z>>=λds=>if ds.length=m then g ds else af
def aO(F:ao X.prog X.w X.K X.mg X.base cv k x m g)(hr:Room k X.A)(hg:Gl X x)(hx:Passes (qw X.prog X.w cv) X (EX cv Xw))
 (ha:p8 X Xw (e::es) δs)(hl:(e::es).length=m)(wF:(x==("__debug__":Str))=false:=by decide)(he:PB (e::es) X.env=(false,eval e X.env)::PB es X.env:=by rfl)(v7:(Rm pos (PB es X.env)).any (·.1)=false:=by rfl):
 PD X Xw (.Call (.Name x p) (e::es) [] pos) (aq m g δs):=by
 obtain⟨f,fd,ps,h1,h2,h3,h4⟩:=F;exact DQ h4 hr hg h1 h2 h3 hx ha hl wF he v7
end
def az{P:PX}{w:World}{K:Ph}{mg:Str->Option Value}{base:Heap}{cv:Nat->Value}{k:Nat}{x:Str}{st:Stmt}{f:Addr}{N ps:List Str}{τ:DS}(T:bj K mg x st f)(S:FnScope N ps (ak st))
 (Nz:∀(kV doc pm:Value) (an:Option Addr) (fk ct:Value) (us:List Value),us.length=ps.length->bindArgs (QF x x (ei st) (bQ st) (ak st) .none kV doc pm an fk ct) ⟨us,[]⟩=pure (ps.zip us))
 (ou:∀(fk:Value) (A:Qm) (outer:List Env) (s:Pf) (H:Hp) (E:XK),Room k (A.deeper (RY x (ak st) s.heap.objs.size f fk))->
  PSDs (gB (qw P w cv) P w K mg base N x (ak st) f fk A outer s H E) (λn H'=>E (cv n) none H') (bQ st) τ):ao P w K mg base cv (k+1) x ps.length (bS N.length τ):=by
 obtain⟨h1,fd,Fn⟩:=T;exact⟨f,fd,ps,h1,Fn.kp,Fn.binds Nz,Ic Fn S ou⟩
section
variable{X:Cx}{Xw:Nat->Hp->Prop}{a:Expr}{δ:DE}{pos:Pos}
def sC:D->M D
 | .int i=>ab (.int (-i))
 |_=>af
def BJ(ha:PD X Xw a δ):PD X Xw (.UnaryOp .USub a pos) (d1 sC δ):=PE.weak (Jx Hx ha) λσ H Q ⟨F,Z,s,w⟩=>by
 refine⟨F,Z,s,WP.mono (WP.bind w) λv H1 ⟨F1,d,e1,q,w1⟩=>?_⟩;cases d with
 |int i=>
  have q:v= .int i:=q;subst q;exact⟨i,rfl,WP.now w1 e1.fh rfl⟩
 |_=>exact w1.elim
end
section
variable{X:Cx}{Xw:Nat->Hp->Prop}{pos:Pos}
def DX{x z:Str}(hg:Gl X x)(h:∃t,X.mg x=some (.str z t))(hz:z.length<=lim)(wF:(x==("__debug__":Str))=false:=by decide):PD X Xw (.Name x pos) (dC (.str z)):=by
 obtain⟨t,h⟩:=h;exact yE (v:= .str z) hg h ⟨t,rfl⟩ (λ_=>⟨rfl,hz⟩) wF
def yF{x:Str}{i:Int}(hg:Gl X x)(h:∃t,X.mg x=some (.int i t))(wF:(x==("__debug__":Str))=false:=by decide):PD X Xw (.Name x pos) (dC (.int i)):=by
 obtain⟨t,h⟩:=h;exact yE (v:= .int i) hg h ⟨t,rfl⟩ (λ_=>rfl) wF
end
def Eh(sc osc:Scope):Scope:={sc with names:=sc.names.map λ(n,k)=>if (k== .free&&osc.kind== .function&&osc.names.lookup n==some .cell) then(n, .cell) else(n,k)}
structure Box (p:Prop):Prop where
 out:p
section
variable{X:Cx}{Xw:Nat->Hp->Prop}
def wb{st:Stmt}{T0:List Stmt}{τ τ':DS}(h1:Box (ku X Xw st τ))(h2:Box (PSDs X Xw T0 τ')):Box (PSDs X Xw (st::T0) (ay τ τ')):=⟨ah h1.out h2.out⟩
def Fy{st:Stmt}{τ:DS}(h1:Box (ku X Xw st τ)):Box (PSDs X Xw [st] τ):=⟨ar h1.out⟩
end
def JX{l:Up}{n k:Nat}{q:PX}{loose:List Str}{XP:(Str->Option Value)->Heap->Prop}{YP:World->Heap->Prop}{d:DefRec}{K:Params->Ph}{x:Str}{g:List D->M D}
 (hn:l.most=some n)(J7:n<=lim)(Iu:d.params.defaults=[])(hr:Room k To)
 (hY:∀(w:World) (h:Heap),YP w h->(K w.params).In h)(hg:∀ns:List Int,ns.length<=n->g [.scr ns]=ab (.bl true))
 (F:∀(w:World) (mg:Str->Option Value) (fa:Addr) (h:Heap),(K w.params).In h->h.Ns PK mg->mg d.name=some (.ref fa)->
  ∃(cv:Nat->Value) (fd:Q8),(∀(s:Pf) (u:Value),Ut s fd ⟨[u],[]⟩ [(x,u)])/\
   ∀base:Heap,(K w.params).In base->base.Ns PK mg->FnOk l.prog w (K w.params) mg base (qw l.prog w cv) k fa fd [x] (HG (K w.params) cv 1 g)):
 PySem.W.WalkO q loose XP YP l.row.toRowW d [] (λf vs=>Uo f vs):=by
 refine Att.attach_call hn Iu λw s₀ v4 mg mb fa o pm cd doc a vs ns G Y ho hd vZ F7 A2 hints P3 NO=>?_;have KX:=hY w _ Y;obtain⟨cv,fd,hb,hF⟩:=F w mg fa _ KX G.T.g F7;refine uJ KX G.T.g G.T.b G.T.builtins G.T.nolimit NO A2 hints (PM P3 (PM J7 (Qz dg))) hr hF hb (λH hO hS=>?_) λH e s' z=>?_
 ·refine⟨H,[.scr ns],λ_ _ e=>e,⟨_,_,rfl,⟨a,rfl,hS,PM P3 J7⟩,rfl⟩,rfl,?_⟩;rw[hg ns P3];exact λv H' F' e q=>q
 ·obtain⟨_,_,_,_,_,_,_,_,_,_,_,_,_,_,y⟩:=z
section
end
section
variable{e:Expr}
end
def oJ:D->Option Key
 | .int i=>some (.inl i)
 | .str x=>some (.inr x)
 |_=>none
def Dw:List D->Option (List Key)
 |[]=>some []
 |d::ds=>match oJ d,Dw ds with
  |some k,some ks=>some (k::ks)
  |_,_=>none
def j4:D->Option (List Key)
 | .tup ds=>Dw ds
 |_=>none
def gH{K:Ph}{F:Hp}{d:D}{v:V}{k:Key}(e:oJ d=some k)(h:Den K F d v):v=kV k:=by
 cases d<;>first | cases e | skip
 ·exact h
 ·exact h.1
def kJ{K:Ph}{F:Hp}:∀{ds:List D}{vs:List V}{ks:List Key},Dw ds=some ks->DenL K F ds vs->vs=ks.map kV
 |[],_,_,e,h=>by cases e;exact h
 |d::ds,_,_,e,⟨v,r,h1,h2,h3⟩=>by
  unfold Dw at e;split at e
  ·rename_i k ks e1 e2;cases e;subst h1;rw[Pj,gH e1 h2,kJ e2 h3]
  ·cases e
section
variable{κ:Type}[DecidableEq κ]
def c9:List κ->List D->κ->Option D
 |k'::ks,d::ds,k=>if k'=k then some d else c9 ks ds k
 |_,_,_=>none
def lX:List κ->List D->κ->D->List D
 |k'::ks,d'::ds,k,d=>(if k'=k then d else d')::lX ks ds k d
 |_,_,_,_=>[]
def lj{K:Ph}{F:Hp}:∀{ks:List κ}{ds:List D}{vs:List V}(k:κ),DenL K F ds vs->ks.length=ds.length->
 (match c9 ks ds k with | some d=>∃v,eK (ks.zip vs) k=some v/\Den K F d v | none=>eK (ks.zip vs) k=none)
 |[],[],_,_,_,_=>rfl
 |k'::ks,d::ds,_,k,⟨v,r,h1,h2,h3⟩,hl=>by
  subst h1;unfold c9;rw[QH];by_cases e:k'=k
  ·rw[UD e,jr (p:=(k',v)) e];exact⟨v,rfl,h2⟩
  ·rw[UE e,jq (p:=(k',v)) e];exact lj k h3 (by simpa using hl)
 |[],_::_,_,_,_,hl=>by simp at hl
 |_::_,[],_,_,_,hl=>by simp at hl
def jm{K:Ph}{F:Hp}{ks:List κ}{ds:List D}{vs:List V}(k:κ)(h:DenL K F ds vs)(hl:ks.length=ds.length):(eK (ks.zip vs) k).isSome=(c9 ks ds k).isSome:=by
 have:=lj k h hl;split at this
 ·rename_i d e;obtain⟨v,e1,_⟩:=this;rw[e1,e];rfl
 ·rename_i e;rw[this,e];rfl
def vx{K:Ph}{F:Hp}{d:D}{v:V}(hd:Den K F d v):∀{ks:List κ}{ds:List D}{vs:List V}(k:κ),DenL K F ds vs->ks.length=ds.length->
 ∃ws,(ks.zip vs).map (λkv=>if kv.1=k then(kv.1,v) else kv)=ks.zip ws/\DenL K F (lX ks ds k d) ws
 |[],[],_,_,h,_=>⟨[],rfl,rfl⟩
 |k'::ks,d'::ds,_,k,⟨v',r,h1,h2,h3⟩,hl=>by
  subst h1;obtain⟨ws,e1,e2⟩:=vx hd k h3 (by simpa using hl);by_cases e:k'=k
  ·refine⟨v::ws,?_,?_⟩
   ·rw[QH,Pj,e1,UD e];rfl
   ·unfold lX;rw[UD e];exact .cons hd e2
  ·refine⟨v'::ws,?_,?_⟩
   ·rw[QH,Pj,e1,UE e];rfl
   ·unfold lX;rw[UE e];exact .cons h2 e2
 |[],_::_,_,_,_,hl=>by simp at hl
 |_::_,[],_,_,_,hl=>by simp at hl
def i_:∀(ks:List κ) (ds:List D) (k:κ) (d:D),ks.length=ds.length->(lX ks ds k d).length=ds.length
 |[],[],_,_,_=>rfl
 |_::ks,_::ds,k,d,h=>by unfold lX;rw[Pl,Pl,i_ ks ds k d (by simpa using h)]
 |[],_::_,_,_,h=>by simp at h
 |_::_,[],_,_,h=>by simp at h
def cP(ks:List κ)(ds:List D)(k:κ):List κ:=if (c9 ks ds k).isSome then ks else ks++[k]
def b8(ks:List κ)(ds:List D)(k:κ)(d:D):List D:=if (c9 ks ds k).isSome then lX ks ds k d else ds++[d]
def th{K:Ph}{F:Hp}{d:D}{v:V}(hd:Den K F d v){ks:List κ}{ds:List D}{vs:List V}(k:κ)(h:DenL K F ds vs)(hl:ks.length=ds.length):
 ∃ws,putK (ks.zip vs) k v=(cP ks ds k).zip ws/\DenL K F (b8 ks ds k d) ws/\(cP ks ds k).length=(b8 ks ds k d).length:=by
 have hs:=jm (K:=K) (F:=F) k h hl;unfold putK cP b8;have ha:((ks.zip vs).any λkv=>decide (kv.1=k))=(eK (ks.zip vs) k).isSome:=jo ..;rw[ha,hs];cases e:(c9 ks ds k).isSome with
 |true=>
  rw[UD rfl,UD rfl,UD rfl];obtain⟨ws,e1,e2⟩:=vx hd k h hl;exact⟨ws,e1,e2,by rw[i_ ks ds k d hl];exact hl⟩
 |false=>
  rw[UE PH,UE PH,UE PH];refine⟨vs++[v],?_,h.append (.cons hd .nil),by simp[hl]⟩;rw[Si (by rw[hl];exact h.len)];rfl
end
def tQ{κ:Type}{K:Ph}{F:Hp}{ks:List κ}{ds:List D}{vs:List V}(h:DenL K F ds vs)(hl:ks.length=ds.length):(ks.zip vs).length=ds.length:=by
 rw[Sj,hl,<-h.len];omega
def pM(Z:aP)(i:Nat):Option D:=match Z[i]? with
 |some (some (.fz d))=>some d
 |some (some (.ow c))=>some c.d
 |_=>none
def Ci{K:Ph}{F H:Hp}{σ:St}{Z:aP}{i:Nat}{ks:List (List Key)}{ds:List D}(s:StE K F H σ Z)(e:pM Z i=some (.dct ks ds)):
 ∃a vs,σ[i]? =some (some (.ref a))/\Rd H a (.dT (ks.zip vs))/\DenL K F ds vs/\ks.length=ds.length/\ds.length<=lim:=by
 unfold pM at e;split at e
 ·rename_i d e1;cases e;obtain⟨v,h1,a,ob,vs,rfl,h2,h3,h4,h5⟩:=s.den i _ e1;exact⟨a,vs,h1, .inr ⟨ob,s.fh _ _ h2⟩,h3,h4,h5⟩
 ·rename_i c e1;cases c<;>cases e
  obtain⟨v,h1,a,o,rfl,h2,_,vs,rfl,h3,h4,h5⟩:=s.den i _ e1;exact⟨a,vs,h1, .inl h2,h3,h4,h5⟩
 ·cases e
def Cg{K:Ph}{F H:Hp}{σ:St}{Z:aP}{i:Nat}{ks:List Key}{ds:List D}(s:StE K F H σ Z)(e:pM Z i=some (.dci ks ds)):
 ∃a vs,σ[i]? =some (some (.ref a))/\Rd H a (.dK (ks.zip vs))/\DenL K F ds vs/\ks.length=ds.length/\ds.length<=lim:=by
 unfold pM at e;split at e
 ·rename_i d e1;cases e;obtain⟨v,h1,a,ob,vs,rfl,h2,h3,h4,h5⟩:=s.den i _ e1;exact⟨a,vs,h1, .inr ⟨ob,s.fh _ _ h2⟩,h3,h4,h5⟩
 ·rename_i c e1;cases c<;>cases e
  obtain⟨v,h1,a,o,rfl,h2,_,vs,rfl,h3,h4,h5⟩:=s.den i _ e1;exact⟨a,vs,h1, .inl h2,h3,h4,h5⟩
 ·cases e
def y0:D->D->Option (Option D)
 | .dct ks ds,k=>(j4 k).map (c9 ks ds)
 | .dci ks ds,k=>(oJ k).map (c9 ks ds)
 |_,_=>none
def xU{K:Ph}{F H:Hp}{σ:St}{Z:aP}{i:Nat}{d k:D}{y:V}{o:Option D}(s:StE K F H σ Z)(hi:pM Z i=some d)(hk:Den K F k y)(e:y0 d k=some o):
 ∃a ov,σ[i]? =some (some (.ref a))/\lr H a y ov/\ov.isSome=o.isSome/\∀d',o=some d'->∃v,ov=some v/\Den K F d' v:=by
 unfold y0 at e;split at e
 ·rename_i ks ds;cases q:j4 k with
  |none=>rw[q] at e;cases e
  |some kk=>
   rw[q] at e;cases e;obtain⟨a,vs,h1,h2,h3,h4,h5⟩:=Ci s hi;unfold j4 at q;split at q
   ·rename_i es;obtain⟨b,ws,rfl,k2,k3,_⟩:=hk;have e1:=kJ q k3;subst e1;refine⟨a,_,h1, .inr ⟨_,kk,b,h2,rfl,s.fh _ _ k2,rfl⟩,jm kk h3 h4,λd' v3=>?_⟩;have:=lj (K:=K) (F:=F) kk h3 h4;rw[v3] at this;exact this
   ·cases q
 ·rename_i ks ds;cases q:oJ k with
  |none=>rw[q] at e;cases e
  |some kk=>
   rw[q] at e;cases e;obtain⟨a,vs,h1,h2,h3,h4,h5⟩:=Cg s hi;have e1:=gH q hk;subst e1;refine⟨a,_,h1, .inl ⟨_,kk,h2,rfl,rfl⟩,jm kk h3 h4,λd' v3=>?_⟩;have:=lj (K:=K) (F:=F) kk h3 h4;rw[v3] at this;exact this
 ·cases e
section
variable{X:Cx}{Xw:Nat->Hp->Prop}{a e:Expr}{δ δk δv:DE}{pos p pos' D9:Pos}{x:Str}{i:Nat}
def HX(neg:Bool)(i:Nat)(δ:DE):DE:=λZ=>δ Z>>=λk=>match pM Z i with
 |some d=>match y0 d k with
  |some o=>ab (.bl (if neg then !o.isSome else o.isSome))
  |none=>af
 |none=>af
def Gh{neg:Bool}{σ:St}{H:Hp}{Q:VK}(h:tD X.K Xw (HX neg i δ) σ H Q):(λσ H Q=>tD X.K Xw δ σ H λy H1=>kq i σ H1 λx H2=>∃a o,x= .ref a/\lr H2 a y o/\Q (.bl (if neg then !o.isSome else o.isSome)) H2) σ H Q:=by
 obtain⟨F,Z,s,w⟩:=h;refine⟨F,Z,s,WP.mono (WP.bind w) λy H1 ⟨F1,k,e1,q1,w1⟩=>?_⟩;have s1:=s.ext e1;cases hi:pM Z i with
 |none=>rw[hi] at w1;exact w1.elim
 |some d=>
  rw[hi] at w1;have w1:WP X.K Xw F1 H1 (match y0 d k with | some o=>ab (.bl (if neg then !o.isSome else o.isSome)) | none=>af) Q:=w1;cases he:y0 d k with
  |none=>rw[he] at w1;exact w1.elim
  |some o=>
   rw[he] at w1;obtain⟨a,ov,h1,h2,h3,_⟩:=xU s1 hi q1 he;refine⟨.ref a,h1,a,ov,rfl,h2,?_⟩;rw[h3];exact WP.now w1 e1.fh rfl
def LC(hu:X.A.units+64<cLine)(ha:PD X Xw a δ)(hv:PE X (.Name x p) (kq i))(hm:Ql .In (.Name x p)=false:=by rfl):PD X Xw (.Compare a [.In] [.Name x p] pos) (HX false i δ):=
 PE.weak (GY (GR (by omega) ha hv) hm) λσ H Q h=>Gh (neg:=false) h
def vA(i:Nat):DS:=λZ=>ab (.nx (Z.set i (some (.ow (.dct [] [])))))
def Ff(i:Nat):DS:=λZ=>ab (.nx (Z.set i (some (.ow (.dci [] [])))))
def k9(hN:X.N.Nodup)(hi:X.N[i]? =some x)(hx:Loc X.env.scope x)(hf:X.fn x=true\/X.env.scope.names.lookup x=some .local:=by first | exact .inl rfl | exact .inr rfl):
 ku X Xw (.Assign [.Name x pos'] (.Dict [] [] D9) pos) (vA i):=λt0 H₀=>PS.weak (lT BP (a5 hN hi hx hf) rfl) λD σ H ⟨F,Z,s,w⟩=>λq hq=>
 w _ F _ (s.setNew (c₀:= .dct [] []) hq ⟨[],rfl,rfl,rfl,P2 _⟩)
def BW(hN:X.N.Nodup)(hi:X.N[i]? =some x)(hx:Loc X.env.scope x)(hf:X.fn x=true\/X.env.scope.names.lookup x=some .local:=by first | exact .inl rfl | exact .inr rfl):
 ku X Xw (.Assign [.Name x pos'] (.Dict [] [] D9) pos) (Ff i):=λt0 H₀=>PS.weak (lT vi (a5 hN hi hx hf) rfl) λD σ H ⟨F,Z,s,w⟩=>λq hq=>
 w _ F _ (s.setNew (c₀:= .dci [] []) hq ⟨[],rfl,rfl,rfl,P2 _⟩)
def iH:C->D->D->Option C
 | .dct ks ds,k,d=>match j4 k with
   |some kk=>if ds.length<lim then some (.dct (cP ks ds kk) (b8 ks ds kk d)) else none
   |none=>none
 | .dci ks ds,k,d=>match oJ k with
   |some kk=>if ds.length<lim then some (.dci (cP ks ds kk) (b8 ks ds kk d)) else none
   |none=>none
 |_,_,_=>none
def qp(Z:aP)(i:Nat):Option C:=match Z[i]? with
 |some (some (.ow c))=>some c
 |_=>none
def lP{Z:aP}{i:Nat}{c:C}(h:qp Z i=some c):Z[i]? =some (some (.ow c)):=by
 unfold qp at h;split at h
 ·rename_i c' e;cases h;exact e
 ·cases h
def eU(i:Nat)(δk δv:DE):DS:=λZ=>match qp Z i with
 |some c=>δv Z>>=λv=>δk Z>>=λk=>match iH c k v with
  |some c'=>ab (.nx (Z.set i (some (.ow c'))))
  |none=>af
 |none=>af
def rn{κ:Type}[DecidableEq κ]{ks:List κ}{ds:List D}{k:κ}{d:D}(hl:ks.length=ds.length)(h:ds.length<lim):(b8 ks ds k d).length<=lim:=by
 unfold b8;split
 ·rw[i_ ks ds k d hl];omega
 ·rw[Pp];exact h
def B1{K:Ph}{F H:Hp}{c c':C}{k d:D}{y v:V}{o:HO}{b:Addr}(hs:Same F H)(hb:H b=some o)(hc:DenC K F c o)(hk:Den K F k y)(hd:Den K F d v)(e:iH c k d=some c'):∃o',DPut H b y v (upd H b o')/\DenC K F c' o':=by
 have FZ:=dg;unfold iH at e;split at e
 ·rename_i ks ds k d;obtain⟨vs,rfl,h3,h4,h5⟩:=hc;split at e
  ·rename_i kk q;split at e
   ·rename_i iO;cases e;unfold j4 at q;split at q
    ·rename_i es;obtain⟨b2,ws,rfl,k2,k3,_⟩:=hk;have e1:=kJ q k3;subst e1;obtain⟨us,e2,e3,e4⟩:=th hd kk h3 h4;refine⟨_,DPut.t hb (hs _ _ k2) (by rw[tQ h3 h4];omega),us,?_,e3,e4,rn h4 iO⟩;rw[e2]
    ·cases q
   ·cases e
  ·cases e
 ·rename_i ks ds k d;obtain⟨vs,rfl,h3,h4,h5⟩:=hc;split at e
  ·rename_i kk q;split at e
   ·rename_i iO;cases e;have e1:=gH q hk;subst e1;obtain⟨us,e2,e3,e4⟩:=th hd kk h3 h4;refine⟨_,DPut.k hb (by rw[tQ h3 h4];omega),us,?_,e3,e4,rn h4 iO⟩;rw[e2]
   ·cases e
  ·cases e
 ·cases e
def i9(hu:X.A.units+64<cLine)(hv:PE X (.Name x p) (kq i))(hk:PD X Xw a δk)(he:PD X Xw e δv)(hs:RW e (some (.Subscript (.Name x p) a pos')) pos.line X.env=pure false:=by rfl):
 ku X Xw (.Assign [.Subscript (.Name x p) a pos'] e pos) (eU i δk δv):=λt0 H₀=>PS.weak (yK (by omega) hv hk he hs) λD σ H ⟨F,Z,s,w⟩=>by
 unfold eU at w;cases ho:qp Z i with
 |none=>rw[ho] at w;exact w.elim
 |some c=>
  rw[ho] at w;have hi:=lP ho;have w:WPS X.K Xw t0 H₀ (δv Z>>=λv=>δk Z>>=λk=>match iH c k v with | some c'=>ab (.nx (Z.set i (some (.ow c')))) | none=>af) D:=w;refine⟨F,Z,s.st,?_⟩;rcases(δv Z).cs with q | ⟨n,q⟩ | ⟨dv,q⟩
  ·rw[q] at w;exact w.elim
  ·rw[q] at w⊢;exact λF' H' e'=>w F' H' (s.ext.trans e')
  ·rw[q] at w⊢;intro v H1 F1 e1 hq;have s1:=s.ext' e1;obtain⟨u,h1,b,o,rfl,h2,h3,h4⟩:=s1.st.den i _ hi;have w:WPS X.K Xw t0 H₀ (δk Z>>=λk=>match iH c k dv with | some c'=>ab (.nx (Z.set i (some (.ow c')))) | none=>af) D:=w;refine⟨.ref b,h1,F1,Z,s1.st,?_⟩;rcases(δk Z).cs with q2 | ⟨n,q2⟩ | ⟨dk,q2⟩
   ·rw[q2] at w;exact w.elim
   ·rw[q2] at w⊢;exact λF' H' e'=>w F' H' (s1.ext.trans e')
   ·rw[q2] at w⊢;intro y H2 F2 e2 hy;have w:WPS X.K Xw t0 H₀ (match iH c dk dv with | some c'=>ab (.nx (Z.set i (some (.ow c')))) | none=>af) D:=w;cases hp:iH c dk dv with
    |none=>rw[hp] at w;exact w.elim
    |some c'=>
     rw[hp] at w;have s2:=s1.ext' e2;obtain⟨u2,k1,b2,o2,KJ,k2,k3,k4⟩:=s2.st.den i _ hi;rw[h1] at k1;cases k1;cases KJ;obtain⟨o',g,hc⟩:=B1 s2.st.fh k2 k4 hy (Den.mono e2.ff hq) hp;exact⟨b,_,rfl,g,w σ F2 _ (s2.chg hi h1 hc)⟩
end
def dQ(c:DT)(body:DS):Nat->DS
 |0,_=>af
 |n+1,Z=>c Z>>=λb=>if b then body Z>>=λo=>match o with | .nx Z'=>dQ c body n Z' | .rt d=>ab (.rt d) else ab (.nx Z)
def pF(c:DT)(body:DS):DS:=λZ=>dQ c body lim Z
section
variable{X:Cx}{Xw:Nat->Hp->Prop}{τ:DS}{tc:DT}{pos:Pos}
def lU{c:Expr}{body:List Stmt}(hp:TY (model X.prog X.w) X.A X.env X.xe)(hc:lx X Xw c tc)(hb:PSDs X Xw body τ):ku X Xw (.While c body [] pos) (pF tc τ):=λt0 H₀=>PS.weak (BU hp hc hb.ex) λD σ H ⟨F,Z,s,w⟩=>by
 refine⟨λm σ H=>∃F Z,StOk X.K t0 H₀ F H σ Z/\WPS X.K Xw t0 H₀ (dQ tc τ m Z) D,⟨lim,F,Z,s,w⟩,?_⟩;rintro m σ H ⟨F,Z,s,w⟩;cases m with
 |zero=>exact w.elim
 |succ m=>
  refine⟨F,Z,s.st,?_⟩;unfold dQ at w
  match tc Z,w with
  |none,w=>exact w
  |some (.ex n),w=>exact λF' H' e'=>w F' H' (s.ext.trans e')
  |some (.ok false),w=>exact λH' F' e'=>w σ F' H' (s.ext' e')
  |some (.ok true),w=>
   intro H' F' e';have w:WPS X.K Xw t0 H₀ (τ Z>>=λo=>match o with | .nx Z'=>dQ tc τ m Z' | .rt d=>ab (.rt d)) D:=w;refine⟨λσ' H'=>∃F' Z',StOk X.K t0 H₀ F' H' σ' Z'/\WPS X.K Xw t0 H₀ (dQ tc τ m Z') D,λσ' H' h=>⟨m,Ta m,h⟩,t0,H₀,F',Z,s.ext' e',?_⟩
   match τ Z,w with
   |none,w=>exact w
   |some (.ok (.nx Z')),w=>exact λσ' F' H' s'=>⟨F',Z',s',w⟩
   |some (.ok (.rt d)),w=>exact w
   |some (.ex n),w=>exact w
end
end L3
namespace L3
open PySem PySem.W PyProof.Rows
def c7{α:Type}(b:Nat->Nat->Bool):KasT α->α
 | .ret a=>a
 | .ask i j k=>c7 b (k (b i j))
def fw{α β:Type}(b:Nat->Nat->Bool)(f:α->KasT β):∀t:KasT α,c7 b (t.bind f)=c7 b (f (c7 b t))
 | .ret _=>rfl
 | .ask i j k=>fw b f (k (b i j))
structure Lt (n:Nat) (b:Nat->Nat->Bool):Prop where
 tr:∀i j k,b i j=true->b j k=true->b i k=true
 O2:∀i j,b i j=true->b j i=false
 tot:∀i j,i<n->j<n->i≠j->b i j=true\/b j i=true
abbrev at'(p:Array Nat)(i:Nat):Nat:=p.getD i 0
def Ri(b:Nat->Nat->Bool)(p:Array Nat)(k:Nat):Prop:=∀i j,i<j->j<k->b (at' p i) (at' p j)=true
def Fa(b:Nat->Nat->Bool)(p:Array Nat)(k:Nat):Prop:=∀i j,i<j->j<k->b (at' p j) (at' p i)=true
structure PN (n:Nat) (p:Array Nat):Prop where
 sz:p.size=n
 lt:∀i,i<n->at' p i<n
 inj:∀i j,i<n->j<n->at' p i=at' p j->i=j
section
variable{n:Nat}{b:Nat->Nat->Bool}(L:Lt n b)
include L
theorem Ri.more{p:Array Nat}{k:Nat}(h:Ri b p k)(h1:1<=k)(e:b (at' p (k - 1)) (at' p k)=true):Ri b p (k+1):=λi j yk hj=>by
 by_cases hk:j<k
 ·exact h i j yk hk
 ·have:j=k:=by omega
  subst this;by_cases hi:i=j - 1
  ·subst hi;exact e
  ·exact L.tr _ _ _ (h i (j - 1) (by omega) (by omega)) e
theorem Fa.more{p:Array Nat}{k:Nat}(h:Fa b p k)(h1:1<=k)(e:b (at' p k) (at' p (k - 1))=true):Fa b p (k+1):=λi j yk hj=>by
 by_cases hk:j<k
 ·exact h i j yk hk
 ·have:j=k:=by omega
  subst this;by_cases hi:i=j - 1
  ·subst hi;exact e
  ·exact L.tr _ _ _ e (h i (j - 1) (by omega) (by omega))
theorem rV{p:Array Nat}(P:PN n p):∀(f k:Nat),1<=k->k+f<=n->Ri b p k->k<=c7 b (kas_asc p f k)/\c7 b (kas_asc p f k)<=k+f/\Ri b p (c7 b (kas_asc p f k))/\(c7 b (kas_asc p f k)<k+f->b (at' p (c7 b (kas_asc p f k))) (at' p (c7 b (kas_asc p f k) - 1))=true)
 |0,k,h1,hn,h=>⟨Pm _,Pm _,h,λz=>UK z (Qp _)⟩
 |f+1,k,h1,hn,h=>by
  have e:c7 b (kas_asc p (f+1) k)=c7 b (if b (at' p k) (at' p (k - 1))=true then KasT.ret k else kas_asc p f (k+1)):=rfl;rw[e];by_cases hb:b (at' p k) (at' p (k - 1))=true
  ·rw[UD hb];exact⟨Pm _,by show k<=_;omega,h,λ_=>hb⟩
  ·rw[UE hb];have hr:b (at' p (k - 1)) (at' p k)=true:=by
    rcases L.tot (at' p (k - 1)) (at' p k) (P.lt _ (by omega)) (P.lt _ (by omega)) (λz=>by have:=P.inj _ _ (by omega) (by omega) z;omega) with q | q
    ·exact q
    ·exact UK q hb
   obtain⟨a1,a2,a3,a4⟩:=rV P f (k+1) (by omega) (by omega) (Ri.more L h h1 hr);exact⟨by omega,by omega,a3,λz=>a4 (by omega)⟩
theorem uj{p:Array Nat}(P:PN n p):∀(f k:Nat),1<=k->k+f<=n->Fa b p k->∃m,c7 b (kas_desc f p k 0)=(p,m,0)/\k<=m/\m<=k+f/\Fa b p m
 |0,k,h1,hn,h=>⟨k,rfl,Pm _,Pm _,h⟩
 |f+1,k,h1,hn,h=>by
  have e:c7 b (kas_desc (f+1) p k 0)=c7 b (if b (at' p k) (at' p (k - 1))=true then(if 0>0 then kas_desc f (kas_rev p (k - (0+1)) k) (k+1) 0 else kas_desc f p (k+1) 0)
   else .ask (p.getD (k - 1) 0) (p.getD k 0) λd=>if d=true then .ret (p,k,0) else kas_desc f p (k+1) (0+1)):=rfl
  rw[e];by_cases hb:b (at' p k) (at' p (k - 1))=true
  ·rw[UD hb,UE (by omega)];obtain⟨m,e1,e2,e3,e4⟩:=uj P f (k+1) (by omega) (by omega) (Fa.more L h h1 hb);exact⟨m,e1,by omega,by omega,e4⟩
  ·rw[UE hb];have hr:b (at' p (k - 1)) (at' p k)=true:=by
    rcases L.tot (at' p (k - 1)) (at' p k) (P.lt _ (by omega)) (P.lt _ (by omega)) (λz=>by have:=P.inj _ _ (by omega) (by omega) z;omega) with q | q
    ·exact q
    ·exact UK q hb
   refine⟨k,?_,Pm _,by omega,h⟩;show c7 b (if b (at' p (k - 1)) (at' p k)=true then KasT.ret (p,k,0) else kas_desc f p (k+1) (0+1))=_;rw[UD hr];rfl
end
def eQ(p:Array Nat)(k:Nat):at' p k=(p[k]?).getD 0:=by
 unfold at';rw[Array.getD_eq_getD_getElem?]
def B7{p:Array Nat}{m:Nat}(hm:m<=p.size)(k:Nat):at' (kas_rev p 0 m) k=if k<m then at' p (m - 1 - k) else at' p k:=by
 have e:=getElem?_mirror_all (xs:=p) (i:=0) hm k;rw[eQ];show (((mirror p 0 m ((m - 0) / 2))[k]?).getD 0)=_;rw[e];by_cases h:k<m
 ·rw[UD ⟨P2 _,h⟩,UD h,eQ,S1]
 ·rw[UE (λz=>h z.2),UE h,eQ]
def An{p:Array Nat}{k l:Nat}(hk:k<p.size)(hl:l<=k)(j:Nat):at' (bubble p k (k - l)) j=if j=l then at' p k else if l<j/\j<=k then at' p (j - 1) else at' p j:=by
 have e:=getElem?_bubble hk (k - l) (by omega) j;have e2:k - (k - l)=l:=by omega
 rw[e2] at e;rw[eQ (bubble p k (k - l)),e,eQ p k,eQ p (j - 1),eQ p j];by_cases c1:j=l
 ·rw[UD c1,UD c1]
 ·rw[UE c1,UE c1];by_cases c2:l<j/\j<=k
  ·rw[UD c2,UD c2]
  ·rw[UE c2,UE c2]
section
variable{n:Nat}{b:Nat->Nat->Bool}
def PN.rev{p:Array Nat}(P:PN n p){m:Nat}(hm:m<=n):PN n (kas_rev p 0 m):=by
 have ha:=B7 (p:=p) (m:=m) (by rw[P.sz];exact hm);refine⟨(mirror_size ..).trans P.sz,λi hi=>?_,λi j hi hj e=>?_⟩
 ·rw[ha];split
  ·exact P.lt _ (by omega)
  ·exact P.lt _ hi
 ·rw[ha,ha] at e;split at e<;>split at e
  ·have:=P.inj _ _ (by omega) (by omega) e;omega
  ·have:=P.inj _ _ (by omega) hj e;omega
  ·have:=P.inj _ _ hi (by omega) e;omega
  ·exact P.inj _ _ hi hj e
def PN.bub{p:Array Nat}(P:PN n p){k l:Nat}(hk:k<n)(hl:l<=k):PN n (bubble p k (k - l)):=by
 have ha:=An (p:=p) (k:=k) (l:=l) (by rw[P.sz];exact hk) hl;refine⟨(bubble_size ..).trans P.sz,λi hi=>?_,λi j hi hj e=>?_⟩
 ·rw[ha];split
  ·exact P.lt _ hk
  ·split
   ·exact P.lt _ (by omega)
   ·exact P.lt _ hi
 ·rw[ha,ha] at e;split at e
  ·split at e
   ·omega
   ·split at e
    ·have:=P.inj _ _ hk (by omega) e;omega
    ·have:=P.inj _ _ hk hj e;omega
  ·split at e
   ·split at e
    ·have:=P.inj _ _ (by omega) hk e;omega
    ·split at e
     ·have:=P.inj _ _ (by omega) (by omega) e;omega
     ·have:=P.inj _ _ (by omega) hj e;omega
   ·split at e
    ·have:=P.inj _ _ hi hk e;omega
    ·split at e
     ·have:=P.inj _ _ hi (by omega) e;omega
     ·exact P.inj _ _ hi hj e
def Fa.rev{p:Array Nat}(P:PN n p){m:Nat}(hm:m<=n)(h:Fa b p m):Ri b (kas_rev p 0 m) m:=λi j yk hj=>by
 have ha:=B7 (p:=p) (m:=m) (by rw[P.sz];exact hm);rw[ha,ha,UD (by omega),UD hj];exact h _ _ (by omega) (by omega)
variable(L:Lt n b)
include L
theorem Cu{p:Array Nat}(P:PN n p){m:Nat}(h1:1<=m)(hm:m<=n)(h:Fa b p m):∃k q,c7 b (kas_tail3 m n p)=(k,q)/\PN n q/\1<=k/\k<=n/\Ri b q k:=by
 unfold kas_tail3;rw[fw];obtain⟨a1,a2,a3,_⟩:=rV L (P.rev hm) (n - m) m h1 (by omega) (Fa.rev P hm h);exact⟨_,_,rfl,P.rev hm,by omega,by omega,a3⟩
theorem zd{p:Array Nat}(P:PN n p)(h2:2<=n):∃k q,c7 b (kas_count n p)=(k,q)/\PN n q/\1<=k/\k<=n/\Ri b q k:=by
 unfold kas_count;rw[fw];obtain⟨a1,a2,a3,a4⟩:=rV L P (n - 1) 1 (Pm _) (by omega) (λi j yk hj=>by omega);generalize c7 b (kas_asc p (n - 1) 1)=m at a1 a2 a3 a4;by_cases he:m=n
 ·subst he;rw[UD (by simp)];exact⟨m,p,rfl,P,by omega,Pm _,a3⟩
 ·rw[UE (by simpa using he)];by_cases hg:m>1
  ·rw[UD hg];have hb:b (p.getD 0 0) (p.getD (m - 1) 0)=true:=a3 0 (m - 1) (by omega) (by omega);show∃k q,c7 b (if b (p.getD 0 0) (p.getD (m - 1) 0)=true then KasT.ret (m,p) else kas_descPart m n (kas_rev p 0 m))=(k,q)/\_;rw[UD hb];exact⟨m,p,rfl,P,by omega,by omega,a3⟩
  ·rw[UE hg];have hm:m=1:=by omega
   subst hm;have hb:=a4 (by omega);unfold kas_descPart;rw[fw];obtain⟨m,e1,e2,e3,e4⟩:=uj L P (n - (1+1)) (1+1) (by omega) (by omega) (λi j yk hj=>by
    have hi:i=0:=by omega
    have hj:j=1:=by omega
    subst hi hj;exact hb)
   rw[e1]
   dsimp only
   rw[UE (by omega)];exact Cu L P (by omega) (by omega) e4
theorem lS{p:Array Nat}(P:PN n p){k:Nat}(hk:k<n)(h:Ri b p k):∀(f l r:Nat),l<=r->r<=k->r - l<=f->(∀i,i<l->b (at' p i) (at' p k)=true)->(∀i,r<=i->i<k->b (at' p k) (at' p i)=true)->
 c7 b (kas_place p k f l r)<=k/\(∀i,i<c7 b (kas_place p k f l r)->b (at' p i) (at' p k)=true)/\∀i,c7 b (kas_place p k f l r)<=i->i<k->b (at' p k) (at' p i)=true
 |0,l,r,h1,h2,h3,h4,h5=>by
  have:r=l:=by omega
  subst this;exact⟨h2,h4,h5⟩
 |f+1,l,r,h1,h2,h3,h4,h5=>by
  unfold kas_place;by_cases Mv:l>=r
  ·rw[UD Mv];have:r=l:=by omega
   subst this;exact⟨h2,h4,h5⟩
  ·rw[UE Mv];have hm:(l+r) / 2<r:=by omega
   have F4:l<=(l+r) / 2:=by omega
   show c7 b (if b (at' p k) (at' p ((l+r) / 2))=true then kas_place p k f l ((l+r) / 2) else kas_place p k f ((l+r) / 2+1) r)<=k/\(∀i,i<c7 b (if b (at' p k) (at' p ((l+r) / 2))=true then kas_place p k f l ((l+r) / 2) else kas_place p k f ((l+r) / 2+1) r)->_)/\∀i,c7 b (if b (at' p k) (at' p ((l+r) / 2))=true then kas_place p k f l ((l+r) / 2) else kas_place p k f ((l+r) / 2+1) r)<=i->_;by_cases hb:b (at' p k) (at' p ((l+r) / 2))=true
   ·rw[UD hb];refine lS P hk h f l ((l+r) / 2) F4 (by omega) (by omega) h4 λi hi NQ=>?_;by_cases e:i=(l+r) / 2
    ·rw[e];exact hb
    ·exact L.tr _ _ _ hb (h _ _ (by omega) NQ)
   ·rw[UE hb];have hr:b (at' p ((l+r) / 2)) (at' p k)=true:=by
     rcases L.tot (at' p ((l+r) / 2)) (at' p k) (P.lt _ (by omega)) (P.lt _ hk) (λz=>by have:=P.inj _ _ (by omega) hk z;omega) with q | q
     ·exact q
     ·exact UK q hb
    refine lS P hk h f ((l+r) / 2+1) r (by omega) h2 (by omega) (λi hi=>?_) h5;by_cases e:i=(l+r) / 2
    ·rw[e];exact hr
    ·exact L.tr _ _ _ (h i ((l+r) / 2) (by omega) (by omega)) hr
theorem xW:∀(f:Nat) {p:Array Nat}{k:Nat},PN n p->k+f<=n->Ri b p k->PN n (c7 b (kas_bin f p k))/\Ri b (c7 b (kas_bin f p k)) (k+f)
 |0,p,k,P,_,h=>⟨P,h⟩
 |f+1,p,k,P,hn,h=>by
  have hk:k<n:=by omega
  unfold kas_bin;rw[fw];obtain⟨a1,a2,a3⟩:=lS L P hk h k 0 k (P2 _) (Pm _) (by omega) (λi hi=>by omega) (λi h1 h2=>by omega);generalize c7 b (kas_place p k k 0 k)=l at a1 a2 a3;have ha:=An (p:=p) (k:=k) (l:=l) (by rw[P.sz];exact hk) a1;have hR:Ri b (bubble p k (k - l)) (k+1):=λi j yk hj=>by
   rw[ha,ha];by_cases c1:i=l
   ·rw[UD c1,UE (by omega),UD ⟨by omega,by omega⟩];exact a3 _ (by omega) (by omega)
   ·rw[UE c1];by_cases c2:j=l
    ·rw[UD c2,UE (by omega)];exact a2 _ (by omega)
    ·rw[UE c2];by_cases c3:l<i/\i<=k
     ·rw[UD c3,UD ⟨by omega,by omega⟩];exact h _ _ (by omega) (by omega)
     ·rw[UE c3];by_cases c4:l<j/\j<=k
      ·rw[UD c4];exact h _ _ (by omega) (by omega)
      ·rw[UE c4];exact h _ _ yk (by omega)
  have:=xW f (P.bub hk a1) (by omega) hR;rw[show k+(f+1)=k+1+f by omega];exact this
theorem Cj(h2:2<=n):PN n (c7 b (kas_sort n))/\Ri b (c7 b (kas_sort n)) n:=by
 have P0:PN n (QA (PY n)):=by
  have e:∀i,i<n->at' (QA (PY n)) i=i:=λi hi=>by rw[eQ];simp[hi]
  exact⟨by simp,λi hi=>by rw[e i hi];exact hi,λi j hi hj z=>by rw[e i hi,e j hj] at z;exact z⟩
 unfold kas_sort;rw[fw];obtain⟨k,q,e,P,k1,kn,hR⟩:=zd L P0 h2;rw[e]
 dsimp only
 by_cases iO:k<n
 ·rw[UD iO];have:=xW L (n - max k 1) (k:=max k 1) P (by omega) (by rw[show max k 1=k by omega];exact hR);rw[show max k 1+(n - max k 1)=n by omega] at this;exact this
 ·rw[UE iO];have:k=n:=by omega
  subst this;exact⟨P,hR⟩
end
def Asks{α:Type}(n:Nat)(P:α->Prop):KasT α->Prop
 | .ret a=>P a
 | .ask i j k=>i<n/\j<n/\∀c,Asks n P (k c)
def Asks.bind{α β:Type}{n:Nat}{P:α->Prop}{Q:β->Prop}{f:α->KasT β}:∀{t:KasT α},Asks n P t->(∀a,P a->Asks n Q (f a))->Asks n Q (t.bind f)
 | .ret a,h,hf=>hf a h
 | .ask i j k,h,hf=>⟨h.1,h.2.1,λc=>Asks.bind (h.2.2 c) hf⟩
def wp_run{α:Type}{n:Nat}{P:α->Prop}{b:Nat->Nat->Bool}{cmp:Nat->Nat->(Bool->Pf->Prop)->Pf->Prop}{Q:α->Pf->Prop}{s:Pf}(hc:∀i j C,i<n->j<n->C (b i j) s->cmp i j C s):∀{t:KasT α},Asks n P t->Q (c7 b t) s->t.kasWp cmp Q s
 | .ret a,_,h=>h
 | .ask i j k,ha,h=>hc i j _ ha.1 ha.2.1 (wp_run hc (ha.2.2 _) h)
def Below(n:Nat)(p:Array Nat):Prop:=∀x∈p,x<n
section
variable{n:Nat}(hn:0<n)
include hn
theorem Below.at{p:Array Nat}(h:Below n p)(i:Nat):at' p i<n:=by
 rw[eQ];cases e:p[i]? with
 |none=>exact hn
 |some x=>exact h x (Array.mem_of_getElem? e)
theorem Below.rev{p:Array Nat}(h:Below n p)(i j:Nat):Below n (kas_rev p i j):=λx hx=>h x ((mirror_perm p i j ((j - i) / 2)).mem_iff.mp hx)
theorem Below.bub{p:Array Nat}(h:Below n p)(k d:Nat):Below n (bubble p k d):=λx hx=>h x ((bubble_perm p k d).mem_iff.mp hx)
theorem nT{p:Array Nat}(h:Below n p):∀f k,Asks n (λ_=>True) (kas_asc p f k)
 |0,k=>trivial
 |f+1,k=>⟨Below.at hn h _,Below.at hn h _,λc=>by
  show Asks n _ (if c=true then KasT.ret k else kas_asc p f (k+1));cases c
  ·exact nT h f (k+1)
  ·exact trivial⟩
theorem jt:∀f {p:Array Nat} k q,Below n p->Asks n (λr=>Below n r.1) (kas_desc f p k q)
 |0,p,k,q,h=>h
 |f+1,p,k,q,h=>⟨Below.at hn h _,Below.at hn h _,λc=>by
  cases c
  ·refine⟨Below.at hn h _,Below.at hn h _,λd=>?_⟩;cases d
   ·exact jt f _ _ h
   ·exact h
  ·show Asks n _ (if q>0 then kas_desc f (kas_rev p (k - (q+1)) k) (k+1) 0 else kas_desc f p (k+1) 0);split
   ·exact jt f _ _ (Below.rev hn h _ _)
   ·exact jt f _ _ h⟩
theorem qx{p:Array Nat}(h:Below n p)(m r:Nat):Asks n (λx=>Below n x.2) (kas_tail3 m r p):=Asks.bind (nT hn (Below.rev hn h 0 m) _ _) λ_ _=>Below.rev hn h 0 m
theorem nU{p:Array Nat}(h:Below n p)(m r:Nat):Asks n (λx=>Below n x.2) (kas_descPart m r p):=Asks.bind (jt hn _ _ _ h) λx hx=>by
 split
 ·exact qx hn (Below.rev hn hx _ _) _ _
 ·exact qx hn hx _ _
theorem v_{p:Array Nat}(h:Below n p)(r:Nat):Asks n (λx=>Below n x.2) (kas_count r p):=Asks.bind (nT hn h _ _) λm _=>by
 split
 ·exact h
 ·split
  ·refine⟨Below.at hn h _,Below.at hn h _,λc=>?_⟩;cases c
   ·exact nU hn (Below.rev hn h _ _) _ _
   ·exact h
  ·exact nU hn h _ _
theorem jW{p:Array Nat}(h:Below n p)(k:Nat):∀f l r,Asks n (λ_=>True) (kas_place p k f l r)
 |0,l,r=>trivial
 |f+1,l,r=>by
  unfold kas_place;split
  ·exact trivial
  ·refine⟨Below.at hn h _,Below.at hn h _,λc=>?_⟩;cases c
   ·exact jW h k f _ _
   ·exact jW h k f _ _
theorem ub:∀f {p:Array Nat} k,Below n p->Asks n (λ_=>True) (kas_bin f p k)
 |0,p,k,h=>trivial
 |f+1,p,k,h=>Asks.bind (jW hn h k _ _ _) λl _=>ub f _ (Below.bub hn h _ _)
theorem yZ:Asks n (λ_=>True) (kas_sort n):=by
 have h0:Below n (QA (PY n)):=λx hx=>by simpa using hx
 refine Asks.bind (v_ hn h0 n) λx hx=>?_;split
 ·exact ub hn _ _ hx
 ·exact trivial
end
def dW:List Int->List Int->Bool
 |[],[]=>false
 |[],_::_=>true
 |_::_,[]=>false
 |x::xs,y::ys=>if x=y then dW xs ys else decide (x<y)
def sx:∀a b c:List Int,dW a b=true->dW b c=true->dW a c=true
 |[],[],_,h,_=>by cases h
 |[],_::_,[],_,h=>by cases h
 |[],_::_,_::_,_,_=>rfl
 |_::_,[],_,h,_=>by cases h
 |_::_,_::_,[],_,h=>by cases h
 |x::a,y::b,z::c,h1,h2=>by
  unfold dW at h1 h2⊢;by_cases e1:x=y
  ·subst e1;rw[UD rfl] at h1;by_cases e2:x=z
   ·subst e2;rw[UD rfl] at h2⊢;exact sx a b c h1 h2
   ·rw[UE e2] at h2⊢;exact h2
  ·rw[UE e1] at h1;have h1:=UI h1;by_cases e2:y=z
   ·subst e2;rw[UE e1];exact UG h1
   ·rw[UE e2] at h2;have h2:=UI h2;rw[UE (by omega)];exact UG (by omega)
def kK:∀a b:List Int,dW a b=true->dW b a=false
 |[],[],h=>by cases h
 |[],_::_,_=>rfl
 |_::_,[],h=>by cases h
 |x::a,y::b,h=>by
  unfold dW at h⊢;by_cases e:x=y
  ·subst e;rw[UD rfl] at h⊢;exact kK a b h
  ·rw[UE e] at h;have h:=UI h;rw[UE (λz=>e z.symm)];exact UH (by omega)
def oN:∀a b:List Int,a≠b->dW a b=true\/dW b a=true
 |[],[],h=>UK rfl h
 |[],_::_,_=> .inl rfl
 |_::_,[],_=> .inr rfl
 |x::a,y::b,h=>by
  unfold dW;by_cases e:x=y
  ·subst e;rw[UD rfl,UD rfl];exact oN a b λz=>h (by rw[z])
  ·rw[UE e,UE (λz=>e z.symm)];by_cases q:x<y
   ·exact .inl (UG q)
   ·exact .inr (UG (by omega))
section
variable{prog:PX}{w:World}{A:Qm}{E:Value->Pf->Prop}{s:Pf}
def uO{Q:Bool->Pf->Prop}:∀{us vs:List Value}{xs ys:List Int}(i:Nat) {fin:Bool},Sb us xs->Sb vs ys->fin=decide (xs.length<ys.length)->Q (dW xs ys) s->KatLex prog w A true fin Q (us.zip vs) i s
 |_,_,_,_,i,_, .nil, .nil,e,h=>by subst e;exact kat_nil h
 |_,_,_,_,i,_, .nil, .cons y t r,e,h=>by subst e;exact kat_nil h
 |_,_,_,_,i,_, .cons x t r, .nil,e,h=>by subst e;exact kat_nil h
 |_,_,_,_,i,_, .cons (vs:=us) (ns:=xs) x t r, .cons (vs:=vs) (ns:=ys) y u r',e,h=>by
  refine kat_cons (wpAny_eqBool_int ?_);by_cases q:x=y
  ·subst q;rw[show (x==x)=true by simp];refine kat_yes (uO (i+1) r r' (by rw[e];simp) ?_);unfold dW at h;rw[UD rfl] at h;exact h
  ·rw[show (x==y)=false by simpa using q];unfold dW at h;rw[UE q] at h;refine kat_no ?_;by_cases hi:(i==0)=true
   ·rw[hi];exact oneLt_int h
   ·rw[show (i==0)=false by simpa using hi];exact kat_one _ _ (PyProof.Rows.lt_int h)
def TupsAt(h:Heap):List Value->List (List Int)->Prop
 |[],[]=>True
 |v::vs,k::ks=>(∃a o us m,v= .ref a/\h.get? a=some o/\o.cls= .type "tuple"/\o.data= .seq (QA us) m/\Sb us k/\k≠[])/\TupsAt h vs ks
 |_,_=>False
def TupsAt.len{h:Heap}:∀{vs:List Value}{ks:List (List Int)},TupsAt h vs ks->vs.length=ks.length
 |[],[],_=>rfl
 |v::vs,k::ks,t=>by rw[Pl,Pl,TupsAt.len t.2]
 |[],_::_,t=>t.elim
 |_::_,[],t=>t.elim
def TupsAt.get{h:Heap}:∀{vs:List Value}{ks:List (List Int)}{i:Nat},TupsAt h vs ks->i<vs.length->∃a o us m,vs.getD i Qv= .ref a/\h.get? a=some o/\o.cls= .type "tuple"/\o.data= .seq (QA us) m/\Sb us (ks.getD i [])/\ks.getD i []≠[]
 |v::vs,k::ks,0,t,_=>t.1
 |v::vs,k::ks,i+1,t,hi=>TupsAt.get (i:=i) t.2 (by simpa using hi)
 |[],_,_,_,hi=>by simp at hi
 |_::_,[],_,t,_=>t.elim
def TupsAt.keep{h h':Heap}{a:Addr}(k:∀b o,b≠a->h.get? b=some o->h'.get? b=some o)(ha:∀o,h.get? a=some o->o.cls≠ .type "tuple"):∀{vs:List Value}{ks:List (List Int)},TupsAt h vs ks->TupsAt h' vs ks
 |[],[],_=>trivial
 |v::vs,x::ks,⟨⟨b,o,us,m,e1,e2,e3,e4⟩,t⟩=>⟨⟨b,o,us,m,e1,k b o (λz=>ha o (by rw[<-z];exact e2) e3) e2,e3,e4⟩,TupsAt.keep k ha t⟩
 |[],_::_,t=>t.elim
 |_::_,[],t=>t.elim
def oB:∀{us:List Value}{xs:List Int},Sb us xs->us.length=xs.length
 |_,_, .nil=>rfl
 |_,_, .cons x t r=>by rw[Pl,Pl,oB r]
def TupsAt.firsts{M:Model}{h:Heap}:∀{vs:List Value}{ks:List (List Int)},TupsAt h vs ks->∃fs,KatTups h vs fs/\fs.length=vs.length/\∀v∈fs,Looks M h (typeOf v) (.type "int")
 |[],[],_=>⟨[],KatTups.nil,rfl,λ_ z=>by cases z⟩
 |v::vs,k::ks,⟨⟨a,o,us,m,e1,e2,e3,e4,e5,e6⟩,t⟩=>by
  obtain⟨fs,q1,q2,q3⟩:=TupsAt.firsts (M:=M) t;subst e1;cases e5 with
  |nil=>exact UK rfl e6
  |cons x t r=>
   refine⟨.int x t::fs,KatTups.cons e2 e3 e4 (by simp) q1,by simp[q2],λv hv=>?_⟩;rcases Pn.mp hv with rfl | hv
   ·exact show Looks M h (pure (Um "int")) (Um "int") from .now
   ·exact q3 v hv
 |[],_::_,t=>t.elim
 |_::_,[],t=>t.elim
def asked{vs:List Value}{ks:List (List Int)}(t:TupsAt s.heap vs ks)(i j:Nat)(C:Bool->Pf->Prop)(hi:i<vs.length)(hj:j<vs.length)(h:C (dW (ks.getD i []) (ks.getD j [])) s):kas_ask prog w A (tuples' true) vs i j C s:=by
 obtain⟨a,o,us,m,e1,e2,_,e4,e5,_⟩:=t.get hi;obtain⟨a',o',O9,m',Ab,HA,_,M9,L5,_⟩:=t.get hj;unfold kas_ask;rw[e1,Ab];refine kat_lt e2 e4 HA M9 (uO 0 e5 L5 ?_ h);rw[Po,Po,oB e5,oB L5]
def Br{α:Type}{l:List α}(h:l.Nodup){i j:Nat}(hi:i<l.length)(hj:j<l.length)(e:l[i]=l[j]):i=j:=by
 rcases Nat.lt_trichotomy i j with q | q | q
 ·exact UK e (Q1.mp h i j hi hj q)
 ·exact q
 ·exact UK e.symm (Q1.mp h j i hj hi q)
def zZ{a:Addr}{c:Nat}{vs:List Value}{ks:List (List Int)}{P:PySem.Fin->Pf->Prop}(ho:s.heap.get? a=some (Rl "list" vs.toArray c))(ht:TupsAt s.heap vs ks)(hd:ks.Nodup)(lI:vs.length<64)
 (h:∀(p:Array Nat) (h':Heap) (c':Nat),PN vs.length p->Ri (λi j=>dW (ks.getD i []) (ks.getD j [])) p vs.length->h'.get? a=some (Rl "list" (QA (p.toList.map λi=>vs.getD i Qv)) c')->
  (∀b o,b≠a->s.heap.get? b=some o->h'.get? b=some o)->P (.done (.ret .none)) {s with heap:=h'}):wpAny (model prog w) A (Builtin.«list.sort» ⟨[.ref a],[]⟩) P E s:=by
 have EU:Py=16777216:=Rh;have s1:=Qb s.heap a (QS λ_=>(#[]:Array Value));obtain⟨e1,My⟩:∃e1,(s.heap.update a (QS λ_=>(#[]:Array Value))).get? a=some (Rl "list" #[] e1):=⟨_,get?_update_seq ho λ_=> #[]⟩
 have k1:∀b o,b≠a->s.heap.get? b=some o->(((s.heap.update a (QS λ_=>(#[]:Array Value))).push (Rl "tuple" vs.toArray 0)).push (Rl "list" #[] 0)).get? b=some o:=λb o hb e=>
  Pk _ (Pk _ ((s1.2 b hb).trans e))
 have K_:=Pk (Rl "list" #[] 0) (Pk (Rl "tuple" vs.toArray 0) My);have t3:=ht.keep k1 (λo e z=>by rw[ho] at e;cases e;exact UK (Value.type.inj z) (by decide));have fin:∀(st:SortSt) (p:Array Nat),PN vs.length p->Ri (λi j=>dW (ks.getD i []) (ks.getD j [])) p vs.length->(arrOf st).map (·.2)=QA (p.toList.map λi=>vs.getD i Qv)->failedOf st=none->
  wpAny (model prog w) A (do
   let touched:=(<-seqEpoch a) !=e1
   Builtin.List.listUpdate (.ref a) λ_=>(arrOf st).map (·.2)
   if let some e:=failedOf st then rule "list.sort.comparison-raised";throw e
   if touched then rule "list.sort.modified";raiseError "ValueError" "list modified during sort"
   ret .none) P E {s with heap:=((s.heap.update a (QS λ_=>(#[]:Array Value))).push (Rl "tuple" vs.toArray 0)).push (Rl "list" #[] 0)}:=λst p hp hr he hf=>by
  have hz:(QA (p.toList.map λi=>vs.getD i Qv)).size=vs.length:=by rw[Po,Pb,PO,hp.sz]
  rw[he,hf];refine Pc (seqEpoch_at K_ rfl (Pc (listUpdate_at K_ rfl ?_ (P2 _) (by rw[hz,EU];omega))));simp only[bne_self_eq_false,Qk,if_false];have s2:=Qb (((s.heap.update a (QS λ_=>(#[]:Array Value))).push (Rl "tuple" vs.toArray 0)).push (Rl "list" #[] 0)) a (QS λ_=>QA (p.toList.map λi=>vs.getD i Qv));exact Pu (h p _ _ hp hr (get?_update_seq K_ λ_=>QA (p.toList.map λi=>vs.getD i Qv)) λb o hb e=>(s2.2 b hb).trans (k1 b o hb e))
 rw[list_sort_plain];refine Pc (listItems_at ho rfl (Pc (listUpdate_at ho rfl (Pc (seqEpoch_at My rfl ?_)) (by rw[Po,EU];omega) (P2 _))));refine Pc (wpAny_newTuple (Pc (wpAny_newList (So ?_) (P2 _))) (by show vs.length<=_;rw[EU];omega));show wpAny (model prog w) A _ P E {s with heap:=((s.heap.update a (QS λ_=>(#[]:Array Value))).push (Rl "tuple" vs.toArray 0)).push (Rl "list" #[] 0)}
 dsimp only
 by_cases hs:vs.toArray.size<2
 ·rw[UD hs,UD hs];have FX:vs.length<2:=by simpa using hs
  refine Pc (Pu (Pc (Pu ?_)));refine fin (SortSt.mk' general' (vs.toArray.zip vs.toArray) #[] 7 none) (QA (PY vs.length)) ⟨by simp,λi hi=>?_,λi j hi hj _=>by omega⟩ (λi j yk hj=>by omega) ?_ rfl
  ·rw[eQ];simp[hi]
  ·show (vs.toArray.zip vs.toArray).map (·.2)=_;apply Array.toList_inj.mp;refine List.ext_getElem (by simp) λi a1 a2=>?_;simp at a1;simp[a1]
 ·rw[UE hs,UE hs];have FX:2<=vs.length:=by
   have:¬vs.length<2:=by simpa using hs
   omega
  obtain⟨fs,q1,q2,q3⟩:=t3.firsts (M:=model prog w);refine Pc (kat_kind q1 (by omega) q3 rfl ?_);have hb:Lt vs.length (λi j=>dW (ks.getD i []) (ks.getD j [])):=⟨λi j k=>sx _ _ _,λi j=>kK _ _,λi j hi hj yk=>oN _ _ λz=>yk (by
   rw[ht.len] at hi hj;rw[PV,PV,Pd hi,Pd hj] at z;exact Br hd hi hj (by simpa using z))⟩
  obtain⟨r1,r2⟩:=Cj hb FX;have run:=kat_run (prog:=prog) (w:=w) (A:=A) (E:=E) (ks:=vs) (vs:=vs) (κ:=tuples' true) (Q:=λst s'=>s'={s with heap:=((s.heap.update a (QS λ_=>(#[]:Array Value))).push (Rl "tuple" vs.toArray 0)).push (Rl "list" #[] 0)}/\∃p,PN vs.length p/\Ri (λi j=>dW (ks.getD i []) (ks.getD j [])) p vs.length/\(arrOf st).map (·.2)=QA (p.toList.map λi=>vs.getD i Qv)/\failedOf st=none)
   (G:=λp s'=>s'={s with heap:=((s.heap.update a (QS λ_=>(#[]:Array Value))).push (Rl "tuple" vs.toArray 0)).push (Rl "list" #[] 0)}/\PN vs.length p/\Ri (λi j=>dW (ks.getD i []) (ks.getD j [])) p vs.length) rfl FX lI
   (λp pO s' a1 a2 a3 a4=>⟨a4.1,p,a4.2.1,a4.2.2,kat_snds rfl a2,a3⟩)
   (wp_run (s:={s with heap:=((s.heap.update a (QS λ_=>(#[]:Array Value))).push (Rl "tuple" vs.toArray 0)).push (Rl "list" #[] 0)}) (λi j C hi hj hC=>asked t3 i j C hi hj hC) (yZ (by omega)) ⟨rfl,r1,r2⟩)
  refine Pc (Qt run ?_ λ_ _ e=>e);rintro⟨⟨⟩,pO⟩ s' ⟨rfl,p,a1,a2,a3,a4⟩;exact fin pO p a1 a2 a3 a4
end
section
variable{prog:PX}{w:World}{A:Qm}{E:Value->Pf->Prop}{s:Pf}
def qS{d:Addr}{od:Obj}{es:Array QQ}{ep:Nat}{Q:Value->Pf->Prop}(lo:(d==Qy)=false)(ho:s.heap.get? d=some od)(hx:od.ExactDict)(hd:od.data= .dict es ep)
 (hQ:Q (.ref s.heap.objs.size) {s with heap:=s.heap.push {cls:= .type "dict_keyiterator",data:= .fields #[.ref d, .int 0 0, .int es.size 0, .int ep 0]} }):wpAny (model prog w) A (pyIter (.ref d)) Q E s:=by
 have hT:s.TypeIs (.ref d) "dict":=⟨od,ho,hx.1⟩
 refine wpAny_pyIter_slot hT F.slot_dict_iter (RK F.slot_dict_iter hT F.entry_dict_iter ?_ (F.args_dict_iter_1 _));unfold Builtin.«dict.__iter__» Builtin.Dict.dictSlotNone;refine Pc (Pc (wpAny_notOrdered_dict hT ?_));show wpAny _ _ (pure (P_ d)) _ _ s;refine Pu ?_;show wpAny _ _ (RU d>>=_) _ _ s;unfold RU;rw[UE (by rw[lo];exact PH)];refine Pc (Pu (Pc (QE ho hd (Pc (RV ho hd ?_)))));refine Pc (Sf (Pu ⟨_,rfl,"dict_keyiterator",_,⟨_,PU _ rfl,rfl⟩,F.slot_dict_keyiterator_next.lookup,?_⟩));simpa[rawInt] using hQ
def uT{it d:Addr}{od:Obj}{es:Array QQ}{i ep:Nat}{e:QQ}{Q:Option Value->Pf->Prop}(UQ:s.heap.IsKeyIter it d i es.size ep)(zk:s.heap.get? d=some od)(m9:od.data= .dict es ep)(hx:es[i]? =some e)
 (hQ:∀h',h'.IsKeyIter it d (i+1) es.size ep->Q_ it s.heap h'->Q (some e.key) {s with heap:=h'}):wpAny (model prog w) A (Ub (.ref it)) Q E s:=by
 obtain⟨o,ho,hc,hd⟩:=id UQ;have iO:i<es.size:=(Array.getElem?_eq_some_iff.mp hx).1;have Ge:Se "dict_keyiterator"=false:=by decide
 unfold Ub;refine Pc (wpAny_attempt (Uj (name:=QN "__next__") UQ.typeIs QX
  (RK QX UQ.typeIs Tv ?_ (Tg _))))
 refine Pc (Pu (Pc (Pc ?_)))
 first | refine Pc (QT UQ.typeIs (Pu ?_)) | refine Pc (Rk UQ.typeIs (Pu ?_))
 refine Pc (wpAny_fieldsOf ho hd ?_);simp only[Ge,Qk,if_false];show wpAny _ _ (if (P_ d==Qv)=true then _ else _) _ _ s;rw[UE (show¬((P_ d==Qv)=true) from PH)];refine Pc (Pu (Pc (QE zk m9 ?_)));rw[UE (by simp)];refine Pc (Pu (Pc (RV zk m9 ?_)));rw[UE (by simp)];refine Pu ?_;simp only[show¬((i:Int)<0) from by omega,if_false,Int.toNat_natCast,hx];refine Pc ?_
 first | refine Pc (QT UQ.typeIs (Pu ?_)) | refine Pc (Rk UQ.typeIs (Pu ?_))
 refine Pc (wpAny_isOneOf_keyiter UQ.typeIs ?_);show wpAny _ _ (setField (.ref it) 1 (rawInt ((i:Int)+1))>>=_) _ _ s;refine Pc (wpAny_setField ho hd (by simp) ?_);have C_:(s.heap.update it (Obj.mapFields (·.setIfInBounds 1 (rawInt ((i:Int)+1))))).IsKeyIter it d (i+1) es.size ep:=
  ⟨_,Ry _ ho (Obj.isFreed_of_fields (Ux hd _)),(Obj.cls_mapFields ..).trans hc,by rw[Ux hd];simp[rawInt]⟩
 refine Pc (So (Pc (wpAny_isOneOf_keyiter (s:={s with heap:=s.heap.update it (Obj.mapFields (·.setIfInBounds 1 (rawInt ((i:Int)+1))))}) C_.typeIs ?_)));show wpAny _ _ (pure e.key) _ _ _;exact Pu (Pu ⟨_,rfl,Pu (hQ _ C_ (Qb ..))⟩)
def qG{it d:Addr}{od:Obj}{es:Array QQ}{ep i:Nat}{Q:Option Value->Pf->Prop}(hh:A.handled=none)(UQ:s.heap.IsKeyIter it d i es.size ep)(hi:es.size<=i)(zk:s.heap.get? d=some od)(m9:od.data= .dict es ep)
 (hQ:∀h',Heap.ExtBut it s.heap h'->Q none {s with heap:=h'}):wpAny (model prog w) A (Ub (.ref it)) Q E s:=by
 obtain⟨o,ho,hc,hd⟩:=id UQ;have Ge:Se "dict_keyiterator"=false:=by decide
 unfold Ub;refine Pc (wpAny_attempt (Uj (name:=QN "__next__") UQ.typeIs QX
  (RK QX UQ.typeIs Tv ?_ (Tg _))))
 refine Pc (Pu (Pc (Pc ?_)))
 first | refine Pc (QT UQ.typeIs (Pu ?_)) | refine Pc (Rk UQ.typeIs (Pu ?_))
 refine Pc (wpAny_fieldsOf ho hd ?_);simp only[Ge,Qk,if_false];show wpAny _ _ (if (P_ d==Qv)=true then _ else _) _ _ s;rw[UE (show¬((P_ d==Qv)=true) from PH)];refine Pc (Pu (Pc (QE zk m9 ?_)));rw[UE (by simp)];refine Pc (Pu (Pc (RV zk m9 ?_)));rw[UE (by simp)];refine Pu ?_;simp only[show¬((i:Int)<0) from by omega,if_false,Int.toNat_natCast,Array.getElem?_eq_none hi];refine Pc ?_
 first | refine Pc (QT UQ.typeIs (Pu ?_)) | refine Pc (Rk UQ.typeIs (Pu ?_))
 show wpAny _ _ (setField (.ref it) 0 .none>>=_) _ _ s;refine Pc (wpAny_setField ho hd (by simp) ?_);show wpAny _ _ (newExc (.type "StopIteration") []>>=_) _ _ _;refine Pc ?_;simp only[newExc,newTuple];refine Pc (Sf ?_ (by size_fits));refine Pc (m:=firstArgMember _ _) (wpAny_of_eq (a:=Qv) (by first | rfl | (simp only[firstArgMember];rfl)) ?_);refine Sf ?_ (by size_fits);simp only[raiseNew];refine Pc (wpAny_handled ?_);rw[show A.in1.handled=none from hh];refine Pc (Pu (wpAny_throw ?_));refine Pc (wpAny_isInstance (T:="StopIteration") (b:=true) ⟨_,PU _ rfl,rfl⟩ isSubtype_stop ?_);exact Pu (hQ _ (((Qb ..).extBut.push _).push _))
def AI{it d:Addr}{od:Obj}{es:Array QQ}{ep:Nat}{Q:Option Value->Pf->Prop}(hh:A.handled=none)(UQ:s.heap.IsKeyIter it d es.size es.size ep)(zk:s.heap.get? d=some od)(m9:od.data= .dict es ep)
 (hQ:∀h',Heap.ExtBut it s.heap h'->Q none {s with heap:=h'}):wpAny (model prog w) A (Ub (.ref it)) Q E s:=qG hh UQ (Pm _) zk m9 hQ
def Ey(es:Array QQ):Nat->Value->Prop:=λi v=>∃e,es[i]? =some e/\v=e.key
def xI(hh:A.handled=none)(I d:Addr)(g6:d≠I){od:Obj}{es:Array QQ}{ep:Nat}(m9:od.data= .dict es ep):
 Walks prog w A I [I,d] [I] es.size (Ey es) (λi h=>h.IsKeyIter I d i es.size ep/\h.get? d=some od) where
 sub:=λb hb=>by simp at hb;simp[hb]
 frame:=λ_ _ _ st hk=>⟨st.1.at λo e=>hk I (by simp) o e,hk d (by simp) _ st.2⟩
 item:=λi s Q E hi st hQ=>by
  have hx:es[i]? =some es[i]:=RQ hi;exact uT st.1 st.2 m9 hx λh' C_ Dg=>hQ _ h' s.toks ⟨_,hx,rfl⟩ ⟨C_,(Dg.2 d g6).trans st.2⟩ λb o hb e=>Dg.extBut b o (λh=>hb (by simp[h])) e
 done:=λs Q E st hQ=>AI hh st.1 st.2 m9 λh' ND=>hQ h' s.toks λb o hb e=>ND b o (λh=>hb (by simp[h])) e
 self:=λ_ _ _ _ st hQ=>wpAny_pyIter_keyiter st.1 hQ
def Ck{d:Addr}{od:Obj}{es:Array QQ}{ep:Nat}(lo:(d==Qy)=false)(hx:od.ExactDict)(m9:od.data= .dict es ep):KdlSrc prog w "dict" d d es.size (Ey es) (λh=>h.get? d=some od) where
 type:=λ_ hm=>⟨od,hm,hx.1⟩
 there:=λ_ hm=>⟨Pw hm,Pw hm⟩
 keep:=λ_ _ hm hk=>hk d (.inl rfl) od hm
 notList:=by decide
 notTuple:=by decide
 hint:=λ_ _ s _ hm hq=>kdl_hint_dict ⟨od,hm,hx.1⟩ hq
 iter:=λ_ _ hh hm=>⟨_,_,(λ_ _ hq=>qS lo hm hx m9 hq),xI hh _ d (P8 (Pw hm)) m9,⟨⟨_,PU _ rfl,rfl,rfl⟩,Pk _ hm⟩⟩
end
end L3
namespace L3
open PySem
def insI(k:List Int):List (List Int)->List (List Int)
 |[]=>[k]
 |x::r=>if dW k x then k::x::r else x::insI k r
def sortI:List (List Int)->List (List Int)
 |[]=>[]
 |k::r=>insI k (sortI r)
def v9(l:List (List Int)):Prop:=l.Pairwise λa b=>dW a b=true
def oA{k x:List Int}:∀{l:List (List Int)},x∈insI k l↔x=k\/x∈l
 |[]=>by simp[insI]
 |y::r=>by
  unfold insI;split
  ·simp
  ·rw[Pn,oA,Pn];constructor
   ·rintro(h | h | h)<;>simp[h]
   ·rintro(h | h | h)<;>simp[h]
def qO{k:List Int}:∀{l:List (List Int)},v9 l->k∉l->v9 (insI k l)
 |[],_,_=>List.pairwise_singleton _ _
 |x::r,h,hk=>by
  have h:=Qu.mp h;unfold insI;split
  ·rename_i q;refine Qu.mpr ⟨λy hy=>?_,Qu.mpr h⟩;rcases Pn.mp hy with rfl | hy
   ·exact q
   ·exact sx _ _ _ q (h.1 y hy)
  ·rename_i q;have hx:dW x k=true:=by
    rcases oN k x (λz=>hk (by rw[z];exact Pa ..)) with z | z
    ·exact UK z q
    ·exact z
   refine Qu.mpr ⟨λy hy=>?_,qO h.2 λz=>hk (O_ _ z)⟩;rcases oA.mp hy with rfl | hy
   ·exact hx
   ·exact h.1 y hy
def gZ{x:List Int}:∀{l:List (List Int)},x∈sortI l↔x∈l
 |[]=>Sd
 |k::r=>by unfold sortI;rw[oA,gZ,Pn]
def km:∀{l:List (List Int)},l.Nodup->v9 (sortI l)
 |[],_=>Tt
 |k::r,h=>by
  have h:=Qg.mp h;exact qO (km h.2) λz=>h.1 (gZ.mp z)
def pE:∀{a b:List (List Int)},v9 a->v9 b->(∀x,x∈a↔x∈b)->a=b
 |[],[],_,_,_=>rfl
 |[],y::b,_,_,h=>by have:=(h y).mpr (Pa ..);cases this
 |x::a,[],_,_,h=>by have:=(h x).mp (Pa ..);cases this
 |x::a,y::b,ha,hb,h=>by
  have ha:=Qu.mp ha;have hb:=Qu.mp hb;have e:x=y:=by
   rcases Pn.mp ((h x).mp (Pa ..)) with q | q
   ·exact q
   ·rcases Pn.mp ((h y).mpr (Pa ..)) with p | p
    ·exact p.symm
    ·have z1:=hb.1 x q;have z2:=ha.1 y p;rw[kK _ _ z1] at z2;cases z2
  subst e;have MG:∀k,dW k k≠true:=λk z=>by have:=kK _ _ z;rw[z] at this;cases this
  rw[pE ha.2 hb.2 λz=>?_];constructor
  ·intro hz;rcases Pn.mp ((h z).mp (O_ _ hz)) with q | q
   ·subst q;exact UK (ha.1 z hz) (MG z)
   ·exact q
  ·intro hz;rcases Pn.mp ((h z).mpr (O_ _ hz)) with q | q
   ·subst q;exact UK (hb.1 z hz) (MG z)
   ·exact q
def xn:∀(n:Nat) (l:List Nat),l.Nodup->(∀x∈l,x<n)->l.length=n->∀k,k<n->k∈l
 |0,_,_,_,_,k,hk=>by omega
 |n+1,l,hd,hl,hn,k,hk=>by
  by_cases h:n∈l
  ·by_cases e:k=n
   ·subst e;exact h
   ·refine List.mem_of_mem_erase (xn n (l.erase n) (hd.erase n) (λx hx=>?_) (by rw[TK h,hn];rfl) k (by omega));have hx:=hd.mem_erase_iff.mp hx;have:=hl x hx.2;have:=hx.1;omega
  ·cases l with
   |nil=>simp at hn
   |cons x r=>
    have hd:=Qg.mp hd;have lt:∀y∈x::r,y<n:=λy hy=>by
     have:=hl y hy;have:y≠n:=λz=>h (by rw[<-z];exact hy);omega
    exact UK (xn n r hd.2 (λy hy=>lt y (O_ _ hy)) (by simpa using hn) x (lt x (Pa ..))) hd.1
def z0{ks:List (List Int)}{p:Array Nat}(hd:ks.Nodup)(P:PN ks.length p)(R:Ri (λi j=>dW (ks.getD i []) (ks.getD j [])) p ks.length):(p.toList.map λi=>ks.getD i [])=sortI ks:=by
 have hsz:p.toList.length=ks.length:=by rw[PO];exact P.sz
 have CD:∀i (h:i<p.toList.length),p.toList[i]=at' p i:=λi h=>by
  have h':i<p.size:=by rw[PO] at h;exact h
  rw[eQ,RQ h'];simp
 refine pE ?_ (km hd) λx=>?_
 ·refine Q1.mpr λi j hi hj yk=>?_;rw[Pb] at hi hj;rw[List.getElem_map,List.getElem_map,CD i hi,CD j hj];exact R i j yk (by omega)
 ·rw[gZ];constructor
  ·intro hx;obtain⟨i,hi,rfl⟩:=Px.mp hx;obtain⟨j,hj,rfl⟩:=RB.mp hi;have:=P.lt j (by omega);rw[CD j hj,PV,Pd this];exact Q7 this
  ·intro hx;obtain⟨k,hk,rfl⟩:=RB.mp hx;have IP:k∈p.toList:=by
    have hn:p.toList.Nodup:=Q1.mpr λi j hi hj yk z=>by
     rw[CD i hi,CD j hj] at z;have:=P.inj i j (by omega) (by omega) z;omega
    exact xn ks.length p.toList hn (λx hx=>by
     obtain⟨j,hj,rfl⟩:=RB.mp hx;rw[CD j hj];exact P.lt j (by omega)) hsz k hk
   refine Px.mpr ⟨k,IP,?_⟩;rw[PV,Pd hk];rfl
end L3
namespace L3
open PySem PySem.Spec L2 SeqAt HT
open PyProof.Rows hiding St
def tupI(k:List Int):D:= .tup (k.map D.int)
def iY(ks:List (List Int)):Bool:=decide ks.Nodup&&decide (ks.length<64)&&ks.all λk=>!k.isEmpty
def eL(H:Hp):List V->List (List Int)->Prop:=S_ λv k=>∃a,v= .ref a/\H a=some (.tup (k.map V.int))
def vq{K:Ph}{F:Hp}:∀{ws:List V}{ks:List (List Int)},eL F ws ks->(∀k∈ks,k.length<=lim)->DenL K F (ks.map tupI) ws
 |_,_, .nil,_=>rfl
 |_,_, .cons (b:=k) h t,hl=>by
  obtain⟨a,rfl,h⟩:=h;exact .cons ⟨a,_,rfl,h,DenL.ints k,by rw[Pb];exact hl k (Pa ..)⟩ (vq t λk hk=>hl k (O_ _ hk))
def rB{X:Cx}{f8:List (Addr×Obj)}{σ:St}{H:Hp}{s:Pf}(I:Inv X f8 σ H s):∀{vs:List V}{aK:List Value}{ks:List (List Int)},eL H vs ks->Vals vs aK->(∀k∈ks,k≠[])->TupsAt s.heap aK ks
 |_,_,_, .nil,r,_=>by cases r;exact trivial
 |_,_,_, .cons (b:=k) h t,r,hn=>by
  obtain⟨a,rfl,h⟩:=h;cases r with
  |cons r1 r2=>
   cases (show _=_ from r1);obtain⟨us,ru,pt,_⟩:=I.tuple (SqT.of (K:=X.K) h);obtain⟨o,q1,q2,m,q3⟩:=pt;exact⟨⟨a,o,us,m,rfl,q1,q2,q3,intsAre_of ru,hn k (Pa ..)⟩,rB I t r2 λk hk=>hn k (O_ _ hk)⟩
def vv{H:Hp}:∀{vs:List V}{ks:List (List Int)}{i:Nat},eL H vs ks->i<vs.length->∃a,vs.getD i .non= .ref a/\H a=some (.tup ((ks.getD i []).map V.int))
 |_,_,i, .nil,hi=>by simp at hi
 |_,_,0, .cons h t,_=>h
 |_,_,i+1, .cons h t,hi=>vv (i:=i) t (by simpa using hi)
def vw{H:Hp}:∀{vs:List V}{ks:List (List Int)},eL H vs ks->vs.length=ks.length
 |_,_, .nil=>rfl
 |_,_, .cons h t=>by rw[Pl,Pl,vw t]
def rA{H:Hp}{vs:List V}{ks:List (List Int)}(h:eL H vs ks):∀{is:List Nat},(∀i∈is,i<vs.length)->eL H (is.map λi=>vs.getD i .non) (is.map λi=>ks.getD i [])
 |[],_=> .nil
 |i::is,hi=> .cons (vv h (hi i (Pa ..))) (rA h λj hj=>hi j (O_ _ hj))
def rN:∀{vs:List V}{us:List Value}(i:Nat),Vals vs us->i<vs.length->RelV (vs.getD i .non) (us.getD i Qv)
 |_,_,i, .nil,hi=>by simp at hi
 |_,_,0, .cons h t,_=>h
 |_,_,i+1, .cons h t,hi=>rN i t (by simpa using hi)
def rP{vs:List V}{us:List Value}(h:Vals vs us):∀{is:List Nat},(∀i∈is,i<vs.length)->Vals (is.map λi=>vs.getD i .non) (is.map λi=>us.getD i Qv)
 |[],_=> .nil
 |i::is,hi=> .cons (rN i h (hi i (Pa ..))) (rP h λj hj=>hi j (O_ _ hj))
section
def rH:∀l:List (List Int),(sortI l).length=l.length
 |[]=>rfl
 |k::r=>by
  have ins:∀(k:List Int) (l:List (List Int)),(insI k l).length=l.length+1:=by
   intro k l;induction l with
   |nil=>rfl
   |cons x l ih=>
    unfold insI;split
    ·rfl
    ·rw[Pl,ih,Pl]
  unfold sortI;rw[ins,rH r,Pl]
end
def oH(k:List Int):List Key:=k.map SX
def JI:List V->Hp->VK->Prop:=λxs H Q=>∃p ax ks,xs=[.ref p]/\Rd H p (.dT ax)/\ax.map (·.1)=ks.map oH/\iY ks=true/\∀(q:Addr) (ws:List V),H q=none->eL H ws (sortI ks)->Q (.ref q) (upd H q (.lst ws))
def qV{H:Hp}:∀{ax:List (List Key×V)}{xs:List (List Key×Addr×Value)}{ks:List (List Int)},S_ (λ(p:List Key×V) (q:List Key×Addr×Value)=>p.1=q.1/\H q.2.1=some (.tup (p.1.map kV))/\RelV p.2 q.2.2) ax xs->
 ax.map (·.1)=ks.map oH->eL H (xs.map λx=>V.ref x.2.1) ks
 |_,_,[], .nil,_=> .nil
 |_,_,_::_, .nil,e=>by simp at e
 |_,_,[], .cons h t,e=>by simp at e
 |_,_,k::ks, .cons h t,e=>by
  rw[Pj,Pj] at e;injection e with e1 e2
  refine .cons ⟨_,rfl,?_⟩ (qV t e2);have hk:(oH k).map kV=k.map V.int:=by unfold oH;rw[P5];rfl
  rw[h.2.1,e1,hk]
section
variable{X:Cx}{Xw:Nat->Hp->Prop}{e:Expr}{δs:DA}{pos p:Pos}
def zb(hc:X.calm=true):CallR X (.builtin "sorted") JI:=by
 intro f8 s σ H xs us Q I r h;obtain⟨a,ax,ks,rfl,hH,Ae,hk,q⟩:=h;obtain⟨u,rfl,r1⟩:=r.one;cases (show u=_ from r1);obtain⟨z,lo,xs,rel,o,es,ep,g1,g2,g3,g4,g5⟩:=(show ObjOk X.prog X.w H s.heap a (.dT ax) from hH.ok I.hok)
 unfold iY at hk;rw[P7,P7] at hk;have hd:ks.Nodup:=UI hk.1.1;have lI:ks.length<64:=UI hk.1.2;have g6:∀k∈ks,k≠[]:=λk IC z=>by have:=PJ.mp hk.2 k IC;rw[z] at this;cases this
 have hr:=qV rel Ae;have IF:=vw hr;rw[Pb] at IF;have FU:es.size=xs.length:=by rw[<-PO,g4,Pb]
 have EU:Py=16777216:=Rh;refine Calls.call_function_entry kind_sorted plain_sorted entry_sorted (args_sorted1 _) ?_;unfold Builtin.«sorted»;refine Pc (m:=checkCount "sorted" 1 1 _) (Pu (Pc (PySem.W.kdu_collect (A:=X.A.in1) (Ck lo g2 g3) (I.ok.hd hc) g1 (by rw[FU,EU];omega) λh1 tk v2 Jd AX=>?_)));have Io:v2.toList.length=xs.length:=by rw[PO,<-FU];exact AX.1
 have I1:Inv X f8 σ H {s with heap:=h1,toks:=tk}:=I.kept (t':=tk) λb ob e=>Jd b ob e;have rv:Vals (xs.map λx=>V.ref x.2.1) v2.toList:=by
  have ext:∀{vs:List V}{us:List Value},vs.length=us.length->(∀(i:Nat) (v:V) (u:Value),vs[i]? =some v->us[i]? =some u->RelV v u)->Vals vs us:=by
   intro vs;induction vs with
   |nil=>intro us h _;cases us with | nil=>exact .nil | cons _ _=>simp at h
   |cons v vs ih=>
    intro us h hh;cases us with
    |nil=>simp at h
    |cons u us=>exact .cons (hh 0 v u rfl rfl) (ih (by simpa using h) λi v u h1 h2=>hh (i+1) v u h1 h2)
  refine ext (by rw[Pb,Io]) λi v u e1 e2=>?_;rw[Rw] at e2;obtain⟨en,q1,q2⟩:=AX.2 i u e2;rw[<-Rw,g4,Pq] at q1;rw[Pq] at e1;cases w:xs[i]? with
  |none=>rw[w] at e1;cases e1
  |some x=>
   rw[w] at e1 q1;cases e1;cases q1;exact q2
 have ht:=rB I1 hr rv g6;refine Pc (wpAny_newList ?_ (by rw[EU];omega));have J9:(h1.push (Rl "list" v2.toList.toArray 0)).get? h1.objs.size=some (Rl "list" v2.toList.toArray 0):=PU _ rfl;refine Pc (So (RK slot_list_sort ⟨_,J9,rfl⟩ entry_list_sort (zZ (s:={s with heap:=h1.push (Rl "list" v2.toList.toArray 0),toks:=tk}) J9
  (ht.keep (a:=h1.objs.size) (λb o _ e=>Pk _ e) (λo e=>UK (Pw e) (Qp _))) hd (by omega) λP h' c' hP hR KS ID=>?_) (args_list_sort _)))
 have KI:∀i∈P.toList,i<(xs.map λx=>V.ref x.2.1).length:=λi hi=>by
  obtain⟨j,hj,rfl⟩:=RB.mp hi;have h':j<P.size:=by rw[PO] at hj;exact hj
  have:=hP.lt j (by rw[hP.sz] at h';exact h');rw[eQ,RQ h'] at this;have e:P.toList[j]=P[j]:=by simp
  rw[e,Pb];have:P[j]<v2.toList.length:=this;omega
 have Nn:PN ks.length P:=by rw[<-IF,<-Io];exact hP
 have Np:Ri (λi j=>dW (ks.getD i []) (ks.getD j [])) P ks.length:=by rw[<-IF,<-Io];exact hR
 have Ka:=z0 hd Nn Np;have MC:=rA hr KI;rw[Ka] at MC;refine⟨_,rfl,Pu ⟨_,rfl,⟨.ref h1.objs.size,_,I1.laid (a:=h1.objs.size) (t':=tk) (o:= .lst (P.toList.map λi=>(xs.map λx=>V.ref x.2.1).getD i .non)) (λb ob e=>ID b ob (P8 (Pw e)) (Pk _ e)) (Pm _) ?_,rfl,q _ _ (I1.hok.fresh (Pm _)) MC⟩⟩⟩;exact⟨by rw[Pb,PO,hP.sz,EU];omega,_,c',rP rv KI,KS⟩
def rq{F F':Hp}(e:Same F F'):∀{ws:List V}{ks:List (List Int)},eL F ws ks->eL F' ws ks
 |_,_, .nil=> .nil
 |_,_, .cons ⟨b,q1,q2⟩ t=> .cons ⟨b,q1,e _ _ q2⟩ (rq e t)
def vu{F H:Hp}(hs:Same F H):∀{ws:List V}{ks:List (List Int)},eL H ws ks->∃F',Ext F H F' H/\eL F' ws ks
 |_,_, .nil=>⟨F,Ext.refl hs, .nil⟩
 |_,_, .cons h t=>by
  obtain⟨a,rfl,h⟩:=h;obtain⟨F1,e1,r1⟩:=vu hs t;have e2:=Ext.tup (F:=F1) e1.fh h;refine⟨_,e1.trans e2, .cons ⟨a,rfl,aD⟩ ?_⟩;exact rq e2.ff r1
def qP:List Key->Option (List Int)
 |[]=>some []
 | .inl i::r=>(qP r).map (i:: ·)
 |_=>none
def fL:List (List Key)->Option (List (List Int))
 |[]=>some []
 |k::r=>match qP k,fL r with
  |some x,some xs=>some (x::xs)
  |_,_=>none
def uF:∀{k:List Key}{x:List Int},qP k=some x->k=oH x
 |[],_,e=>by cases e;rfl
 | .inl i::r,_,e=>by
   unfold qP at e;cases q:qP r with
   |none=>rw[q] at e;cases e
   |some y=>rw[q] at e;cases e;rw[uF q];rfl
 | .inr _::r,_,e=>by cases e
def lJ:∀{kk:List (List Key)}{ks:List (List Int)},fL kk=some ks->kk=ks.map oH
 |[],_,e=>by cases e;rfl
 |k::r,_,e=>by
  unfold fL at e;split at e
  ·rename_i x xs e1 e2;cases e;rw[Pj,<-uF e1,<-lJ e2]
  ·cases e
def rJ:List D->M D
 |[.dct kk ds]=>match fL kk with
  |some ks=>if iY ks&&ks.all (λk=>decide (k.length<=lim)) then ab (.lst ((sortI ks).map tupI)) else af
  |none=>af
 |_=>af
def jH{α β:Type}:∀{a:List α}{b:List β},a.length=b.length->(a.zip b).map (·.1)=a
 |[],[],_=>rfl
 |x::a,y::b,h=>by rw[QH,Pj,jH (by simpa using h)]
 |[],_::_,h=>by simp at h
 |_::_,[],h=>by simp at h
def DW(hc:X.calm=true)(hg:Gl X "sorted")(hm:X.mg "sorted"=none)(hb:Qw "sorted"=some (.builtin "sorted"))(ha:p8 X Xw [e] δs)(he:PB [e] X.env=[(false,eval e X.env)]:=by rfl):PD X Xw (.Call (.Name "sorted" p) [e] [] pos) (dA rJ δs):=
 eG (zb hc) (λXw F H vs ds Q s h w=>by
  unfold rJ at w;split at w
  ·rename_i kk ds;obtain⟨v,rfl,h1⟩:=h.one;obtain⟨a,ob,ws,rfl,h2,h3,h4,h5⟩:=h1;split at w
   ·rename_i ks Af;split at w
    ·rename_i hok;rw[P7] at hok;have hl:∀k∈ks,k.length<=lim:=λk hk=>UI (PJ.mp hok.2 k hk);have lI:ks.length<64:=by
      have:=hok.1;unfold iY at this;rw[P7,P7] at this;exact UI this.1.2
     refine⟨a,_,ks,rfl, .inr ⟨ob,s _ _ h2⟩,by rw[jH (by rw[h4];exact h3.len),lJ Af],hok.1,λq us hq hr=>?_⟩;obtain⟨F1,e1,r1⟩:=vu s hr;have e2:=Ext.lay (o:= .lst us) e1.fh hq;exact WP.fin w (e1.trans e2) ⟨q,_,rfl,aD,DenL.mono e2.ff (vq r1 λk hk=>hl k (gZ.mp hk)),by rw[Pb,rH];unfold lim;omega⟩
    ·exact w.elim
   ·exact w.elim
  ·exact w.elim) hg hm hb ha (by decide) (by decide) he rfl
end
end L3
namespace L3
open PySem PySem.Spec L2
open PyProof.Rows hiding St
def orM{α:Type}(a b:M α):M α:=match a with
 |none=>b
 |some r=>some r
def A5(a b:DA):DA:=λZ=>orM (a Z) (b Z)
section
variable{X:Cx}{Xw:Nat->Hp->Prop}{e tg:Expr}{δi δi':DA}
def yI(h:vX X Xw tg e δi)(h':vX X Xw tg e δi'):vX X Xw tg e (A5 δi δi'):=λf8 s σ H Q I ⟨F,Z,S,w⟩=>by
 unfold A5 orM at w;cases q:δi Z with
 |none=>rw[q] at w;exact h' f8 s σ H Q I ⟨F,Z,S,w⟩
 |some r=>rw[q] at w;exact h f8 s σ H Q I ⟨F,Z,S,by rw[q];exact w⟩
def gT{st:Stmt}:ku X Xw st (λ_=>af):=λt0 H₀ f8 s σ H D I ⟨F,Z,S,w⟩=>w.elim
end
def fgt:List Nat->aP->aP
 |[],Z=>Z
 |i::is,Z=>fgt is (Z.set i none)
def Js(f:aP->aP):Out->M Out
 | .nx Z=>ab (.nx (f Z))
 | .rt d=>ab (.rt d)
def b_(is:List Nat)(τ:DS):DS:=λZ=>τ Z>>=Js (fgt is)
def StOk.fgt1{K:Ph}{t0 H₀ F H:Hp}{σ:St}{Z:aP}(s:StOk K t0 H₀ F H σ Z)(i:Nat):StOk K t0 H₀ F H σ (Z.set i none):=by
 have get:∀(j:Nat) (sl:Sl),(Z.set i none)[j]? =some (some sl)->Z[j]? =some (some sl):=λj sl e=>by
  by_cases hj:j=i
  ·subst hj;by_cases hl:j<Z.length
   ·rw[Pt hl] at e;cases e
   ·rw[Sm (by simpa using hl)] at e;cases e
  ·rw[Pg (Qd hj)] at e;exact e
 exact⟨s.ext,⟨s.st.fh,λj sl e=>s.st.den j sl (get j sl e)⟩,by simp[s.len],λj c a e e'=>s.own j c a (get j _ e) e',λj k c c' a e1 e2 e3 e4=>s.sep j k c c' a (get j _ e1) (get k _ e2) e3 e4⟩
def StOk.fgt{K:Ph}{t0 H₀ F H:Hp}{σ:St}:∀(is:List Nat) {Z:aP},StOk K t0 H₀ F H σ Z->StOk K t0 H₀ F H σ (L3.fgt is Z)
 |[],_,s=>s
 |i::is,_,s=>StOk.fgt is (s.fgt1 i)
def WPS.fgt{K:Ph}{Xw:Nat->Hp->Prop}{t0 H₀:Hp}{is:List Nat}{m:M Out}{Dn:Ends}(w:WPS K Xw t0 H₀ (m>>=Js (L3.fgt is)) Dn):WPS K Xw t0 H₀ m Dn:=by
 match m,w with
 |none,w=>exact w
 |some (.ok (.nx Z)),w=>exact λσ F H s=>w σ F H (s.fgt is)
 |some (.ok (.rt d)),w=>exact w
 |some (.ex n),w=>exact w
section
variable{X:Cx}{Xw:Nat->Hp->Prop}{MT:List Stmt}{τ:DS}{is:List Nat}
def bq(h:PSDs X Xw MT τ):PSDs X Xw MT (b_ is τ):=λt0 H₀=>PSs.weak (h t0 H₀) λD σ H ⟨F,Z,s,w⟩=>⟨F,Z,s,WPS.fgt w⟩
end
def Ng:Option Sl->Option Sl
 |some (.ow c)=>some (.fz c.d)
 |x=>x
def yh(Z:aP):aP:=Z.map Ng
def refA(h:Heap)(P:Addr->Prop)[DecidablePred P](H:Hp):Hp:=λb=>if P b then(H b).map (m8 ((h.get? b).getD {cls:= .none,data:= .fields #[]})) else H b
def wA(ob:Obj)(o:HO):m8 ob o=o\/((∃k,o= .dT k)\/∃k,o= .dK k)/\m8 ob o= .frz ob o:=by
 cases o<;>first | exact .inl rfl | exact .inr ⟨.inl ⟨_,rfl⟩,rfl⟩ | exact .inr ⟨.inr ⟨_,rfl⟩,rfl⟩
section
variable{X:Cx}{f8:List (Addr×Obj)}{σ:St}{H:Hp}{s:Pf}{P:Addr->Prop}[DecidablePred P]
def gX{h:Heap}{b:Addr}(e:H b=none):refA h P H b=none:=by
 unfold refA;split
 ·rw[e];rfl
 ·exact e
def ro{h:Heap}{b:Addr}{o:HO}(e:H b=some o):refA h P H b=some o\/((∃k,o= .dT k)\/∃k,o= .dK k)/\P b/\refA h P H b=some (.frz ((h.get? b).getD {cls:= .none,data:= .fields #[]}) o):=by
 unfold refA;split
 ·rename_i hp;rw[e];rcases wA ((h.get? b).getD {cls:= .none,data:= .fields #[]}) o with q | ⟨q1,q2⟩
  ·exact .inl (by show some _=_;rw[q])
  ·exact .inr ⟨q1,hp,by show some _=_;rw[q2]⟩
 ·exact .inl e
def gW{h:Heap}{b:Addr}{o:HO}(e:H b=some o)(n1:∀k,o≠ .dT k)(n2:∀k,o≠ .dK k):refA h P H b=some o:=by
 rcases ro (P:=P) (h:=h) e with q | ⟨⟨k,q⟩ | ⟨k,q⟩,_⟩
 ·exact q
 ·exact UK q (n1 k)
 ·exact UK q (n2 k)
def Inv.refA(I:Inv X f8 σ H s):Inv X f8 σ (L3.refA s.heap P H) s:=by
 have obj:∀b o,H b=some o->((∃k,o=HO.dT k)\/∃k,o= .dK k)->∃ob,s.heap.get? b=some ob:=λb o e hu=>by
  have hk:=I.hok b o e;rcases hu with⟨k,h1⟩ | ⟨k,h1⟩
  ·subst h1;obtain⟨_,_,_,_,ob,_,_,q,_⟩:=hk;exact⟨ob,q⟩
  ·subst h1;obtain⟨_,_,_,_,ob,_,_,q,_⟩:=hk;exact⟨ob,q⟩
 refine⟨I.ok,I.os,I.bare,⟨I.base.keep,I.base.slot,λb q h1 h2 h3=>gX (I.base.free b q h1 h2 h3),I.base.there,λb xs q=>gW (I.base.tups b xs q) (λ_ z=>nomatch z) (λ_ z=>nomatch z),
  λb q1 v q=>gW (I.base.frzs b q1 v q) (λ_ z=>nomatch z) (λ_ z=>nomatch z),λb ps q=>?_⟩,I.loc,I.cell,gX I.free,λx c q=>gX (I.freeC x c q),λp hp=>?_,λb v q=>?_,I.len⟩
 ·obtain⟨m,this⟩:=I.base.tbls b ps q;exact⟨m,gW this (λ_ z=>nomatch z) (λ_ z=>nomatch z)⟩
 ·obtain⟨h1,h2,h3⟩:=I.pin p hp;exact⟨h1,gX h2,h3⟩
 ·have st:∀{c:Addr}{v:HO},ObjOk X.prog X.w H s.heap c v->ObjOk X.prog X.w (L3.refA s.heap P H) s.heap c v:=λ{c v} k=>k.stay (λ_ _ _ q=>q)
   (λc' q=>gW q (λ_ z=>nomatch z) (λ_ z=>nomatch z)) λc' xs q=>gW q (λ_ z=>nomatch z) (λ_ z=>nomatch z)
  cases e:H b with
  |none=>rw[gX e] at q;cases q
  |some o=>
   rcases ro (P:=P) (h:=s.heap) e with z | ⟨hu,hp,z⟩
   ·rw[z] at q;cases q;exact st (I.hok b _ e)
   ·rw[z] at q;cases q;obtain⟨ob,Ga⟩:=obj b o e hu;rw[Ga];exact⟨Ga,st (I.hok b o e)⟩
def unA(P:Addr->Prop)[DecidablePred P](H:Hp):Hp:=λb=>if P b then(match H b with | some (.frz _ u)=>some u | x=>x) else H b
def Inv.unA(I:Inv X f8 σ H s)(hP:∀b,P b->∀o u,X.H₀ b≠some (.frz o u))(hQ:∀b,P b->∀o u,H b=some (.frz o u)->(∃k,u= .dT k)\/∃k,u= .dK k):Inv X f8 σ (L3.unA P H) s:=by
 have non:∀b,H b=none->L3.unA P H b=none:=λb e=>by unfold L3.unA;rw[e];split<;>rfl
 have keep:∀b o,H b=some o->(∀q u,o≠ .frz q u)->L3.unA P H b=some o:=λb o e n=>by
  unfold L3.unA;split
  ·rw[e];cases o<;>first | rfl | exact UK rfl (n _ _)
  ·exact e
 refine⟨I.ok,I.os,I.bare,⟨I.base.keep,I.base.slot,λb q h1 h2 h3=>non b (I.base.free b q h1 h2 h3),I.base.there,λb xs q=>keep b _ (I.base.tups b xs q) (λ_ _ z=>nomatch z),
  λb q1 v q=>?_,λb ps q=>?_⟩,I.loc,I.cell,non _ I.free,λx c q=>non _ (I.freeC x c q),λp hp=>?_,λb v q=>?_,I.len⟩
 ·have:=I.base.frzs b q1 v q;unfold L3.unA;rw[UE (λhp=>hP b hp q1 v q)];exact this
 ·obtain⟨m,this⟩:=I.base.tbls b ps q;exact⟨m,keep b _ this (λ_ _ z=>nomatch z)⟩
 ·obtain⟨h1,h2,h3⟩:=I.pin p hp;exact⟨h1,non _ h2,h3⟩
 ·have st:∀{c:Addr}{v:HO},ObjOk X.prog X.w H s.heap c v->ObjOk X.prog X.w (L3.unA P H) s.heap c v:=λ{c v} k=>k.stay (λ_ _ _ q=>q)
   (λc' q=>keep c' _ q (λ_ _ z=>nomatch z)) λc' xs q=>keep c' _ q (λ_ _ z=>nomatch z)
  cases e:H b with
  |none=>rw[non b e] at q;cases q
  |some o=>
   have ko:=I.hok b o e;by_cases hf:∃ob u,o= .frz ob u
   ·obtain⟨ob,u,rfl⟩:=hf;unfold L3.unA at q;split at q
    ·rw[e] at q;cases q;obtain⟨_,k2⟩:=ko;exact st k2
    ·rw[e] at q;cases q;exact st ko
   ·rw[keep b o e (λq u z=>hf ⟨q,u,z⟩)] at q;cases q;exact st ko
end
mutual
def uw:D->Bool
 | .non=>true
 | .bl _=>true
 | .int _=>true
 | .str _=>true
 | .tup ds=>yg ds
 | .raw _=>false
 | .exc _=>false
 | .scr _=>false
 | .lst _=>false
 | .dct _ _=>false
 | .dci _ _=>false
def yg:List D->Bool
 |[]=>true
 |d::ds=>uw d&&yg ds
end
def oe(d:D):M D:=if uw d then ab d else af
def OwnAt(σ:St)(Z:aP)(b:Addr):Prop:=∃(i:Nat) (c:C),Z[i]? =some (some (Sl.ow c))/\σ[i]? =some (some (V.ref b))
section
variable{K:Ph}{F H F' H':Hp}{σ:St}{Z:aP}{h:Heap}{b:Addr}
def OwnAt.obj(S:StE K F H σ Z)(p:OwnAt σ Z b):F b=none/\∃o,H b=some o/\((∃x,o= .lst x)\/(∃x,o= .dT x)\/∃x,o= .dK x):=by
 obtain⟨i,c,h1,h2⟩:=p;obtain⟨v,h3,a,o,rfl,h4,h5,h6⟩:=S.den i _ h1;rw[h3] at h2;cases h2;refine⟨h5,o,h4,?_⟩;cases c with
 |lst ds=>obtain⟨vs,rfl,_⟩:=h6;exact .inl ⟨_,rfl⟩
 |dct ks ds=>obtain⟨vs,rfl,_⟩:=h6;exact .inr (.inl ⟨_,rfl⟩)
 |dci ks ds=>obtain⟨vs,rfl,_⟩:=h6;exact .inr (.inr ⟨_,rfl⟩)
open Classical in
noncomputable def fA(σ:St)(Z:aP)(H1 F:Hp):Hp:=λb=>if OwnAt σ Z b then H1 b else F b
open Classical in
def yf(S:StE K F H σ Z){H1:Hp}:Same F (fA σ Z H1 F):=λb u e=>by
 unfold fA;rw[UE (λp=>by rw[(OwnAt.obj S p).1] at e;cases e)];exact e
open Classical in
def AN(S:StE K F H σ Z):StE K (fA σ Z (refA h (OwnAt σ Z) H) F) (refA h (OwnAt σ Z) H) σ (yh Z):=by
 refine⟨λb u e=>?_,λj sl e=>?_⟩
 ·unfold fA at e;split at e
  ·exact e
  ·rename_i hp;unfold refA;rw[UE hp];exact S.fh b u e
 ·unfold yh at e;rw[Pq] at e;cases q:Z[j]? with
  |none=>rw[q] at e;cases e
  |some x=>
   rw[q] at e;cases x with
   |none=>cases e
   |some y=>
    cases y with
    |fz d=>
     cases e;obtain⟨v,h1,h2⟩:=S.den j _ q;exact⟨v,h1,Den.mono (yf S) h2⟩
    |ow c=>
     cases e;obtain⟨v,h1,a,o,rfl,h4,h5,h6⟩:=S.den j _ q;refine⟨_,h1,DenC.den (ob:=(h.get? a).getD {cls:= .none,data:= .fields #[]}) h6 (yf S) ?_⟩;have hp:OwnAt σ Z a:=⟨j,c,q,h1⟩
     unfold fA refA;rw[UD hp,UD hp,h4];rfl
open Classical in
def uC(S:StE K F H σ Z)(E:Ext (fA σ Z (refA h (OwnAt σ Z) H) F) (refA h (OwnAt σ Z) H) F' H'):
 Ext F H (λb=>if OwnAt σ Z b then none else F' b) (unA (OwnAt σ Z) H')/\∀b,OwnAt σ Z b->∀o u,H' b=some (.frz o u)->(∃k,u= .dT k)\/∃k,u= .dK k:=by
 have L1:∀b,OwnAt σ Z b->∃o,H b=some o/\H' b=some (m8 ((h.get? b).getD {cls:= .none,data:= .fields #[]}) o)/\((∃x,o= .lst x)\/(∃x,o= .dT x)\/∃x,o= .dK x):=λb hp=>by
  obtain⟨_,o,h1,h2⟩:=OwnAt.obj S hp;refine⟨o,h1,E.hh b _ ?_,h2⟩;unfold refA;rw[UD hp,h1];rfl
 refine⟨⟨λb o e=>?_,λb u e=>?_,λb u e=>?_,λb hb=>?_⟩,λb hp o u e=>?_⟩
 ·unfold unA;by_cases hp:OwnAt σ Z b
  ·obtain⟨o',h1,h2,h3⟩:=L1 b hp;rw[e] at h1;cases h1;rw[UD hp,h2];rcases h3 with⟨x,rfl⟩ | ⟨x,rfl⟩ | ⟨x,rfl⟩<;>rfl
  ·rw[UE hp];refine E.hh b o ?_;unfold refA;rw[UE hp];exact e
 ·have hp:¬OwnAt σ Z b:=λp=>by rw[(OwnAt.obj S p).1] at e;cases e
  show (if OwnAt σ Z b then none else F' b)=_;rw[UE hp];refine E.ff b u ?_;unfold fA;rw[UE hp];exact e
 ·have e:(if OwnAt σ Z b then none else F' b)=some u:=e;split at e
  ·cases e
  ·rename_i hp;unfold unA;rw[UE hp];exact E.fh b u e
 ·show (if OwnAt σ Z b then none else F' b)=F b\/_;by_cases hp:OwnAt σ Z b
  ·rw[UD hp];exact .inl (OwnAt.obj S hp).1.symm
  ·rw[UE hp];have e1:refA h (OwnAt σ Z) H b=H b:=by unfold refA;rw[UE hp]
   have e2:fA σ Z (refA h (OwnAt σ Z) H) F b=F b:=by unfold fA;rw[UE hp]
   rcases E.new b (by rw[e1];exact hb) with q | q
   ·exact .inl (q.trans e2)
   ·rw[e1] at q;exact .inr q
 ·obtain⟨o',h1,h2,h3⟩:=L1 b hp;rw[e] at h2;rcases h3 with⟨x,rfl⟩ | ⟨x,rfl⟩ | ⟨x,rfl⟩
  ·cases h2
  ·cases h2;exact .inl ⟨_,rfl⟩
  ·cases h2;exact .inr ⟨_,rfl⟩
open Classical in
mutual
def uy(S:StE K F H σ Z)(E:Ext (fA σ Z (refA h (OwnAt σ Z) H) F) (refA h (OwnAt σ Z) H) F' H'):∀{d:D}{v:V},uw d=true->Den K F' d v->Den K (λb=>if OwnAt σ Z b then none else F' b) d v
 | .non,_,_,q=>q
 | .bl _,_,_,q=>q
 | .int _,_,_,q=>q
 | .str _,_,_,q=>q
 | .tup ds,_,f,⟨a,vs,h1,h2,h3,h4⟩=>by
   refine⟨a,vs,h1,?_,qH S E ?_ h3,h4⟩
   ·show (if OwnAt σ Z a then none else F' a)=_;rw[UE,h2];intro hp;obtain⟨_,o,k1,k2⟩:=OwnAt.obj S hp;have k3:fA σ Z (refA h (OwnAt σ Z) H) F a=some (m8 ((h.get? a).getD {cls:= .none,data:= .fields #[]}) o):=by
     unfold fA refA;rw[UD hp,UD hp,k1];rfl
    have k4:=E.ff a _ k3;rw[h2] at k4;rcases k2 with⟨x,rfl⟩ | ⟨x,rfl⟩ | ⟨x,rfl⟩<;>cases k4
   ·exact f
 | .raw _,_,f,_=>by cases f
 | .exc _,_,f,_=>by cases f
 | .scr _,_,f,_=>by cases f
 | .lst _,_,f,_=>by cases f
 | .dct _ _,_,f,_=>by cases f
 | .dci _ _,_,f,_=>by cases f
def qH(S:StE K F H σ Z)(E:Ext (fA σ Z (refA h (OwnAt σ Z) H) F) (refA h (OwnAt σ Z) H) F' H'):∀{ds:List D}{vs:List V},yg ds=true->DenL K F' ds vs->DenL K (λb=>if OwnAt σ Z b then none else F' b) ds vs
 |[],_,_,q=>q
 |d::ds,_,f,⟨v,r,h1,h2,h3⟩=>by
  unfold yg at f;rw[P7] at f;exact⟨v,r,h1,uy S E f.1 h2,qH S E f.2 h3⟩
end
end
def nG{α:Type}{m:M α}{a:α}(h:noex m=ab a):m=ab a:=by
 match m,h with
 |some (.ok b),h=>exact h
section
variable{X:Cx}{Xw:Nat->Hp->Prop}{e:Expr}{δ:DE}{τ:DT}
def rf{f8:List (Addr×Obj)}{s:Pf}{F H:Hp}{σ:St}{Z:aP}(I:Inv X f8 σ H s)(S:StE X.K F H σ Z)(b:Addr)(p:OwnAt σ Z b)(o:Obj)(u:HO):X.H₀ b≠some (.frz o u):=λz=>by
 obtain⟨_,o',k1,k2⟩:=OwnAt.obj S p;have:=I.base.frzs b o u z;rw[k1] at this;rcases k2 with⟨x,rfl⟩ | ⟨x,rfl⟩ | ⟨x,rfl⟩<;>cases this
def ij{α:Type}(m:M α):noex m=af\/∃a,m=ab a/\noex m=ab a:=by
 rcases m.cs with h | ⟨n,h⟩ | ⟨a,h⟩
 ·subst h;exact .inl rfl
 ·subst h;exact .inl rfl
 ·subst h;exact .inr ⟨a,rfl,rfl⟩
def s_(h:lx X Xw e τ):lx X Xw e (λZ=>noex (τ (yh Z))):=λf8 s σ H Q I ⟨F,Z,S,w⟩=>by
 classical
 rcases ij (τ (yh Z)) with q | ⟨b,q,q2⟩
 ·have w:WPB Xw F H (noex (τ (yh Z))) Q:=w;rw[q] at w;exact w.elim
 ·have w:WPB Xw F H (noex (τ (yh Z))) Q:=w;rw[q2] at w;refine b7 (h f8 s σ _ (λb' H'=>Q b' (unA (OwnAt σ Z) H')/\∀c,OwnAt σ Z c->∀o u,H' c=some (.frz o u)->(∃k,u= .dT k)\/∃k,u= .dK k) (Inv.refA (P:=OwnAt σ Z) I) ⟨_,_,AN (h:=s.heap) S,?_⟩) λb' s' ⟨H',I',q1,q3⟩=>⟨_,Inv.unA I' (rf I S) q3,q1⟩
  rw[q];intro H' F' E;obtain⟨E1,q3⟩:=uC S E;exact⟨w _ _ E1,q3⟩
def E9(h:PD X Xw e δ):PD X Xw e (λZ=>noex (δ (yh Z))>>=oe):=λf8 s σ H Q I ⟨F,Z,S,w⟩=>by
 classical
 rcases ij (δ (yh Z)) with q | ⟨d,q,q2⟩
 ·have w:WP X.K Xw F H (noex (δ (yh Z))>>=oe) Q:=w;rw[q] at w;exact w.elim
 ·have w:WP X.K Xw F H (noex (δ (yh Z))>>=oe) Q:=w;rw[q2,au] at w;unfold oe at w;split at w
  ·rename_i hf;refine b7 (h f8 s σ _ (λv H'=>Q v (unA (OwnAt σ Z) H')/\∀c,OwnAt σ Z c->∀o u,H' c=some (.frz o u)->(∃k,u= .dT k)\/∃k,u= .dK k) (Inv.refA (P:=OwnAt σ Z) I) ⟨_,_,AN (h:=s.heap) S,?_⟩) λb' s' ⟨v,H',I',rv,q1,q3⟩=>⟨v,_,Inv.unA I' (rf I S) q3,rv,q1⟩
   rw[q];intro v H' F' E dn;obtain⟨E1,q3⟩:=uC S E;exact⟨w _ _ _ E1 (uy S E hf dn),q3⟩
  ·exact w.elim
end
abbrev DF:=aP->M C
def WPF(K:Ph)(Xw:Nat->Hp->Prop)(F H:Hp)(m:M C)(Q:VK):Prop:=
 match m with
 |none=>False
 |some (.ok c)=>∀a o H' F',Ext F H F' H'->H' a=some o->F' a=none->H a=none->DenC K F' c o->Q (.ref a) H'
 |some (.ex n)=>∀F' H',Ext F H F' H'->Xw n H'
def OO(K:Ph)(Xw:Nat->Hp->Prop)(δ:DF):TE:=λσ H Q=>∃F Z,StE K F H σ Z/\WPF K Xw F H (δ Z) Q
def Fq(X:Cx)(Xw:Nat->Hp->Prop)(e:Expr)(δ:DF):Prop:=PE X e (OO X.K Xw δ)
def rF(i:Nat)(δ:DF):DS:=λZ=>δ Z>>=λc=>ab (.nx (Z.set i (some (.ow c))))
def StOk.setFresh{K:Ph}{t0 H₀ F H F' H':Hp}{σ:St}{Z:aP}(s:StOk K t0 H₀ F H σ Z){i:Nat}{a:Addr}{o:HO}{c₀:C}(E:Ext F H F' H')(ho:H' a=some o)(nF:F' a=none)(n:H a=none)(h:DenC K F' c₀ o):
 StOk K t0 H₀ F' H' (σ.set i (some (.ref a))) (Z.set i (some (.ow c₀))):=by
 have hle:=s.len;have get:∀(j:Nat) (sl:Sl),(Z.set i (some (.ow c₀)))[j]? =some (some sl)->(j=i/\i<Z.length/\sl= .ow c₀)\/(j≠i/\Z[j]? =some (some sl)):=λj sl e=>by
  by_cases hj:j=i
  ·subst hj;have hi:j<Z.length:=by
    have:=(Pe.mp e).1;simpa using this
   rw[Pt hi] at e;cases e;exact .inl ⟨rfl,hi,rfl⟩
  ·rw[Pg (Qd hj)] at e;exact .inr ⟨hj,e⟩
 have old:∀(j:Nat) (c:C) (b:Addr),Z[j]? =some (some (.ow c))->σ[j]? =some (some (.ref b))->b≠a:=λj c b e e' z=>by
  obtain⟨u,h1,b',o,h2,h3,_⟩:=s.st.den j _ e;rw[h1] at e';cases e';cases h2;rw[z,n] at h3;cases h3
 refine⟨s.ext.trans E,⟨E.fh,λj sl e=>?_⟩,by simp[hle],λj c b e e'=>?_,λj k c c' b e1 e2 e3 e4=>?_⟩
 ·rcases get j sl e with⟨rfl,hi,rfl⟩ | ⟨hj,e⟩
  ·exact⟨.ref a,by rw[Pt (by omega)],a,_,rfl,ho,nF,h⟩
  ·obtain⟨u,h1,h2⟩:=s.st.den j sl e;exact⟨u,by rw[Pg (Qd hj)];exact h1,h2.ext E⟩
 ·rcases get j _ e with⟨rfl,hi,_⟩ | ⟨hj,e⟩
  ·rw[Pt (by omega)] at e';cases e';exact Same.free s.ext.hh n
  ·rw[Pg (Qd hj)] at e';exact s.own j c b e e'
 ·rcases get j _ e1 with⟨rfl,hi,_⟩ | ⟨hj,e1⟩
  ·rw[Pt (by omega)] at e3;cases e3;rcases get k _ e2 with⟨rfl,_,_⟩ | ⟨hk,e2⟩
   ·rfl
   ·rw[Pg (Qd hk)] at e4;exact UK rfl (old k c' a e2 e4)
  ·rcases get k _ e2 with⟨K5,hi,_⟩ | ⟨hk,e2⟩
   ·rw[K5,Pt (by omega)] at e4;cases e4;rw[Pg (Qd hj)] at e3;exact UK rfl (old j c a (by assumption) e3)
   ·rw[Pg (Qd hj)] at e3;rw[Pg (Qd hk)] at e4;exact s.sep j k c c' b e1 e2 e3 e4
def WPF.mono{K:Ph}{Xw:Nat->Hp->Prop}{F H:Hp}{m:M C}{Q Q':VK}(h:WPF K Xw F H m Q)(k:∀v H',Q v H'->Q' v H'):WPF K Xw F H m Q':=by
 match m,h with
 |none,h=>exact h
 |some (.ok d),h=>exact λa o H' F' e h1 h2 h3 h4=>k _ _ (h a o H' F' e h1 h2 h3 h4)
 |some (.ex n),h=>exact h
def WPF.ext{K:Ph}{Xw:Nat->Hp->Prop}{F H F1 H1:Hp}{m:M C}{Q:VK}(e:Ext F H F1 H1)(h:WPF K Xw F H m Q):WPF K Xw F1 H1 m Q:=by
 match m,h with
 |none,h=>exact h
 |some (.ok d),h=>exact λa o H' F' e' h1 h2 h3 h4=>h a o H' F' (e.trans e') h1 h2 (Same.free e.hh h3) h4
 |some (.ex n),h=>exact λF2 H2 e2=>h F2 H2 (e.trans e2)
def WPF.bind{K:Ph}{Xw:Nat->Hp->Prop}{F H:Hp}{m:M D}{k:D->M C}{Q:VK}(h:WPF K Xw F H (m>>=k) Q):WP K Xw F H m λv H1=>∃F1 d,Ext F H F1 H1/\Den K F1 d v/\WPF K Xw F1 H1 (k d) Q:=by
 match m,h with
 |none,h=>exact h
 |some (.ok d),h=>exact λv H2 F2 e2 q=>⟨F2,d,e2,q,WPF.ext e2 (show WPF K Xw F H (k d) Q from h)⟩
 |some (.ex n),h=>exact h
def WPF.bindL{K:Ph}{Xw:Nat->Hp->Prop}{F H:Hp}{m:M (List D)}{k:List D->M C}{Q:VK}(h:WPF K Xw F H (m>>=k) Q):WPL K Xw F H m λv H1=>∃F1 d,Ext F H F1 H1/\DenL K F1 d v/\WPF K Xw F1 H1 (k d) Q:=by
 match m,h with
 |none,h=>exact h
 |some (.ok d),h=>exact λv H2 F2 e2 q=>⟨F2,d,e2,q,WPF.ext e2 (show WPF K Xw F H (k d) Q from h)⟩
 |some (.ex n),h=>exact h
def FI(a b:DF):DF:=λZ=>orM (a Z) (b Z)
def Kf(ds:List D):M C:=if ds.length<=lim then ab (.lst ds) else af
section
variable{X:Cx}{Xw:Nat->Hp->Prop}{e k v a b:Expr}{es:List Expr}{δ δ':DF}{δs:DA}{pos pos' p:Pos}{x:Str}{i:Nat}
def DY(h:Fq X Xw e δ)(h':Fq X Xw e δ'):Fq X Xw e (FI δ δ'):=λf8 s σ H Q I ⟨F,Z,S,w⟩=>by
 unfold FI orM at w;cases q:δ Z with
 |none=>rw[q] at w;exact h' f8 s σ H Q I ⟨F,Z,S,w⟩
 |some r=>rw[q] at w;exact h f8 s σ H Q I ⟨F,Z,S,by rw[q];exact w⟩
def pA(hN:X.N.Nodup)(hi:X.N[i]? =some x)(hx:Loc X.env.scope x)(he:Fq X Xw e δ)(hf:X.fn x=true\/X.env.scope.names.lookup x=some .local:=by first | exact .inl rfl | exact .inr rfl)
 (hs:S5 [.Name x pos'] e pos.line X.env=pure false:=by rfl):
 ku X Xw (.Assign [.Name x pos'] e pos) (rF i δ):=λt0 H₀=>PS.weak (lT he (a5 hN hi hx hf) hs) λD σ H ⟨F,Z,s,w⟩=>by
 refine⟨F,Z,s.st,?_⟩;unfold rF at w
 match δ Z,w with
 |none,w=>exact w
 |some (.ok c),w=>exact λa o H' F' E h1 h2 h3 h4=>w _ F' H' (s.setFresh E h1 h2 h3 h4)
 |some (.ex n),w=>exact λF' H' e'=>w F' H' (s.ext.trans e')
def Ext.fresh{F H:Hp}{p:Addr}{o:HO}(s:Same F H)(hp:H p=none):Ext F H F (upd H p o)/\F p=none:=⟨Ext.free s hp,Same.free s hp⟩
def DZ(h:p8 X Xw es δs):Fq X Xw (.List es pos) (λZ=>δs Z>>=Kf):=PE.weak (xm h) λσ H Q ⟨F,Z,s,w⟩=>by
 refine⟨F,Z,s,WPL.mono (WPF.bindL w) λvs H1 ⟨F1,ds,e1,q1,w1⟩=>?_⟩;unfold Kf at w1;split at w1
 ·rename_i hl;have hv:=q1.len;refine⟨by have:=dg;omega,λp hp=>?_⟩;obtain⟨E,nF⟩:=Ext.fresh (o:= .lst vs) e1.fh hp;exact w1 p _ _ F1 E aD nF hp ⟨vs,rfl,q1,hl⟩
 ·exact w1.elim
def H0{f8:List (Addr×Obj)}{σ:St}{H H':Hp}{s:Pf}{a:Addr}{y v:V}{u r:Value}{A:Qm}{E:Value->Pf->Prop}{Q:Unit->Pf->Prop}(hu:A.units+1<cLine)(I:Inv X f8 σ H s)(g:DPut H a y v H')(ry:RelV y u)(rv:RelV v r)(h:∀s',Inv X f8 σ H' s'->Q () s'):
 wpAny (model X.prog X.w) A (dictSet a u r) Q E s:=by
 rcases g with⟨ax,k,e,ey,l,eH⟩ | ⟨ax,k,b,e,ey,eb,l,eH⟩
 ·subst ey eH;obtain⟨z,hd,vs,rel,dd⟩:=AF I.hok e;have hz:vs.length<=Py:=by rw[<-rel.length];exact z
  have hl:(putK ax k v).length<=Py:=by have:=dm ax k v;omega
  refine wpAny_dictSet_pairs (hsz:=hz) (mn ry) dd λh' x_ hs=>h _ ?_;have he:∃q,h'.get? a=some q:=let ⟨q,_,_,hq,_⟩:=x_;⟨q,hq⟩
  exact jv I (by rw[e];exact QJ) hs he (wt hl hd (rel.put k rv) x_)
 ·subst ey eH;cases (show u=P_ b from ry);obtain⟨z,hd,xs,rel,dd⟩:=AH I.hok e;have hz:xs.length<=Py:=by rw[<-QM rel];exact z
  have hl:(putK ax k v).length<=Py:=by have:=dm ax k v;omega
  refine wpAny_dictSet_heap (knd:=QU (a9 X.prog X.w)) (hsz:=hz) (by exact(show A.units<cLine by omega)) (j5 I.hok eb) dd λh' x_ hs=>h _ ?_;obtain⟨q,es,ep,hq,h2,h3,h4,_,h5⟩:=x_;refine jv I (by rw[e];exact QJ) hs ⟨q,hq⟩ ⟨hl,hd,_,(rel.put k eb rv).keeps λc ys ec=>?_,q,es,ep,hq,h2,h3,h4,h5⟩;rw[aw (Bm ec e (λz=>nomatch z))];exact ec
end
section
variable{X:Cx}{Xw:Nat->Hp->Prop}{e k v a b:Expr}{es:List Expr}{δk δv δa δb:DE}{pos p:Pos}{x:Str}{i:Nat}
def uq{o0:HO}{put:Hp->Addr->V->V->Hp->Prop}(hu:X.A.units+1<cLine)(h0:∀(H:Hp) (h:Heap),Qy<h.objs.size->ObjOk X.prog X.w H (h.push {cls:= .type "dict",data:= .dict #[]}) h.objs.size o0){tk tv:TE}(hk:PE X k tk)(hv:PE X v tv):
 PE X (.Dict [some k] [v] pos) (λσ H Q=>∀p,H p=none->tk σ (upd H p o0) λy H1=>tv σ H1 λz H2=>∃H3,DPut H2 p y z H3/\Q (.ref p) H3):=by
 intro f8 s σ H Q I q;have hn:=I.hok.fresh (Pm s.heap.objs.size);have I1:=I.laid (a:=s.heap.objs.size) (o:=o0) (h':=s.heap.push {cls:= .type "dict",data:= .dict #[]}) (t':=s.toks) (λ_ _ q=>Pk _ q) (Pm _) (h0 _ s.heap I.big);refine wpAny_Dict_any rfl rfl (by simp) (by simp) (b7 (BR hk hv D_ f8 _ σ _ (λps H2=>∃y z H3,ps=[(y,z)]/\DPut H2 s.heap.objs.size y z H3/\Q (.ref s.heap.objs.size) H3) I1 ?_) λws s2 ⟨ps,H2,I2,rel,y,z,H3,ep,g,q2⟩=>?_)
 ·refine ?_;have:=q _ hn;show tk σ _ λy H1=>tv σ H1 λz H2=>∃y' z' H3,[(y,z)]=[(y',z')]/\DPut H2 s.heap.objs.size y' z' H3/\Q (.ref s.heap.objs.size) H3;have e:(λ(y:V) (H1:Hp)=>tv σ H1 λz H2=>∃y' z' H3,[(y,z)]=[(y',z')]/\DPut H2 s.heap.objs.size y' z' H3/\Q (.ref s.heap.objs.size) H3)=(λy H1=>tv σ H1 λz H2=>∃H3,DPut H2 s.heap.objs.size y z H3/\Q (.ref s.heap.objs.size) H3):=by
   funext y H1;congr 1;funext z H2;refine propext ⟨λ⟨y',z',H3,ee,r⟩=>?_,λ⟨H3,r⟩=>⟨y,z,H3,rfl,r⟩⟩;cases ee;exact⟨H3,r⟩
  rw[e];exact this
 ·subst ep;cases rel with
  | @cons a b as bs h t=>
    cases t;obtain⟨r1,r2⟩:=h;unfold storeAll;rw[Tf];refine Pc (Pc (H0 hu I2 g r1 r2 λs3 I3=>?_));refine Pu ?_;show wpAny _ _ (forIn ([]:List (Value×Value)) Rp _) _ _ _;rw[List.forIn_nil];exact Pu ⟨V.ref s.heap.objs.size,_,I3,rfl,q2⟩
def kz(k v:D):M C:=match j4 k with
 |some kk=>ab (.dct [kk] [v])
 |none=>af
def me(k v:D):M C:=match oJ k with
 |some kk=>ab (.dci [kk] [v])
 |none=>af
def rl(hu:X.A.units+64<cLine)(hk:PD X Xw k δk)(hv:PD X Xw v δv):Fq X Xw (.Dict [some k] [v] pos) (λZ=>δk Z>>=λx=>δv Z>>=λy=>kz x y):=
 PE.weak (uq (o0:= .dT []) (put:=DPut) (by omega) (λH h hb=>uu h hb) hk hv) λσ H Q ⟨F,Z,s,w⟩ q hq=>by
  have e0:=Ext.free (o:= .dT []) s.fh hq;refine⟨F,Z,s.ext e0,?_⟩;have w:WPF X.K Xw F H (δk Z>>=λx=>δv Z>>=λy=>kz x y) Q:=w
  match IC:δk Z,w with
  |none,w=>exact w
  |some (.ex n),w=>exact λF' H' e'=>w F' H' (e0.trans e')
  |some (.ok kd),w=>
   intro y H1 F1 e1 q1;refine⟨F1,Z,(s.ext e0).ext e1,?_⟩;have w:WPF X.K Xw F H (δv Z>>=λy=>kz kd y) Q:=w
   match Kc:δv Z,w with
   |none,w=>exact w
   |some (.ex n),w=>exact λF' H' e'=>w F' H' (e0.trans (e1.trans e'))
   |some (.ok vd),w=>
    intro z H2 F2 e2 q2;have w3:WPF X.K Xw F H (kz kd vd) Q:=w;clear w;unfold kz at w3;cases Ae:j4 kd with
    |none=>rw[Ae] at w3;exact w3.elim
    |some kk=>
     rw[Ae] at w3;have E:=e1.trans e2;have IM:H2 q=some (.dT []):=E.hh _ _ aD;have Ij:F2 q=none:=by
      have:=E.old (a:=q) (o:= .dT []) aD (λ_ z=>nomatch z);rw[this];exact Same.free s.fh hq
     unfold j4 at Ae;split at Ae
     ·rename_i es;obtain⟨b,ws,rfl,k2,k3,_⟩:=Den.mono e2.ff q1;have e5:=kJ Ae k3;subst e5;refine⟨_,DPut.t (k:=kk) IM (e2.fh _ _ k2) (by rw[Rh];decide),?_⟩;refine w3 q (.dT (putK [] kk z)) _ F2 ⟨λc u hc=>?_,(e0.trans E).ff,λc u hc=>?_,(e0.trans E).new⟩ aD Ij hq ⟨[z],rfl, .cons q2 .nil,rfl,show 1<=lim by decide⟩
      ·rw[aw (λzz=>by rw[zz,hq] at hc;cases hc)];exact(e0.trans E).hh c u hc
      ·rw[aw (λzz=>by rw[zz,Ij] at hc;cases hc)];exact e2.fh c u hc
     ·cases Ae
def zM(hu:X.A.units+64<cLine)(hk:PD X Xw k δk)(hv:PD X Xw v δv):Fq X Xw (.Dict [some k] [v] pos) (λZ=>δk Z>>=λx=>δv Z>>=λy=>me x y):=
 PE.weak (uq (o0:= .dK []) (put:=DPut) (by omega) (λH h hb=>ur h hb) hk hv) λσ H Q ⟨F,Z,s,w⟩ q hq=>by
  have e0:=Ext.free (o:= .dK []) s.fh hq;refine⟨F,Z,s.ext e0,?_⟩;have w:WPF X.K Xw F H (δk Z>>=λx=>δv Z>>=λy=>me x y) Q:=w
  match IC:δk Z,w with
  |none,w=>exact w
  |some (.ex n),w=>exact λF' H' e'=>w F' H' (e0.trans e')
  |some (.ok kd),w=>
   intro y H1 F1 e1 q1;refine⟨F1,Z,(s.ext e0).ext e1,?_⟩;have w:WPF X.K Xw F H (δv Z>>=λy=>me kd y) Q:=w
   match Kc:δv Z,w with
   |none,w=>exact w
   |some (.ex n),w=>exact λF' H' e'=>w F' H' (e0.trans (e1.trans e'))
   |some (.ok vd),w=>
    intro z H2 F2 e2 q2;have w3:WPF X.K Xw F H (me kd vd) Q:=w;clear w;unfold me at w3;cases Ae:oJ kd with
    |none=>rw[Ae] at w3;exact w3.elim
    |some kk=>
     rw[Ae] at w3;have E:=e1.trans e2;have IM:H2 q=some (.dK []):=E.hh _ _ aD;have Ij:F2 q=none:=by
      have:=E.old (a:=q) (o:= .dK []) aD (λ_ z=>nomatch z);rw[this];exact Same.free s.fh hq
     have e5:=gH Ae (Den.mono e2.ff q1);subst e5;refine⟨_,DPut.k (k:=kk) IM (by rw[Rh];decide),?_⟩;refine w3 q (.dK (putK [] kk z)) _ F2 ⟨λc u hc=>?_,(e0.trans E).ff,λc u hc=>?_,(e0.trans E).new⟩ aD Ij hq ⟨[z],rfl, .cons q2 .nil,rfl,show 1<=lim by decide⟩
     ·rw[aw (λzz=>by rw[zz,hq] at hc;cases hc)];exact(e0.trans E).hh c u hc
     ·rw[aw (λzz=>by rw[zz,Ij] at hc;cases hc)];exact e2.fh c u hc
def rW{K:Ph}{F H:Hp}{d k:D}{x y:V}{o:Option D}(s:Same F H)(hd:Den K F d x)(hk:Den K F k y)(e:y0 d k=some o):
 ∃a ov,x= .ref a/\lr H a y ov/\ov.isSome=o.isSome/\∀d',o=some d'->∃v,ov=some v/\Den K F d' v:=by
 obtain⟨a,ov,h1,h2,h3,h4⟩:=xU (σ:=[some x]) (Z:=[some (.fz d)]) (i:=0) (H:=H) ⟨s,λi sl q=>by
  match i,q with
  |0,q=>cases q;exact⟨x,rfl,hd⟩
  |i+1,q=>simp at q⟩ rfl hk e
 cases h1;exact⟨a,ov,rfl,h2,h3,h4⟩
def eO(neg:Bool)(k d:D):M D:=match y0 d k with
 |some o=>ab (.bl (if neg then !o.isSome else o.isSome))
 |none=>af
def Hg(neg:Bool):R2:=λy x H Q=>∃a o,x= .ref a/\lr H a y o/\Q (.bl (if neg then !o.isSome else o.isSome)) H
def BD(hu:X.A.units+64<cLine):OpR X (Qj .In) (Hg false):=λf8 s σ H y x v u Q I ry rx ⟨a,o,ex,g,q⟩=>by
 subst ex;obtain rfl:u=P_ a:=rx;exact HY (by omega) I g ry λs' I'=>⟨.bl o.isSome,_,I',rfl,q⟩
def zJ(hu:X.A.units+64<cLine):OpR X (Qj .NotIn) (Hg true):=λf8 s σ H y x v u Q I ry rx ⟨a,o,ex,g,q⟩=>by
 subst ex;obtain rfl:u=P_ a:=rx;exact CQ (by omega) I g ry λs' I'=>⟨.bl (!o.isSome),_,I',rfl,q⟩
def sS{K:Ph}{neg:Bool}:t7 K (Hg neg) (eO neg):=λXw F H y x dk dd Q s hk hd w=>by
 unfold eO at w;cases he:y0 dd dk with
 |none=>rw[he] at w;exact w.elim
 |some o=>
  rw[he] at w;obtain⟨a,ov,h1,h2,h3,_⟩:=rW s hd hk he;refine⟨a,ov,h1,h2,?_⟩;rw[h3];exact WP.now w s rfl
def Ha(hu:X.A.units+64<cLine)(ha:PD X Xw a δa)(hb:PD X Xw b δb)(hm:Ql .In b=false:=by rfl):lx X Xw (.Compare a [.In] [b] pos) (bH (d2 (eO false) δa δb)):=eo (BD hu) sS ha hb hm
def GS(hu:X.A.units+64<cLine)(ha:PD X Xw a δa)(hb:PD X Xw b δb)(hm:Ql .In b=false:=by rfl):PD X Xw (.Compare a [.In] [b] pos) (d2 (eO false) δa δb):=xj (BD hu) sS ha hb hm
def gU(hu:X.A.units+64<cLine)(ha:PD X Xw a δa)(hb:PD X Xw b δb)(hm:Ql .NotIn b=false:=by rfl):lx X Xw (.Compare a [.NotIn] [b] pos) (bH (d2 (eO true) δa δb)):=eo (zJ hu) sS ha hb hm
def cz(d k:D):M D:=match y0 d k with
 |some (some v)=>ab v
 |_=>af
def d9(hu:X.A.units+64<cLine)(ha:PD X Xw a δa)(hb:PD X Xw b δb)(hs:Fo b:=by intro _ _;rfl):PD X Xw (.Subscript a b pos) (d2 cz δa δb):=
 PE.weak (D4 (by omega) ha hb hs) λσ H Q ⟨F,Z,s,w⟩=>by
  refine⟨F,Z,s,WP.mono (WP.bind w) λx H1 ⟨F1,d,e1,q1,w1⟩=>?_⟩;refine⟨F1,Z,s.ext e1,WP.mono (WP.bind w1) λy H2 ⟨F2,k,e2,q2,w2⟩=>?_⟩;unfold cz at w2;cases he:y0 d k with
  |none=>rw[he] at w2;exact w2.elim
  |some o=>
   cases o with
   |none=>rw[he] at w2;exact w2.elim
   |some d'=>
    rw[he] at w2;obtain⟨a,ov,h1,h2,h3,h4⟩:=rW e2.fh (Den.mono e2.ff q1) q2 he;obtain⟨v,rfl,hd⟩:=h4 d' rfl;exact⟨a,v,h1,h2,WP.now w2 e2.fh hd⟩
end
section
variable{X:Cx}{f8:List (Addr×Obj)}{σ:St}{H:Hp}{s:Pf}{h':Heap}
def Inv.turnedLaid{t':Nat}{ch:List Addr}{a:Addr}{o:HO}(I:Inv X f8 σ H s)(k:∀b q,b∉ch->s.heap.get? b=some q->h'.get? b=some q)(hf:∀b∈ch,p9 X f8 H b)(hp:s.heap.objs.size<=a)(new:ObjOk X.prog X.w (upd H a o) h' a o):
 Inv X f8 σ (upd H a o) {s with heap:=h',toks:=t'}:=by
 have hn:=I.hok.fresh hp;have E4:∀b u,H b=some u->b∉ch:=λb u e z=>by rw[(hf b z).1] at e;cases e
 refine I.step (g':=s.gens) (d':=s.drawn) (ch:=ch) (λb hb=>?_) (λb q _ _ hc e _=>k b q hc e) (λb q _ _ hc e _=>⟨q.slots,k b q hc e⟩) (λb q hc e n=>?_)
  (λb q hc e=>⟨q,k b q hc e⟩) (λb xs e=>?_) (λb q u e=>?_) (λb ps e=>⟨#[],?_⟩) (λm hm=>?_) (λb u e=>?_) I.bare
 ·obtain⟨f0,f1,f2,f3,f4,f5⟩:=hf b hb;exact⟨f3,f1,f4,f5⟩
 ·rw[aw (λz=>by rw[z] at e;exact UK (Pw e) (Nat.not_lt.mpr hp))];exact n
 ·rw[aw (ba e hn)];exact e
 ·rw[aw (ba e hn)];exact e
 ·rw[aw (ba e hn),e];simp
 ·obtain⟨q,es,ep,ho,r⟩:=hm;exact⟨q,es,ep,k _ q (λz=>(hf _ z).2.1 rfl) ho,r⟩
 ·by_cases hb:b=a
  ·subst hb;rw[aD] at e;cases e;exact new
  ·rw[aw hb] at e;refine(I.hok b u e).stay (λc v hc q=>k c v ?_ q) (λc q=>by rw[aw (ba q hn)];exact q) λc xs q=>by rw[aw (ba q hn)];exact q
   rcases hc with z | z
   ·rw[z];exact E4 b u e
   ·exact E4 c _ z
def Inv.turnedL{t':Nat}{ch:List Addr}(I:Inv X f8 σ H s)(k:∀b q,b∉ch->s.heap.get? b=some q->h'.get? b=some q)(hf:∀b∈ch,p9 X f8 H b):Inv X f8 σ H {s with heap:=h',toks:=t'}:=by
 have E4:∀b u,H b=some u->b∉ch:=λb u e z=>by rw[(hf b z).1] at e;cases e
 refine I.step (g':=s.gens) (d':=s.drawn) (ch:=ch) (λb hb=>?_) (λb q _ _ hc e _=>k b q hc e) (λb q _ _ hc e _=>⟨q.slots,k b q hc e⟩) (λb q hc e n=>n)
  (λb q hc e=>⟨q,k b q hc e⟩) (λb xs e=>e) (λb q u e=>e) (λb ps e=>⟨#[],by rw[e];simp⟩) (λm hm=>?_) (λb u e=>?_) I.bare
 ·obtain⟨f0,f1,f2,f3,f4,f5⟩:=hf b hb;exact⟨f3,f1,f4,f5⟩
 ·obtain⟨q,es,ep,ho,r⟩:=hm;exact⟨q,es,ep,k _ q (λz=>(hf _ z).2.1 rfl) ho,r⟩
 ·refine(I.hok b u e).stay (λc v hc q=>k c v ?_ q) (λc q=>q) λc xs q=>q;rcases hc with z | z
  ·rw[z];exact E4 b u e
  ·exact E4 c _ z
end
def LX(K:Ph)(a:Addr):It:=
 ⟨λi H=>∃xs x,SqL K H a xs/\xs[i]? =some x,λi H x H'=>∃p,x= .ref p/\H p=none/\∃v,(∀xs,SqL K H a xs->xs[i]? =some v)/\H'=upd H p (.tup [.int (i:Int),v]),λi H=>∃xs,SqL K H a xs/\xs.length<=i⟩
def z4{P:PX}{w:World}{K:Ph}{es:List Expr}{x1}{tp:Pos}(l e it:Addr)(Mq:e≠it):
 Turn P w K (.Tuple es x1 tp) (LX K l) [e,it] e (λi h=>∃old,IsEnum h e it (i:Int) old/\h.IsListIter it l i) where
 mem:=by simp
 obj:=λi h ⟨old,Co,xC⟩ b hb=>by
  rcases Pn.mp hb with z | z
  ·subst z;exact⟨_,Co,λv z=>nomatch z⟩
  ·have z:b=it:=by simpa using z
   subst z;obtain⟨o,e1,c,d⟩:=xC;exact⟨o,e1,λv z=>by rw[d] at z;cases z⟩
 keep:=λi h h' ⟨old,Co,xC⟩ k=>⟨old,k e (by simp) _ Co,xC.at λo q=>k it (by simp) o q⟩
 item:=by
  intro X hP hw hK hc i f8 s σ H E I hf st hg;subst hP hw hK;obtain⟨old,Co,xC⟩:=st;obtain⟨xs,x,hq,hx⟩:=hg;obtain⟨aK,rv,p,hz⟩:=I.list hq;obtain⟨u,hu,ru⟩:=rv.get hx;refine wpAny_pyNext_enum_item Co xC p.isList (x:=u) (by simpa using hu) Mq λh1 k1 k2 k3 k4 k5=>?_;refine⟨_,rfl,wpAny_letOwnedTupleGo_enum k1 λh2 m1 m2=>?_⟩;have g6:s.heap.objs.size≠e:=Sr (Pw Co);have LS:h2.get? s.heap.objs.size=some {cls:= .type "tuple",data:= .seq #[.int i s.toks,u]}:=(m2.2 _ g6).trans k3;have keep:∀b q,b∉[e,it]->s.heap.get? b=some q->h2.get? b=some q:=λb q hb e1=>by
   have Mk:b≠e:=λz=>hb (by simp[z]);have KJ:b≠it:=λz=>hb (by simp[z]);exact(m2.2 b Mk).trans (k5 b q Mk KJ e1)
  have I2:Inv X f8 σ (upd H s.heap.objs.size (.tup [.int (i:Int),x])) {s with heap:=h2,toks:=s.toks+1}:=by
   refine Inv.turnedLaid (s:=s) I keep hf (Pm _) ⟨?_,[.int i s.toks,u], .cons ⟨_,rfl⟩ (.cons ru .nil),_,LS,rfl,_,rfl⟩;rw[Rh];show 2<=_;decide
  refine⟨.ref s.heap.objs.size,_,I2,rfl,⟨_,rfl,I.hok.fresh (Pm _),x,λys hy=>by rw[I.list_inj hy hq];exact hx,rfl⟩,⟨u,?_,?_⟩,λb hb=>?_⟩
  ·have:((i+1:Nat):Int)=(i:Int)+1:=by push_cast;rfl
   rw[this];exact m1
  ·exact k2.at λo q=>(m2.2 it (Qd Mq)).trans q
  ·rw[aw (λz=>by
    rcases Pn.mp hb with y | y
    ·exact UK (Pw Co) (by rw[<-y,z];exact Qp _)
    ·have y:b=it:=by simpa using y
     obtain⟨o,q1,_⟩:=id xC;exact UK (Pw q1) (by rw[<-y,z];exact Qp _))]
   exact(hf b hb).1
 done:=by
  intro X hP hw hK hc i f8 s σ H E I hf st hg;subst hP hw hK;obtain⟨old,Co,xC⟩:=st;obtain⟨xs,hq,hx⟩:=hg;obtain⟨aK,rv,p,hz⟩:=I.list hq;have hl:=rv.length;exact wpAny_pyNext_enum_end (I.ok.hd hc) Co xC p.isList (by simp;omega) λh' eb=>⟨rfl,Inv.turnedL (t':=s.toks) (ch:=[it]) I (λb q hb e1=>eb b q (λz=>hb (by simp[z])) e1) λb hb=>hf b (O_ _ hb)⟩
 self:=λA i s Q E st h=>by
  obtain⟨old,Co,xC⟩:=st;exact wpAny_pyIter_enum Co h
def A9{K:Ph}{F:Hp}{a:Addr}{vs:List V}{ds:List D}(h:SqL K F a vs)(hd:DenL K F ds vs):ItD K F (LX K a) (ds.mapIdx λi d=> .tup [.int (i:Int),d]):=λF' H' i s1 s2=>by
 have hs:=Same.seq s2 (Same.seq s1 h);refine⟨λd e=>?_,λhl=>⟨vs,hs,by rw[List.length_mapIdx,hd.len] at hl;exact hl⟩⟩;rw[T9] at e;cases q:ds[i]? with
 |none=>rw[q] at e;cases e
 |some d0=>
  rw[q] at e;cases e;obtain⟨v,e1,q1⟩:=hd.get q;refine⟨⟨vs,v,hs,e1⟩,λx H'' ⟨p,y1,y2,u,y3,y4⟩=>?_⟩;subst y1 y4;have:=y3 vs hs;rw[e1] at this;cases this;have E:=Ext.lay (o:= .tup [.int (i:Int),v]) s2 y2;exact⟨_,E,p,_,rfl,aD, .cons rfl (.cons (Den.mono E.ff (Den.mono s1 q1)) .nil),by show 2<=lim;decide⟩
section
variable{X:Cx}{Xw:Nat->Hp->Prop}{e:Expr}{es:List Expr}{δs:DA}{pos p tp:Pos}{x1:Nat}
def yc:List D->M (List D)
 |[.lst ds]=>ab (ds.mapIdx λi d=> .tup [.int (i:Int),d])
 |_=>af
def BK(hg:Gl X "enumerate")(hm:X.mg "enumerate"=none)(ha:p8 X Xw [e] δs)(hs:PB [e] X.env=[(false,eval e X.env)]:=by rfl):vX X Xw (.Tuple es x1 tp) (.Call (.Name "enumerate" p) [e] [] pos) (λZ=>δs Z>>=yc):=by
 intro f8 s σ H R I ⟨F,Z,S,w⟩;refine Call_ (oK I hg hm (show Qw "enumerate"=some (.type "enumerate") from rfl) (Rq (b7 (ha pos f8 s σ H (λvs H1=>∃F1 ds,Ext F H F1 H1/\DenL X.K F1 ds vs/\WPI X.K Xw F1 H1 (yc ds) R) I ⟨F,Z,S,WPI.bindL w⟩) λus s1 ⟨vs,H1,I1,r1,F1,ds,e1,q1,w1⟩=>?_) hs rfl));unfold yc at w1;split at w1
 ·rename_i ds;obtain⟨v,rfl,h1⟩:=q1.one;obtain⟨a,xs,rfl,h2,h3,h4⟩:=h1;obtain⟨u,rfl,r2⟩:=r1.one;cases (show u=_ from r2);obtain⟨aK,rv,pl,hz⟩:=I1.list (SqL.of (K:=X.K) (e1.fh _ _ h2));refine call_enumerate_list pl.isList λh' k1 k2 k3 k4=>?_;refine wpAny_pyIter_enum k1 ?_;refine⟨s1.heap.objs.size+1,[s1.heap.objs.size+1,s1.heap.objs.size],_,_,H1,rfl,I1.kept (t':=s1.toks) λb o e=>k4 b o e,z4 a _ _ (Sr (Ta _)),⟨.none,k1,k2⟩,λb hb=>?_,w1 _ _ _ (Ext.refl e1.fh) (A9 (SqL.of h2) h3)⟩;have e:s1.heap.objs.size<=b:=by
   rcases Pn.mp hb with z | z
   ·rw[z];exact Nat.le_succ _
   ·have z:b=s1.heap.objs.size:=by simpa using z
    rw[z];exact Pm _
  exact I1.fpOk e (I1.hok.fresh e)
 ·exact w1.elim
end
def Bc:Key->D
 | .inl i=> .int i
 | .inr x=> .str x
def Ex(H:Hp)(d:Addr)(od:Obj)(i:Nat)(x:V):Prop:=
 (∃ax k b,H d=some (.frz od (.dT ax))/\(ax.map (·.1))[i]? =some k/\x= .ref b/\H b=some (.tup (k.map kV)))\/
 ∃ax k,H d=some (.frz od (.dK ax))/\(ax.map (·.1))[i]? =some k/\x=kV k
def LW(d:Addr)(od:Obj):It:=
 ⟨λi H=>(∃ax,H d=some (.frz od (.dT ax))/\i<ax.length)\/∃ax,H d=some (.frz od (.dK ax))/\i<ax.length,λi H x H'=>H'=H/\Ex H d od i x,
  λi H=>(∃ax,H d=some (.frz od (.dT ax))/\ax.length<=i)\/∃ax,H d=some (.frz od (.dK ax))/\ax.length<=i⟩
def mS{α β γ:Type}{R:α->β->Prop}{f:α->γ}{g:β->γ}(h:∀a b,R a b->f a=g b):∀{l:List α}{m:List β},S_ R l m->l.map f=m.map g
 |_,_, .nil=>rfl
 |_,_, .cons r t=>by rw[Pj,Pj,h _ _ r,mS h t]
def j_{α β:Type}{R:α->β->Prop}:∀{l:List α}{m:List β}{i:Nat}{a:α},S_ R l m->l[i]? =some a->∃b,m[i]? =some b/\R a b
 |_,_,i,_, .nil,e=>by simp at e
 |_,_,0,_, .cons r t,e=>by simp at e;subst e;exact⟨_,rfl,r⟩
 |_,_,i+1,_, .cons r t,e=>by
  obtain⟨b,e1,e2⟩:=j_ (i:=i) t (by simpa using e);exact⟨b,by simpa using e1,e2⟩
def zL{prog:PX}{w:World}{κ:Type}[DecidableEq κ]{knd:KeyKind prog w κ}:∀{es:List QQ}{ax:List (κ×Value)}{i:Nat}{kv:κ×Value},Pairs knd es ax->ax[i]? =some kv->∃e,es[i]? =some e/\knd.is kv.1 e.key=true:=by
 intro es ax i kv h e;induction h generalizing i with
 |nil=>simp at e
 | @cons en O8 HB Jf h1 h2 h3 ih=>
   cases i with
   |zero=>simp at e;subst e;exact⟨en,rfl,h1⟩
   |succ i=>
    obtain⟨q,e1,e2⟩:=ih (i:=i) (by simpa using e);exact⟨q,by simpa using e1,e2⟩
def Gq{k:Key}{u:Value}(h:oI k u=true):RelV (kV k) u:=by
 rcases bM h with⟨i,t,rfl,rfl⟩ | ⟨x,t,rfl,rfl⟩
 ·exact⟨t,rfl⟩
 ·exact⟨t,rfl⟩
def n_{X:Cx}{f8:List (Addr×Obj)}{σ:St}{H:Hp}{s:Pf}{d:Addr}{od:Obj}{n:Nat}(I:Inv X f8 σ H s)
 (h:(∃ax,H d=some (.frz od (.dT ax))/\n=ax.length)\/∃ax,H d=some (.frz od (.dK ax))/\n=ax.length):
 ∃es ep,(d==Qy)=false/\s.heap.get? d=some od/\od.ExactDict/\od.data= .dict es ep/\es.size=n/\∀i,i<n->∃e x,es[i]? =some e/\RelV x e.key/\Ex H d od i x:=by
 rcases h with⟨ax,e,rfl⟩ | ⟨ax,e,rfl⟩
 ·obtain⟨ho,z,lo,xs,rel,o,es,ep,h1,h2,h3,h4,h5⟩:=(show ObjOk X.prog X.w H s.heap d (.frz od (.dT ax)) from I.hok d _ e)
  rw[ho] at h1;cases h1;have hl:es.size=ax.length:=by
   rw[<-PO,h4,Pb];exact(QM rel).symm
  refine⟨es,ep,lo,ho,h2,h3,hl,λi hi=>?_⟩;obtain⟨q,e1,e2,e3,e4⟩:=j_ rel (Pd hi);refine⟨Uc (QU (a9 X.prog X.w)) q, .ref q.2.1,?_,rfl, .inl ⟨ax,ax[i].1,q.2.1,e,?_,rfl,e3⟩⟩
  ·rw[<-Rw,h4,Pq,e1];rfl
  ·rw[Pq,Pd hi];rfl
 ·obtain⟨ho,z,lo,vs,rel,o,es,ep,h1,h2,h3,h4,h5,h6⟩:=(show ObjOk X.prog X.w H s.heap d (.frz od (.dK ax)) from I.hok d _ e)
  rw[ho] at h1;cases h1;have hl:es.size=ax.length:=by
   rw[<-PO,h5.length];exact(QM rel).symm
  refine⟨es,ep,lo,ho,h2,h3,hl,λi hi=>?_⟩;obtain⟨q,e1,e2,e3⟩:=j_ rel (Pd hi);obtain⟨en,e4,e5⟩:=zL h5 e1;refine⟨en,kV ax[i].1,by rw[<-Rw];exact e4,?_, .inr ⟨ax,ax[i].1,e,by rw[Pq,Pd hi];rfl,rfl⟩⟩;rw[e2];exact Gq e5
def z5{P:PX}{w:World}{K:Ph}{tg:Expr}(d it:Addr)(od:Obj)(es:Array QQ)(ep:Nat)(m9:od.data= .dict es ep):
 Turn P w K tg (LW d od) [it] it (λi h=>h.IsKeyIter it d i es.size ep) where
 mem:=by simp
 obj:=λi h st b hb=>by
  have e:b=it:=by simpa using hb
  subst e;obtain⟨o,e,c,dd⟩:=st;exact⟨o,e,λv z=>by rw[dd] at z;cases z⟩
 keep:=λi h h' st k=>st.at λo e=>k it (by simp) o e
 item:=by
  intro X hP hw hK hc i f8 s σ H E I hf st hg;subst hP hw hK;obtain⟨n,hn,hi⟩:∃n,((∃ax,H d=some (.frz od (.dT ax))/\n=ax.length)\/∃ax,H d=some (.frz od (.dK ax))/\n=ax.length)/\i<n:=by
   rcases hg with⟨ax,e,hi⟩ | ⟨ax,e,hi⟩
   ·exact⟨_, .inl ⟨ax,e,rfl⟩,hi⟩
   ·exact⟨_, .inr ⟨ax,e,rfl⟩,hi⟩
  obtain⟨HB,CY,lo,ho,hx,v3,hsz,hk⟩:=n_ I hn;rw[m9] at v3;cases v3;obtain⟨en,x,e1,rx,ka⟩:=hk i hi;obtain⟨f0,f1,f2,f3,f4,f5⟩:=hf it (by simp);refine uT st ho m9 e1 λh' pO sb=>?_;have I1:Inv X f8 σ H {s with heap:=h'}:=I.turned (t':=s.toks) (λb o hb e=>(sb.2 b hb).trans e) f0 f1 f3 f4 f5;obtain⟨o,e2,c,dd⟩:=id pO;exact⟨_,rfl,qM (s:={s with heap:=h'}) e2 c dd (by decide) ⟨x,H,I1,rx,⟨rfl,ka⟩,pO,λb hb=>(hf b hb).1⟩⟩
 done:=by
  intro X hP hw hK hc i f8 s σ H E I hf st hg;subst hP hw hK;obtain⟨n,hn,hi⟩:∃n,((∃ax,H d=some (.frz od (.dT ax))/\n=ax.length)\/∃ax,H d=some (.frz od (.dK ax))/\n=ax.length)/\n<=i:=by
   rcases hg with⟨ax,e,hi⟩ | ⟨ax,e,hi⟩
   ·exact⟨_, .inl ⟨ax,e,rfl⟩,hi⟩
   ·exact⟨_, .inr ⟨ax,e,rfl⟩,hi⟩
  obtain⟨HB,CY,lo,ho,hx,v3,hsz,hk⟩:=n_ I hn;rw[m9] at v3;cases v3;obtain⟨f0,f1,f2,f3,f4,f5⟩:=hf it (by simp);exact qG (I.ok.hd hc) st (by omega) ho m9 λh' eb=>⟨rfl,I.turned (t':=s.toks) (λb o hb e=>eb b o hb e) f0 f1 f3 f4 f5⟩
 self:=λ_ _ _ _ _ st h=>wpAny_pyIter_keyiter st h
def tupK(k:List Key):D:= .tup (k.map Bc)
def u0:Key->Bool
 | .inl _=>true
 | .inr x=>decide (x.length<=lim)
def gK:D->M (List D)
 | .dct ks _=>if ks.all (λk=>decide (k.length<=lim)&&k.all u0) then ab (ks.map tupK) else af
 | .dci ks _=>if ks.all u0 then ab (ks.map Bc) else af
 |_=>af
def uI{K:Ph}{F:Hp}{k:Key}(h:u0 k=true):Den K F (Bc k) (kV k):=by
 cases k with
 |inl i=>exact rfl
 |inr x=>exact⟨rfl,UI h⟩
def qT{K:Ph}{F:Hp}:∀{k:List Key},k.all u0=true->DenL K F (k.map Bc) (k.map kV)
 |[],_=>rfl
 |x::k,h=>by
  rw[RF,P7] at h;exact .cons (uI h.1) (qT h.2)
def A_{K:Ph}{F:Hp}{a:Addr}{ob:Obj}{d:D}{ds:List D}(hd:Den K F d (.ref a))(hF:∃u,F a=some (.frz ob u))(e:gK d=ab ds):ItD K F (LW a ob) ds:=λF' H' i s1 s2=>by
 unfold gK at e;split at e
 ·rename_i ks es;split at e
  ·rename_i hok;obtain rfl:=er e;obtain⟨a',OJ,vs,z,h2,h3,h4,h5⟩:=hd;cases z;obtain⟨u,hu⟩:=hF;rw[h2] at hu;cases hu;have hh:=s2 _ _ (s1 _ _ h2);have hz:=jH (a:=ks) (b:=vs) (by rw[h4];exact h3.len);have hl:(ks.zip vs).length=ks.length:=by rw[<-Pb (f:=(·.1)),hz]
   refine⟨λd e=>?_,λhle=> .inl ⟨_,hh,by rw[hl];simpa using hle⟩⟩;rw[Pq] at e;cases q:ks[i]? with
   |none=>rw[q] at e;cases e
   |some k=>
    rw[q] at e;cases e;have hi:=(Pe.mp q).1;refine⟨.inl ⟨_,hh,by rw[hl];exact hi⟩,λx H'' ⟨y1,y2⟩=>?_⟩;subst y1;have hk:=PJ.mp hok k (PF q);rw[P7] at hk;rcases y2 with⟨ax,k',b,q1,q2,rfl,q3⟩ | ⟨ax,k',q1,q2,rfl⟩
    ·rw[hh] at q1;cases q1;rw[hz,q] at q2;cases q2;have E:=Ext.tup (F:=F') s2 q3;exact⟨_,E,b,_,rfl,aD,qT hk.2,by rw[Pb];exact UI hk.1⟩
    ·rw[hh] at q1;cases q1
  ·exact(dO e).elim
 ·rename_i ks es;split at e
  ·rename_i hok;obtain rfl:=er e;obtain⟨a',OJ,vs,z,h2,h3,h4,h5⟩:=hd;cases z;obtain⟨u,hu⟩:=hF;rw[h2] at hu;cases hu;have hh:=s2 _ _ (s1 _ _ h2);have hz:=jH (a:=ks) (b:=vs) (by rw[h4];exact h3.len);have hl:(ks.zip vs).length=ks.length:=by rw[<-Pb (f:=(·.1)),hz]
   refine⟨λd e=>?_,λhle=> .inr ⟨_,hh,by rw[hl];simpa using hle⟩⟩;rw[Pq] at e;cases q:ks[i]? with
   |none=>rw[q] at e;cases e
   |some k=>
    rw[q] at e;cases e;have hi:=(Pe.mp q).1;refine⟨.inr ⟨_,hh,by rw[hl];exact hi⟩,λx H'' ⟨y1,y2⟩=>?_⟩;subst y1;have hk:=PJ.mp hok k (PF q);rcases y2 with⟨ax,k',b,q1,q2,rfl,q3⟩ | ⟨ax,k',q1,q2,rfl⟩
    ·rw[hh] at q1;cases q1
    ·rw[hh] at q1;cases q1;rw[hz,q] at q2;cases q2;exact⟨F',Ext.refl s2,uI hk⟩
  ·exact(dO e).elim
 ·exact(dO e).elim
section
variable{X:Cx}{Xw:Nat->Hp->Prop}{tg l:Expr}{δ:DE}
def vh(h:PD X Xw l δ):vX X Xw tg l (λZ=>δ Z>>=gK):=by
 intro f8 s σ H R I ⟨F,Z,S,w⟩;refine b7 (h f8 s σ H (λv H1=>∃F1 d,Ext F H F1 H1/\Den X.K F1 d v/\WPI X.K Xw F1 H1 (gK d) R) I ⟨F,Z,S,WPI.bind w⟩) λu s1 ⟨v,H1,I1,r1,F1,d,e1,q1,w1⟩=>?_;rcases(gK d).cs with z | ⟨n,z⟩ | ⟨ds,z⟩
 ·rw[z] at w1;exact w1.elim
 ·exfalso
  unfold gK at z;split at z
  ·split at z<;>cases z
  ·split at z<;>cases z
  ·cases z
 ·rw[z] at w1;obtain⟨a,ob,u',rfl,hF,hn⟩:∃a ob u',v= .ref a/\F1 a=some (.frz ob u')/\∃n,((∃ax,H1 a=some (.frz ob (.dT ax))/\n=ax.length)\/∃ax,H1 a=some (.frz ob (.dK ax))/\n=ax.length):=by
   unfold gK at z;split at z
   ·obtain⟨a,ob,vs,e,h2,_⟩:=q1;exact⟨a,ob,_,e,h2,_, .inl ⟨_,e1.fh _ _ h2,rfl⟩⟩
   ·obtain⟨a,ob,vs,e,h2,_⟩:=q1;exact⟨a,ob,_,e,h2,_, .inr ⟨_,e1.fh _ _ h2,rfl⟩⟩
   ·exact(dO z).elim
  obtain⟨n,hn⟩:=hn;cases (show u=_ from r1);obtain⟨es,ep,lo,ho,hx,hd,hsz,hk⟩:=n_ I1 hn;refine qS lo ho hx hd ?_;refine⟨s1.heap.objs.size,[s1.heap.objs.size],_,_,H1,rfl,I1.kept (t':=s1.toks) λb o e=>Pk _ e,z5 a _ ob es ep hd,⟨_,PU _ rfl,rfl,rfl⟩,λb hb=>?_,w1 _ _ _ (Ext.refl e1.fh) (A_ q1 ⟨_,hF⟩ z)⟩;have e:b=s1.heap.objs.size:=by simpa using hb
  subst e;exact I1.fpOk (Pm _) (I1.hok.fresh (Pm _))
end
end L3
namespace L3
open PySem
section
variable{prog:PX}{w:World}{K:Type}[DecidableEq K]{knd:HeapKind prog w K}{A:Qm}{E:Value->Pf->Prop}{s:Pf}
def pL{d a:Addr}{xs:List (K×Addr×Value)}{k:K}{v:Value}{Q:Unit->Pf->Prop}(hu:knd.room A)(Dd:knd.is s.heap k a)(hm:s.heap.DictOfH knd d xs)(hsz:xs.length<=Py)
 (hQ:∀h',h'.DictOfH knd d (Sq xs k a v)->Q_ d s.heap h'->Q () {s with heap:=h'}):wpAny (model prog w) A (S6 d (.ref a) (knd.hash k) v) Q E s:=by
 obtain⟨o,es,ep,ho,hc,hd,he,K2,hn⟩:=hm;unfold S6;refine So (Pc (wpAny_dictFind_heap hu Dd ho hd he K2 hn (λDe=>?_) λj p hj=>?_))
 ·have e0:=atKey_none_of_get De;have hz:es.size<=Py:=by rw[TR he];exact hsz
  refine Pc (wpAny_rule (wpAny_updateDictKeys (hz:=hz) ho hd (hQ _ ?_ (Qb ..))));rw[storedH_new e0];refine⟨_,_,ep+1,Ry _ ho (SF (RD hd _)),hc.mapDictKeys _,RD hd _,by simp[he,Uc],λx hx=>?_,?_⟩
  ·rcases PR.mp hx with hx | hx
   ·exact knd.keeps (K2 x hx) ho hd (Qb ..)
   ·obtain rfl:x=(k,a,v):=by simpa using hx
    exact knd.keeps Dd ho hd (Qb ..)
  ·rw[P1];refine Qi.mpr ⟨hn,by simp,λx hx y hy z=>?_⟩;have hy:y=k:=by simpa using hy
   exact not_mem_keys_of_get De (by rw[<-hy,<-z];exact hx)
 ·have e0:=atKey_of_get hn hj;refine Pc (wpAny_rule (Pc (wpAny_updateDict ho hd (wpAny_point (hQ _ ?_ (Qb ..))))));rw[storedH_old e0];refine⟨_,_,ep,Ry _ ho (SF (Obj.data_mapDict hd _)),hc.mapDict _,Obj.data_mapDict hd _,?_,λx hx=>?_,by rw[keys_map_putAt];exact hn⟩
  ·have:=modify_map_putAt (Uc knd) (λe:QQ=>{e with val:=v}) k v (λ_ _=>rfl) hn hj;rw[<-he] at this;obtain⟨l⟩:=es;simpa using this
  ·obtain⟨y,hy,rfl⟩:=Px.mp hx;unfold putAt;split<;>exact knd.keeps (K2 y hy) ho hd (Qb ..)
def cN(xs ys:List (K×Addr×Value)):List (K×Addr×Value):=ys.foldl (λv2 y=>Sq v2 y.1 y.2.1 y.2.2) xs
def vI(xs:List (K×Addr×Value))(k:K)(a:Addr)(v:Value):(Sq xs k a v).length<=xs.length+1:=by
 unfold Sq;split<;>simp
def mq:∀(ys xs:List (K×Addr×Value)),(cN xs ys).length<=xs.length+ys.length
 |[],xs=>Pm _
 |y::ys,xs=>by
  have h1:=mq ys (Sq xs y.1 y.2.1 y.2.2);have h2:=vI xs y.1 y.2.1 y.2.2;show (cN (Sq xs y.1 y.2.1 y.2.2) ys).length<=_;rw[Pl];omega
def sA{xs ys:List (K×Addr×Value)}{i:Nat}{y:K×Addr×Value}(h:ys[i]? =some y):cN xs (ys.take (i+1))=Sq (cN xs (ys.take i)) y.1 y.2.1 y.2.2:=by
 rw[List.take_add_one,h];unfold cN;rw[List.foldl_append];rfl
def mr:∀(ys v2:List (K×Addr×Value)),((v2++ys).map (·.1)).Nodup->cN v2 ys=v2++ys
 |[],v2,_=>by simp[cN]
 |y::ys,v2,hn=>by
  show cN (Sq v2 y.1 y.2.1 y.2.2) ys=_;have K9:y.1∉v2.map (·.1):=λh=>by
   rw[P1] at hn;exact(Qi.mp hn).2.2 _ h _ (by simp) rfl
  have e0:atKey v2 y.1=none:=atKey_none_of_get λj p hj=>K9 (Px.mpr ⟨_,PF hj,rfl⟩);rw[storedH_new e0,mr ys (v2++[(y.1,y.2.1,y.2.2)]) (by simpa using hn)];simp
def sd{id:String}{o:Addr}{ob:Obj}{es:Array QQ}{ep:Nat}{Q:Array QQ->Pf->Prop}(ho:s.heap.get? o=some ob)(hd:ob.data= .dict es ep)
 (hq:∀e∈es.toList,∃a,e.key= .ref a/\s.TypeIs (.ref a) "tuple")(hh:∀e∈es.toList,(es.filter (·.hash==e.hash)).size<=1)(h:Q es s):wpAny (model prog w) A (Sw id o) Q E s:=by
 unfold Sw;refine Pc (QE ho hd ?_);rw[<-Array.forIn_toList];refine Pc (wpAny_forIn_list _ (λT0 _ s'=>s'=s/\∀e∈T0,e∈es.toList) _ ?_ ?_ _ _ ⟨rfl,λ_ h=>h⟩)
 ·rintro e T0 b s' ⟨rfl,hr⟩;obtain⟨a,ea,ta⟩:=hq e (hr e (Pa ..));have hf:=hh e (hr e (Pa ..));have iO:¬((es.filter (·.hash==e.hash)).size>1):=by omega
  rw[ea];unfold Builtin.Dict.quietEq;refine Pc (Pc (TN ta F.slot_tuple_eq.lookup (Pu ?_)));simp only[iO,if_false];have:(some (Value.builtin "tuple.__eq__")==some (Value.builtin "object.__eq__"))=false:=by decide
  simp only[this,Sx,if_true];exact Pu ⟨rfl,λx hx=>hr x (O_ _ hx)⟩
 ·rintro b s' ⟨rfl,_⟩;exact Pu h
def oT{nm:String}{d o:Addr}{xs ys:List (K×Addr×Value)}{Q:Unit->Pf->Prop}(hu:knd.room A)(Mp:d≠o)(N7:(o==Qy)=false)(hd:s.heap.DictOfH knd d xs)(ho:s.heap.DictOfH knd o ys)
 (NW:∀{h:Heap}{k:K}{a:Addr},knd.is h k a->∃ob,h.get? a=some ob/\ob.cls= .type "tuple")(hh:xs=[]->(ys.map λy=>knd.hash y.1).Nodup)(hsz:xs.length+ys.length<=Py)
 (hQ:∀h',h'.DictOfH knd d (cN xs ys)->Q_ d s.heap h'->Q () {s with heap:=h'}):wpAny (model prog w) A (S0 nm d o) Q E s:=by
 obtain⟨od,Nb,M_,zk,vZ,m9,NG,O4,J8⟩:=id hd;obtain⟨oo,wx,Na,IL,Mn,zi,Ac,K0,De⟩:=id ho;have P3:=TR Ac;unfold S0;rw[UE (by simpa using Mp)];unfold RU;rw[UE (by rw[N7];exact PH)];refine Pc (Pu (Pc (QE IL zi ?_)));have loop:∀(body:Nat->PUnit->Sem (ForInStep PUnit)),body=(λi (_:PUnit)=>(do
       let l'<-dictEntries o
       match l'[i]? with
        |some e=>do
         holding [e.key,e.val] (S6 d e.key e.hash e.val)
         let CY<-dictEpoch o
         if (CY !=Na)=true then do (unsupported (toString nm++toString ":source-changed-during-callback"):Sem PUnit);pure (Qq Rp) else pure (Qq Rp)
        |_=>do
         (unsupported "internal:dict-merge":Sem PUnit)
         pure (Qq Rp):Sem (ForInStep PUnit)))->wpAny (model prog w) A (forIn [:wx.size] Rp body) (λ_ s'=>Q () s') E s:=by
  rintro _ rfl;rw[Std.Legacy.Range.forIn_eq_forIn_range'];simp only[Std.Legacy.Range.size,Nat.sub_zero,Nat.add_sub_cancel,Nat.div_one];refine wpAny_forIn_list _ (λT0 _ s'=>∃h' i,s'={s with heap:=h'}/\T0=Qn i (wx.size - i)/\i<=wx.size/\h'.DictOfH knd d (cN xs (ys.take i))/\h'.get? o=some oo/\Q_ d s.heap h') _ ?_ ?_ _ _
   ⟨s.heap,0,rfl,by simp,P2 _,by simpa[cN] using hd,IL,Tz _ _⟩
  ·rintro x T0 b s' ⟨h',i,rfl,hr,hi,v3,Gd,Dg⟩;have iO:i<wx.size:=by
    by_cases h:i<wx.size
    ·exact h
    ·rw[show wx.size - i=0 by omega] at hr;simp at hr
   rw[show wx.size - i=(wx.size - (i+1))+1 by omega,R_] at hr;injection hr with h1 h2
   subst h1;refine Pc (QE Gd zi ?_);obtain⟨y,hy⟩:∃y,ys[x]? =some y:=⟨_,Pd (by omega)⟩
   rw[entry_at Ac x,hy];have N2:(cN xs (ys.take x)).length<=Py:=by
    have e1:=mq (ys.take x) xs;rw[List.length_take] at e1;omega
   have NX:knd.is h' y.1 y.2.1:=knd.keeps (K0 y (PF hy)) zk m9 Dg;refine Pc (So (pL hu NX v3 N2 λMa KP IU=>?_));have ET:Ma.get? o=some oo:=(IU.2 o (Qd Mp)).trans Gd;refine Pc (RV ET zi ?_);rw[UE (by simp)];exact Pu ⟨Ma,x+1,rfl,h2,iO,by rw[sA hy];exact KP,ET,Dg.trans IU⟩
  ·rintro b s' ⟨h',i,rfl,hr,hi,v3,Gd,Dg⟩;have v5:i=wx.size:=by
    by_cases h:i<wx.size
    ·rw[show wx.size - i=(wx.size - (i+1))+1 by omega,R_] at hr;exact nomatch hr
    ·omega
   refine hQ h' ?_ Dg;rw[v5,P3,List.take_length] at v3;exact v3
 have go:wpAny (model prog w) A (do
  let H_<-dictEpoch o
  let l<-dictEntries o
  forIn [:l.size] Rp λi (_:PUnit)=>(do
   let l'<-dictEntries o
   match l'[i]? with
    |some e=>do
     holding [e.key,e.val] (S6 d e.key e.hash e.val)
     let CY<-dictEpoch o
     if (CY !=H_)=true then do (unsupported (toString nm++toString ":source-changed-during-callback"):Sem PUnit);pure (Qq Rp) else pure (Qq Rp)
    |_=>do
     (unsupported "internal:dict-merge":Sem PUnit)
     pure (Qq Rp):Sem (ForInStep PUnit))
  pure ()) Q E s:=by
  refine Pc (RV IL zi (Pc (QE IL zi (Pc ?_))));exact Qt (loop _ rfl) (λ_ _ h=>Pu h) λ_ _ h=>h
 dsimp only
 split
 ·refine Pc (QE zk m9 ?_);split
  ·rename_i KQ;have IX:xs=[]:=by
    have h0:Nb= #[]:=Uu.mp KQ;have:=TR NG;rw[h0] at this;exact R8.mp (by simpa using this.symm)
   subst IX;have N4:=hh rfl;refine Pc (sd IL zi (λe he=>?_) (λe he=>?_) ?_)
   ·rw[Ac] at he;obtain⟨y,hy,rfl⟩:=Px.mp he;obtain⟨ob,h1,h2⟩:=NW (K0 y hy);exact⟨y.2.1,rfl,ob,h1,h2⟩
   ·have:(wx.filter (·.hash==e.hash)).size=((ys.map λy=>knd.hash y.1).filter (· ==e.hash)).length:=by
     rw[<-PO,Array.toList_filter,Ac,List.filter_map,List.filter_map,Pb,Pb];rfl
    rw[this];have hc:=List.nodup_iff_count.mp N4 e.hash;rw[List.count_eq_countP,List.countP_eq_length_filter] at hc;exact hc
   ·have hm:cN ([]:List (K×Addr×Value)) ys=ys:=by
     rw[mr ys [] (by simpa using De)];rfl
    rw[hm] at hQ;split
    ·have Oi:wx.size<=Py+1:=by simp at hsz;omega
     refine Pc (wpAny_updateDictKeysTo zk m9 (Pu (hQ _ ⟨_,_,M_+1,Ry _ zk (SF (RD m9 _)),vZ.mapDictKeys _,RD m9 _,Ac,λx hx=>?_,De⟩ (Qb ..))) Oi);exact knd.keeps (K0 x hx) zk m9 (Qb ..)
    ·rename_i g6;have h0:wx= #[]:=Uu.mp (by simpa using g6);have N0:ys=[]:=R8.mp (by rw[<-P3,h0];rfl);subst N0;exact Pu (hQ _ hd (Tz _ _))
  ·exact go
 ·exact go
end
end L3
namespace L3
open PySem PySem.Spec L2
open PyProof.Rows hiding St
def Es{P:PX}{w:World}{h:Heap}{k:List Key}{a:Addr}(h1:(QU (a9 P w)).is h k a):∃ob,h.get? a=some ob/\ob.cls= .type "tuple":=by
 obtain⟨ob,aK,n,q1,q2,_⟩:=h1;exact⟨ob,q1,q2⟩
def iR(ax more:List (List Key×V)):List (List Key×V):=more.foldl (λv2 kv=>putK v2 kv.1 kv.2) ax
def yu{H:Hp}:∀{more:List (List Key×V)}{ys:List (List Key×Addr×Value)},KT H more ys->∀{ax:List (List Key×V)}{xs:List (List Key×Addr×Value)},KT H ax xs->KT H (iR ax more) (cN xs ys)
 |_,_, .nil,_,_,q=>q
 |_,_, .cons h t,ax,xs,r=>by
  refine yu t ?_;have:=KT.put r _ h.2.1 h.2.2;rw[h.1] at this;show KT H (putK ax _ _) (Sq xs _ _ _);rw[h.1];exact this
def oM:∀(more ax:List (List Key×V)),(iR ax more).length<=ax.length+more.length
 |[],ax=>Pm _
 |p::r,ax=>by
  have h1:=oM r (putK ax p.1 p.2);have h2:=dm ax p.1 p.2;show (iR (putK ax p.1 p.2) r).length<=_;rw[Pl];omega
def fY(k:List Int):Int:=reduceHash (SG (k.map hashInt))
def AY{P:PX}{w:World}(k:List Int):(QU (a9 P w)).hash (oH k)=fY k:=by
 show reduceHash (SG ((oH k).map (Je w)))=_;unfold fY oH;rw[P5];rfl
section
variable{X:Cx}{f8:List (Addr×Obj)}{σ:St}{H:Hp}{s:Pf}{a b:Addr}{A:Qm}{E:Value->Pf->Prop}
def AB{ax more:List (List Key×V)}{ks:List (List Int)}{Q:Value->Pf->Prop}(hu:A.units+2<cLine)(I:Inv X f8 σ H s)(ha:H a=some (.dT ax))(hb:Rd H b (.dT more))(HD:a≠b)(hk:more.map (·.1)=ks.map oH)
 (hh:ax=[]->(ks.map fY).Nodup)(hz:ax.length+more.length<=Py)(h:∀s',Inv X f8 σ (upd H a (.dT (iR ax more))) s'->Q .none s'):
 wpAny (model X.prog X.w) A (call (.builtin "dict.update") [.ref a, .ref b]) Q E s:=by
 obtain⟨z1,lo1,xs,JJ,L4⟩:=AH I.hok ha;obtain⟨z2,OF,ys,Eh,CS⟩:=mh I.hok hb;have l1:=QM JJ;have l2:=QM Eh;have hT:=L4.typeIs;refine RK Td hT PySem.F.entry_dict_update ?_ (PySem.F.args_dict_update_2 _ _);unfold Builtin.«dict.update»;refine Pc ?_;unfold Builtin.Dict.selfAndRest;refine Pc (wpAny_notOrdered_dict hT ?_);show wpAny _ _ (pure (a,[P_ b])) _ _ s;refine Pu ?_;show wpAny _ _ (SW "dict.update" a (.ref b) [] .none) _ _ s;unfold SW;refine Pc (wpAny_typeOf CS.typeIs ?_);rw[UE (by decide)];refine Pc ?_;unfold Builtin.Dict.merge;refine Pc ?_;unfold Builtin.Dict.readDirectly;refine Pc (wpAny_isInstance CS.typeIs isSubtype_dict_dict ?_);simp only[Bool.not_true,Qk,if_false];refine Pc (TN CS.typeIs PySem.F.slot_dict_iter.lookup (Pu ?_));simp only[beq_self_eq_true,if_true];refine Pc (Pu ?_);refine oT (knd:=QU (a9 X.prog X.w)) (show A.in1.units<cLine by show A.units+1<cLine;omega) HD OF L4 CS Es (λe0=>?_) (by omega) λh' x_ Dg=>?_
 ·have e1:ax=[]:=R8.mp (by rw[l1,e0];rfl);have:=hh e1;have e2:(ys.map λy=>(QU (a9 X.prog X.w)).hash y.1)=ks.map fY:=by
   have e3:more.map (·.1)=ys.map (·.1):=mS (λ_ _ r=>r.1) Eh;rw[show (λy:List Key×Addr×Value=>(QU (a9 X.prog X.w)).hash y.1)=(QU (a9 X.prog X.w)).hash∘(·.1) from rfl,<-P5,<-e3,hk,P5];exact QC λk _=>AY k
  rw[e2];exact this
 ·show wpAny _ _ (Builtin.Dict.addKeywords a []>>=_) _ _ _;refine Pc (Pu (Pu ⟨.none,rfl,h _ ?_⟩));obtain⟨q,es,ep,hq,h2,h3,h4,_,h5⟩:=x_;have hl:(iR ax more).length<=Py:=by have:=oM more ax;omega
  refine jv I (t':=s.toks) (by rw[ha];exact QJ) Dg ⟨q,hq⟩ ⟨hl,lo1,_,(yu Eh JJ).keeps λc ys ec=>?_,q,es,ep,hq,h2,h3,h4,h5⟩;rw[aw (Bm ec ha (λz=>nomatch z))];exact ec
end
def b0(ks:List (List Key))(ds:List D):List (List Key)->List D->List (List Key)×List D
 |k::ks',d::ds'=>b0 (cP ks ds k) (b8 ks ds k d) ks' ds'
 |_,_=>(ks,ds)
def Cw(ks:List (List Key))(ds:List D):D->Option C
 | .dct ks' ds'=>match fL ks' with
   |some ns=>if ds.length+ds'.length<=lim/\(ks.isEmpty=true->(ns.map fY).Nodup) then some (.dct (b0 ks ds ks' ds').1 (b0 ks ds ks' ds').2) else none
   |none=>none
 |_=>none
def oR{K:Ph}{F:Hp}:∀{ks':List (List Key)}{ds':List D}{vs':List V}{ks:List (List Key)}{ds:List D}{vs:List V},DenL K F ds' vs'->ks'.length=ds'.length->DenL K F ds vs->ks.length=ds.length->
 ∃ws,iR (ks.zip vs) (ks'.zip vs')=(b0 ks ds ks' ds').1.zip ws/\DenL K F (b0 ks ds ks' ds').2 ws/\(b0 ks ds ks' ds').1.length=(b0 ks ds ks' ds').2.length
 |[],[],vs',ks,ds,vs,h',_,h,hl=>⟨vs,rfl,h,hl⟩
 |k::ks',d::ds',vs',ks,ds,vs,⟨v,r,e,h1,h2⟩,CG,h,hl=>by
  subst e;obtain⟨ws,e1,e2,e3⟩:=th (K:=K) (F:=F) h1 k h hl;obtain⟨us,q1,q2,q3⟩:=oR (ks':=ks') (ds':=ds') (vs':=r) h2 (by simpa using CG) e2 e3;refine⟨us,?_,q2,q3⟩;show iR (putK (ks.zip vs) k v) (ks'.zip r)=_;rw[e1];exact q1
 |[],_::_,_,_,_,_,_,CG,_,_=>by simp at CG
 |_::_,[],_,_,_,_,_,CG,_,_=>by simp at CG
def B3{κ:Type}[DecidableEq κ]{ks:List κ}{ds:List D}{k:κ}{d:D}(hl:ks.length=ds.length):(b8 ks ds k d).length<=ds.length+1:=by
 unfold b8;split
 ·rw[i_ ks ds k d hl];omega
 ·simp
def B4{κ:Type}[DecidableEq κ]{ks:List κ}{ds:List D}{k:κ}{d:D}(hl:ks.length=ds.length):(cP ks ds k).length=(b8 ks ds k d).length:=by
 unfold b8 cP;split
 ·rw[i_ ks ds k d hl];exact hl
 ·simp[hl]
def oS:∀{ks':List (List Key)}{ds':List D}{ks:List (List Key)}{ds:List D},ks.length=ds.length->(b0 ks ds ks' ds').2.length<=ds.length+ds'.length
 |[],ds',ks,ds,_=>by show ds.length<=_;omega
 |_::_,[],ks,ds,_=>by show ds.length<=_;simp
 |k::ks',d::ds',ks,ds,hl=>by
  have h1:=oS (ks':=ks') (ds':=ds') (ks:=cP ks ds k) (ds:=b8 ks ds k d) (B4 hl);have h2:=B3 (k:=k) (d:=d) hl;show (b0 (cP ks ds k) (b8 ks ds k d) ks' ds').2.length<=_;rw[Pl];omega
section
variable{X:Cx}{Xw:Nat->Hp->Prop}{o e:Expr}{δ:DE}{pos p v6 bc:Pos}{x:Str}{i:Nat}
def zV(i:Nat)(δ:DE):DS:=λZ=>match qp Z i with
 |some (.dct ks ds)=>δ Z>>=λd=>match Cw ks ds d with
  |some c'=>ab (.nx (Z.set i (some (.ow c'))))
  |none=>af
 |_=>af
def G5{td ty:TE}(hu:X.A.units+2<cLine)(ho:PE X o td)(he:PE X e ty)(m:M1 X o "update" v6 e bc):
 PE X (.Call (.Attribute o "update" v6) [e] [] bc) (λσ H Q=>td σ H λx H1=>∃a,x= .ref a/\HK H1 a/\ty σ H1 λy H2=>∃(b:Addr) (ax more:List (List Key×V)) (ks:List (List Int)),y= .ref b/\H2 a=some (.dT ax)/\Rd H2 b (.dT more)/\a≠b/\more.map (·.1)=ks.map oH/\(ax=[]->(ks.map fY).Nodup)/\ax.length+more.length<=Py/\Q .non (upd H2 a (.dT (iR ax more)))):=by
 intro f8 s σ H Q I h;refine Tn m.base m.few m.line R1 Td (by rfl) (b7 (ho f8 s σ H _ I h) λu s1 ⟨x,H1,I1,rx,a,ex,d,q1⟩=>?_);subst ex;obtain rfl:u=P_ a:=rx;obtain⟨t1,t2,_⟩:=wJ I1 d;refine⟨t1,t2,?_⟩;rw[m.trees];refine Ro rfl (RA (Rc (b7 (he f8 s1 σ H1 _ I1 q1) λiv s2 ⟨y,H2,I2,ry,b,ax,more,ks,ey,k1,k2,k3,k4,k5,k6,q2⟩=>R4 ?_)));subst ey;obtain rfl:iv=P_ b:=ry;exact AB hu I2 k1 k2 k3 k4 k5 k6 λs3 I3=>⟨.non,_,I3,rfl,q2⟩
def Eb(hu:X.A.units+64<cLine)(hv:PE X (.Name x p) (kq i))(he:PD X Xw e δ)(m:M1 X (.Name x p) "update" v6 e bc)(hs:RW (.Call (.Attribute (.Name x p) "update" v6) [e] [] bc) none pos.line X.env=pure false:=by rfl):
 ku X Xw (.Expr (.Call (.Attribute (.Name x p) "update" v6) [e] [] bc) pos) (zV i δ):=λt0 H₀=>PS.weak (nH (G5 (by omega) hv he m) hs) λD σ H ⟨F,Z,s,w⟩=>by
 unfold zV at w;split at w
 ·rename_i ks ds Gb;have hi:=lP Gb;obtain⟨v,Kc,a,oh,rfl,hH,hF,vs,rfl,hd,hl,hz⟩:=s.st.den i _ hi;refine⟨.ref a,Kc,a,rfl, .inr ⟨_, .inl hH⟩,F,Z,s.st,?_⟩;rcases(δ Z).cs with q | ⟨n,q⟩ | ⟨d,q⟩
  ·rw[q] at w;exact w.elim
  ·rw[q] at w⊢;exact λF' H' e'=>w F' H' (s.ext.trans e')
  ·rw[q] at w⊢;intro u H1 F1 e1 hq;have w:WPS X.K Xw t0 H₀ (match Cw ks ds d with | some c'=>ab (.nx (Z.set i (some (.ow c')))) | none=>af) D:=w;cases d with
   |dct ks' ds'=>
    obtain⟨b,ob,vs',rfl,k2,k3,k4,k5⟩:=hq;cases hc:Cw ks ds (.dct ks' ds') with
    |none=>rw[hc] at w;exact w.elim
    |some c'=>
     rw[hc] at w;have hc:(match fL ks' with | some ns=>if ds.length+ds'.length<=lim/\(ks.isEmpty=true->(ns.map fY).Nodup) then some (C.dct (b0 ks ds ks' ds').1 (b0 ks ds ks' ds').2) else none | none=>none)=some c':=hc;cases hn:fL ks' with
     |none=>rw[hn] at hc;cases hc
     |some ns=>
      rw[hn] at hc;have hc:(if ds.length+ds'.length<=lim/\(ks.isEmpty=true->(ns.map fY).Nodup) then some (C.dct (b0 ks ds ks' ds').1 (b0 ks ds ks' ds').2) else none)=some c':=hc;split at hc
      ·rename_i Ir;cases hc;have Mo:=DenL.mono e1.ff hd;have l1:=Mo.len;have l2:=k3.len;have HD:a≠b:=λz=>by
        have:=e1.old hH (λ_ z=>nomatch z);rw[hF,z,k2] at this;cases this
       obtain⟨ws,m1,m2,m3⟩:=oR k3 k4 Mo hl;refine⟨b,ks.zip vs,ks'.zip vs',ns,rfl,e1.hh _ _ hH, .inr ⟨ob,e1.fh _ _ k2⟩,HD,by rw[jH (by rw[k4];exact l2),lJ hn],λz=>Ir.2 ?_,?_,?_⟩
       ·have:=jH (a:=ks) (b:=vs) (by rw[hl];exact l1);rw[z] at this;rw[<-this];rfl
       ·rw[Sj,Sj];have:=dg;omega
       ·rw[m1];exact w σ F1 _ ((s.ext' e1).chg (c₀:= .dct (b0 ks ds ks' ds').1 (b0 ks ds ks' ds').2) hi Kc ⟨ws,rfl,m2,m3,by have:=oS (ks':=ks') (ds':=ds') hl;omega⟩)
      ·cases hc
   |_=>exact w.elim
 ·exact w.elim
end
section
variable{X:Cx}{Xw:Nat->Hp->Prop}{o e:Expr}{δo δe:DE}{δs:DA}{pos p v6 bc:Pos}{x:Str}
def A8:D->Bool
 | .dct _ _=>true
 | .dci _ _=>true
 |_=>false
def Dq{K:Ph}{F H:Hp}{d:D}{x:V}(s:Same F H)(hd:Den K F d x)(e:A8 d=true):∃a,x= .ref a/\HK H a:=by
 cases d with
 |dct ks ds=>obtain⟨a,ob,vs,rfl,h2,_⟩:=hd;exact⟨a,rfl, .inr ⟨_, .inr ⟨ob,s _ _ h2⟩⟩⟩
 |dci ks ds=>obtain⟨a,ob,vs,rfl,h2,_⟩:=hd;exact⟨a,rfl, .inl ⟨_, .inr ⟨ob,s _ _ h2⟩⟩⟩
 |_=>cases e
def getM(d k v:D):M D:=match y0 d k with
 |some (some x)=>ab x
 |some none=>ab v
 |none=>af
def EB(δo δe:DE):DE:=λZ=>δo Z>>=λd=>if A8 d then δe Z>>=λk=>getM d k .non else af
def AV{F H:Hp}{d k v:D}{a:Addr}{y z:V}{Q:VK}(s:Same F H)(q1:Den X.K F d (.ref a))(q2:Den X.K F k y)(q3:Den X.K F v z)(w:WP X.K Xw F H (getM d k v) Q):∃ov,lr H a y ov/\Q (ov.getD z) H:=by
 unfold getM at w;cases CD:y0 d k with
 |none=>rw[CD] at w;exact w.elim
 |some o'=>
  rw[CD] at w;obtain⟨a',ov,zz,h2,h3,h4⟩:=rW s q1 q2 CD;cases zz;refine⟨ov,h2,?_⟩;cases o' with
  |none=>
   cases ov with
   |none=>exact WP.now w s q3
   |some _=>cases h3
  |some d'=>
   obtain⟨v,rfl,hv⟩:=h4 d' rfl;exact WP.now w s hv
def DU(hu:X.A.units+64<cLine)(ho:PD X Xw o δo)(he:PD X Xw e δe)(m:M1 X o "get" v6 e bc):PD X Xw (.Call (.Attribute o "get" v6) [e] [] bc) (EB δo δe):=
 PE.weak (BO (by omega) ho he m) λσ H Q ⟨F,Z,s,w⟩=>by
  refine⟨F,Z,s,WP.mono (WP.bind w) λx H1 ⟨F1,d,e1,q1,w1⟩=>?_⟩;split at w1
  ·rename_i hd;obtain⟨a,rfl,OE⟩:=Dq e1.fh q1 hd;refine⟨a,rfl,OE,F1,Z,s.ext e1,WP.mono (WP.bind w1) λy H2 ⟨F2,k,e2,q2,w2⟩=>?_⟩;exact AV (v:= .non) (z:= .non) e2.fh (Den.mono e2.ff q1) q2 (show V.non=V.non from rfl) w2
  ·exact w1.elim
def qX:List D->M D
 |[.dci ks _]=>ab (.int ks.length)
 |_=>af
def wj:CallR X (.builtin "len") (λxs H Q=>∃a ax,xs=[.ref a]/\Rd H a (.dK ax)/\Q (.int ax.length) H):=by
 intro f8 s σ H xs us Q I r ⟨a,ax,e,h,q⟩;subst e;obtain⟨u,rfl,ru⟩:=r.one;cases (show u=_ from ru);exact HZ I h λt s' I'=>⟨.int ax.length,H,I',⟨_,rfl⟩,q⟩
def yH(hg:Gl X "len")(hm:X.mg "len"=none)(ha:p8 X Xw [e] δs)(he:PB [e] X.env=[(false,eval e X.env)]:=by rfl):PD X Xw (.Call (.Name "len" p) [e] [] pos) (dA qX δs):=
 eG wj (λXw F H vs ds Q s h w=>by
  unfold qX at w;split at w
  ·rename_i ks es;obtain⟨v,rfl,h1⟩:=h.one;obtain⟨a,ob,ws,rfl,h2,h3,h4,h5⟩:=h1;refine⟨a,_,rfl, .inr ⟨ob,s _ _ h2⟩,?_⟩;rw[tQ h3 h4,<-h4];exact WP.now w s rfl
  ·exact w.elim) hg hm PySem.boot_len ha (by decide) (by decide) he rfl
end
section
variable{X:Cx}{Xw:Nat->Hp->Prop}{a b:Expr}{δa δb:DE}{pos:Pos}
def g_(neg:Bool):D->D->M D
 | .raw _,_=>af
 | .non, .non=>ab (.bl (!neg))
 |_, .non=>ab (.bl neg)
 |_,_=>af
def yn{K:Ph}{neg:Bool}{g:V->Bool}(hg:∀v,g v=if neg then !decide (v= .non) else decide (v= .non)):t7 K (λx y H Q=>y= .non/\Q (.bl (g x)) H) (g_ neg):=λXw F H x y dx dy Q s hx hy w=>by
 unfold g_ at w;split at w
 ·exact w.elim
 ·refine⟨hy,?_⟩;cases (show x=_ from hx);rw[hg];cases neg<;>exact WP.now w s rfl
 ·rename_i h1 h2;refine⟨hy,?_⟩;have Lj:x≠ .non:=by
   rintro rfl;cases dx with
   |raw v=>exact h1 v rfl
   |non=>exact h2 rfl
   |bl _=>cases (show _=_ from hx)
   |int _=>cases (show _=_ from hx)
   |str _=>cases (show _=_ from hx.1)
   |exc _=>obtain⟨_,z,_⟩:=hx;cases z
   |scr _=>obtain⟨_,z,_⟩:=hx;cases z
   |tup _=>obtain⟨_,_,z,_⟩:=hx;cases z
   |lst _=>obtain⟨_,_,z,_⟩:=hx;cases z
   |dct _ _=>obtain⟨_,_,_,z,_⟩:=hx;cases z
   |dci _ _=>obtain⟨_,_,_,z,_⟩:=hx;cases z
  rw[hg,UH Lj];cases neg<;>exact WP.now w s rfl
 ·exact w.elim
def BZ(ha:PD X Xw a δa)(hb:PD X Xw b δb):lx X Xw (.Compare a [.Is] [b] pos) (bH (d2 (g_ false) δa δb)):=eo GJ (yn λ_=>rfl) ha hb
def yM(ha:PD X Xw a δa)(hb:PD X Xw b δb):lx X Xw (.Compare a [.IsNot] [b] pos) (bH (d2 (g_ true) δa δb)):=eo DJ (yn λ_=>rfl) ha hb
end
def wC:List Nat->Ez
 |[]=>Ih
 |i::is=>EJ (jL i) (wC is)
def xx:List Nat->List D->aP->aP
 |i::is,d::ds,Z=>xx is ds (Z.set i (some (.fz d)))
 |_,_,Z=>Z
def yO(is:List Nat):D->aP->Option aP
 | .tup ds,Z=>if ds.length=is.length then some (xx is ds Z) else none
 |_,_=>none
def rG{K:Ph}{t0 H₀ F H:Hp}{Q:St->Hp->Prop}:∀(is:List Nat) (ds:List D) (vs:List V) (σ:St) (Z:aP),ds.length=is.length->StOk K t0 H₀ F H σ Z->DenL K F ds vs->(∀σ',StOk K t0 H₀ F H σ' (xx is ds Z)->Q σ' H)->wC is vs σ H Q
 |[],[],vs,σ,Z,_,s,h,k=>⟨h,k σ s⟩
 |i::is,d::ds,vs,σ,Z,hl,s,⟨v,r,e,h1,h2⟩,k=>by
  subst e;exact⟨v,r,rfl,rG is ds r _ _ (by simpa using hl) (s.set h1) h2 k⟩
 |[],_::_,_,_,_,hl,_,_,_=>by simp at hl
 |_::_,[],_,_,_,hl,_,_,_=>by simp at hl
def Ef{K:Ph}{is:List Nat}:Ah K (Ii K is.length (wC is)) (yO is):=λt0 H₀ F H σ Z Z' d v Q s q e k=>by
 unfold yO at e;split at e
 ·rename_i ds;split at e
  ·rename_i hl;cases e;obtain⟨a,vs,rfl,hs,hd,_⟩:=q;exact⟨a,vs,rfl,SqT.of (s.st.fh _ _ hs),by rw[<-hd.len];exact hl,rG is ds vs σ Z hl s hd k⟩
  ·cases e
 ·cases e
section
end
mutual
def EE:D->Bool
 | .non=>true
 | .bl _=>true
 | .int _=>true
 | .str _=>true
 | .tup ds=>ui ds
 | .lst ds=>ui ds
 | .raw _=>false
 | .exc _=>false
 | .scr _=>false
 | .dct _ _=>false
 | .dci _ _=>false
def ui:List D->Bool
 |[]=>true
 |d::ds=>EE d&&ui ds
end
def vc(Z:aP):Bool:=Z.all λx=>match x with
 |some (.ow (.lst _))=>false
 |_=>true
def BG{Z:aP}{i:Nat}{ds:List D}(h:vc Z=true)(e:Z[i]? =some (some (.ow (.lst ds)))):False:=by
 have:=PJ.mp h _ (PF e);cases this
section
variable{K:Ph}{F H F' H':Hp}{σ:St}{Z:aP}{h:Heap}{b:Addr}
def OwnAt.dict(S:StE K F H σ Z)(hd:vc Z=true)(p:OwnAt σ Z b):∃o,H b=some o/\((∃x,o= .dT x)\/∃x,o= .dK x):=by
 obtain⟨i,c,h1,h2⟩:=p;obtain⟨v,h3,a,o,rfl,h4,h5,h6⟩:=S.den i _ h1;rw[h3] at h2;cases h2;refine⟨o,h4,?_⟩;cases c with
 |lst ds=>exact(BG hd h1).elim
 |dct ks ds=>obtain⟨vs,rfl,_⟩:=h6;exact .inl ⟨_,rfl⟩
 |dci ks ds=>obtain⟨vs,rfl,_⟩:=h6;exact .inr ⟨_,rfl⟩
open Classical in
def yz(S:StE K F H σ Z)(hd:vc Z=true)(E:Ext (fA σ Z (refA h (OwnAt σ Z) H) F) (refA h (OwnAt σ Z) H) F' H'){a:Addr}{o:HO}(e:F' a=some o)(g6:∀q u,o≠ .frz q u):(if OwnAt σ Z a then none else F' a)=some o:=by
 rw[UE,e];intro hp;obtain⟨o',k1,k2⟩:=OwnAt.dict S hd hp;have k3:fA σ Z (refA h (OwnAt σ Z) H) F a=some (m8 ((h.get? a).getD {cls:= .none,data:= .fields #[]}) o'):=by
  unfold fA refA;rw[UD hp,UD hp,k1];rfl
 have k4:=E.ff a _ k3;rw[e] at k4;rcases k2 with⟨x,rfl⟩ | ⟨x,rfl⟩<;>cases k4<;>exact g6 _ _ rfl
open Classical in
mutual
def AD(S:StE K F H σ Z)(hd:vc Z=true)(E:Ext (fA σ Z (refA h (OwnAt σ Z) H) F) (refA h (OwnAt σ Z) H) F' H'):∀{d:D}{v:V},EE d=true->Den K F' d v->Den K (λb=>if OwnAt σ Z b then none else F' b) d v
 | .non,_,_,q=>q
 | .bl _,_,_,q=>q
 | .int _,_,_,q=>q
 | .str _,_,_,q=>q
 | .tup ds,_,f,⟨a,vs,h1,h2,h3,h4⟩=>⟨a,vs,h1,yz S hd E h2 (λ_ _ z=>nomatch z),lG S hd E f h3,h4⟩
 | .lst ds,_,f,⟨a,vs,h1,h2,h3,h4⟩=>⟨a,vs,h1,yz S hd E h2 (λ_ _ z=>nomatch z),lG S hd E f h3,h4⟩
 | .raw _,_,f,_=>by cases f
 | .exc _,_,f,_=>by cases f
 | .scr _,_,f,_=>by cases f
 | .dct _ _,_,f,_=>by cases f
 | .dci _ _,_,f,_=>by cases f
def lG(S:StE K F H σ Z)(hd:vc Z=true)(E:Ext (fA σ Z (refA h (OwnAt σ Z) H) F) (refA h (OwnAt σ Z) H) F' H'):∀{ds:List D}{vs:List V},ui ds=true->DenL K F' ds vs->DenL K (λb=>if OwnAt σ Z b then none else F' b) ds vs
 |[],_,_,q=>q
 |d::ds,_,f,⟨v,r,h1,h2,h3⟩=>by
  unfold ui at f;rw[P7] at f;exact⟨v,r,h1,AD S hd E f.1 h2,lG S hd E f.2 h3⟩
end
end
def CP(δ:DE):DE:=λZ=>noex (δ (yh Z))>>=oe
def yV(τ:DT):DT:=λZ=>noex (τ (yh Z))
section
end
section
variable{a:Expr}
end
section
end
end L3
namespace L3
open PySem PySem.SetTable
def iK(m b:Nat):Nat->Nat×Nat
 |0=>(b % (m+1),b)
 |k+1=>leap m (iK m b k).1 (iK m b k).2
def HI(m i:Nat):Nat:=(i*5+1) % (m+1)
def it(m:Nat):Nat->Nat->Nat
 |0,x=>x
 |n+1,x=>HI m (it m n x)
def oD(m:Nat):∀a b x,it m (a+b) x=it m a (it m b x)
 |0,b,x=>by rw[S1];rfl
 |a+1,b,x=>by rw[Uy];show HI m _=HI m _;rw[oD m a b x]
def I8(m b:Nat):∀k,(iK m b k).2=b / 32 ^ k
 |0=>by simp[iK]
 |k+1=>by
  show (iK m b k).2 / 32=_;rw[I8 m b k,T2,Nat.pow_succ]
def yl{m b:Nat}(hb:b<2 ^ 64):∀k,(iK m b (k+13)).1=it m k (iK m b 13).1
 |0=>by rw[S1];rfl
 |k+1=>by
  rw[Uy];have hq:(iK m b (k+13)).2 / 32=0:=by
   rw[I8];refine Nat.div_eq_of_lt ?_;refine SR (m:=b / 32 ^ 13) ?_ ?_
   ·rw[Nat.pow_add,Nat.mul_comm,<-T2];exact Nat.div_le_self ..
   ·have:b / 32 ^ 13<1:=Nat.div_lt_of_lt_mul (by omega);omega
  show ((iK m b (k+13)).1*5+1+(iK m b (k+13)).2 / 32) % (m+1)=HI m _;rw[hq,yl hb k];rfl
def Kq(m:Nat):Prop:=m=7\/m=31\/m=127
def LB(m:Nat):Nat->Nat->List Nat
 |0,_=>[]
 |n+1,x=>x::LB m n (HI m x)
def xg(m:Nat):∀(n x j:Nat),j∈LB m n x->∃a,a<n/\it m a x=j
 |0,x,j,h=>by cases h
 |n+1,x,j,h=>by
  rcases Pn.mp h with rfl | h
  ·exact⟨0,by omega,rfl⟩
  ·obtain⟨a,ha,e⟩:=xg m n (HI m x) j h;exact⟨a+1,by omega,by rw[oD m a 1 x];exact e⟩
def DO{m:Nat}(hm:Kq m):(∀j,j<m+1->j∈LB m (m+1) 0)/\it m (m+1) 0=0:=by
 rcases hm with rfl | rfl | rfl
 ·exact⟨by decide+kernel,by decide+kernel⟩
 ·exact⟨by decide+kernel,by decide+kernel⟩
 ·exact⟨by decide+kernel,by decide+kernel⟩
def M5{m:Nat}(hm:Kq m){i j:Nat}(hi:i<m+1)(hj:j<m+1):∃n,n<=m/\it m n i=j:=by
 obtain⟨h1,h2⟩:=DO hm;obtain⟨a,ha,rfl⟩:=xg m _ 0 i (h1 i hi);obtain⟨b,hb,rfl⟩:=xg m _ 0 j (h1 j hj);by_cases h:a<=b
 ·exact⟨b - a,by omega,by rw[<-oD,Nat.sub_add_cancel h]⟩
 ·refine⟨m+1 - a+b,by omega,?_⟩;rw[<-oD,show m+1 - a+b+a=b+(m+1) by omega,oD,h2]
def IZ(m b k:Nat):(iK m b k).1<m+1:=by
 cases k with
 |zero=>exact TL _ (by omega)
 |succ k=>exact TL _ (by omega)
def reach{m b:Nat}(hm:Kq m)(hb:b<2 ^ 64){j:Nat}(hj:j<m+1):∃k,k<=m+13/\(iK m b k).1=j:=by
 obtain⟨n,hn,e⟩:=M5 hm (IZ m b 13) hj;exact⟨n+13,by omega,by rw[yl hb,e]⟩
def vals(o:Array (Option Nat))(n:Nat):List Nat:=(PY n).filterMap λj=>o.getD j none
end L3
namespace L3
open PySem PySem.Spec L2 HT
open PyProof.Rows hiding St
def items_int{P:PX}{w:World}:∀{us:List Value}{ns:List Int},Sb us ns->ItemsAre (intKind P w) ns us
 |_,_, .nil=> .nil
 |_,_, .cons n t h=> .cons (intKind_is _ _ _ _) (items_int h)
end L3
namespace L3
open PySem PySem.Spec L2
open PyProof.Rows hiding St
section
end
end L3
namespace L3
open PySem PySem.Spec L2 SeqAt HT
open PyProof.Rows hiding St
section
def ME:D->List D->M D
 | .lst ds,[.int n]=>match nums ds with
   |some ns=>if ns.contains n then ab (.int (ns.idxOf n)) else af
   |none=>af
 |_,_=>af
end
section
variable{X:Cx}{Xw:Nat->Hp->Prop}{a b e:Expr}{p:Pos}
def anyF(x:D):List D->Option Bool
 |[]=>some false
 |y::ys=>match m7 6 y x,anyF x ys with
  |some p,some q=>some (p||q)
  |_,_=>none
def wB(neg:Bool):D->D->M D
 |x, .lst ys=>match anyF x ys with
  |some r=>ab (.bl (if neg then !r else r))
  |none=>af
 |_,_=>af
def xS{f8:List (Addr×Obj)}{σ:St}{F H:Hp}{s:Pf}{A:Qm}{x:D}{v:V}{u:Value}(I:Inv X f8 σ H s)(hs:Same F H)(hu:A.units+6<cLine)(hx:Den X.K F x v)(rx:RelV v u):
 ∀{ys:List D}{vs:List V}{aK:List Value}{r:Bool},anyF x ys=some r->DenL X.K F ys vs->Vals vs aK->∃f:List Bool,f.length=aK.length/\f.any id=r/\∀i (h:i<aK.length),EqAt A s aK[i] u (f.getD i false)
 |[],_,_,_,e,h,r=>by
  cases e;cases (show _=_ from h);cases r;exact⟨[],rfl,rfl,λi h=>UK h (Nat.not_lt_zero _)⟩
 |y::ys,_,_,_,e,⟨w,ws,h1,h2,h3⟩,r=>by
  subst h1;unfold anyF at e;split at e
  ·rename_i p q e1 e2;cases e;cases r with
   | @cons _ t _ ts r1 r2=>
     obtain⟨f,l1,l2,l3⟩:=xS I hs hu hx rx e2 h3 r2;refine⟨p::f,by simp[l1],by simp[<-l2],λi hi=>?_⟩;cases i with
     |zero=>exact(si I hs 6 A y x w v t u _ hu h2 hx r1 rx e1).eq
     |succ i=>exact l3 i (by simpa using hi)
  ·cases e
open Classical in
def CL{f8:List (Addr×Obj)}{σ:St}{F H:Hp}{s:Pf}{A:Qm}{x:D}{v:V}{u:Value}(I:Inv X f8 σ H s)(hs:Same F H)(hu:A.units+6<cLine)(hx:Den X.K F x v)(rx:RelV v u){ys:List D}{vs:List V}{aK:List Value}{r:Bool}(e:anyF x ys=some r)(hd:DenL X.K F ys vs)(rv:Vals vs aK):
 ∃g:Value->Bool,aK.toArray.any g=r/\∀t∈aK.toArray,EqAt A s t u (g t):=by
 obtain⟨f,l1,l2,l3⟩:=xS I hs hu hx rx e hd rv;have key:∀w,decide (∃i,aK[i]? =some w/\f.getD i false=true)=true↔∃i,aK[i]? =some w/\f.getD i false=true:=λw=>decide_eq_true_iff;refine⟨λw=>decide (∃i,aK[i]? =some w/\f.getD i false=true),?_,λt ht=>?_⟩
 ·rw[<-l2,Ti];simp only[List.any_toArray,S3,key];constructor
  ·rintro⟨w,_,i,e1,e2⟩;have hi:i<f.length:=by rw[l1];exact(Pe.mp e1).1
   rw[PV,Pd hi] at e2;exact⟨_,Q7 hi,e2⟩
  ·rintro⟨b,hb,e1⟩;obtain⟨i,hi,rfl⟩:=RH hb;refine⟨aK[i]'(by omega),Q7 _,i,Pd _,?_⟩;rw[PV,Pd hi];exact e1
 ·have ht:t∈aK:=by simpa using ht
  by_cases h:∃i,aK[i]? =some t/\f.getD i false=true
  ·obtain⟨i,e1,e2⟩:=id h;obtain⟨hi,e3⟩:=Pe.mp e1;have:=l3 i hi;rw[e2,e3] at this;show EqAt A s t u (decide (∃i,aK[i]? =some t/\f.getD i false=true));rw[UG h];exact this
  ·obtain⟨i,hi,rfl⟩:=RH ht;have:=l3 i hi;have e2:f.getD i false=false:=by
    cases q:f.getD i false with
    |false=>rfl
    |true=>exact UK ⟨i,Pd hi,q⟩ h
   rw[e2] at this;show EqAt A s aK[i] u (decide (∃j,aK[j]? =some aK[i]/\f.getD j false=true));rw[UH h];exact this
def JD(K:Ph)(neg:Bool):R2:=λx y H Q=>∃F dx ys vs p r,Same F H/\Den K F dx x/\anyF dx ys=some r/\DenL K F ys vs/\y= .ref p/\SqL K H p vs/\Q (.bl (if neg then !r else r)) H
def Gf{neg:Bool}{K:Ph}:t7 K (JD K neg) (wB neg):=λXw F H x y dx dy Q s hx hy w=>by
 unfold wB at w;split at w
 ·rename_i ys;split at w
  ·rename_i r e1;obtain⟨p,vs,h1,h2,h3,_⟩:=hy;exact⟨F,dx,ys,vs,p,r,s,hx,e1,h3,h1,SqL.of (s _ _ h2),WP.now w s rfl⟩
  ·exact w.elim
 ·exact w.elim
end
end L3
namespace L3
open PySem PySem.Spec L2 HT
open PyProof.Rows hiding St
section
end
end L3
namespace L3
open PySem PySem.Spec L2 SeqAt HT
open PyProof.Rows hiding St
section
variable{X:Cx}{f8:List (Addr×Obj)}{σ:St}{H:Hp}{s:Pf}{a:Addr}{ax:List (Key×V)}{k:Key}{z:V}{u r:Value}{A:Qm}{E:Value->Pf->Prop}
def AA{Q:Value->Pf->Prop}(I:Inv X f8 σ H s)(e:H a=some (.dK ax))(ry:RelV (kV k) u)(rz:RelV z r)(hl:ax.length<Py)
 (h1:∀v w' s',eK ax k=some v->Inv X f8 σ H s'->RelV v w'->Q w' s')
 (h2:∀s',eK ax k=none->Inv X f8 σ (upd H a (.dK (putK ax k z))) s'->Q r s'):
 wpAny (model X.prog X.w) A (call (.builtin "dict.setdefault") [.ref a,u,r]) Q E s:=by
 obtain⟨zz,hd,vs,rel,dd⟩:=AF I.hok e;have hz:vs.length<=Py:=by rw[<-rel.length];exact zz
 have CG:(putK ax k z).length<=Py:=by have:=dm ax k z;omega
 have rv:=rel.val k;refine call_meetsIn SU dd.typeIs PySem.F.entry_dict_setdefault (PySem.F.args_dict_setdefault_3 _ _ _) (kt_meets_setdefault (a9 X.prog X.w) a (mn ry) hd r) ⟨vs,dd,hz,λv hv=>?_,λhn h' x_ hs=>?_⟩
 ·cases q:eK ax k with
  |none=>rw[q] at rv;rw[RelO.none_of rv] at hv;cases hv
  |some v0=>
   rw[q] at rv;obtain⟨w',hw,v8⟩:=RelO.some_of rv;rw[hw] at hv;cases hv;exact h1 v0 _ _ q (I.tok _) v8
 ·cases q:eK ax k with
  |some v0=>rw[q] at rv;obtain⟨w',hw,_⟩:=RelO.some_of rv;rw[hw] at hn;cases hn
  |none=>
   have he:∃q,h'.get? a=some q:=let ⟨q,_,_,hq,_⟩:=x_;⟨q,hq⟩
   exact h2 _ q (jv I (by rw[e];exact QJ) hs he (wt CG hd (rel.put k rz) x_))
end
section
variable{X:Cx}{o e f:Expr}{v6 bc:Pos}{td ty tx:TE}
def Fh(td ty tx:TE):TE:=λσ H Q=>td σ H λx H1=>∃a,x= .ref a/\HK H1 a/\ty σ H1 λy H2=>tx σ H2 λz H3=>∃ax k,H3 a=some (.dK ax)/\y=kV k/\ax.length<Py/\
 (∀v,eK ax k=some v->Q v H3)/\(eK ax k=none->Q z (upd H3 a (.dK (putK ax k z))))
def D5(ho:PE X o td)(he:PE X e ty)(hf:PE X f tx)(m:M2 X o "setdefault" v6 e f bc):PE X (.Call (.Attribute o "setdefault" v6) [e,f] [] bc) (Fh td ty tx):=by
 intro f8 s σ H Q I h;refine Tn m.base m.few m.line R1 SU PySem.F.type_dict_setdefault (b7 (ho f8 s σ H _ I h) λu s1 ⟨x,H1,I1,rx,a,ex,d,q1⟩=>?_);subst ex;obtain rfl:u=P_ a:=rx;obtain⟨t1,t2,_⟩:=wJ I1 d;refine⟨t1,t2,?_⟩;rw[m.trees];refine Ro rfl (RA (Rc (b7 (he f8 s1 σ H1 _ I1 q1) λiv s2 ⟨y,H2,I2,ry,q2⟩=>
  Rc (b7 (hf f8 s2 σ H2 _ I2 q2) λfv s3 ⟨z,H3,I3,rz,ax,k,e1,ey,hl,g1,g2⟩=>R4 ?_))))
 subst ey;exact AA I3 e1 ry rz hl (λv w' s' q I4 r4=>⟨v,H3,I4,r4,g1 v q⟩) λs' q I4=>⟨z,_,I4,rz,g2 q⟩
end
abbrev nO:=List (Key×List Key)
def qb(ks:List Key)(k:Key):Bool:=ks.any λx=>decide (x=k)
def kG{ks:List Key}{k:Key}:qb ks k=true↔k∈ks:=by
 unfold qb;rw[S3];exact⟨λ⟨x,h1,h2⟩=>(UI h2)▸h1,λh=>⟨k,h,UG rfl⟩⟩
def tJ(ps:nO)(k:Key):nO:=if qb (ps.map (·.1)) k then ps else ps++[(k,[])]
def nP(ps:nO)(k j:Key):nO:=ps.map λp=>if p.1=k then(p.1,if qb p.2 j then p.2 else p.2++[j]) else p
def t5(ps:nO):Bool:=decide (ps.length<lim)&&ps.all λp=>decide (p.2.length<lim)
def inD(ks:List Key):D:= .dci ks (ks.map λ_=> .bl true)
def rm(ps:nO):D:= .dci (ps.map (·.1)) (ps.map λp=>inD p.2)
def j7(oi:Nat)(tc:DT)(δk:DE)(k:Key)(Z:aP):List D->nO->M nO
 |[],ps=>ab ps
 |d::ds,ps=>noex (tc (Z.set oi (some (.fz d))))>>=λb=>if b then noex (δk (Z.set oi (some (.fz d))))>>=λkd=>match oJ kd with
   |some j=>if t5 ps then j7 oi tc δk k Z ds (nP ps k j) else af
   |none=>af
  else j7 oi tc δk k Z ds ps
def fO(ci oi:Nat)(δk:DE)(δj:DA)(tc:DT)(δk2:DE)(Z:aP):List D->nO->M nO
 |[],ps=>ab ps
 |d::ds,ps=>noex (δk (Z.set ci (some (.fz d))))>>=λkd=>match oJ kd with
   |some k=>if t5 ps then noex (δj (Z.set ci (some (.fz d))))>>=λes=>j7 oi tc δk2 k (Z.set ci (some (.fz d))) es (tJ ps k)>>=λiG=>fO ci oi δk δj tc δk2 Z ds iG else af
   |none=>af
def nR(Z:aP):Bool:=Z.all λx=>match x with | some (.ow _)=>false | _=>true
def vz(ni ci mi oi:Nat)(δi:DA)(δk:DE)(δj:DA)(tc:DT)(δk2:DE):DS:=λZ=>match qp Z ni with
 |some (.dci [] [])=>if nR (fgt [ni,ci,mi,oi] Z) then noex (δi (fgt [ni,ci,mi,oi] Z))>>=λds=>noex (fO ci oi δk δj tc δk2 (fgt [ni,ci,mi,oi] Z) ds [])>>=λps=>
   if t5 ps then ab (.nx ((fgt [ni,ci,mi,oi] Z).set ni (some (.fz (rm ps))))) else af else af
 |_=>af
def Ext.of_chg{t0 H₀ F H:Hp}{b:Addr}{o:HO}(e:Ext t0 H₀ F H)(h1:F b=none)(h2:H₀ b=none):Ext t0 H₀ F (upd H b o):=
 ⟨λc u q=>by rw[aw (λz=>by rw[z,h2] at q;cases q)];exact e.hh c u q,e.ff,λc u q=>by rw[aw (λz=>by rw[z,h1] at q;cases q)];exact e.fh c u q,e.new⟩
def StE.fzH{K:Ph}{F H H':Hp}{σ:St}{Z:aP}(s:StE K F H σ Z)(h:nR Z=true)(e:Same F H'):StE K F H' σ Z:=
 ⟨e,λi sl q=>by
  obtain⟨v,h1,h2⟩:=s.den i sl q;refine⟨v,h1,?_⟩;cases sl with
  |fz d=>exact h2
  |ow c=>have:=PJ.mp h _ (PF q);cases this⟩
def get_set{α:Type}{l:List (Option α)}{i j:Nat}{x:Option α}{y:α}(h:(l.set i x)[j]? =some (some y)):(j=i/\x=some y)\/(j≠i/\l[j]? =some (some y)):=by
 by_cases hj:j=i
 ·subst hj;have hi:j<l.length:=by have:=(Pe.mp h).1;simpa using this
  rw[Pt hi] at h;exact .inl ⟨rfl,Pz h⟩
 ·rw[Pg (Qd hj)] at h;exact .inr ⟨hj,h⟩
def lz{Z:aP}(h:nR Z=true)(i:Nat){x:Option Sl}(hx:∀c,x≠some (.ow c)):nR (Z.set i x)=true:=PJ.mpr λy hy=>by
 rcases List.mem_or_eq_of_mem_set hy with q | q
 ·exact PJ.mp h y q
 ·subst q
  match y,hx with
  |none,_=>rfl
  |some (.fz d),_=>rfl
  |some (.ow c),hx=>exact UK rfl (hx c)
structure Nr (K:Ph) (t0 H₀ G F H:Hp) (σ:St) (Z:aP) (ni:Nat) (a:Addr) (bs:List Addr) (ps:nO):Prop where
 ext:Ext t0 H₀ F H
 gf:Same G F
 st:StE K F H σ Z
 len:Z.length=σ.length
 near:σ[ni]? =some (some (.ref a))
 ha:H a=some (.dK ((ps.map (·.1)).zip (bs.map V.ref)))
 hb:∀(i:Nat) (b:Addr) (p:Key×List Key),bs[i]? =some b->ps[i]? =some p->H b=some (.dK (p.2.map λk=>(k,V.bl true)))
 sz:bs.length=ps.length
 nd:(a::bs).Nodup
 fr:∀b∈a::bs,F b=none/\H₀ b=none
 fz:nR Z=true
section
variable{K:Ph}{t0 H₀ G G' F H F' H':Hp}{σ:St}{Z:aP}{ni:Nat}{a:Addr}{bs:List Addr}{ps:nO}
def Nr.at(n:Nr K t0 H₀ G F H σ Z ni a bs ps){b:Addr}(hb:b∈a::bs):∃ax,H b=some (.dK ax):=by
 rcases Pn.mp hb with rfl | hb
 ·exact⟨_,n.ha⟩
 ·obtain⟨i,hi,rfl⟩:=RH hb;exact⟨_,n.hb i _ (ps[i]'(by rw[<-n.sz];exact hi)) (Pd hi) (Pd _)⟩
def Nr.ext'(n:Nr K t0 H₀ G F H σ Z ni a bs ps)(e:Ext F H F' H'):Nr K t0 H₀ G F' H' σ Z ni a bs ps:=
 ⟨n.ext.trans e,n.gf.trans e.ff,n.st.ext e,n.len,n.near,e.hh _ _ n.ha,λi b p h1 h2=>e.hh _ _ (n.hb i b p h1 h2),n.sz,n.nd,λb hb=>by
  obtain⟨ax,hk⟩:=n.at hb;exact⟨by rw[e.old hk λts z=>nomatch z];exact(n.fr b hb).1,(n.fr b hb).2⟩,n.fz⟩
def Nr.rg(n:Nr K t0 H₀ G F H σ Z ni a bs ps)(e:Same G' F):Nr K t0 H₀ G' F H σ Z ni a bs ps:=⟨n.ext,e,n.st,n.len,n.near,n.ha,n.hb,n.sz,n.nd,n.fr,n.fz⟩
def Nr.put(n:Nr K t0 H₀ G F H σ Z ni a bs ps){j:Nat}(hj:j≠ni){d:D}{v:V}(h:Den K F d v):Nr K t0 H₀ G F H (σ.set j (some v)) (Z.set j (some (.fz d))) ni a bs ps:=
 ⟨n.ext,n.gf,⟨n.st.fh,λi sl q=>by
  rcases get_set q with⟨rfl,e⟩ | ⟨g6,q⟩
  ·cases e;have hi:i<Z.length:=by have:=(Pe.mp q).1;simpa using this
   exact⟨v,by rw[Pt (by rw[<-n.len];exact hi)],h⟩
  ·obtain⟨u,h1,h2⟩:=n.st.den i sl q;exact⟨u,by rw[Pg (Qd g6)];exact h1,h2⟩⟩,by simp[n.len],by rw[Pg hj];exact n.near,n.ha,n.hb,n.sz,n.nd,n.fr,lz n.fz _ (λc z=>nomatch z)⟩
def Nr.put0(n:Nr K t0 H₀ G F H σ Z ni a bs ps){j:Nat}(hj:j≠ni)(v:V):Nr K t0 H₀ G F H (σ.set j (some v)) (Z.set j none) ni a bs ps:=
 ⟨n.ext,n.gf,⟨n.st.fh,λi sl q=>by
  rcases get_set q with⟨rfl,e⟩ | ⟨g6,q⟩
  ·cases e
  ·obtain⟨u,h1,h2⟩:=n.st.den i sl q;exact⟨u,by rw[Pg (Qd g6)];exact h1,h2⟩⟩,by simp[n.len],by rw[Pg hj];exact n.near,n.ha,n.hb,n.sz,n.nd,n.fr,lz n.fz _ (λc z=>nomatch z)⟩
def Nr.fgt0(n:Nr K t0 H₀ G F H σ Z ni a bs ps)(j:Nat):Nr K t0 H₀ G F H σ (Z.set j none) ni a bs ps:=
 ⟨n.ext,n.gf,⟨n.st.fh,λi sl q=>by
  rcases get_set q with⟨rfl,e⟩ | ⟨g6,q⟩
  ·cases e
  ·exact n.st.den i sl q⟩,by simp[n.len],n.near,n.ha,n.hb,n.sz,n.nd,n.fr,lz n.fz _ (λc z=>nomatch z)⟩
def sy{α β:Type}{l:List α}{i:Nat}{f:α->β}{y:β}(h:(l.map f)[i]? =some y):∃x,l[i]? =some x/\f x=y:=by
 rw[Pq] at h;exact TJ.mp h
def zR(ks:List Key)(j:Key):putK (ks.map λk=>(k,V.bl true)) j (V.bl true)=(if qb ks j then ks else ks++[j]).map λk=>(k,V.bl true):=by
 unfold putK;have e:((ks.map λk=>(k,V.bl true)).any λkv=>decide (kv.1=j))=qb ks j:=by
  rw[Ti,S3,kG];constructor
  ·rintro⟨kv,h1,h2⟩;obtain⟨k,hk,rfl⟩:=Px.mp h1;exact(UI h2:k=j)▸hk
  ·exact λh=>⟨(j,V.bl true),Px.mpr ⟨j,h,rfl⟩,by simp⟩
 rw[e];by_cases hj:qb ks j=true
 ·rw[UD hj,UD hj,P5];refine QC λk _=>?_;show (if k=j then(k,V.bl true) else(k,V.bl true))=_;split<;>rfl
 ·rw[UE hj,UE hj,P1];rfl
def t9(ps:nO)(k j:Key):(nP ps k j).map (·.1)=ps.map (·.1):=by
 unfold nP;rw[P5];refine QC λp _=>?_;show (if p.1=k then(p.1,_) else p).1=p.1;split<;>rfl
def Nr.add(n:Nr K t0 H₀ G F H σ Z ni a bs ps)(kn:(ps.map (·.1)).Nodup){i:Nat}{b:Addr}{p:Key×List Key}(hi:bs[i]? =some b)(hp:ps[i]? =some p)(j:Key):
 Nr K t0 H₀ G F (upd H b (.dK (putK (p.2.map λk=>(k,V.bl true)) j (V.bl true)))) σ Z ni a bs (nP ps p.1 j):=by
 have hm:b∈a::bs:=O_ _ (PF hi);have g6:a≠b:=λz=>(Qg.mp n.nd).1 (z▸PF hi);have e:=n.ext.of_chg (o:= .dK (putK (p.2.map λk=>(k,V.bl true)) j (V.bl true))) (n.fr b hm).1 (n.fr b hm).2;refine⟨e,n.gf,n.st.fzH n.fz e.fh,n.len,n.near,?_,λi' b' p' h1 h2=>?_,by rw[n.sz];simp[nP],n.nd,n.fr,n.fz⟩
 ·rw[aw g6,t9];exact n.ha
 ·obtain⟨q,hq,rfl⟩:=sy (show (ps.map _)[i']? =_ from h2);by_cases KU:i'=i
  ·subst KU;rw[hi] at h1;cases h1;rw[hp] at hq;cases hq;rw[aD,UD rfl,zR]
  ·have KL:b'≠b:=λz=>by
    subst z;exact KU ((SV (Pe.mp h1).1 (Qg.mp n.nd).2).mp (h1.trans hi.symm))
   have Oc:q.1≠p.1:=λz=>by
    exact KU ((SV (by simpa using (Pe.mp hq).1) kn).mp (by rw[Pq,Pq,hq,hp];exact UM some z))
   rw[aw KL,UE Oc];exact n.hb i' b' q h1 hq
def pS{κ:Type}[DecidableEq κ]:∀{ks:List κ}{vs:List V}(k:κ),ks.length=vs.length->
 (match eK (ks.zip vs) k with | some v=>∃i:Nat,ks[i]? =some k/\vs[i]? =some v | none=>k∉ks)
 |[],[],k,_=>by simp[eK]
 |k'::ks,v::vs,k,hl=>by
  rw[QH];by_cases e:k'=k
  ·rw[jr (p:=(k',v)) e];exact⟨0,by simp[e],rfl⟩
  ·rw[jq (p:=(k',v)) e];have:=pS (ks:=ks) (vs:=vs) k (by simpa using hl);cases q:eK (ks.zip vs) k with
   |none=>rw[q] at this;exact λz=>(Pn.mp z).elim (λz=>e z.symm) this
   |some u=>rw[q] at this;obtain⟨i,h1,h2⟩:=this;exact⟨i+1,by simpa using h1,by simpa using h2⟩
 |[],_::_,_,hl=>by simp at hl
 |_::_,[],_,hl=>by simp at hl
def vn{κ:Type}[DecidableEq κ]{ax:List (κ×V)}{k:κ}{v:V}(h:eK ax k=none):putK ax k v=ax++[(k,v)]:=by
 unfold putK;rw[jo,h];rfl
def Nr.new(n:Nr K t0 H₀ G F H σ Z ni a bs ps){p:Addr}(hp:H p=none){k:Key}(hk:eK ((ps.map (·.1)).zip (bs.map V.ref)) k=none):
 Nr K t0 H₀ G F (upd (upd H p (.dK [])) a (.dK (putK ((ps.map (·.1)).zip (bs.map V.ref)) k (.ref p)))) σ Z ni a (bs++[p]) (ps++[(k,[])]):=by
 have g6:∀b∈a::bs,b≠p:=λb hb z=>by
  obtain⟨ax,h⟩:=n.at hb;rw[z,hp] at h;cases h
 have ha:=g6 a Pa;have e0:=n.ext.trans (Ext.free (o:= .dK []) n.st.fh hp);have hF:F p=none:=Same.free n.st.fh hp;have hH:H₀ p=none:=Same.free n.ext.hh hp;have e:=e0.of_chg (o:= .dK (putK ((ps.map (·.1)).zip (bs.map V.ref)) k (.ref p))) (n.fr a Pa).1 (n.fr a Pa).2;have nd:=Qg.mp n.nd;refine⟨e,n.gf,n.st.fzH n.fz e.fh,n.len,n.near,?_,λi b q h1 h2=>?_,by simp[n.sz],?_,λb hb=>?_,n.fz⟩
 ·rw[aD,vn hk,P1,P1,Si (by simp[n.sz])];rfl
 ·by_cases hi:i<bs.length
  ·rw[P6 hi] at h1;rw[P6 (by rw[<-n.sz];exact hi)] at h2;have hm:=PF h1;rw[aw (λz:b=a=>nd.1 (z▸hm)),aw (g6 b (O_ _ hm))];exact n.hb i b q h1 h2
  ·have IB:i=bs.length:=by
    have:=(Pe.mp h1).1;simp at this;omega
   subst IB;rw[QW] at h1;cases h1;rw[n.sz,QW] at h2;cases h2;rw[aw (Qd ha),aD];rfl
 ·rw[Qg,PR];refine⟨λz=>z.elim nd.1 λz=>ha (PQ.mp z),?_⟩;rw[Qi];exact⟨nd.2,by simp,λx hx y hy z=>g6 x (O_ _ hx) (by rw[z];exact PQ.mp hy)⟩
 ·rcases Pn.mp hb with rfl | hb
  ·exact n.fr _ Pa
  ·rcases PR.mp hb with hb | hb
   ·exact n.fr b (O_ _ hb)
   ·cases PQ.mp hb;exact⟨hF,hH⟩
def Nr.gar(n:Nr K t0 H₀ G F H σ Z ni a bs ps){p:Addr}(hp:H p=none):Nr K t0 H₀ G F (upd H p (.dK [])) σ Z ni a bs ps:=n.ext' (Ext.free n.st.fh hp)
end
def rp{X:Cx}{f8:List (Addr×Obj)}{σ:St}{s:Pf}:∀{bs:List Addr}{H:Hp},Inv X f8 σ H s->bs.Nodup->(∀b∈bs,∃ax,H b=some (.dK ax))->
 ∃H',Inv X f8 σ H' s/\(∀b∈bs,∀ax,H b=some (.dK ax)->∃ob,H' b=some (.frz ob (.dK ax)))/\∀c,c∉bs->H' c=H c
 |[],H,I,_,_=>⟨H,I,λb hb=>(nomatch hb),λ_ _=>rfl⟩
 |b::bs,H,I,nd,h=>by
  obtain⟨ax,e⟩:=h b Pa;have nd:=Qg.mp nd;obtain⟨H',I',h1,h2⟩:=rp (bs:=bs) (L3.Inv.refrz I e (o':= .frz _ (.dK ax)) (.inr ⟨_,rfl, .inr ⟨_,rfl,rfl⟩⟩)) nd.2 λc hc=>by
   rw[aw (λz:c=b=>nd.1 (z▸hc))];exact h c (O_ _ hc)
  refine⟨H',I',λc hc Jf e'=>?_,λc hc=>?_⟩
  ·rcases Pn.mp hc with rfl | hc
   ·rw[e] at e';cases e';exact⟨_,by rw[h2 _ nd.1,aD]⟩
   ·exact h1 c hc Jf (by rw[aw (λz:c=b=>nd.1 (z▸hc))];exact e')
  ·rw[h2 c λz=>hc (O_ _ z),aw λz:c=b=>hc (z▸Pa)]
def Cz(ks:List Key):ks.map (λk=>(k,V.bl true))=ks.zip (ks.map λ_=>V.bl true):=by
 induction ks with
 |nil=>rfl
 |cons k ks ih=>rw[Pj,Pj,QH,ih]
def DenL.trues{K:Ph}{F:Hp}:∀(ks:List Key),DenL K F (ks.map λ_=>D.bl true) (ks.map λ_=>V.bl true)
 |[]=>rfl
 |_::ks=> .cons rfl (DenL.trues ks)
def DenL.ins{K:Ph}{F:Hp}:∀{ps:nO}{bs:List Addr},bs.length=ps.length->(∀(i:Nat) (b:Addr) (p:Key×List Key),bs[i]? =some b->ps[i]? =some p->Den K F (inD p.2) (.ref b))->DenL K F (ps.map λp=>inD p.2) (bs.map V.ref)
 |[],[],_,_=>rfl
 |p::ps,b::bs,hl,h=> .cons (h 0 b p rfl rfl) (DenL.ins (by simpa using hl) λi b' p' h1 h2=>h (i+1) b' p' (by simpa using h1) (by simpa using h2))
 |[],_::_,hl,_=>by simp at hl
 |_::_,[],hl,_=>by simp at hl
def Nr.fin{X:Cx}{f8:List (Addr×Obj)}{s:Pf}{t0 H₀ G F H:Hp}{σ:St}{Z:aP}{ni:Nat}{a:Addr}{bs:List Addr}{ps:nO}(n:Nr X.K t0 H₀ G F H σ Z ni a bs ps)(I:Inv X f8 σ H s)(ok:t5 ps=true):
 ∃F' H',Inv X f8 σ H' s/\StOk X.K t0 H₀ F' H' σ (Z.set ni (some (.fz (rm ps)))):=by
 obtain⟨MQ,OL⟩:=QI.mp ok;have MQ:=UI MQ;obtain⟨H',I',h1,h2⟩:=rp I n.nd λb hb=>n.at hb
 let F':Hp:=λc=>if c∈a::bs then H' c else F c
 have f1:∀c,c∈a::bs->F' c=H' c:=λc hc=>UD hc;have f2:∀c,c∉a::bs->F' c=F c:=λc hc=>UE hc;have ff:Same F F':=λc u q=>by rw[f2 c λz=>by rw[(n.fr c z).1] at q;cases q];exact q
 have fh:Same F' H':=λc u q=>by
  by_cases z:c∈a::bs
  ·rw[f1 c z] at q;exact q
  ·rw[f2 c z] at q;rw[h2 c z];exact n.st.fh c u q
 have e:Ext t0 H₀ F' H':=⟨λc u q=>by rw[h2 c λz=>by rw[(n.fr c z).2] at q;cases q];exact n.ext.hh c u q,n.ext.ff.trans ff,fh,λc hc=>by
  have z:c∉a::bs:=λz=>hc (n.fr c z).2;rw[f2 c z];exact n.ext.new c hc⟩
 have hd:Den X.K F' (rm ps) (.ref a):=by
  obtain⟨ob,Ga⟩:=h1 a Pa _ n.ha;refine⟨a,ob,bs.map V.ref,rfl,by rw[f1 a Pa];exact Ga,DenL.ins n.sz λi b p q1 q2=>?_,by simp,by simp;omega⟩;have hm:b∈a::bs:=O_ _ (PF q1);obtain⟨OK,La⟩:=h1 b hm _ (n.hb i b p q1 q2);have:=UI (PJ.mp OL p (PF q2));exact⟨b,OK,p.2.map λ_=>V.bl true,rfl,by rw[f1 b hm,La,Cz],DenL.trues _,by simp,by simp;omega⟩
 have Jk:∀(i:Nat) (c:C),(Z.set ni (some (.fz (rm ps))))[i]? ≠some (some (.ow c)):=λi c q=>by
  rcases get_set q with⟨_,z⟩ | ⟨_,q⟩
  ·cases z
  ·have:=PJ.mp n.fz _ (PF q);cases this
 refine⟨F',H',I',e,⟨fh,λi sl q=>?_⟩,by simp[n.len],λi c b q=>UK q (Jk i c),λi j c c' b q=>UK q (Jk i c)⟩;rcases get_set q with⟨rfl,z⟩ | ⟨_,q⟩
 ·cases z;exact⟨.ref a,n.near,hd⟩
 ·obtain⟨v,q1,q2⟩:=n.st.den i sl q;refine⟨v,q1,?_⟩;cases sl with
  |fz d=>exact Den.mono ff q2
  |ow c=>have:=PJ.mp n.fz _ (PF q);cases this
def xy{ps:nO}{k:Key}(h:k∈ps.map (·.1)):tJ ps k=ps:=by
 unfold tJ;rw[UD (kG.mpr h)]
def Cf{ps:nO}{k:Key}(h:k∉ps.map (·.1)):tJ ps k=ps++[(k,[])]:=by
 unfold tJ;rw[UE (λz=>h (kG.mp z))]
def Cd{Z:aP}{j:Nat}(h:∀sl,Z[j]? ≠some (some sl)):Z.set j none=Z:=by
 refine UB λi=>?_;by_cases hi:i=j
 ·subst hi;by_cases hl:i<Z.length
  ·rw[Pt hl];cases q:Z[i]? with
   |none=>rw[RS] at q;omega
   |some x=>
    cases x with
    |none=>rfl
    |some sl=>exact UK q (h sl)
  ·rw[RS.mpr (by simp;omega),RS.mpr (by omega)]
 ·rw[Pg (Qd hi)]
def yb{α:Type}{l:List α}{i:Nat}{d:α}(hd:l[i]? =some d):l.drop i=d::l.drop (i+1):=by
 obtain⟨hi,e⟩:=Pe.mp hd;rw[RT hi,e]
def GC{ps:nO}{i:Nat}{p:Key×List Key}(ok:t5 ps=true)(h:ps[i]? =some p):p.2.length<lim:=UI (PJ.mp (QI.mp ok).2 p (PF h))
def DG{ps:nO}(ok:t5 ps=true):ps.length<lim:=UI (QI.mp ok).1
section
variable{X:Cx}{Xw:Nat->Hp->Prop}{D':Ends}{tc:DT}{δk δk2:DE}{δj:DA}{t0 H₀ G:Hp}{Z:aP}{ni ci mi oi:Nat}{a b:Addr}{bs:List Addr}{yJ ps:nO}{J:It}{es ds:List D}{σ:St}{F H:Hp}
abbrev JU(X:Cx)(Xw:Nat->Hp->Prop)(tc:DT)(mi:Nat)(δk:DE):TS:=JS (Kj X.K Xw tc) (Fe (kq mi) (tD X.K Xw δk) (tC (.bl true))) Fi
def yy{i:Nat}{k:Key}(hJ:oi≠ni)(J_:oi≠mi)(Nu:Z.set oi none=Z)(hi:bs[i]? =some b)(it:ItD X.K G J es)
 (fin:∀σ F H,Nr X.K t0 H₀ G F H σ Z ni a bs yJ->(yJ.map (·.1)).Nodup->D'.nx σ H)
 (n:Nr X.K t0 H₀ G F H σ Z ni a bs ps)(kn:(ps.map (·.1)).Nodup)(hm:σ[mi]? =some (some (.ref b)))(hk:∃p,ps[i]? =some p/\p.1=k)(w:j7 oi tc δk k Z es ps=ab yJ):
 ∃W:Nat->Nat->St->Hp->Prop,(∃m,W 0 m σ H)/\∀i m σ H,W i m σ H->(J.stop i H/\D'.nx σ H)\/(J.go i H/\∃N:St->Hp->Prop,(∀σ' H',N σ' H'->∃m',m'<m/\W (i+1) m' σ' H')/\∀x H',J.yld i H x H'->jL oi x σ H' λσ2 H2=>JU X Xw tc mi δk {D' with nx:=N,ct:=N,bk:=D'.nx} σ2 H2):=by
 refine⟨λt m σ H=>m=es.length - t/\t<=es.length/\∃F ps,Nr X.K t0 H₀ G F H σ Z ni a bs ps/\(ps.map (·.1)).Nodup/\σ[mi]? =some (some (.ref b))/\(∃p,ps[i]? =some p/\p.1=k)/\j7 oi tc δk k Z (es.drop t) ps=ab yJ,⟨es.length,by simp,P2 _,F,ps,n,kn,hm,hk,by simpa using w⟩,?_⟩;rintro t m σ2 H2 ⟨rfl,Oh,F2,Ag,n2,Gx,F4,J5,w2⟩;by_cases iO:t<es.length
 ·obtain⟨d,hd⟩:∃d,es[t]? =some d:=⟨_,Pd iO⟩
  obtain⟨FW,wI⟩:=(it F2 H2 t n2.gf n2.st.fh).1 d hd;rw[yb hd] at w2;unfold j7 at w2;obtain⟨bv,hb,w3⟩:=c_ w2;have hb:=nG hb;refine .inr ⟨FW,λσ' H'=>∃F' iG,Nr X.K t0 H₀ G F' H' σ' Z ni a bs iG/\(iG.map (·.1)).Nodup/\σ'[mi]? =some (some (.ref b))/\(∃p,iG[i]? =some p/\p.1=k)/\j7 oi tc δk k Z (es.drop (t+1)) iG=ab yJ,
   λσ' H' ⟨F',iG,h⟩=>⟨es.length - (t+1),by omega,rfl,iO,F',iG,h⟩,λx H3 y3=>?_⟩
  obtain⟨F3,ye,q3⟩:=wI x H3 y3;have n4:=(n2.ext' ye).put hJ q3;have K7:(σ2.set oi (some x))[mi]? =some (some (.ref b)):=by rw[Pg J_];exact F4
  have back:∀{σ':St}{F' H':Hp}{iG:nO},Nr X.K t0 H₀ G F' H' σ' (Z.set oi (some (.fz d))) ni a bs iG->Nr X.K t0 H₀ G F' H' σ' Z ni a bs iG:=λ{σ' F' H' iG} n=>by
   have:=n.fgt0 oi;rw[List.set_set,Nu] at this;exact this
  refine⟨F3,Z.set oi (some (.fz d)),n4.st,?_⟩;rw[hb];intro H5 F5 e5;have n5:=n4.ext' e5;cases bv with
  |false=>exact⟨F5,Ag,back n5,Gx,K7,J5,w3⟩
  |true=>
   obtain⟨kd,Dc,w4⟩:=c_ (show (noex (δk (Z.set oi (some (.fz d))))>>=_)=ab yJ from w3);have Dc:=nG Dc;refine⟨.ref b,K7,F5,Z.set oi (some (.fz d)),n5.st,?_⟩;rw[Dc];intro v H6 F6 e6 q6;cases hj:oJ kd with
   |none=>rw[hj] at w4;exact(dO w4).elim
   |some j=>
    rw[hj] at w4;have w4:(if t5 Ag then j7 oi tc δk k Z (es.drop (t+1)) (nP Ag k j) else af)=ab yJ:=w4;split at w4
    ·rename_i ok;obtain⟨p,hp,rfl⟩:=J5;have n6:=n5.ext' e6;have e1:=gH hj q6;subst e1;have hl:=GC ok hp;have:=dg;refine⟨b,_,rfl,DPut.k (n6.hb i b p hi hp) (by rw[Pb];omega),F6,nP Ag p.1 j,back (n6.add Gx hi hp j),by rw[t9];exact Gx,K7,?_,w4⟩;refine⟨(if p.1=p.1 then(p.1,if qb p.2 j then p.2 else p.2++[j]) else p),?_,by rw[UD rfl]⟩;unfold nP;rw[Pq,hp];rfl
    ·exact(dO w4).elim
 ·have ht:t=es.length:=by omega
  subst ht;rw[Sa] at w2;have:=er (show ab Ag=ab yJ from w2);subst this;exact .inl ⟨(it F2 H2 es.length n2.gf n2.st.fh).2 (Pm _),fin σ2 F2 H2 n2 Gx⟩
abbrev LN(X:Cx)(Xw:Nat->Hp->Prop)(tc:DT)(ni mi oi:Nat)(δk:DE)(δj:DA)(δk2:DE):TS:=JW (JO (Fh (kq ni) (tD X.K Xw δk) Cr) (jL mi)) (JR (MX X.K Xw δj) (jL oi) (JU X Xw tc mi δk2))
def Bn(NC:ci≠ni)(K8:mi≠ni)(hJ:oi≠ni)(NB:ci≠mi)(Mn:ci≠oi)(J_:oi≠mi)(Zc:Z.set ci none=Z)(Zm:Z.set mi none=Z)(Zo:Z.set oi none=Z)(J6:mi<Z.length)(it:ItD X.K G J ds)
 (fin:∀σ F H bs,Nr X.K t0 H₀ G F H σ Z ni a bs yJ->D'.nx σ H)
 (n:Nr X.K t0 H₀ G F H σ Z ni a bs ps)(kn:(ps.map (·.1)).Nodup)(w:fO ci oi δk δj tc δk2 Z ds ps=ab yJ):
 ∃W:Nat->Nat->St->Hp->Prop,(∃m,W 0 m σ H)/\∀i m σ H,W i m σ H->(J.stop i H/\D'.nx σ H)\/(J.go i H/\∃N:St->Hp->Prop,(∀σ' H',N σ' H'->∃m',m'<m/\W (i+1) m' σ' H')/\∀x H',J.yld i H x H'->jL ci x σ H' λσ2 H2=>LN X Xw tc ni mi oi δk δj δk2 {D' with nx:=N,ct:=N,bk:=D'.nx} σ2 H2):=by
 refine⟨λt m σ H=>m=ds.length - t/\t<=ds.length/\∃F ps bs,Nr X.K t0 H₀ G F H σ Z ni a bs ps/\(ps.map (·.1)).Nodup/\fO ci oi δk δj tc δk2 Z (ds.drop t) ps=ab yJ,⟨ds.length,by simp,P2 _,F,ps,bs,n,kn,by simpa using w⟩,?_⟩;rintro t m σ2 H2 ⟨rfl,Oh,F2,Ag,HS,n2,Gx,w2⟩;by_cases iO:t<ds.length
 ·obtain⟨d,hd⟩:∃d,ds[t]? =some d:=⟨_,Pd iO⟩
  obtain⟨FW,wI⟩:=(it F2 H2 t n2.gf n2.st.fh).1 d hd;rw[yb hd] at w2;unfold fO at w2;obtain⟨kd,Dc,w3⟩:=c_ w2;have Dc:=nG Dc;cases hj:oJ kd with
  |none=>rw[hj] at w3;exact(dO w3).elim
  |some k=>
  rw[hj] at w3;have w3:(if t5 Ag then noex (δj (Z.set ci (some (.fz d))))>>=λes=>j7 oi tc δk2 k (Z.set ci (some (.fz d))) es (tJ Ag k)>>=λiG=>fO ci oi δk δj tc δk2 Z (ds.drop (t+1)) iG else af)=ab yJ:=w3;by_cases ok:t5 Ag=true
  ·rw[UD ok] at w3;obtain⟨es,FU,w4⟩:=c_ w3;have FU:=nG FU;obtain⟨MR,h3,w5⟩:=c_ w4;refine .inr ⟨FW,λσ' H'=>∃F' iG Fx,Nr X.K t0 H₀ G F' H' σ' Z ni a Fx iG/\(iG.map (·.1)).Nodup/\fO ci oi δk δj tc δk2 Z (ds.drop (t+1)) iG=ab yJ,
    λσ' H' ⟨F',iG,Fx,h⟩=>⟨ds.length - (t+1),by omega,rfl,iO,F',iG,Fx,h⟩,λx H3 y3=>?_⟩
   obtain⟨F3,ye,q3⟩:=wI x H3 y3;have n4:=(n2.ext' ye).put NC q3;generalize Il:Z.set ci (some (.fz d))=Z1 at*;have Z1m:Z1.set mi none=Z1:=by rw[<-Il,List.set_comm _ _ NB,Zm]
   have Z1o:Z1.set oi none=Z1:=by rw[<-Il,List.set_comm _ _ Mn,Zo]
   have back:∀{σ':St}{G' F' H':Hp}{Fx:List Addr}{iG:nO},Nr X.K t0 H₀ G' F' H' σ' Z1 ni a Fx iG->Nr X.K t0 H₀ G' F' H' σ' Z ni a Fx iG:=λ{σ' G' F' H' Fx iG} n=>by
    have:=n.fgt0 ci;rw[<-Il,List.set_set,Zc] at this;exact this
   refine⟨.ref a,n4.near,a,rfl, .inl ⟨_, .inl n4.ha⟩,F3,Z1,n4.st,?_⟩;rw[Dc];intro v H5 F5 e5 q5;have e1:=gH hj q5;subst e1;have n5:=n4.ext' e5;intro p hp;have hsz:=DG ok;have FZ:=dg;refine⟨_,k,(n5.gar hp).ha,rfl,by rw[Sj,Pb,Pb,n5.sz,T6];omega,λv hv=>?_,λhn=>?_⟩
   ·have hz:=pS (ks:=Ag.map (·.1)) (vs:=HS.map V.ref) k (by simp[n5.sz]);rw[hv] at hz;obtain⟨i,z1,z2⟩:=hz;obtain⟨pr,Oa,N_⟩:=sy z1;obtain⟨b,hb,rfl⟩:=sy z2;rw[xy (PF z1)] at h3;have n7:=(n5.gar hp).put0 K8 (.ref b);rw[Z1m] at n7;refine⟨F5,Z1,n7.st,?_⟩;rw[FU];intro J' H8 F8 e8 Lq;have n8:=(n7.ext' e8).rg (Same.refl _);have hG:Same G F8:=(n7.ext' e8).gf;exact yy hJ J_ Z1o hb Lq (λσ' F' H' n' Ls=>⟨F',MR,HS,back (n'.rg (hG.trans n'.gf)),Ls,w5⟩) n8 Gx (Pt (by rw[<-n4.len,<-Il];simpa using J6)) ⟨pr,Oa,N_⟩ h3
   ·have hz:=pS (ks:=Ag.map (·.1)) (vs:=HS.map V.ref) k (by simp[n5.sz]);rw[hn] at hz;rw[Cf hz] at h3;have n7:=(n5.new hp hn).put0 K8 (.ref p);rw[Z1m] at n7;refine⟨F5,Z1,n7.st,?_⟩;rw[FU];intro J' H8 F8 e8 Lq;have n8:=(n7.ext' e8).rg (Same.refl _);have hG:Same G F8:=(n7.ext' e8).gf;refine yy (i:=HS.length) hJ J_ Z1o QW Lq (λσ' F' H' n' Ls=>⟨F',MR,_,back (n'.rg (hG.trans n'.gf)),Ls,w5⟩) n8 ?_ (Pt (by rw[<-n4.len,<-Il];simpa using J6)) ⟨(k,[]),by rw[n5.sz];exact QW,rfl⟩ h3;rw[P1,Qi];exact⟨Gx,by simp,λx hx y hy z=>hz (by rw[z] at hx;cases PQ.mp hy;exact hx)⟩
  ·rw[UE ok] at w3;exact(dO w3).elim
 ·have ht:t=ds.length:=by omega
  subst ht;rw[Sa] at w2;have:=er (show ab Ag=ab yJ from w2);subst this;exact .inl ⟨(it F2 H2 ds.length n2.gf n2.st.fh).2 (Pm _),fin σ2 F2 H2 HS n2⟩
def BV{δi:DA}{LQ LR iter Bb k1 k2 test:Expr}{x y:Str}{p q q2 v6 AG bc p1 p2 p3 p4 p5 p6 p7:Pos}{j0:Nat}(hp:TY (model X.prog X.w) X.A X.env X.xe)(hc:X.calm=true)(hu:X.A.units+64<cLine)
 (hi:vX X Xw LQ iter δi)(NK:PG X LQ (jL ci))(hv:PE X (.Name x p) (kq ni))(hk:PD X Xw k1 δk)(m:M2 X (.Name x p) "setdefault" v6 k1 (.Dict [] [] AG) bc)(NN:PG X (.Name y q) (jL mi))
 (hj:vX X Xw LR Bb δj)(NL:PG X LR (jL oi))(ht:lx X Xw test tc)(Ou:PE X (.Name y q2) (kq mi))(J5:PD X Xw k2 δk2)
 (J6:X.N[mi]? =some y:=by rfl)
 (g6:[ni,ci,mi,oi].Nodup:=by decide)
 (hs:∀x,Q4 iter X.env x=pure x:=by intro _;rfl)(HF:∀x,Q4 Bb X.env x=pure x:=by intro _;rfl)
 (Ow:S5 [.Name y q] (.Call (.Attribute (.Name x p) "setdefault" v6) [k1, .Dict [] [] AG] [] bc) p1.line X.env=pure false:=by rfl)
 (Ox:swappedStores [.Name y q] (.Call (.Attribute (.Name x p) "setdefault" v6) [k1, .Dict [] [] AG] [] bc) X.env=pure none:=by rfl)
 (Oy:(Sg [.Name y q] X.env).map (·.2)=[assign (.Name y q) X.env]:=by rfl)
 (Oz:RW (.Constant (.bool true) j0 p3) (some (.Subscript (.Name y q2) k2 p2)) p4.line X.env=pure false:=by rfl):
 ku X Xw (.For LQ iter [.Assign [.Name y q] (.Call (.Attribute (.Name x p) "setdefault" v6) [k1, .Dict [] [] AG] [] bc) p1,
  .For LR Bb [.If test [.Assign [.Subscript (.Name y q2) k2 p2] (.Constant (.bool true) j0 p3) p4] [] p5] [] p6] [] p7) (vz ni ci mi oi δi δk δj tc δk2):=λt0 H₀ f8 sh σ H D I ⟨F,Z,s,w⟩=>by
 have Ob:=xo (pos:=p7) hp hc hi NK (vl (lT (pos:=p1) (D5 hv hk (vi (pos:=AG)) m) NN Ow Ox Oy) (nJ (xo (pos:=p6) hp hc hj NL (nJ (Fc (pos:=p5) ht (nJ (yK (by omega) Ou J5 (E_ (b:=true) (j:=j0) (pos:=p3)) Oz)) yL)) HF))) hs;have IK:=g6;simp only[Qg,Pn,List.not_mem_nil,or_false,not_or] at IK;obtain⟨⟨n1,n2,n3⟩,⟨n4,n5⟩,n6,_⟩:=IK;unfold vz at w;split at w
 ·rename_i ho;have Gb:=lP ho;obtain⟨u,Mj,a,o,rfl,Nv,Nw,vs,rfl,Ov,_,_⟩:=s.st.den ni _ Gb;cases (show vs=[] from Ov);have h0:=s.own ni _ a Gb Mj;have s0:=s.fgt [ni,ci,mi,oi];have P3:(fgt [ni,ci,mi,oi] Z).length=Z.length:=by simp[fgt]
  have gn:∀j∈[ni,ci,mi,oi],(fgt [ni,ci,mi,oi] Z).set j none=fgt [ni,ci,mi,oi] Z:=λj hj=>Cd λsl q=>by
   have hj:j=ni\/j=ci\/j=mi\/j=oi:=by simpa using hj
   rcases get_set q with⟨_,z⟩ | ⟨h4,q⟩
   ·cases z
   rcases get_set q with⟨_,z⟩ | ⟨h3,q⟩
   ·cases z
   rcases get_set q with⟨_,z⟩ | ⟨h2,q⟩
   ·cases z
   rcases get_set q with⟨_,z⟩ | ⟨h1,q⟩
   ·cases z
   rcases hj with z | z | z | z
   ·exact h1 z
   ·exact h2 z
   ·exact h3 z
   ·exact h4 z
  generalize fgt [ni,ci,mi,oi] Z=Z0 at*;split at w
  ·rename_i NJ;rcases ij (δi Z0) with q | ⟨ds,q,q'⟩
   ·rw[q] at w;exact w.elim
   rw[q'] at w;have w:WPS X.K Xw t0 H₀ (noex (fO ci oi δk δj tc δk2 Z0 ds [])>>=λps=>if t5 ps then ab (.nx (Z0.set ni (some (.fz (rm ps))))) else af) D:=w;rcases ij (fO ci oi δk δj tc δk2 Z0 ds []) with q2 | ⟨ps,q2,ON⟩
   ·rw[q2] at w;exact w.elim
   rw[ON] at w;have w:WPS X.K Xw t0 H₀ (if t5 ps then ab (.nx (Z0.set ni (some (.fz (rm ps))))) else af) D:=w;by_cases ok:t5 ps=true
   ·rw[UD ok] at w;have OH:Nr X.K t0 H₀ F F H σ Z0 ni a [] []:=⟨s0.ext,Same.refl _,s0.st,s0.len,Mj,Nv,λi b p z=>by simp at z,rfl,by simp,λb hb=>by
     cases PQ.mp hb;exact⟨Nw,h0⟩,NJ⟩
    have hD:=Ob f8 sh σ H {D with nx:=λσ H=>∃F bs G,Nr X.K t0 H₀ G F H σ Z0 ni a bs ps} I ⟨F,Z0,s0.st,by
     rw[q];intro J H1 F1 e1 it;have OG:=(OH.ext' e1).rg (Same.refl _);exact Bn (Qd n1) (Qd n2) (Qd n3) n4 n5 (Qd n6) (gn ci (by simp)) (gn mi (by simp)) (gn oi (by simp)) (by rw[P3,s.len,I.len];exact(Pe.mp J6).1) it (λσ F H bs n=>⟨F,bs,F1,n⟩) OG (by simp) q2⟩
    refine b7 hD λf s' hq=>?_;cases f with
    |next=>
     obtain⟨σ',H',I',F',bs,G,n⟩:=hq;obtain⟨F2,H2,I2,so⟩:=n.fin I' ok;exact⟨σ',H2,I2,w σ' F2 H2 so⟩
    |brk=>exact hq
    |cont=>exact hq
    |ret u=>exact hq
   ·rw[UE ok] at w;exact w.elim
  ·exact w.elim
 ·exact w.elim
end
section
variable{X:Cx}{Xw:Nat->Hp->Prop}{a b:Expr}{δa δb:DE}{pos:Pos}
def GI(hu:X.A.units+64<cLine):OpR X (Qj .In) (JD X.K false):=by
 intro f8 s σ H x y v u Q I rx ry h;obtain⟨F,dx,ys,vs,p,r,hs,hx,ex,hd,rfl,hq,q⟩:=h;cases (show u=_ from ry);have Om:X.A.in1.units+6<cLine:=by show X.A.units+1+6<cLine;omega
 obtain⟨aK,rv,pl,hz⟩:=I.list hq;obtain⟨g,e1,e2⟩:=CL (A:=X.A.in1) I hs Om hx rx ex hd rv;refine SeqAt.in_listAt g pl.isList e2 ⟨.bl _,H,I,rfl,?_⟩;rw[e1];exact q
def Hb(hu:X.A.units+64<cLine)(ha:PD X Xw a δa)(hb:PD X Xw b δb)(hm:Ql .In b=false:=by rfl):lx X Xw (.Compare a [.In] [b] pos) (bH (d2 (wB false) δa δb)):=eo (GI hu) Gf ha hb hm
end
end L3
namespace L3
def JL(n:Nat)(δs:DA):DS:=λ_=>af
end L3
namespace K1
open PySem PySem.Spec L2 L3
open PyProof.Rows hiding St
def xM:DS:=(aX (fF (dA hX (aC (dV 0) (aC (dC (.raw (.ty "int"))) aN))) (EC (dA hX (aC (dV 0) (aC (dC (.raw (.ty "bool"))) aN))))))
def a_:List D->M D:=bS 1 (xM)
def vQ:DS:=(aX (fF (dA hX (aC (dV 0) (aC (dC (.raw (.ty "str"))) aN))) (fF (d2 lH (dA bh (aC (dV 0) aN)) (dC (.int 1))) (d2 (AQ false) (dV 0) (dC (.str "abcdef"))))))
def bW:List D->M D:=bS 1 (vQ)
def pW:DS:=(aX (bB 0 (λZ=>(aC (dA bh (aC (d2 aU (dV 0) (dC (.int 0))) aN)) aN) Z>>=gc) cH (dA dF (aC (dV 2) (aC (dV 0) aN)))))
def aW:List D->M D:=bS 2 (pW)
def vU:DS:=(aX (d2 qa (d2 aU (dV 0) (d2 aU (dV 1) (dC (.int 0)))) (d2 aU (dV 1) (dC (.int 1)))))
def bK:List D->M D:=bS 2 (vU)
def xK:DS:=(ay (bg 3 (dA rR (aC (d2 gG (d2 aU (dV 0) (dC (.int 0))) (d2 aU (dV 1) (dC (.int 0)))) aN))) (ay (bg 4 (dA rR (aC (d2 gG (d2 aU (dV 0) (dC (.int 1))) (d2 aU (dV 1) (dC (.int 1)))) aN))) (ay (fb (bH (d2 lH (dV 2) (dC (.int 4)))) (aX (d2 lH (d2 cy (dV 3) (dV 4)) (dC (.int 1)))) bY) (aX (d2 lH (dA qd (aC (dV 3) (aC (dV 4) aN))) (dC (.int 1)))))))
def df:List D->M D:=bS 5 (xK)
def Ew:DS:=(ay (vA 1) (ay (λZ=>noex ((dq (putN 2) (A5 (de (dV 0)) (λZ=>(dV 0) Z>>=gK)) (b_ [2] (eU 1 (dV 2) (dC (.bl true))))) Z)) (t6 1 (aX (dV 1)))))
def g9:List D->M D:=bS 3 (Ew)
def pY:DS:=(ay (fb (bH (d2 lH (dV 0) (dA eF aN))) (aX (d2 iN (dC (.int 7)) (dV 1))) bY) (aX (d2 cy (d2 AR (dV 0) (d2 kF (dV 1) (dA bh (aC (dV 0) aN)))) (d2 iN (dC (.int 6553)) (d2 p_ (dV 1) (dA bh (aC (dV 0) aN)))))))
def fK:List D->M D:=bS 2 (pY)
def vR:DS:=(ay (fb (lq (cG (b9 (dA hX (aC (dV 0) (aC (dC (.raw (.ty "str"))) aN))))) (cG (bH (vY (λi j=>decide (i<=j)) (λi j=>decide (i<=j)) (dC (.int 1)) (dA bh (aC (dV 0) aN)) (dC (.int 8)))))) (aX (dC (.bl false))) bY) (aX (dA allM (aC (bB 0 (λZ=>(dV 0) Z>>=Hm) cH (aq 1 bW (aC (dV 0) aN))) aN))))
def fJ:List D->M D:=bS 1 (vR)
def rQ:DS:=(ay (fb (lq (cG (b9 (dA hX (aC (dV 1) (aC (dC (.raw (.ty "tuple"))) aN))))) (bH (d2 kr (dA bh (aC (dV 1) aN)) (dC (.int 2))))) (aX (dC (.bl false))) bY) (ay (fb (lq (cG (b9 (aq 1 a_ (aC (d2 aU (dV 1) (dC (.int 0))) aN)))) (cG (b9 (aq 1 a_ (aC (d2 aU (dV 1) (dC (.int 1))) aN))))) (aX (dC (.bl false))) bY) (aX (fF (vY (λi j=>decide (i<=j)) (λi j=>decide (i<j)) (dC (.int 0)) (d2 aU (dV 1) (dC (.int 0))) (dA bh (aC (dV 0) aN))) (vY (λi j=>decide (i<=j)) (λi j=>decide (i<j)) (dC (.int 0)) (d2 aU (dV 1) (dC (.int 1))) (dA bh (aC (d2 aU (dV 0) (dC (.int 0))) aN)))))))
def jw:List D->M D:=bS 2 (rQ)
def vW:DS:=(fb (lq (cG (b9 (aq 1 a_ (aC (dV 0) aN)))) (bH (d2 (C4 true) (dV 0) (dA dF (aC (dC (.int 4)) (aC (dC (.int 8)) aN)))))) (JL 1 (aC (dC (.str "ways are 4 or 8")) aN)) bY)
def bL:List D->M D:=bS 1 (vW)
def vO:DS:=(ay (tB 1) (ay (λZ=>noex ((dq (putN 2) (λZ=>(aC (dA bh (aC (dV 0) aN)) aN) Z>>=gc) (b_ [2] (B_ 1 (aq 2 aW (aC (dV 0) (aC (dV 2) aN)))))) Z)) (t6 1 (aX (dV 1)))))
def cq:List D->M D:=bS 3 (vO)
def tW:DS:=(ay (tB 3) (ay (λZ=>noex ((dq (putN 4) (λZ=>(aC (dA qd (aC (d2 gG (d2 aU (dV 1) (dC (.int 0))) (dC (.int 1))) (aC (dC (.int 0)) aN))) (aC (dA zA (aC (d2 cy (d2 aU (dV 1) (dC (.int 0))) (dC (.int 2))) (aC (dA bh (aC (dV 0) aN)) aN))) aN)) Z>>=rE) (b_ [4,5] (dq (putN 5) (λZ=>(aC (dA qd (aC (d2 gG (d2 aU (dV 1) (dC (.int 1))) (dC (.int 1))) (aC (dC (.int 0)) aN))) (aC (dA zA (aC (d2 cy (d2 aU (dV 1) (dC (.int 1))) (dC (.int 2))) (aC (dA bh (aC (d2 aU (dV 0) (dC (.int 0))) aN)) aN))) aN)) Z>>=rE) (b_ [5] (fb (b9 (aq 3 df (aC (dV 1) (aC (dA dF (aC (dV 4) (aC (dV 5) aN))) (aC (dV 2) aN))))) (jb 3 (dA dF (aC (dV 4) (aC (dV 5) aN)))) bY))))) Z)) (t6 3 (aX (dV 3)))))
def a8:List D->M D:=bS 6 (tW)
def mV:DS:=(ay (bg 3 (d2 kF (d2 cy (d2 iN (d2 kF (aq 2 fK (aC (dV 0) (aC (dV 1) aN))) (dC (.int 2147483563))) (dC (.int 69069))) (d2 iN (dC (.int 104723)) (d2 cy (dV 1) (dC (.int 1))))) (dC (.int 2147483563)))) (ay (bg 3 (d2 kF (d2 cy (d2 iN (dV 3) (dV 3)) (d2 p_ (dV 3) (dC (.int 3)))) (dC (.int 2147483399)))) (aX (d2 kF (d2 p_ (d2 kF (d2 cy (d2 iN (dV 3) (dV 3)) (d2 p_ (dV 3) (dC (.int 7)))) (dC (.int 2147483647))) (dC (.int 11))) (dV 2)))))
def aR:List D->M D:=bS 4 (mV)
def pX:DS:=(ay (fb (lq (cG (b9 (dA hX (aC (dV 0) (aC (dC (.raw (.ty "tuple"))) aN))))) (cG (bH (vY (λi j=>decide (i<=j)) (λi j=>decide (i<=j)) (dC (.int 1)) (dA bh (aC (dV 0) aN)) (dC (.int 8)))))) (aX (dC (.bl false))) bY) (ay (fb (cG (b9 (dA allM (aC (bB 0 (uh (dV 0)) cH (aq 1 fJ (aC (dV 0) aN))) aN)))) (aX (dC (.bl false))) bY) (aX (dA allM (aC (bB 0 (uh (dV 0)) cH (d2 lH (dA bh (aC (dV 0) aN)) (dA bh (aC (d2 aU (dV 1) (dC (.int 0))) aN)))) aN)))))
def g8:List D->M D:=bS 1 (pX)
def vV:DS:=(fb (cG (b9 (aq 2 jw (aC (dV 0) (aC (dV 1) aN))))) (JL 2 (aC (dC (.str "a tuple (row, column) on the board is asked for")) aN)) bY)
def cu:List D->M D:=bS 2 (vV)
def tT:DS:=(ay (bg 3 (aq 2 bK (aC (dV 0) (aC (dV 1) aN)))) (aX (bB 0 (de (aq 3 a8 (aC (dV 0) (aC (dV 1) (aC (dV 2) aN))))) (bH (d2 lH (aq 2 bK (aC (dV 1) (aC (dV 0) aN))) (dV 4))) (dV 0))))
def cx:List D->M D:=bS 4 (tT)
def vS:DS:=(ay (bg 3 (d2 cy (dC (.int 1)) (aq 3 aR (aC (dV 0) (aC (dV 1) (aC (dV 2) aN)))))) (ay (bg 4 (d2 cy (dC (.int 1)) (aq 3 aR (aC (dV 0) (aC (d2 cy (dV 1) (dC (.int 1))) (aC (dV 2) aN)))))) (ay (bg 5 (d2 eP (dA eF (aC (dC (.str "ab")) (aC (dC (.str "abc")) (aC (dC (.str "aab")) (aC (dC (.str "fa")) aN))))) (aq 3 aR (aC (dV 0) (aC (d2 cy (dV 1) (dC (.int 2))) (aC (dC (.int 4)) aN)))))) (ay (bg 6 (dA dF aN)) (ay (λZ=>noex ((dq (putN 7) (λZ=>(aC (dV 3) aN) Z>>=gc) (b_ [7,8] (ay (bg 8 (bB 0 (λZ=>(aC (dV 4) aN) Z>>=gc) cH (d2 qa (dV 6) (aq 3 aR (aC (dV 1) (aC (d2 cy (d2 cy (d2 cy (dV 2) (dC (.int 3))) (d2 iN (dC (.int 7)) (dV 8))) (dV 0)) (aC (dA bh (aC (dV 6) aN)) aN))))))) (bg 6 (d2 uD (dV 6) (dA dF (aC (dM Jc joinM (dC (.str "")) (aC (dV 8) aN)) aN))))))) Z)) (aX (dV 6)))))))
def eE:List D->M D:=bS 9 (vS)
def tV:DS:=(fb (cG (b9 (aq 1 g8 (aC (dV 0) aN)))) (JL 0 (aC (dC (.str "a tuple of 1 to 8 texts of 1 to 8 letters, all as long, is asked for")) aN)) bY)
def bx:List D->M D:=bS 1 (tV)
def tY:DS:=(ay (rF 3 (λZ=>(dV 1) Z>>=λx=>(dC .non) Z>>=λy=>kz x y)) (ay (bg 4 (dA eF (aC (dV 1) aN))) (ay (λZ=>noex ((pF (b9 (dV 4)) (b_ [5,6,7] (ay (tB 5) (ay (dq (putN 6) (de (dV 4)) (b_ [6,7] (dq (putN 7) (de (aq 3 cx (aC (dV 0) (aC (dV 6) (aC (dV 2) aN))))) (b_ [7] (fb (yV (bH (d2 (eO true) (dV 7) (dV 3)))) (ay (eU 3 (dV 7) (dV 6)) (jb 5 (dV 7))) bY))))) (t6 5 (bg 4 (dV 5))))))) Z)) (t6 3 (aX (dV 3))))))
def bp:List D->M D:=bS 8 (tY)
def md:DS:=(ay (fQ (aq 1 bx (aC (dV 0) aN))) (ay (fQ (aq 1 bL (aC (dV 1) aN))) (ay (fQ (aq 2 cu (aC (dV 0) (aC (dV 2) aN)))) (fQ (aq 2 cu (aC (dV 0) (aC (dV 3) aN)))))))
def bf:List D->M D:=bS 4 (md)
def z9:DS:=(ay (fQ (aq 4 bf (aC (dV 0) (aC (dV 1) (aC (dV 2) (aC (dV 3) aN)))))) (aX (d2 (eO false) (dV 3) (aq 3 bp (aC (dV 0) (aC (dV 2) (aC (dV 1) aN)))))))
def fo:List D->M D:=bS 4 (z9)
def Fl:DS:=(ay (fQ (aq 4 bf (aC (dV 0) (aC (dV 1) (aC (dV 2) (aC (dV 3) aN)))))) (ay (bg 4 (aq 3 bp (aC (dV 0) (aC (dV 3) (aC (dV 1) aN))))) (ay (fb (bH (d2 (eO true) (dV 2) (dV 4))) (aX (dC .non)) bY) (ay (rF 5 (λZ=>(aC (dV 2) aN) Z>>=Kf)) (ay (λZ=>noex ((pF (yV (bH (d2 kr (d2 eP (dV 5) (d1 sC (dC (.int 1)))) (dV 3)))) (jb 5 (CP (d2 cz (dV 4) (d2 eP (dV 5) (d1 sC (dC (.int 1)))))))) Z)) (t6 5 (aX (dV 5))))))))
def mj:List D->M D:=bS 6 (Fl)
def tX:DS:=(ay (vA 1) (ay (λZ=>noex ((dq (yO [2,3]) (λZ=>(aC (dV 0) aN) Z>>=yc) (b_ [2,3,4] (dq (putN 4) (de (dV 3)) (b_ [4] (eU 1 (dV 4) (dV 2)))))) Z)) (t6 1 (aX (dV 1)))))
def bG:List D->M D:=bS 5 (tX)
def vP:DS:=(ay (rF 2 (FI (λZ=>(dV 1) Z>>=λx=>(dC (.int 0)) Z>>=λy=>kz x y) (λZ=>(dV 1) Z>>=λx=>(dC (.int 0)) Z>>=λy=>me x y))) (ay (bg 3 (dA eF (aC (dV 1) aN))) (ay (λZ=>noex ((pF (b9 (dV 3)) (b_ [4,5,6] (ay (tB 4) (ay (dq (putN 5) (de (dV 3)) (b_ [5,6] (dq (putN 6) (A5 (de (d2 cz (dV 0) (dV 5))) (λZ=>(d2 cz (dV 0) (dV 5)) Z>>=gK)) (b_ [6] (fb (yV (bH (d2 (eO true) (dV 6) (dV 2)))) (ay (eU 2 (dV 6) (CP (d2 cy (d2 cz (dV 2) (dV 5)) (dC (.int 1))))) (jb 4 (dV 6))) bY))))) (t6 4 (bg 3 (dV 4))))))) Z)) (t6 2 (aX (dV 2))))))
def bt:List D->M D:=bS 7 (vP)
def vT:DS:=(ay (bg 1 (dA eF aN)) (ay (λZ=>noex ((dq (putN 2) (λZ=>(aC (dA bh (aC (dV 0) aN)) aN) Z>>=gc) (b_ [2] (bg 1 (d2 qK (dV 1) (bB 0 (λZ=>(aC (dA bh (aC (d2 aU (dV 0) (dC (.int 0))) aN)) aN) Z>>=gc) cH (dA dF (aC (dV 3) (aC (dV 0) aN)))))))) Z)) (aX (dV 1))))
def cT:List D->M D:=bS 3 (vT)
def xN:DS:=(aX (d2 qa (d2 aU (dV 0) (d2 aU (dV 1) (dC (.int 0)))) (d2 aU (dV 1) (dC (.int 1)))))
def dS:List D->M D:=bS 2 (xN)
def p0:DS:=(fb (lq (cG (b9 (dA hX (aC (dV 0) (aC (dC (.raw (.ty "list"))) aN))))) (cG (b9 (dA allM (aC (bB 0 (de (dV 0)) cH (aq 1 bW (aC (dV 0) aN))) aN))))) (JL 3 (aC (dC (.str "a list of letters from a to f is asked for")) aN)) bY)
def dE:List D->M D:=bS 1 (p0)
def qu:DS:=(fb (lq (cG (b9 (aq 1 a_ (aC (dV 1) aN)))) (cG (bH (vY (λi j=>decide (i<=j)) (λi j=>decide (i<j)) (dC (.int 0)) (dV 1) (dV 0))))) (JL 4 (aC (dC (.str "the number of a patch of the board is asked for")) aN)) bY)
def cK:List D->M D:=bS 2 (qu)
def pZ:DS:=(ay (bg 3 (aq 1 bG (aC (dV 2) aN))) (ay (Ff 4) (ay (λZ=>noex ((vz 4 5 6 7 (de (aq 1 cq (aC (dV 0) aN))) (d2 cz (dV 3) (dV 5)) (de (aq 3 a8 (aC (dV 0) (aC (dV 5) (aC (dV 1) aN))))) (bH (d2 kr (d2 cz (dV 3) (dV 7)) (d2 cz (dV 3) (dV 5)))) (d2 cz (dV 3) (dV 7))) Z)) (t6 4 (aX (dV 4))))))
def cj:List D->M D:=bS 8 (pZ)
def tU:DS:=(ay (bg 3 (aq 1 g9 (aC (dV 1) aN))) (ay (vA 4) (ay (λZ=>noex ((dq (putN 5) (de (dV 1)) (b_ [5] (eU 4 (dV 5) (bB 0 (de (aq 3 a8 (aC (dV 0) (aC (dV 5) (aC (dV 2) aN))))) (bH (d2 (eO false) (dV 0) (dV 4))) (dV 0))))) Z)) (t6 4 (aX (dV 4))))))
def eV:List D->M D:=bS 6 (tU)
def qt:DS:=(aX (dA dF (aC (aq 3 aR (aC (dV 0) (aC (dV 1) (aC (dA bh (aC (dV 2) aN)) aN)))) (aC (aq 3 aR (aC (dV 0) (aC (d2 cy (dV 1) (dC (.int 1))) (aC (dA bh (aC (d2 aU (dV 2) (dC (.int 0))) aN)) aN)))) aN))))
def bJ:List D->M D:=bS 3 (qt)
def qr:DS:=(ay (tB 2) (ay (vA 3) (ay (λZ=>noex ((dq (putN 4) (de (aq 1 cq (aC (dV 0) aN))) (b_ [4,5] (fb (yV (bH (d2 (eO true) (dV 4) (dV 3)))) (ay (bg 5 (dA rJ (aC (aq 3 bp (aC (dV 0) (aC (dV 4) (aC (dV 1) aN)))) aN))) (ay (jb 2 (dV 5)) (zV 3 (aq 1 g9 (aC (dV 5) aN))))) bY))) Z)) (t6 2 (aX (dV 2))))))
def bI:List D->M D:=bS 6 (qr)
def tZ:DS:=(ay (fQ (aq 1 bx (aC (dV 0) aN))) (ay (fQ (aq 1 bL (aC (dV 1) aN))) (ay (fQ (aq 1 dE (aC (dV 2) aN))) (ay (fQ (aq 2 cu (aC (dV 0) (aC (dV 3) aN)))) (ay (fQ (aq 2 cu (aC (dV 0) (aC (dV 4) aN)))) (ay (bg 5 (aq 3 eV (aC (dV 0) (aC (bB 0 (de (aq 1 cq (aC (dV 0) aN))) (bH (d2 (wB false) (aq 2 bK (aC (dV 1) (aC (dV 0) aN))) (dV 3))) (dV 0)) (aC (dV 1) aN))))) (ay (fb (bH (d2 (eO true) (dV 3) (dV 5))) (aX (dC .non)) bY) (aX (EB (aq 2 bt (aC (dV 5) (aC (dV 3) aN))) (dV 4))))))))))
def aG:List D->M D:=bS 6 (tZ)
def xO:DS:=(ay (fQ (aq 1 bx (aC (dV 0) aN))) (ay (fQ (aq 1 bL (aC (dV 1) aN))) (ay (bg 2 (aq 1 bG (aC (aq 2 bI (aC (dV 0) (aC (dV 1) aN))) aN))) (ay (tB 3) (ay (λZ=>noex ((dq (putN 4) (λZ=>(aC (dA bh (aC (dV 0) aN)) aN) Z>>=gc) (b_ [4] (jb 3 (bB 0 (de (aq 2 aW (aC (dV 0) (aC (dV 4) aN)))) cH (d2 cz (dV 3) (dV 0)))))) Z)) (t6 3 (aX (dV 3))))))))
def dU:List D->M D:=bS 5 (xO)
def l_:DS:=(ay (fQ (aq 4 bf (aC (dV 0) (aC (dV 1) (aC (dV 2) (aC (dV 3) aN)))))) (ay (bg 4 (aq 2 bI (aC (dV 0) (aC (dV 1) aN)))) (ay (bg 5 (aq 1 bG (aC (dV 4) aN))) (aX (d2 cz (aq 2 bt (aC (aq 3 cj (aC (dV 0) (aC (dV 1) (aC (dV 4) aN)))) (aC (d2 cz (dV 5) (dV 2)) aN))) (d2 cz (dV 5) (dV 3)))))))
def aH:List D->M D:=bS 6 (l_)
def CA:DS:=(ay (fQ (aq 1 bx (aC (dV 0) aN))) (ay (fQ (aq 1 bL (aC (dV 1) aN))) (aX (aq 3 cj (aC (dV 0) (aC (dC (.int 4)) (aC (aq 2 bI (aC (dV 0) (aC (dV 1) aN))) aN)))))))
def kC:List D->M D:=bS 2 (CA)
def z_:DS:=(ay (bg 4 (aq 2 kC (aC (dV 0) (aC (dV 1) aN)))) (ay (fQ (aq 2 cK (aC (dA qX (aC (dV 4) aN)) (aC (dV 2) aN)))) (ay (fQ (aq 2 cK (aC (dA qX (aC (dV 4) aN)) (aC (dV 3) aN)))) (aX (d2 cz (aq 2 bt (aC (dV 4) (aC (dV 2) aN))) (dV 3))))))
def fq:List D->M D:=bS 5 (z_)
def mW:DS:=(bg 1 (aq 3 eE (aC (dV 0) (aC (dC (.int 0)) (aC (dC (.int 3)) aN)))))
def mX:DS:=(bg 2 (dA eF (aC (dC (.str "a")) (aC (dC (.str "b")) (aC (dC (.str "c")) (aC (dC (.str "f")) aN))))))
def mY:DS:=(λZ=>noex ((dq (putN 3) (uh (dA dF (aC (dC (.int 4)) (aC (dC (.int 8)) aN)))) (b_ [3,4,5,6,7,8,9,10,11,12,13,14,15] (ay (bg 4 (aq 3 bJ (aC (dV 0) (aC (d2 cy (dC (.int 60)) (dV 3)) (aC (dV 1) aN))))) (ay (bg 5 (aq 3 bJ (aC (dV 0) (aC (d2 cy (dC (.int 80)) (dV 3)) (aC (dV 1) aN))))) (ay (bg 6 (dA eF (aC (aq 2 dS (aC (dV 1) (aC (dV 4) aN))) aN))) (ay (bg 7 (aq 2 dU (aC (dV 1) (aC (dV 3) aN)))) (dq (putN 8) (de (aq 1 cT (aC (dV 1) aN))) (b_ [8,9,10,11,12,13,14,15] (ay (bg 9 (aq 4 aH (aC (dV 1) (aC (dV 3) (aC (dV 4) (aC (dV 8) aN)))))) (ay (fb (bH (d2 kr (dV 9) (aq 4 aH (aC (dV 1) (aC (dV 3) (aC (dV 8) (aC (dV 4) aN))))))) (aX (dC (.bl false))) bY) (ay (fb (bH (d2 kr (d2 lH (dV 9) (dC (.int 0))) (aq 4 fo (aC (dV 1) (aC (dV 3) (aC (dV 4) (aC (dV 8) aN))))))) (aX (dC (.bl false))) bY) (ay (fb (bH (d2 C3 (dV 9) (d2 cy (aq 4 aH (aC (dV 1) (aC (dV 3) (aC (dV 4) (aC (dV 5) aN))))) (aq 4 aH (aC (dV 1) (aC (dV 3) (aC (dV 5) (aC (dV 8) aN)))))))) (aX (dC (.bl false))) bY) (ay (bg 10 (aq 4 fq (aC (dV 1) (aC (dV 3) (aC (d2 eP (d2 eP (dV 7) (d2 aU (dV 4) (dC (.int 0)))) (d2 aU (dV 4) (dC (.int 1)))) (aC (d2 eP (d2 eP (dV 7) (d2 aU (dV 8) (dC (.int 0)))) (d2 aU (dV 8) (dC (.int 1)))) aN)))))) (ay (fb (lq (bH (d2 C3 (dV 9) (dV 10))) (ky (bH (d2 lH (dV 3) (dC (.int 4)))) (bH (d2 kr (dV 9) (dV 10))))) (aX (dC (.bl false))) bY) (ay (bg 11 (aq 4 mj (aC (dV 1) (aC (dV 3) (aC (dV 4) (aC (dV 8) aN)))))) (ay (fb (bH (d2 kr (aq 5 aG (aC (dV 1) (aC (dV 3) (aC (dV 6) (aC (dV 4) (aC (dV 8) aN)))))) (Az (bH (d2 (g_ false) (dV 11) (dC .non))) (dC .non) (d2 gG (dA bh (aC (dV 11) aN)) (dC (.int 1)))))) (aX (dC (.bl false))) bY) (ay (bg 12 (dA rR (aC (d2 gG (d2 aU (dV 4) (dC (.int 0))) (d2 aU (dV 8) (dC (.int 0)))) aN))) (ay (bg 13 (dA rR (aC (d2 gG (d2 aU (dV 4) (dC (.int 1))) (d2 aU (dV 8) (dC (.int 1)))) aN))) (ay (bg 14 (Az (bH (d2 lH (dV 3) (dC (.int 4)))) (d2 cy (dV 12) (dV 13)) (dA qd (aC (dV 12) (aC (dV 13) aN))))) (ay (fb (bH (d2 kr (aq 5 aG (aC (dV 1) (aC (dV 3) (aC (dV 2) (aC (dV 4) (aC (dV 8) aN)))))) (dV 14))) (aX (dC (.bl false))) bY) (ay (bg 15 (aq 5 aG (aC (dV 1) (aC (dV 3) (aC (d2 qK (dV 6) (dA eF (aC (dC (.str "b")) aN))) (aC (dV 4) (aC (dV 8) aN))))))) (ay (fb (ky (bH (d2 (g_ true) (dV 11) (dC .non))) (lq (bH (d2 (g_ false) (dV 15) (dC .non))) (bH (d2 C3 (dV 15) (d2 gG (dA bh (aC (dV 11) aN)) (dC (.int 1))))))) (aX (dC (.bl false))) bY) (fb (ky (bH (d2 (g_ true) (dV 15) (dC .non))) (bH (d2 Ig (dV 15) (dV 14)))) (aX (dC (.bl false))) bY))))))))))))))))))))))) Z))
def mZ:DS:=(aX (dC (.bl true)))
def ma:DS:=(ay mW (ay mX (ay mY mZ)))
def jx:List D->M D:=bS 16 ma
structure Bl (K:Ph) (mg:Str->Option Value) (base:Heap) (cv:Nat->Value) (cA:Nat->Addr) (Cp:Addr):Prop where
 len:mg "len"=none
 isinstance:mg "isinstance"=none
 all:mg "all"=none
 abs:mg "abs"=none
 max:mg "max"=none
 min:mg "min"=none
 range:mg "range"=none
 str:mg "str"=none
 int:mg "int"=none
 bool:mg "bool"=none
 tuple:mg "tuple"=none
 list:mg "list"=none
 sorted:mg "sorted"=none
 enumerate:mg "enumerate"=none
 LETTERS:∃t,mg "LETTERS"=some (.str "abcdef" t)
 MOST_ROWS:∃t,mg "MOST_ROWS"=some (.int 8 t)
 MOST_COLUMNS:∃t,mg "MOST_COLUMNS"=some (.int 8 t)
section
variable{P:PX}{w:World}{K:Ph}{mg:Str->Option Value}{base:Heap}{cv:Nat->Value}{cA:Nat->Addr}{Cp:Addr}{f:Addr}
abbrev ki:Stmt:=top 11
def oW:List Str:=["thing"]
def o9:List Str:=["thing"]
def mR{j k:Nat}{A:Qm}(r:Room k A)(h:j<=k:=by decide):Room j A:=r.mono h
def cJ{N Q:List Str}{sc:Scope}(k:sc.kind= .function:=by rfl)(c:sc.isCoroutine=false:=by rfl)(g:sc.isGenerator=false:=by rfl)(p:N.take Q.length=Q:=by rfl)(h:N.Nodup/\(∀x∈Q,sc.names.lookup x=some .local\/sc.names.lookup x=some .cell)/\∀y∈sc.names,y.2≠ .free:=by decide+kernel):FnScope N Q sc:=⟨k,c,g,h.1,p,h.2.1,h.2.2⟩
def vD:FnScope oW o9 (ak ki):=cJ
def u6(B:Bl K mg base cv cA Cp)(T:bj K mg "is_whole" ki f):ao P w K mg base cv 1 "is_whole" 1 (a_):=
 az (N:=oW) (ps:=o9) T vD (λ_ _ _ _ _ _ us hl=>match us,hl with | [_],_=>rfl) λ_ _ _ _ _ _ hr=>
  (ar (aA (sY (ke rfl B.isinstance rfl (aa (ae (pv 0)) (aa (pj rfl B.int rfl) ag))) (xl (GW (ke rfl B.isinstance rfl (aa (ae (pv 0)) (aa (pj rfl B.bool rfl) ag))))))))
abbrev je:Stmt:=top 12
def mx:List Str:=["thing"]
def mK:List Str:=["thing"]
def tF:FnScope mx mK (ak je):=cJ
def sJ(B:Bl K mg base cv cA Cp)(T:bj K mg "is_letter" je f):ao P w K mg base cv 1 "is_letter" 1 (bW):=
 az (N:=mx) (ps:=mK) T tF (λ_ _ _ _ _ _ us hl=>match us,hl with | [_],_=>rfl) λ_ _ _ _ _ _ hr=>
  (ar (aA (sY (ke rfl B.isinstance rfl (aa (ae (pv 0)) (aa (pj rfl B.str rfl) ag))) (sY (vg hr.units (bT rfl B.len (aa (ae (pv 0)) ag)) av) (xl (GU (ae (pv 0)) (DX rfl B.LETTERS (by decide))))))))
abbrev dI:Stmt:=top 20
def dG:List Str:=["board","row"]
def iZ:List Str:=["board","row"]
def nq:FnScope dG iZ (ak dI):=cJ
def ng(B:Bl K mg base cv cA Cp)(T:bj K mg "cells_of_row" dI f):ao P w K mg base cv 1 "cells_of_row" 2 (aW):=
 az (N:=dG) (ps:=iZ) T nq (λ_ _ _ _ _ _ us hl=>match us,hl with | [_,_],_=>rfl) λ_ _ _ _ _ _ hr=>
  (ar (aA (ek (tn:=["column"]) (n:=0) (cf (N:=dG) (osc:=(ak dI)) rfl rfl (by decide+kernel)) rfl rfl (dh rfl B.range (aa (bT rfl B.len (aa (a7 (ae (pv 0)) av) ag)) ag)) (λ_ _ _ _ _ _ _=>dP (show QL (((["column"]:List Str))++dj ["column"] dG) by decide+kernel) rfl rfl) (λ_ _ _ _ _ _=>eJ) (λ_ _ _ _ _ _=>(iq (aa (ae (pv 2)) (aa (ae (pv 0)) ag)))))))
abbrev jg:Stmt:=top 22
def mz:List Str:=["board","cell"]
def mO:List Str:=["board","cell"]
def tG:FnScope mz mO (ak jg):=cJ
def sO(B:Bl K mg base cv cA Cp)(T:bj K mg "letter_of" jg f):ao P w K mg base cv 1 "letter_of" 2 (bK):=
 az (N:=mz) (ps:=mO) T tG (λ_ _ _ _ _ _ us hl=>match us,hl with | [_,_],_=>rfl) λ_ _ _ _ _ _ hr=>
  (ar (aA (xk (a7 (ae (pv 0)) (a7 (ae (pv 1)) av)) (a7 (ae (pv 1)) av))))
abbrev kh:Stmt:=top 23
def oV:List Str:=["one","other","ways","down","along"]
def o7:List Str:=["one","other","ways"]
def jj:FnScope oV o7 (ak kh):=cJ
def u4(B:Bl K mg base cv cA Cp)(T:bj K mg "are_next" kh f):ao P w K mg base cv 1 "are_next" 3 (df):=
 az (N:=oV) (ps:=o7) T jj (λ_ _ _ _ _ _ us hl=>match us,hl with | [_,_,_],_=>rfl) λ_ _ _ _ _ _ hr=>
  (ah (aE jj.nd rfl (.inl rfl) (sW rfl B.abs (aa (i8 (a7 (ae (pv 0)) av) (a7 (ae (pv 1)) av)) ag) rfl)) (ah (aE jj.nd rfl (.inl rfl) (sW rfl B.abs (aa (i8 (a7 (ae (pv 0)) av) (a7 (ae (pv 1)) av)) ag) rfl)) (ah (bz (vm hr.units (ae (pv 2)) av) (ar (aA (vg hr.units (b5 (ae (pv 3)) (ae (pv 4))) av))) a6) (ar (aA (vg hr.units (s8 rfl rfl B.max rfl (aa (ae (pv 3)) (aa (ae (pv 4)) ag))) av))))))
abbrev tE:Stmt:=top 25
def yw:List Str:=["things","found","thing"]
def yC:List Str:=["things"]
def pI:FnScope yw yC (ak tE):=cJ
def BA(B:Bl K mg base cv cA Cp)(T:bj K mg "keyed" tE f):ao P w K mg base cv 1 "keyed" 1 (g9):=
 az (N:=yw) (ps:=yC) T pI (λ_ _ _ _ _ _ us hl=>match us,hl with | [_],_=>rfl) λ_ _ _ _ _ _ hr=>
  (ah (k9 pI.nd rfl (.inl rfl)) (ah (cO (bX PL rfl (yI (bE (ae (pv 0))) (vh (ae (pv 0)))) (a5 pI.nd rfl (.inl rfl)) bF (bq (ar (i9 hr.units (pv 1) (ae (pv 2)) fP))))) (ar (cY (i:=1) (aA (ae (pv 1)))))))
abbrev iz:Stmt:=top 31
def kP:List Str:=["found","numbers","number","patch","cell"]
def kZ:List Str:=["found"]
def c8:FnScope kP kZ (ak iz):=cJ
def ql(B:Bl K mg base cv cA Cp)(T:bj K mg "numbers_of" iz f):ao P w K mg base cv 1 "numbers_of" 1 (bG):=
 az (N:=kP) (ps:=kZ) T c8 (λ_ _ _ _ _ _ us hl=>match us,hl with | [_],_=>rfl) λ_ _ _ _ _ _ hr=>
  (ah (k9 c8.nd rfl (.inl rfl)) (ah (cO (bX PL rfl (BK rfl B.enumerate (aa (ae (pv 0)) ag)) (G7 rfl (vj (a5 c8.nd rfl (.inl rfl)) (vj (a5 c8.nd rfl (.inl rfl)) D7))) (Ef (is:=[2,3])) (bq (ar (bX PL rfl (bE (ae (pv 3))) (a5 c8.nd rfl (.inl rfl)) bF (bq (ar (i9 hr.units (pv 1) (ae (pv 4)) (ae (pv 2)))))))))) (ar (cY (i:=1) (aA (ae (pv 1)))))))
abbrev jd:Stmt:=top 34
def mw:List Str:=["near","start","far","ring","further","thing","other"]
def mJ:List Str:=["near","start"]
def cF:FnScope mw mJ (ak jd):=cJ
def sI(B:Bl K mg base cv cA Cp)(T:bj K mg "distances" jd f):ao P w K mg base cv 1 "distances" 2 (bt):=
 az (N:=mw) (ps:=mJ) T cF (λ_ _ _ _ _ _ us hl=>match us,hl with | [_,_],_=>rfl) λ_ _ _ _ _ _ hr=>
  (ah (pA cF.nd rfl (.inl rfl) (DY (rl hr.units (ae (pv 1)) av) (zM hr.units (ae (pv 1)) av))) (ah (aE cF.nd rfl (.inl rfl) (i6 (aa (ae (pv 1)) ag))) (ah (cO (lU PL (cE (ae (pv 3))) (bq (ah (jE cF.nd rfl (.inl rfl)) (ah (bX PL rfl (bE (ae (pv 3))) (a5 cF.nd rfl (.inl rfl)) bF (bq (ar (bX PL rfl (yI (bE (d9 hr.units (ae (pv 0)) (ae (pv 5)))) (vh (d9 hr.units (ae (pv 0)) (ae (pv 5))))) (a5 cF.nd rfl (.inl rfl)) bF (bq (ar (bz (s_ (gU hr.units (ae (pv 6)) (ae (pv 2)))) (ah (i9 hr.units (pv 2) (ae (pv 6)) (E9 (b5 (d9 hr.units (ae (pv 2)) (ae (pv 5))) av))) (ar (jD (pv 4) (ae (pv 6))))) a6))))))) (ar (cY (i:=4) (aE cF.nd rfl (.inl rfl) (ae (pv 4)))))))))) (ar (cY (i:=2) (aA (ae (pv 2))))))))
abbrev kj:Stmt:=top 47
def oX:List Str:=["_law_script","_law_k"]
def o_:List Str:=["_law_script","_law_k"]
def vE:FnScope oX o_ (ak kj):=cJ
def u7(B:Bl K mg base cv cA Cp)(T:bj K mg "_law_cell" kj f):ao P w K mg base cv 1 "_law_cell" 2 (fK):=
 az (N:=oX) (ps:=o_) T vE (λ_ _ _ _ _ _ us hl=>match us,hl with | [_,_],_=>rfl) λ_ _ _ _ _ _ hr=>
  (ah (bz (vm hr.units (ae (pv 0)) (i6 ag)) (ar (aA (kg av (ae (pv 1))))) a6) (ar (aA (b5 (GV (ae (pv 0)) (lR (ae (pv 1)) (bT rfl B.len (aa (ae (pv 0)) ag)))) (kg av (sZ (ae (pv 1)) (bT rfl B.len (aa (ae (pv 0)) ag))))))))
abbrev gh:Stmt:=top 50
def f7:List Str:=["_law_board_here","_law_found","_law_row"]
def mM:List Str:=["_law_board_here"]
def fi:FnScope f7 mM (ak gh):=cJ
def sM(B:Bl K mg base cv cA Cp)(T:bj K mg "_law_cells" gh f):ao P w K mg base cv 1 "_law_cells" 1 (cT):=
 az (N:=f7) (ps:=mM) T fi (λ_ _ _ _ _ _ us hl=>match us,hl with | [_],_=>rfl) λ_ _ _ _ _ _ hr=>
  (ah (aE fi.nd rfl (.inl rfl) (i6 ag)) (ah (cO (bX PL rfl (dh rfl B.range (aa (bT rfl B.len (aa (ae (pv 0)) ag)) ag)) (a5 fi.nd rfl (.inr rfl)) bF (bq (ar (aE fi.nd rfl (.inl rfl) (yD (ae (pv 1)) (ek (tn:=["_law_column"]) (n:=0) (cf (N:=f7) (osc:=(ak gh)) rfl rfl (by decide+kernel)) rfl rfl (dh rfl B.range (aa (bT rfl B.len (aa (a7 (ae (pv 0)) av) ag)) ag)) (λ_ _ _ _ _ _ _=>dP (show QL (((["_law_column"]:List Str))++dj ["_law_column"] f7) by decide+kernel) rfl rfl) (λ_ _ _ _ _ _=>eJ) (λ_ _ _ _ _ _=>(iq (aa (ae (pv 3)) (aa (ae (pv 0)) ag))))))))))) (ar (aA (ae (pv 1))))))
abbrev kl:Stmt:=top 51
def oY:List Str:=["_law_board_here","_law_cell_here"]
def pb:List Str:=["_law_board_here","_law_cell_here"]
def vF:FnScope oY pb (ak kl):=cJ
def u9(B:Bl K mg base cv cA Cp)(T:bj K mg "_law_sign" kl f):ao P w K mg base cv 1 "_law_sign" 2 (dS):=
 az (N:=oY) (ps:=pb) T vF (λ_ _ _ _ _ _ us hl=>match us,hl with | [_,_],_=>rfl) λ_ _ _ _ _ _ hr=>
  (ar (aA (xk (a7 (ae (pv 0)) (a7 (ae (pv 1)) av)) (a7 (ae (pv 1)) av))))
abbrev lg:Stmt:=top 13
def kL:List Str:=["thing"]
def ve:List Str:=["thing"]
def zW:FnScope kL ve (ak lg):=cJ
def zG(B:Bl K mg base cv cA Cp)(iI:ao P w K mg base cv 1 "is_letter" 1 bW)(T:bj K mg "is_row" lg f):ao P w K mg base cv 2 "is_row" 1 (fJ):=
 az (N:=kL) (ps:=ve) T zW (λ_ _ _ _ _ _ us hl=>match us,hl with | [_],_=>rfl) λ_ _ _ _ _ _ hr=>
  (ah (bz (PDW.t (ir (cC (cE (ke rfl B.isinstance rfl (aa (ae (pv 0)) (aa (pj rfl B.str rfl) ag))))) (e_ (cC (xp o6 o6 av (bT rfl B.len (aa (ae (pv 0)) ag)) (yF rfl B.MOST_COLUMNS)))))) (ar (aA fP)) a6) (ar (aA (sX rfl rfl B.all rfl (aa (ek (tn:=["sign"]) (n:=0) (cf (N:=kL) (osc:=(ak lg)) rfl rfl (by decide+kernel)) rfl rfl (D0 (ae (pv 0))) (λ_ _ _ _ _ _ _=>dP (show QL (((["sign"]:List Str))++dj ["sign"] kL) by decide+kernel) rfl rfl) (λ_ _ _ _ _ _=>eJ) (λ_ _ _ _ _ _=>(aO iI (mR hr) rfl bP (aa (ae (pv 0)) ag) rfl))) ag)))))
abbrev l6:Stmt:=top 15
def q_:List Str:=["board","thing"]
def rj:List Str:=["board","thing"]
def xt:FnScope q_ rj (ak l6):=cJ
def xb(B:Bl K mg base cv cA Cp)(dR:ao P w K mg base cv 1 "is_whole" 1 a_)(T:bj K mg "is_cell" l6 f):ao P w K mg base cv 2 "is_cell" 2 (jw):=
 az (N:=q_) (ps:=rj) T xt (λ_ _ _ _ _ _ us hl=>match us,hl with | [_,_],_=>rfl) λ_ _ _ _ _ _ hr=>
  (ah (bz (PDW.t (ir (cC (cE (ke rfl B.isinstance rfl (aa (ae (pv 1)) (aa (pj rfl B.tuple rfl) ag))))) (e_ (mT hr.units (bT rfl B.len (aa (ae (pv 1)) ag)) av)))) (ar (aA fP)) a6) (ah (bz (PDW.t (ir (cC (cE (aO dR (mR hr) rfl aT (aa (a7 (ae (pv 1)) av) ag) rfl))) (e_ (cC (cE (aO dR (mR hr) rfl aT (aa (a7 (ae (pv 1)) av) ag) rfl)))))) (ar (aA fP)) a6) (ar (aA (sY (BH o6 yB av (a7 (ae (pv 1)) av) (bT rfl B.len (aa (ae (pv 0)) ag))) (xl (BH o6 yB av (a7 (ae (pv 1)) av) (bT rfl B.len (aa (a7 (ae (pv 0)) av) ag)))))))))
abbrev dJ:Stmt:=top 18
def dH:List Str:=["thing"]
def i5:List Str:=["thing"]
def nu:FnScope dH i5 (ak dJ):=cJ
def nj(B:Bl K mg base cv cA Cp)(iI:ao P w K mg base cv 1 "is_letter" 1 bW)(T:bj K mg "need_letters" dJ f):ao P w K mg base cv 2 "need_letters" 1 (dE):=
 az (N:=dH) (ps:=i5) T nu (λ_ _ _ _ _ _ us hl=>match us,hl with | [_],_=>rfl) λ_ _ _ _ _ _ hr=>
  (ar (bz (PDW.t (ir (cC (cE (ke rfl B.isinstance rfl (aa (ae (pv 0)) (aa (pj rfl B.list rfl) ag))))) (e_ (cC (cE (sX rfl rfl B.all rfl (aa (ek (tn:=["part"]) (n:=0) (cf (N:=dH) (osc:=(ak dJ)) rfl rfl (by decide+kernel)) rfl rfl (bE (ae (pv 0))) (λ_ _ _ _ _ _ _=>dP (show QL (((["part"]:List Str))++dj ["part"] dH) by decide+kernel) rfl rfl) (λ_ _ _ _ _ _=>eJ) (λ_ _ _ _ _ _=>(aO iI (mR hr) rfl bP (aa (ae (pv 0)) ag) rfl))) ag))))))) (ar gT) a6))
abbrev ji:Stmt:=top 19
def mC:List Str:=["thing"]
def mQ:List Str:=["thing"]
def tI:FnScope mC mQ (ak ji):=cJ
def sQ(B:Bl K mg base cv cA Cp)(dR:ao P w K mg base cv 1 "is_whole" 1 a_)(T:bj K mg "need_ways" ji f):ao P w K mg base cv 2 "need_ways" 1 (bL):=
 az (N:=mC) (ps:=mQ) T tI (λ_ _ _ _ _ _ us hl=>match us,hl with | [_],_=>rfl) λ_ _ _ _ _ _ hr=>
  (ar (bz (PDW.t (ir (cC (cE (aO dR (mR hr) rfl aT (aa (ae (pv 0)) ag) rfl))) (e_ (zP (ae (pv 0)) (iq (aa av (aa av ag))))))) (ar gT) a6))
abbrev jc:Stmt:=top 21
def mv:List Str:=["board","found","row"]
def mI:List Str:=["board"]
def iB:FnScope mv mI (ak jc):=cJ
def sH(B:Bl K mg base cv cA Cp)(fB:ao P w K mg base cv 1 "cells_of_row" 2 aW)(T:bj K mg "all_cells" jc f):ao P w K mg base cv 2 "all_cells" 1 (cq):=
 az (N:=mv) (ps:=mI) T iB (λ_ _ _ _ _ _ us hl=>match us,hl with | [_],_=>rfl) λ_ _ _ _ _ _ hr=>
  (ah (jE iB.nd rfl (.inl rfl)) (ah (cO (bX PL rfl (dh rfl B.range (aa (bT rfl B.len (aa (ae (pv 0)) ag)) ag)) (a5 iB.nd rfl (.inl rfl)) bF (bq (ar (Ea (pv 1) (aO fB (mR hr) rfl bP (aa (ae (pv 0)) (aa (ae (pv 2)) ag)) rfl)))))) (ar (cY (i:=1) (aA (ae (pv 1)))))))
abbrev iw:Stmt:=top 24
def kO:List Str:=["board","cell","ways","found","row","column"]
def kY:List Str:=["board","cell","ways"]
def ez:FnScope kO kY (ak iw):=cJ
def qk(B:Bl K mg base cv cA Cp)(wc:ao P w K mg base cv 1 "are_next" 3 df)(T:bj K mg "next_cells" iw f):ao P w K mg base cv 2 "next_cells" 3 (a8):=
 az (N:=kO) (ps:=kY) T ez (λ_ _ _ _ _ _ us hl=>match us,hl with | [_,_,_],_=>rfl) λ_ _ _ _ _ _ hr=>
  (ah (jE ez.nd rfl (.inl rfl)) (ah (cO (bX PL rfl (pk rfl B.range (aa (s8 rfl rfl B.max rfl (aa (i8 (a7 (ae (pv 1)) av) av) (aa av ag))) (aa (BI rfl rfl B.min rfl (aa (b5 (a7 (ae (pv 1)) av) av) (aa (bT rfl B.len (aa (ae (pv 0)) ag)) ag))) ag))) (a5 ez.nd rfl (.inl rfl)) bF (bq (ar (bX PL rfl (pk rfl B.range (aa (s8 rfl rfl B.max rfl (aa (i8 (a7 (ae (pv 1)) av) av) (aa av ag))) (aa (BI rfl rfl B.min rfl (aa (b5 (a7 (ae (pv 1)) av) av) (aa (bT rfl B.len (aa (a7 (ae (pv 0)) av) ag)) ag))) ag))) (a5 ez.nd rfl (.inl rfl)) bF (bq (ar (bz (cE (aO wc (mR hr) rfl bP (aa (ae (pv 1)) (aa (iq (aa (ae (pv 4)) (aa (ae (pv 5)) ag))) (aa (ae (pv 2)) ag))) rfl)) (ar (jD (pv 3) (iq (aa (ae (pv 4)) (aa (ae (pv 5)) ag))))) a6)))))))) (ar (cY (i:=3) (aA (ae (pv 3)))))))
abbrev gu:Stmt:=top 42
def jP:List Str:=["many","thing"]
def jT:List Str:=["many","thing"]
def pK:FnScope jP jT (ak gu):=cJ
def o5(B:Bl K mg base cv cA Cp)(dR:ao P w K mg base cv 1 "is_whole" 1 a_)(T:bj K mg "need_number" gu f):ao P w K mg base cv 2 "need_number" 2 (cK):=
 az (N:=jP) (ps:=jT) T pK (λ_ _ _ _ _ _ us hl=>match us,hl with | [_,_],_=>rfl) λ_ _ _ _ _ _ hr=>
  (ar (bz (PDW.t (ir (cC (cE (aO dR (mR hr) rfl aT (aa (ae (pv 1)) ag) rfl))) (e_ (cC (xp o6 yB av (ae (pv 1)) (ae (pv 0))))))) (ar gT) a6))
abbrev jf:Stmt:=top 48
def my:List Str:=["_law_script","_law_k","_law_many","_law_cell_here"]
def mN:List Str:=["_law_script","_law_k","_law_many"]
def iC:FnScope my mN (ak jf):=cJ
def sN(B:Bl K mg base cv cA Cp)(wg:ao P w K mg base cv 1 "_law_cell" 2 fK)(T:bj K mg "_law_drawn" jf f):ao P w K mg base cv 2 "_law_drawn" 3 (aR):=
 az (N:=my) (ps:=mN) T iC (λ_ _ _ _ _ _ us hl=>match us,hl with | [_,_,_],_=>rfl) λ_ _ _ _ _ _ hr=>
  (ah (aE iC.nd rfl (.inl rfl) (lR (b5 (kg (lR (aO wg (mR hr) rfl aT (aa (ae (pv 0)) (aa (ae (pv 1)) ag)) rfl) av) av) (kg av (b5 (ae (pv 1)) av))) av)) (ah (aE iC.nd rfl (.inl rfl) (lR (b5 (kg (ae (pv 3)) (ae (pv 3))) (sZ (ae (pv 3)) av)) av)) (ar (aA (lR (sZ (lR (b5 (kg (ae (pv 3)) (ae (pv 3))) (sZ (ae (pv 3)) av)) av) av) (ae (pv 2)))))))
abbrev fR:Stmt:=top 14
def dY:List Str:=["thing"]
def o8:List Str:=["thing"]
def vC:FnScope dY o8 (ak fR):=cJ
def u5(B:Bl K mg base cv cA Cp)(Ap:ao P w K mg base cv 2 "is_row" 1 fJ)(T:bj K mg "is_board" fR f):ao P w K mg base cv 3 "is_board" 1 (g8):=
 az (N:=dY) (ps:=o8) T vC (λ_ _ _ _ _ _ us hl=>match us,hl with | [_],_=>rfl) λ_ _ _ _ _ _ hr=>
  (ah (bz (PDW.t (ir (cC (cE (ke rfl B.isinstance rfl (aa (ae (pv 0)) (aa (pj rfl B.tuple rfl) ag))))) (e_ (cC (xp o6 o6 av (bT rfl B.len (aa (ae (pv 0)) ag)) (yF rfl B.MOST_ROWS)))))) (ar (aA fP)) a6) (ah (bz (cC (cE (sX rfl rfl B.all rfl (aa (ek (tn:=["row"]) (n:=0) (cf (N:=dY) (osc:=(ak fR)) rfl rfl (by decide+kernel)) rfl rfl (s9 (ae (pv 0))) (λ_ _ _ _ _ _ _=>dP (show QL (((["row"]:List Str))++dj ["row"] dY) by decide+kernel) rfl rfl) (λ_ _ _ _ _ _=>eJ) (λ_ _ _ _ _ _=>(aO Ap (mR hr) rfl bP (aa (ae (pv 0)) ag) rfl))) ag)))) (ar (aA fP)) a6) (ar (aA (sX rfl rfl B.all rfl (aa (ek (tn:=["row"]) (n:=0) (cf (N:=dY) (osc:=(ak fR)) rfl rfl (by decide+kernel)) rfl rfl (s9 (ae (pv 0))) (λ_ _ _ _ _ _ _=>dP (show QL (((["row"]:List Str))++dj ["row"] dY) by decide+kernel) rfl rfl) (λ_ _ _ _ _ _=>eJ) (λ_ _ _ _ _ _=>(vg hr.units (bT rfl B.len (aa (ae (pv 0)) ag)) (bT rfl B.len (aa (a7 (ae (pv 1)) av) ag))))) ag))))))
abbrev jh:Stmt:=top 17
def mB:List Str:=["board","thing"]
def mP:List Str:=["board","thing"]
def tH:FnScope mB mP (ak jh):=cJ
def sP(B:Bl K mg base cv cA Cp)(y8:ao P w K mg base cv 2 "is_cell" 2 jw)(T:bj K mg "need_cell" jh f):ao P w K mg base cv 3 "need_cell" 2 (cu):=
 az (N:=mB) (ps:=mP) T tH (λ_ _ _ _ _ _ us hl=>match us,hl with | [_,_],_=>rfl) λ_ _ _ _ _ _ hr=>
  (ar (bz (cC (cE (aO y8 (mR hr) rfl aT (aa (ae (pv 0)) (aa (ae (pv 1)) ag)) rfl))) (ar gT) a6))
abbrev fc:Stmt:=top 28
def eW:List Str:=["board","cell","ways","letter"]
def kU:List Str:=["board","cell","ways"]
def jU:FnScope eW kU (ak fc):=cJ
def qh(B:Bl K mg base cv cA Cp)(fV:ao P w K mg base cv 1 "letter_of" 2 bK)(du:ao P w K mg base cv 2 "next_cells" 3 a8)(T:bj K mg "like_cells" fc f):ao P w K mg base cv 3 "like_cells" 3 (cx):=
 az (N:=eW) (ps:=kU) T jU (λ_ _ _ _ _ _ us hl=>match us,hl with | [_,_,_],_=>rfl) λ_ _ _ _ _ _ hr=>
  (ah (aE jU.nd rfl (.inr rfl) (aO fV (mR hr) rfl aT (aa (ae (pv 0)) (aa (ae (pv 1)) ag)) rfl)) (ar (aA (ek (tn:=["near"]) (n:=0) (cf (N:=eW) (osc:=(ak fc)) rfl rfl (by decide+kernel)) rfl rfl (bE (aO du (mR hr) rfl aT (aa (ae (pv 0)) (aa (ae (pv 1)) (aa (ae (pv 2)) ag))) rfl)) (λ_ _ _ _ _ _ _=>dP (show QL (((["near"]:List Str))++dj ["near"] eW) by decide+kernel) rfl rfl) (λ_ _ _ _ _ _=>(pQ (vm hr.units (aO fV (mR hr) rfl bP (aa (ae (pv 1)) (aa (ae (pv 0)) ag)) rfl) (ae (pv 4))))) (λ_ _ _ _ _ _=>(ae (pv 0)))))))
abbrev fS:Stmt:=top 32
def iS:List Str:=["board","ways","found","numbers","near","cell","mine","other"]
def i4:List Str:=["board","ways","found"]
def bV:FnScope iS i4 (ak fS):=cJ
def nh(B:Bl K mg base cv cA Cp)(dw:ao P w K mg base cv 1 "numbers_of" 1 bG)(eB:ao P w K mg base cv 2 "all_cells" 1 cq)(du:ao P w K mg base cv 2 "next_cells" 3 a8)(T:bj K mg "near_numbers" fS f):ao P w K mg base cv 3 "near_numbers" 3 (cj):=
 az (N:=iS) (ps:=i4) T bV (λ_ _ _ _ _ _ us hl=>match us,hl with | [_,_,_],_=>rfl) λ_ _ _ _ _ _ hr=>
  (ah (aE bV.nd rfl (.inl rfl) (aO dw (mR hr) rfl aT (aa (ae (pv 2)) ag) rfl)) (ah (BW bV.nd rfl (.inl rfl)) (ah (cO (BV PL rfl hr.units (bE (aO eB (mR hr) rfl bP (aa (ae (pv 0)) ag) rfl)) (a5 bV.nd rfl (.inl rfl)) (pv 4) (d9 hr.units (ae (pv 3)) (ae (pv 5))) ⟨rfl,rfl,rfl,rfl⟩ (a5 bV.nd rfl (.inl rfl)) (bE (aO du (mR hr) rfl bP (aa (ae (pv 0)) (aa (ae (pv 5)) (aa (ae (pv 1)) ag))) rfl)) (a5 bV.nd rfl (.inl rfl)) (mT hr.units (d9 hr.units (ae (pv 3)) (ae (pv 7))) (d9 hr.units (ae (pv 3)) (ae (pv 5)))) (pv 6) (d9 hr.units (ae (pv 3)) (ae (pv 7))))) (ar (cY (i:=4) (aA (ae (pv 4))))))))
abbrev fe:Stmt:=top 33
def eX:List Str:=["board","some","ways","among","near","cell"]
def kW:List Str:=["board","some","ways"]
def eu:FnScope eX kW (ak fe):=cJ
def qi(B:Bl K mg base cv cA Cp)(rY:ao P w K mg base cv 1 "keyed" 1 g9)(du:ao P w K mg base cv 2 "next_cells" 3 a8)(T:bj K mg "near_among" fe f):ao P w K mg base cv 3 "near_among" 3 (eV):=
 az (N:=eX) (ps:=kW) T eu (λ_ _ _ _ _ _ us hl=>match us,hl with | [_,_,_],_=>rfl) λ_ _ _ _ _ _ hr=>
  (ah (aE eu.nd rfl (.inr rfl) (aO rY (mR hr) rfl aT (aa (ae (pv 1)) ag) rfl)) (ah (k9 eu.nd rfl (.inl rfl)) (ah (cO (bX PL rfl (bE (ae (pv 1))) (a5 eu.nd rfl (.inl rfl)) bF (bq (ar (i9 hr.units (pv 4) (ae (pv 5)) (ek (tn:=["other"]) (n:=0) (cf (N:=eX) (osc:=(ak fe)) rfl rfl (by decide+kernel)) rfl rfl (bE (aO du (mR hr) rfl bP (aa (ae (pv 0)) (aa (ae (pv 5)) (aa (ae (pv 2)) ag))) rfl)) (λ_ _ _ _ _ _ _=>dP (show QL (((["other"]:List Str))++dj ["other"] eX) by decide+kernel) rfl rfl) (λ_ _ _ _ _ _=>(pQ (Ha hr.units (ae (pv 0)) (ae (pv 4))))) (λ_ _ _ _ _ _=>(ae (pv 0))))))))) (ar (cY (i:=4) (aA (ae (pv 4))))))))
abbrev gg:Stmt:=top 49
def f6:List Str:=["_law_script","_law_at","_law_most","_law_rows","_law_wide","_law_alphabet","_law_found","_law_row","_law_signs"]
def mL:List Str:=["_law_script","_law_at","_law_most"]
def bZ:FnScope f6 mL (ak gg):=cJ
def sL(B:Bl K mg base cv cA Cp)(cQ:ao P w K mg base cv 2 "_law_drawn" 3 aR)(T:bj K mg "_law_board" gg f):ao P w K mg base cv 3 "_law_board" 3 (eE):=
 az (N:=f6) (ps:=mL) T bZ (λ_ _ _ _ _ _ us hl=>match us,hl with | [_,_,_],_=>rfl) λ_ _ _ _ _ _ hr=>
  (ah (aE bZ.nd rfl (.inl rfl) (b5 av (aO cQ (mR hr) rfl aT (aa (ae (pv 0)) (aa (ae (pv 1)) (aa (ae (pv 2)) ag))) rfl))) (ah (aE bZ.nd rfl (.inl rfl) (b5 av (aO cQ (mR hr) rfl aT (aa (ae (pv 0)) (aa (b5 (ae (pv 1)) av) (aa (ae (pv 2)) ag))) rfl))) (ah (aE bZ.nd rfl (.inr rfl) (kf (i6 (aa gm (aa gm (aa gm (aa gm ag))))) (aO cQ (mR hr) rfl aT (aa (ae (pv 0)) (aa (b5 (ae (pv 1)) av) (aa av ag))) rfl))) (ah (aE bZ.nd rfl (.inl rfl) (iq ag)) (ah (cO (bX PL rfl (dh rfl B.range (aa (ae (pv 3)) ag)) (a5 bZ.nd rfl (.inr rfl)) bF (bq (ah (vk (tn:=["_law_k"]) (n:=0) bZ.nd rfl (.inl rfl) (cf (N:=f6) (osc:=(ak gg)) rfl rfl (by decide+kernel)) rfl rfl (dh rfl B.range (aa (ae (pv 4)) ag)) (λ_ _ _ _ _ _ _=>dP (show QL (((["_law_k"]:List Str))++dj ["_law_k"] f6) by decide+kernel) rfl rfl) (λ_ _ _ _ _ _=>eJ) (λ_ _ _ _ _ _=>(xk (ae (pv 6)) (aO cQ (mR hr) rfl bP (aa (ae (pv 1)) (aa (b5 (b5 (b5 (ae (pv 2)) av) (kg av (ae (pv 8)))) (ae (pv 0))) (aa (bT rfl B.len (aa (ae (pv 6)) ag)) ag))) rfl)))) (ar (aE bZ.nd rfl (.inl rfl) (DR (ae (pv 6)) (iq (aa (DV gm (aa (ae (pv 8)) ag)) ag))))))))) (ar (aA (ae (pv 6)))))))))
abbrev gr:Stmt:=top 52
def jO:List Str:=["_law_script","_law_at","_law_board_here"]
def jS:List Str:=["_law_script","_law_at","_law_board_here"]
def pJ:FnScope jO jS (ak gr):=cJ
def o4(B:Bl K mg base cv cA Cp)(cQ:ao P w K mg base cv 2 "_law_drawn" 3 aR)(T:bj K mg "_law_cell_in" gr f):ao P w K mg base cv 3 "_law_cell_in" 3 (bJ):=
 az (N:=jO) (ps:=jS) T pJ (λ_ _ _ _ _ _ us hl=>match us,hl with | [_,_,_],_=>rfl) λ_ _ _ _ _ _ hr=>
  (ar (aA (iq (aa (aO cQ (mR hr) rfl aT (aa (ae (pv 0)) (aa (ae (pv 1)) (aa (bT rfl B.len (aa (ae (pv 2)) ag)) ag))) rfl) (aa (aO cQ (mR hr) rfl aT (aa (ae (pv 0)) (aa (b5 (ae (pv 1)) av) (aa (bT rfl B.len (aa (a7 (ae (pv 2)) av) ag)) ag))) rfl) ag)))))
abbrev iu:Stmt:=top 16
def kM:List Str:=["thing"]
def kX:List Str:=["thing"]
def qq:FnScope kM kX (ak iu):=cJ
def qj(B:Bl K mg base cv cA Cp)(we:ao P w K mg base cv 3 "is_board" 1 g8)(T:bj K mg "need_board" iu f):ao P w K mg base cv 4 "need_board" 1 (bx):=
 az (N:=kM) (ps:=kX) T qq (λ_ _ _ _ _ _ us hl=>match us,hl with | [_],_=>rfl) λ_ _ _ _ _ _ hr=>
  (ar (bz (cC (cE (aO we (mR hr) rfl aT (aa (ae (pv 0)) ag) rfl))) (ar gT) a6))
abbrev iA:Stmt:=top 29
def kQ:List Str:=["board","start","ways","back","ring","further","cell","near"]
def k7:List Str:=["board","start","ways"]
def b6:FnScope kQ k7 (ak iA):=cJ
def qm(B:Bl K mg base cv cA Cp)(rZ:ao P w K mg base cv 3 "like_cells" 3 cx)(T:bj K mg "steps_back" iA f):ao P w K mg base cv 4 "steps_back" 3 (bp):=
 az (N:=kQ) (ps:=k7) T b6 (λ_ _ _ _ _ _ us hl=>match us,hl with | [_,_,_],_=>rfl) λ_ _ _ _ _ _ hr=>
  (ah (pA b6.nd rfl (.inl rfl) (rl hr.units (ae (pv 1)) i7)) (ah (aE b6.nd rfl (.inl rfl) (i6 (aa (ae (pv 1)) ag))) (ah (cO (lU PL (cE (ae (pv 4))) (bq (ah (jE b6.nd rfl (.inl rfl)) (ah (bX PL rfl (bE (ae (pv 4))) (a5 b6.nd rfl (.inl rfl)) bF (bq (ar (bX PL rfl (bE (aO rZ (mR hr) rfl bP (aa (ae (pv 0)) (aa (ae (pv 6)) (aa (ae (pv 2)) ag))) rfl)) (a5 b6.nd rfl (.inl rfl)) bF (bq (ar (bz (s_ (gU hr.units (ae (pv 7)) (ae (pv 3)))) (ah (i9 hr.units (pv 3) (ae (pv 7)) (ae (pv 6))) (ar (jD (pv 5) (ae (pv 7))))) a6))))))) (ar (cY (i:=5) (aE b6.nd rfl (.inl rfl) (ae (pv 5)))))))))) (ar (cY (i:=3) (aA (ae (pv 3))))))))
abbrev eg:Stmt:=top 27
def gM:List Str:=["board","ways","one","other"]
def gP:List Str:=["board","ways","one","other"]
def lh:FnScope gM gP (ak eg):=cJ
def kT(B:Bl K mg base cv cA Cp)(cw:ao P w K mg base cv 4 "need_board" 1 bx)(cR:ao P w K mg base cv 2 "need_ways" 1 bL)(eD:ao P w K mg base cv 3 "need_cell" 2 cu)(T:bj K mg "need_two_cells" eg f):ao P w K mg base cv 5 "need_two_cells" 4 (bf):=
 az (N:=gM) (ps:=gP) T lh (λ_ _ _ _ _ _ us hl=>match us,hl with | [_,_,_,_],_=>rfl) λ_ _ _ _ _ _ hr=>
  (ah (bR (aO cw (mR hr) rfl aT (aa (ae (pv 0)) ag) rfl)) (ah (bR (aO cR (mR hr) rfl aT (aa (ae (pv 1)) ag) rfl)) (ah (bR (aO eD (mR hr) rfl aT (aa (ae (pv 0)) (aa (ae (pv 2)) ag)) rfl)) (ar (bR (aO eD (mR hr) rfl aT (aa (ae (pv 0)) (aa (ae (pv 3)) ag)) rfl))))))
abbrev gq:Stmt:=top 30
def jN:List Str:=["board","ways","found","seen","cell","patch"]
def jR:List Str:=["board","ways"]
def cV:FnScope jN jR (ak gq):=cJ
def o3(B:Bl K mg base cv cA Cp)(eB:ao P w K mg base cv 2 "all_cells" 1 cq)(dz:ao P w K mg base cv 4 "steps_back" 3 bp)(rY:ao P w K mg base cv 1 "keyed" 1 g9)(T:bj K mg "all_patches" gq f):ao P w K mg base cv 5 "all_patches" 2 (bI):=
 az (N:=jN) (ps:=jR) T cV (λ_ _ _ _ _ _ us hl=>match us,hl with | [_,_],_=>rfl) λ_ _ _ _ _ _ hr=>
  (ah (jE cV.nd rfl (.inl rfl)) (ah (k9 cV.nd rfl (.inl rfl)) (ah (cO (bX PL rfl (bE (aO eB (mR hr) rfl bP (aa (ae (pv 0)) ag) rfl)) (a5 cV.nd rfl (.inl rfl)) bF (bq (ar (bz (s_ (gU hr.units (ae (pv 4)) (ae (pv 3)))) (ah (aE cV.nd rfl (.inl rfl) (DW rfl rfl B.sorted rfl (aa (aO dz (mR hr) rfl bP (aa (ae (pv 0)) (aa (ae (pv 4)) (aa (ae (pv 1)) ag))) rfl) ag))) (ah (jD (pv 2) (ae (pv 5))) (ar (Eb hr.units (pv 3) (aO rY (mR hr) rfl bP (aa (ae (pv 5)) ag) rfl) ⟨rfl,rfl,rfl,rfl⟩)))) a6))))) (ar (cY (i:=2) (aA (ae (pv 2))))))))
abbrev fg:Stmt:=top 40
def eY:List Str:=["board","ways","letters","one","other","near"]
def k8:List Str:=["board","ways","letters","one","other"]
def jV:FnScope eY k8 (ak fg):=cJ
def qo(B:Bl K mg base cv cA Cp)(cw:ao P w K mg base cv 4 "need_board" 1 bx)(cR:ao P w K mg base cv 2 "need_ways" 1 bL)(nW:ao P w K mg base cv 2 "need_letters" 1 dE)(eD:ao P w K mg base cv 3 "need_cell" 2 cu)(r0:ao P w K mg base cv 3 "near_among" 3 eV)(eC:ao P w K mg base cv 1 "distances" 2 bt)(eB:ao P w K mg base cv 2 "all_cells" 1 cq)(fV:ao P w K mg base cv 1 "letter_of" 2 bK)(T:bj K mg "steps_over" fg f):ao P w K mg base cv 5 "steps_over" 5 (aG):=
 az (N:=eY) (ps:=k8) T jV (λ_ _ _ _ _ _ us hl=>match us,hl with | [_,_,_,_,_],_=>rfl) λ_ _ _ _ _ _ hr=>
  (ah (bR (aO cw (mR hr) rfl aT (aa (ae (pv 0)) ag) rfl)) (ah (bR (aO cR (mR hr) rfl aT (aa (ae (pv 1)) ag) rfl)) (ah (bR (aO nW (mR hr) rfl aT (aa (ae (pv 2)) ag) rfl)) (ah (bR (aO eD (mR hr) rfl aT (aa (ae (pv 0)) (aa (ae (pv 3)) ag)) rfl)) (ah (bR (aO eD (mR hr) rfl aT (aa (ae (pv 0)) (aa (ae (pv 4)) ag)) rfl)) (ah (aE jV.nd rfl (.inl rfl) (aO r0 (mR hr) rfl aT (aa (ae (pv 0)) (aa (ek (tn:=["cell"]) (n:=0) (cf (N:=eY) (osc:=(ak fg)) rfl rfl (by decide+kernel)) rfl rfl (bE (aO eB (mR hr) rfl aT (aa (ae (pv 0)) ag) rfl)) (λ_ _ _ _ _ _ _=>dP (show QL (((["cell"]:List Str))++dj ["cell"] eY) by decide+kernel) rfl rfl) (λ_ _ _ _ _ _=>(pQ (Hb hr.units (aO fV (mR hr) rfl bP (aa (ae (pv 1)) (aa (ae (pv 0)) ag)) rfl) (ae (pv 3))))) (λ_ _ _ _ _ _=>(ae (pv 0)))) (aa (ae (pv 1)) ag))) rfl)) (ah (bz (gU hr.units (ae (pv 3)) (ae (pv 5))) (ar (aA i7)) a6) (ar (aA (DU hr.units (aO eC (mR hr) rfl aT (aa (ae (pv 5)) (aa (ae (pv 3)) ag)) rfl) (ae (pv 4)) ⟨rfl,rfl,rfl,rfl⟩))))))))))
abbrev iy:Stmt:=top 35
def ig:List Str:=["board","ways","numbers","told","row"]
def pd:List Str:=["board","ways"]
def gi:FnScope ig pd (ak iy):=cJ
def u_(B:Bl K mg base cv cA Cp)(cw:ao P w K mg base cv 4 "need_board" 1 bx)(cR:ao P w K mg base cv 2 "need_ways" 1 bL)(dw:ao P w K mg base cv 1 "numbers_of" 1 bG)(c0:ao P w K mg base cv 5 "all_patches" 2 bI)(fB:ao P w K mg base cv 1 "cells_of_row" 2 aW)(T:bj K mg "numbered" iy f):ao P w K mg base cv 6 "numbered" 2 (dU):=
 az (N:=ig) (ps:=pd) T gi (λ_ _ _ _ _ _ us hl=>match us,hl with | [_,_],_=>rfl) λ_ _ _ _ _ _ hr=>
  (ah (bR (aO cw (mR hr) rfl aT (aa (ae (pv 0)) ag) rfl)) (ah (bR (aO cR (mR hr) rfl aT (aa (ae (pv 1)) ag) rfl)) (ah (aE gi.nd rfl (.inr rfl) (aO dw (mR hr) rfl aT (aa (aO c0 (mR hr) rfl aT (aa (ae (pv 0)) (aa (ae (pv 1)) ag)) rfl) ag) rfl)) (ah (jE gi.nd rfl (.inl rfl)) (ah (cO (bX PL rfl (dh rfl B.range (aa (bT rfl B.len (aa (ae (pv 0)) ag)) ag)) (a5 gi.nd rfl (.inl rfl)) bF (bq (ar (jD (pv 3) (ek (tn:=["cell"]) (n:=0) (cf (N:=ig) (osc:=(ak iy)) rfl rfl (by decide+kernel)) rfl rfl (bE (aO fB (mR hr) rfl bP (aa (ae (pv 0)) (aa (ae (pv 4)) ag)) rfl)) (λ_ _ _ _ _ _ _=>dP (show QL (((["cell"]:List Str))++dj ["cell"] ig) by decide+kernel) rfl rfl) (λ_ _ _ _ _ _=>eJ) (λ_ _ _ _ _ _=>(d9 hr.units (ae (pv 3)) (ae (pv 0)))))))))) (ar (cY (i:=3) (aA (ae (pv 3))))))))))
abbrev lZ:Stmt:=top 36
def q0:List Str:=["board","ways","one","other"]
def rh:List Str:=["board","ways","one","other"]
def xr:FnScope q0 rh (ak lZ):=cJ
def w_(B:Bl K mg base cv cA Cp)(cb:ao P w K mg base cv 5 "need_two_cells" 4 bf)(dz:ao P w K mg base cv 4 "steps_back" 3 bp)(T:bj K mg "are_one" lZ f):ao P w K mg base cv 6 "are_one" 4 (fo):=
 az (N:=q0) (ps:=rh) T xr (λ_ _ _ _ _ _ us hl=>match us,hl with | [_,_,_,_],_=>rfl) λ_ _ _ _ _ _ hr=>
  (ah (bR (aO cb (mR hr) rfl aT (aa (ae (pv 0)) (aa (ae (pv 1)) (aa (ae (pv 2)) (aa (ae (pv 3)) ag)))) rfl)) (ar (aA (GS hr.units (ae (pv 3)) (aO dz (mR hr) rfl aT (aa (ae (pv 0)) (aa (ae (pv 2)) (aa (ae (pv 1)) ag))) rfl)))))
abbrev Cb:Stmt:=top 37
def E0:List Str:=["board","ways","one","other","back","told"]
def E7:List Str:=["board","ways","one","other"]
def xu:FnScope E0 E7 (ak Cb):=cJ
def GD(B:Bl K mg base cv cA Cp)(cb:ao P w K mg base cv 5 "need_two_cells" 4 bf)(dz:ao P w K mg base cv 4 "steps_back" 3 bp)(T:bj K mg "way" Cb f):ao P w K mg base cv 6 "way" 4 (mj):=
 az (N:=E0) (ps:=E7) T xu (λ_ _ _ _ _ _ us hl=>match us,hl with | [_,_,_,_],_=>rfl) λ_ _ _ _ _ _ hr=>
  (ah (bR (aO cb (mR hr) rfl aT (aa (ae (pv 0)) (aa (ae (pv 1)) (aa (ae (pv 2)) (aa (ae (pv 3)) ag)))) rfl)) (ah (aE xu.nd rfl (.inl rfl) (aO dz (mR hr) rfl aT (aa (ae (pv 0)) (aa (ae (pv 3)) (aa (ae (pv 1)) ag))) rfl)) (ah (bz (gU hr.units (ae (pv 2)) (ae (pv 4))) (ar (aA i7)) a6) (ah (pA xu.nd rfl (.inl rfl) (DZ (aa (ae (pv 2)) ag))) (ah (cO (lU PL (s_ (mT hr.units (kf (ae (pv 5)) (BJ av)) (ae (pv 3)))) (ar (jD (pv 5) (E9 (d9 hr.units (ae (pv 4)) (kf (ae (pv 5)) (BJ av)))))))) (ar (cY (i:=5) (aA (ae (pv 5))))))))))
abbrev d_:Stmt:=top 39
def gL:List Str:=["board","ways","one","other","found","numbers"]
def gO:List Str:=["board","ways","one","other"]
def dN:FnScope gL gO (ak d_):=cJ
def kS(B:Bl K mg base cv cA Cp)(cb:ao P w K mg base cv 5 "need_two_cells" 4 bf)(c0:ao P w K mg base cv 5 "all_patches" 2 bI)(dw:ao P w K mg base cv 1 "numbers_of" 1 bG)(eC:ao P w K mg base cv 1 "distances" 2 bt)(fC:ao P w K mg base cv 3 "near_numbers" 3 cj)(T:bj K mg "fewest_changes" d_ f):ao P w K mg base cv 6 "fewest_changes" 4 (aH):=
 az (N:=gL) (ps:=gO) T dN (λ_ _ _ _ _ _ us hl=>match us,hl with | [_,_,_,_],_=>rfl) λ_ _ _ _ _ _ hr=>
  (ah (bR (aO cb (mR hr) rfl aT (aa (ae (pv 0)) (aa (ae (pv 1)) (aa (ae (pv 2)) (aa (ae (pv 3)) ag)))) rfl)) (ah (aE dN.nd rfl (.inl rfl) (aO c0 (mR hr) rfl aT (aa (ae (pv 0)) (aa (ae (pv 1)) ag)) rfl)) (ah (aE dN.nd rfl (.inl rfl) (aO dw (mR hr) rfl aT (aa (ae (pv 4)) ag) rfl)) (ar (aA (d9 hr.units (aO eC (mR hr) rfl aT (aa (aO fC (mR hr) rfl aT (aa (ae (pv 0)) (aa (ae (pv 1)) (aa (ae (pv 4)) ag))) rfl) (aa (d9 hr.units (ae (pv 5)) (ae (pv 2))) ag)) rfl) (d9 hr.units (ae (pv 5)) (ae (pv 3)))))))))
abbrev pG:Stmt:=top 44
def uS:List Str:=["board","ways"]
def vf:List Str:=["board","ways"]
def zX:FnScope uS vf (ak pG):=cJ
def zH(B:Bl K mg base cv cA Cp)(cw:ao P w K mg base cv 4 "need_board" 1 bx)(cR:ao P w K mg base cv 2 "need_ways" 1 bL)(fC:ao P w K mg base cv 3 "near_numbers" 3 cj)(c0:ao P w K mg base cv 5 "all_patches" 2 bI)(T:bj K mg "map_of" pG f):ao P w K mg base cv 6 "map_of" 2 (kC):=
 az (N:=uS) (ps:=vf) T zX (λ_ _ _ _ _ _ us hl=>match us,hl with | [_,_],_=>rfl) λ_ _ _ _ _ _ hr=>
  (ah (bR (aO cw (mR hr) rfl aT (aa (ae (pv 0)) ag) rfl)) (ah (bR (aO cR (mR hr) rfl aT (aa (ae (pv 1)) ag) rfl)) (ar (aA (aO fC (mR hr) rfl aT (aa (ae (pv 0)) (aa av (aa (aO c0 (mR hr) rfl aT (aa (ae (pv 0)) (aa (ae (pv 1)) ag)) rfl) ag))) rfl)))))
abbrev l5:Stmt:=top 45
def q9:List Str:=["board","ways","one","other","near"]
def ri:List Str:=["board","ways","one","other"]
def pH:FnScope q9 ri (ak l5):=cJ
def xa(B:Bl K mg base cv cA Cp)(Aq:ao P w K mg base cv 6 "map_of" 2 kC)(jJ:ao P w K mg base cv 2 "need_number" 2 cK)(eC:ao P w K mg base cv 1 "distances" 2 bt)(T:bj K mg "borders" l5 f):ao P w K mg base cv 7 "borders" 4 (fq):=
 az (N:=q9) (ps:=ri) T pH (λ_ _ _ _ _ _ us hl=>match us,hl with | [_,_,_,_],_=>rfl) λ_ _ _ _ _ _ hr=>
  (ah (aE pH.nd rfl (.inl rfl) (aO Aq (mR hr) rfl aT (aa (ae (pv 0)) (aa (ae (pv 1)) ag)) rfl)) (ah (bR (aO jJ (mR hr) rfl aT (aa (yH rfl B.len (aa (ae (pv 4)) ag)) (aa (ae (pv 2)) ag)) rfl)) (ah (bR (aO jJ (mR hr) rfl aT (aa (yH rfl B.len (aa (ae (pv 4)) ag)) (aa (ae (pv 3)) ag)) rfl)) (ar (aA (d9 hr.units (aO eC (mR hr) rfl aT (aa (ae (pv 4)) (aa (ae (pv 2)) ag)) rfl) (ae (pv 3))))))))
abbrev aM:Stmt:=top 53
def dZ:List Str:=["_law_script","_law_board_here","_law_whole","_law_ways","_law_one","_law_third","_law_own","_law_numbers","_law_other","_law_here","_law_far","_law_row","_law_down","_law_right","_law_least","_law_more"]
def lQ:List Str:=["_law_script"]
def aZ:FnScope dZ lQ (ak aM):=cJ
def tK(B:Bl K mg base cv cA Cp)(iJ:ao P w K mg base cv 3 "_law_board" 3 eE){fk:Value}{A:Qm}{outer:List Env}{s:Pf}{H:Hp}{E:XK}(hr:Room 7 (A.deeper (RY "law" (ak aM) s.heap.objs.size f fk))):
 Box (ku (gB (qw P w cv) P w K mg base dZ "law" (ak aM) f fk A outer s H E) (λn H'=>E (cv n) none H') ((bQ aM).getD 0 (.Pass ⟨0,0,0,0⟩)) mW):=
 ⟨(aE aZ.nd rfl (.inl rfl) (aO iJ (mR hr) rfl aT (aa (ae (pv 0)) (aa av (aa av ag))) rfl))⟩
def tL(B:Bl K mg base cv cA Cp){fk:Value}{A:Qm}{outer:List Env}{s:Pf}{H:Hp}{E:XK}(hr:Room 7 (A.deeper (RY "law" (ak aM) s.heap.objs.size f fk))):
 Box (ku (gB (qw P w cv) P w K mg base dZ "law" (ak aM) f fk A outer s H E) (λn H'=>E (cv n) none H') ((bQ aM).getD 1 (.Pass ⟨0,0,0,0⟩)) mX):=
 ⟨(aE aZ.nd rfl (.inl rfl) (i6 (aa gm (aa gm (aa gm (aa gm ag))))))⟩
def tM(B:Bl K mg base cv cA Cp)(eh:ao P w K mg base cv 3 "_law_cell_in" 3 bJ)(jY:ao P w K mg base cv 6 "numbered" 2 dU)(iL:ao P w K mg base cv 1 "_law_cells" 1 cT)(jX:ao P w K mg base cv 1 "_law_sign" 2 dS)(bN:ao P w K mg base cv 6 "fewest_changes" 4 aH)(lB:ao P w K mg base cv 7 "borders" 4 fq)(Ar:ao P w K mg base cv 6 "way" 4 mj)(dB:ao P w K mg base cv 5 "steps_over" 5 aG)(lA:ao P w K mg base cv 6 "are_one" 4 fo){fk:Value}{A:Qm}{outer:List Env}{s:Pf}{H:Hp}{E:XK}(hr:Room 7 (A.deeper (RY "law" (ak aM) s.heap.objs.size f fk))):
 Box (ku (gB (qw P w cv) P w K mg base dZ "law" (ak aM) f fk A outer s H E) (λn H'=>E (cv n) none H') ((bQ aM).getD 2 (.Pass ⟨0,0,0,0⟩)) mY):=
 ⟨(cO (bX PL rfl (s9 (iq (aa av (aa av ag)))) (a5 aZ.nd rfl (.inl rfl)) bF (bq (ah (aE aZ.nd rfl (.inl rfl) (aO eh (mR hr) rfl bP (aa (ae (pv 0)) (aa (b5 av (ae (pv 3))) (aa (ae (pv 1)) ag))) rfl)) (ah (aE aZ.nd rfl (.inl rfl) (aO eh (mR hr) rfl bP (aa (ae (pv 0)) (aa (b5 av (ae (pv 3))) (aa (ae (pv 1)) ag))) rfl)) (ah (aE aZ.nd rfl (.inl rfl) (i6 (aa (aO jX (mR hr) rfl bP (aa (ae (pv 1)) (aa (ae (pv 4)) ag)) rfl) ag))) (ah (aE aZ.nd rfl (.inl rfl) (aO jY (mR hr) rfl bP (aa (ae (pv 1)) (aa (ae (pv 3)) ag)) rfl)) (ar (bX PL rfl (bE (aO iL (mR hr) rfl bP (aa (ae (pv 1)) ag) rfl)) (a5 aZ.nd rfl (.inl rfl)) bF (bq (ah (aE aZ.nd rfl (.inl rfl) (aO bN (mR hr) rfl bP (aa (ae (pv 1)) (aa (ae (pv 3)) (aa (ae (pv 4)) (aa (ae (pv 8)) ag)))) rfl)) (ah (bz (mT hr.units (ae (pv 9)) (aO bN (mR hr) rfl bP (aa (ae (pv 1)) (aa (ae (pv 3)) (aa (ae (pv 8)) (aa (ae (pv 4)) ag)))) rfl)) (ar (aA fP)) a6) (ah (bz (mT hr.units (vg hr.units (ae (pv 9)) av) (aO lA (mR hr) rfl bP (aa (ae (pv 1)) (aa (ae (pv 3)) (aa (ae (pv 4)) (aa (ae (pv 8)) ag)))) rfl)) (ar (aA fP)) a6) (ah (bz (BY (ae (pv 9)) (b5 (aO bN (mR hr) rfl bP (aa (ae (pv 1)) (aa (ae (pv 3)) (aa (ae (pv 4)) (aa (ae (pv 5)) ag)))) rfl) (aO bN (mR hr) rfl bP (aa (ae (pv 1)) (aa (ae (pv 3)) (aa (ae (pv 5)) (aa (ae (pv 8)) ag)))) rfl))) (ar (aA fP)) a6) (ah (aE aZ.nd rfl (.inl rfl) (aO lB (mR hr) rfl bP (aa (ae (pv 1)) (aa (ae (pv 3)) (aa (kf (kf (ae (pv 7)) (a7 (ae (pv 4)) av)) (a7 (ae (pv 4)) av)) (aa (kf (kf (ae (pv 7)) (a7 (ae (pv 8)) av)) (a7 (ae (pv 8)) av)) ag)))) rfl)) (ah (bz (PDW.t (ir (BY (ae (pv 9)) (ae (pv 10))) (e_ (PDW.t (tf (vm hr.units (ae (pv 3)) av) (pq (mT hr.units (ae (pv 9)) (ae (pv 10))))))))) (ar (aA fP)) a6) (ah (aE aZ.nd rfl (.inl rfl) (aO Ar (mR hr) rfl bP (aa (ae (pv 1)) (aa (ae (pv 3)) (aa (ae (pv 4)) (aa (ae (pv 8)) ag)))) rfl)) (ah (bz (mT hr.units (aO dB (mR hr) rfl bP (aa (ae (pv 1)) (aa (ae (pv 3)) (aa (ae (pv 6)) (aa (ae (pv 4)) (aa (ae (pv 8)) ag))))) rfl) (E8 (BZ (ae (pv 11)) i7) i7 (i8 (bT rfl B.len (aa (ae (pv 11)) ag)) av))) (ar (aA fP)) a6) (ah (aE aZ.nd rfl (.inl rfl) (sW rfl B.abs (aa (i8 (a7 (ae (pv 4)) av) (a7 (ae (pv 8)) av)) ag) rfl)) (ah (aE aZ.nd rfl (.inl rfl) (sW rfl B.abs (aa (i8 (a7 (ae (pv 4)) av) (a7 (ae (pv 8)) av)) ag) rfl)) (ah (aE aZ.nd rfl (.inl rfl) (E8 (vm hr.units (ae (pv 3)) av) (b5 (ae (pv 12)) (ae (pv 13))) (s8 rfl rfl B.max rfl (aa (ae (pv 12)) (aa (ae (pv 13)) ag))))) (ah (bz (mT hr.units (aO dB (mR hr) rfl bP (aa (ae (pv 1)) (aa (ae (pv 3)) (aa (ae (pv 2)) (aa (ae (pv 4)) (aa (ae (pv 8)) ag))))) rfl) (ae (pv 14))) (ar (aA fP)) a6) (ah (aE aZ.nd rfl (.inl rfl) (aO dB (mR hr) rfl bP (aa (ae (pv 1)) (aa (ae (pv 3)) (aa (yD (ae (pv 6)) (i6 (aa gm ag))) (aa (ae (pv 4)) (aa (ae (pv 8)) ag))))) rfl)) (ah (bz (PDW.t (tf (yM (ae (pv 11)) i7) (pq (PDW.t (ir (BZ (ae (pv 15)) i7) (e_ (BY (ae (pv 15)) (i8 (bT rfl B.len (aa (ae (pv 11)) ag)) av)))))))) (ar (aA fP)) a6) (ar (bz (PDW.t (tf (yM (ae (pv 15)) i7) (pq (Jy (ae (pv 15)) (ae (pv 14)))))) (ar (aA fP)) a6))))))))))))))))))))))))))⟩
def tN(B:Bl K mg base cv cA Cp){fk:Value}{A:Qm}{outer:List Env}{s:Pf}{H:Hp}{E:XK}(hr:Room 7 (A.deeper (RY "law" (ak aM) s.heap.objs.size f fk))):
 Box (ku (gB (qw P w cv) P w K mg base dZ "law" (ak aM) f fk A outer s H E) (λn H'=>E (cv n) none H') ((bQ aM).getD 3 (.Pass ⟨0,0,0,0⟩)) mZ):=
 ⟨(aA fP)⟩
def uZ{fd:Q8}(B:Bl K mg base cv cA Cp)(iJ:ao P w K mg base cv 3 "_law_board" 3 eE)(eh:ao P w K mg base cv 3 "_law_cell_in" 3 bJ)(jY:ao P w K mg base cv 6 "numbered" 2 dU)(iL:ao P w K mg base cv 1 "_law_cells" 1 cT)(jX:ao P w K mg base cv 1 "_law_sign" 2 dS)(bN:ao P w K mg base cv 6 "fewest_changes" 4 aH)(lB:ao P w K mg base cv 7 "borders" 4 fq)(Ar:ao P w K mg base cv 6 "way" 4 mj)(dB:ao P w K mg base cv 5 "steps_over" 5 aG)(lA:ao P w K mg base cv 6 "are_one" 4 fo)(Fn:Fun K "law" "law" aM f fd):FnOk P w K mg base (qw P w cv) 8 f fd lQ (HG K cv 1 jx):=
 Ic (N:=dZ) (ps:=lQ) (τ:=ma) Fn aZ λfk A outer s H E hr=>by
  obtain⟨O3⟩:Box (PSDs (gB (qw P w cv) P w K mg base dZ "law" (ak aM) f fk A outer s H E) (λn H'=>E (cv n) none H') (bQ aM) ma):=(wb (tK B iJ hr) (wb (tL B hr) (wb (tM B eh jY iL jX bN lB Ar dB lA hr) (Fy (tN B hr)))))
  assumption
end
end K1
namespace K1
open PySem L2 L3
def Bh{ds:List D}(h:ds.length<=lim):eF ds=ab (.lst ds):=UD h
def cU:lim=4096:=rfl
def gx{α:Type}{xs:List α}{i:Nat}{x:α}(h:xs[i]? =some x):L2.atI xs (i:Int)=some x:=by
 obtain⟨hi,e⟩:=Pe.mp h;unfold L2.atI CJ;rw[UD (Int.natCast_nonneg i),UD (by exact Int.ofNat_lt.mpr hi)];exact h
def aj{m:Nat}{g:List D->M D}{δs:DA}{Z:aP}{ds:List D}(h:δs Z=ab ds)(hl:ds.length=m):aq m g δs Z=g ds:=by
 unfold aq;rw[h];exact UD hl
def aI{a:DE}{r:DA}{Z:aP}{x:D}{xs:List D}(h1:a Z=ab x)(h2:r Z=ab xs):aC a r Z=ab (x::xs):=by
 unfold aC;rw[h1,au,h2];rfl
def aB{g:D->D->M D}{a b:DE}{Z:aP}{x y:D}(h1:a Z=ab x)(h2:b Z=ab y):d2 g a b Z=g x y:=by
 unfold d2;rw[h1,au,h2];rfl
def cS{g:List D->M D}{a:DA}{Z:aP}{xs:List D}(h:a Z=ab xs):dA g a Z=g xs:=by
 unfold dA;rw[h];rfl
def gE{i j:Int}(h:0<j):kF (.int i) (.int j)=ab (.int (i % j)):=by
 show (if decide (0<j)=true then _ else _)=_;rw[UD (UG h)]
def kE{i j:Int}(h:0<j)(h2:j<1073741824):p_ (.int i) (.int j)=ab (.int (i / j)):=by
 show (if decide (0<j/\j<1073741824)=true then _ else _)=_;rw[UD (UG ⟨h,h2⟩)]
def gF{i j:Int}(h:(-(2 ^ 64)<i/\i<2 ^ 64)\/(-(2 ^ 64)<j/\j<2 ^ 64)):iN (.int i) (.int j)=ab (.int (i*j)):=by
 show (if decide _=true then _ else _)=_;rw[UD (UG h)]
def iM{i j:Int}:cy (.int i) (.int j)=ab (.int (i+j)):=rfl
def Av(ns:List Int)(hl:ns.length<=63)(k:Nat):∃v,fK [.scr ns, .int (k:Int)]=ab (.int v):=by
 cases ns with
 |nil=>
  refine⟨7*(k:Int),?_⟩;rfl
 |cons n r=>
  have hp:0<(n::r).length:=Nat.succ_pos _;generalize e:(n::r)=ns at*;have he:m7 6 (.scr ns) (.lst [])=some false:=by subst e;rfl
  obtain⟨y,hy⟩:∃y,ns[k % ns.length]? =some y:=⟨_,Pd (TL _ hp)⟩
  have Mz:(0:Int)<(ns.length:Int):=by omega
  have h1:kF (.int (k:Int)) (.int (ns.length:Int))=ab (.int ((k % ns.length:Nat):Int)):=gE Mz;have h2:p_ (.int (k:Int)) (.int (ns.length:Int))=ab (.int ((k:Int) / (ns.length:Int))):=kE Mz (by omega);have h3:AR (.scr ns) (.int ((k % ns.length:Nat):Int))=ab (.int y):=by
   show (match L2.atI ns ((k % ns.length:Nat):Int) with | some n=>ab (D.int n) | none=>af)=_;rw[gx hy]
  have h4:iN (.int 6553) (.int ((k:Int) / (ns.length:Int)))=ab (.int (6553*((k:Int) / (ns.length:Int)))):=gF (.inl ⟨by decide,by decide⟩);refine⟨y+6553*((k:Int) / (ns.length:Int)),?_⟩;simp only[fK,pY,bS,ay,fb,aX,bY,bH,d2,dV,dC,dA,aC,aN,eF,bh,Aa,lH,he,au,h1,h2,h3,h4,Pj,Q9,Rz,Qh,Pl,QK,Qf,Qo,cU,Nat.reduceAdd,P2,if_true,Qk,if_false,cy,gI]
def fm(ns:List Int)(hl:ns.length<=63)(k m:Nat)(hm:0<m):∃v:Nat,v<m/\aR [.scr ns, .int (k:Int), .int (m:Int)]=ab (.int (v:Int)):=by
 obtain⟨c,hc⟩:=Av ns hl k;have b1:=Tu (c % 2147483563*69069+104723*((k:Int)+1)) (b:=2147483563) (by decide);have b2:=SS (c % 2147483563*69069+104723*((k:Int)+1)) (b:=2147483563) (by decide);generalize hx:(c % 2147483563*69069+104723*((k:Int)+1)) % 2147483563=x at b1 b2;have b3:=Tu (x*x+x / 3) (b:=2147483399) (by decide);have b4:=SS (x*x+x / 3) (b:=2147483399) (by decide);generalize hy:(x*x+x / 3) % 2147483399=y at b3 b4;have m1:iN (.int (c % 2147483563)) (.int 69069)=_:=gF (.inr ⟨by decide,by decide⟩);have m2:iN (.int 104723) (.int ((k:Int)+1))=_:=gF (.inl ⟨by decide,by decide⟩);have m3:iN (.int x) (.int x)=_:=gF (.inl ⟨by omega,by omega⟩);have m4:iN (.int y) (.int y)=_:=gF (.inl ⟨by omega,by omega⟩);have hM:(0:Int)<(m:Int):=Int.ofNat_lt.mpr hm;have n1:=Tu ((y*y+y / 7) % 2147483647 / 11) (b:=(m:Int)) (by omega);have n2:=SS ((y*y+y / 7) % 2147483647 / 11) hM;have q1:kF (.int c) (.int 2147483563)=_:=gE (by decide);have q2:kF (.int (c % 2147483563*69069+104723*((k:Int)+1))) (.int 2147483563)=_:=gE (by decide);have q3:p_ (.int x) (.int 3)=_:=kE (by decide) (by decide);have q4:kF (.int (x*x+x / 3)) (.int 2147483399)=_:=gE (by decide);have q5:p_ (.int y) (.int 7)=_:=kE (by decide) (by decide);have q6:kF (.int (y*y+y / 7)) (.int 2147483647)=_:=gE (by decide);have q7:p_ (.int ((y*y+y / 7) % 2147483647)) (.int 11)=_:=kE (by decide) (by decide);have q8:kF (.int ((y*y+y / 7) % 2147483647 / 11)) (.int (m:Int))=_:=gE hM;refine⟨((y*y+y / 7) % 2147483647 / 11 % (m:Int)).toNat,by omega,?_⟩;rw[Int.toNat_of_nonneg n1];rw[hx] at q2;rw[hy] at q4;simp only[aR,mV,bS,ay,bg,aX,aq,d2,dV,dC,dA,aC,aN,au,hc,Pj,Q9,Rz,Qh,Pl,QK,Qf,Qo,Qc,SM,SN,Nat.reduceAdd,Nat.reduceSub,if_true,iM,m1,m2,m3,m4,q1,q2,q3,q4,q5,q6,q7,q8]
def Bs{α:Type}(a:α):noex (ab a)=ab a:=rfl
def uB{put:D->aP->Option aP}{body:DS}{I:Nat->aP->Prop}:∀(ds:List D) (i:Nat) (Z:aP),I i Z->
 (∀j d,ds[j]? =some d->∀Z,I (i+j) Z->∃Z1 Z2,put d Z=some Z1/\body Z1=ab (.nx Z2)/\I (i+j+1) Z2)->∃Z',forL put body ds Z=ab (.nx Z')/\I (i+ds.length) Z'
 |[],i,Z,h,_=>⟨Z,rfl,h⟩
 |d::ds,i,Z,h,step=>by
  obtain⟨Z1,Z2,e1,e2,h2⟩:=step 0 d rfl Z h;obtain⟨Z',e3,h3⟩:=uB (I:=I) ds (i+1) Z2 h2 λj d' hd Z hI=>by
   have:=step (j+1) d' hd Z (by rw[show i+(j+1)=i+1+j by omega];exact hI);rw[show i+(j+1)+1=i+1+j+1 by omega] at this;exact this
  refine⟨Z',?_,?_⟩
  ·show (match put d Z with | none=>af | some Z1=>body Z1>>=λo=>match o with | .nx Z2=>forL put body ds Z2 | .rt v=>ab (.rt v))=_;rw[e1];show (body Z1>>=λo=>match o with | .nx Z2=>forL put body ds Z2 | .rt v=>ab (.rt v))=_;rw[e2];exact e3
  ·rw[show i+(d::ds).length=i+1+ds.length by simp;omega];exact h3
def qF{f:D->M (Option D)}{Pr:D->Prop}:∀(ds:List D),(∀d∈ds,∃y,f d=ab (some y)/\Pr y)->∃ys,di f ds=ab ys/\ys.length=ds.length/\∀y∈ys,Pr y
 |[],_=>⟨[],rfl,rfl,λ_ h=>by cases h⟩
 |d::ds,h=>by
  obtain⟨y,e,hy⟩:=h d (Pa ..);obtain⟨ys,e2,hl,hp⟩:=qF ds λd' hd=>h d' (O_ _ hd);refine⟨y::ys,?_,by simp[hl],λz hz=>?_⟩
  ·rw[fE,e,au,e2];rfl
  ·cases hz with
   |head=>exact hy
   |tail _ hz=>exact hp z hz
def gA{f:D->M (Option D)}{g:D->D}:∀(ds:List D),(∀d∈ds,f d=ab (some (g d)))->di f ds=ab (ds.map g)
 |[],_=>rfl
 |d::ds,h=>by
  rw[fE,h d (Pa ..),au,gA ds λd' hd=>h d' (O_ _ hd)];rfl
def Dl(x:Str):Bool:=!(Q0 ("abcdef":Str) x 0 ("abcdef":Str).length 1).isEmpty
structure Row (W:Nat) (r:Str):Prop where
 len:r.length=W
 let':∀c∈r.cps.toList,Dl ⟨#[c]⟩=true
structure Good (bd:List Str) (W:Nat):Prop where
 r1:1<=bd.length
 r5:bd.length<=5
 w1:1<=W
 w5:W<=5
 rows:∀r∈bd,Row W r
abbrev lE(c:Nat):Prop:=Dl ⟨#[c]⟩=true/\c≠101/\c≠100
def Fm(r:Str):Prop:=∀c∈r.cps.toList,c≠101/\c≠100
def vM:∀(ys:List D),(∀y∈ys,∃c,y= .str ⟨#[c]⟩/\lE c)->∃xs,tP ys=some xs/\xs.length=ys.length/\(xs.map (·.length)).sum=ys.length/\Row ys.length (eN xs)/\Fm (eN xs)
 |[],_=>⟨[],rfl,rfl,rfl,⟨rfl,λc h=>by cases h⟩,λc h=>by cases h⟩
 |y::ys,h=>by
  obtain⟨c,e,hc⟩:=h y (Pa ..);obtain⟨xs,e1,e2,e3,e4,e5⟩:=vM ys λz hz=>h z (O_ _ hz);subst e;have v5:∀z,z∈((⟨#[c]⟩:Str)++eN xs).cps.toList->z=c\/z∈(eN xs).cps.toList:=λz hz=>by
   have:((⟨#[c]⟩:Str)++eN xs).cps= #[c]++(eN xs).cps:=rfl;rw[this] at hz;simpa using hz
  refine⟨⟨#[c]⟩::xs,?_,by simp[e2],?_,⟨?_,λz hz=>?_⟩,λz hz=>?_⟩
  ·show (tP ys).map _=_;rw[e1];rfl
  ·rw[Pj,SK,e3];show 1+ys.length=_;simp;omega
  ·show ((⟨#[c]⟩:Str)++eN xs).length=_;rw[jl,e4.len];show 1+ys.length=_;simp;omega
  ·rcases v5 z hz with rfl | q
   ·exact hc.1
   ·exact e4.let' z q
  ·rcases v5 z hz with rfl | q
   ·exact hc.2
   ·exact e5 z q
def B9{lo:Int}{n:Nat}{d:D}(h:d∈gY lo n):∃i:Nat,i<n/\d= .int (lo+(i:Int)):=by
 unfold gY at h;obtain⟨i,hi,e⟩:=Px.mp h;exact⟨i,Q3.mp hi,e.symm⟩
def Ei{lo:Int}{n j:Nat}{d:D}(h:(gY lo n)[j]? =some d):j<n/\d= .int (lo+(j:Int)):=by
 unfold gY at h;rw[Pq] at h;by_cases hj:j<n
 ·rw[RI hj] at h;cases h;exact⟨hj,rfl⟩
 ·rw[Sm (by simpa using hj)] at h;cases h
def ja(lo:Int)(n:Nat):(gY lo n).length=n:=by simp[gY]
abbrev fz(d:D):Option Sl:=some (.fz d)
def lC{δe:DE}{Z:aP}{d:D}:iE 0 cH δe Z d=(δe (fz d::Z)>>=λy=>ab (some y)):=rfl
def wk{δt:DT}{δe:DE}{Z:aP}{d:D}:iE 0 δt δe Z d=(δt (fz d::Z)>>=λb=>if b then δe (fz d::Z)>>=λy=>ab (some y) else ab none):=rfl
def ai{a b:DS}{Z Z':aP}{o:M Out}(h:a Z=ab (.nx Z'))(h2:b Z'=o):ay a b Z=o:=by
 unfold ay;rw[h];exact h2
def da{a b:DS}{Z:aP}{d:D}(h:a Z=ab (.rt d)):ay a b Z=ab (.rt d):=by
 unfold ay;rw[h];rfl
def aF{i:Nat}{δ:DE}{Z:aP}{d:D}(h:δ Z=ab d):bg i δ Z=ab (.nx (Z.set i (fz d))):=by
 unfold bg;rw[h];rfl
def eT{c:DT}{a b:DS}{Z:aP}{o:M Out}(h:c Z=ab true)(h2:a Z=o):fb c a b Z=o:=by
 unfold fb;rw[h];exact h2
def eI{c:DT}{a b:DS}{Z:aP}{o:M Out}(h:c Z=ab false)(h2:b Z=o):fb c a b Z=o:=by
 unfold fb;rw[h];exact h2
def aL{δ:DE}{Z:aP}{d:D}(h:δ Z=ab d):aX δ Z=ab (.rt d):=by
 unfold aX;rw[h];rfl
def bA{δ:DE}{Z:aP}{d:D}(h:δ Z=ab d):fQ δ Z=ab (.nx Z):=by
 unfold fQ;rw[h];rfl
def aV{n:Nat}{τ:DS}{ds:List D}{d:D}(h:τ (ds.map (λd=>some (Sl.fz d))++Qc (n - ds.length) none)=ab (.rt d)):bS n τ ds=ab d:=by
 unfold bS;rw[h];rfl
def k_{n:Nat}{τ:DS}{ds:List D}{Z:aP}(h:τ (ds.map (λd=>some (Sl.fz d))++Qc (n - ds.length) none)=ab (.nx Z)):bS n τ ds=ab .non:=by
 unfold bS;rw[h];rfl
def Ca{put:D->aP->Option aP}{δi:DA}{b:DS}{Z:aP}{ds:List D}{o:Out}(h:δi Z=ab ds)(h2:forL put b ds Z=ab o):noex (dq put δi b Z)=ab o:=by
 unfold dq;rw[h,au,h2];rfl
def br{is:List Nat}{τ:DS}{Z Z':aP}(h:τ Z=ab (.nx Z')):b_ is τ Z=ab (.nx (fgt is Z')):=by
 unfold b_;rw[h];rfl
def cg{n:Nat}{δi:DA}{δt:DT}{δe:DE}{Z:aP}{ds ys:List D}(h:δi Z=ab ds)(h2:di (iE n δt δe Z) ds=ab ys)(h3:ys.length<=lim):bB n δi δt δe Z=ab (.lst ys):=by
 unfold bB;rw[h,au,h2,Bs,au,Bh h3]
def lY{n:Nat}(h:n<=4096):gc [.int (n:Int)]=ab (gY 0 n):=by
 show (if -4096<=(n:Int)/\(n:Int)<=4096 then ab (gY 0 (n:Int).toNat) else af)=_;rw[UD ⟨by omega,by omega⟩];rfl
structure Alpha (al:Str):Prop where
 pos:0<al.length
 ok:∀c∈al.cps.toList,lE c
def Fs:Alpha "ab"/\Alpha "abc"/\Alpha "aab"/\Alpha "fa":=by
 refine⟨⟨by decide+kernel,?_⟩,⟨by decide+kernel,?_⟩,⟨by decide+kernel,?_⟩,⟨by decide+kernel,?_⟩⟩<;>decide+kernel
def AS{x:Str}{i:Nat}(h:i<x.length):∃c,c∈x.cps.toList/\x.cps.toList[i]? =some c/\qa (.str x) (.int (i:Int))=ab (.str ⟨#[c]⟩):=by
 have h:i<x.cps.toList.length:=by rw[PO];exact h
 refine⟨x.cps.toList[i],Q7 h,Pd h,?_⟩;show (match L2.atI x.cps.toList (i:Int) with | some c=>ab (D.str ⟨#[c]⟩) | none=>af)=_;rw[gx (Pd h)]
abbrev brd(bd:List Str):D:= .tup (bd.map D.str)
abbrev sgn(at' mo:Nat)(ns:List Int)(W:Nat)(al:Str)(bd:List Str)(R:Nat)(x7 x8:Option Sl):aP:=[fz (.scr ns),fz (.int (at':Int)),fz (.int (mo:Int)),fz (.int (R:Int)),fz (.int (W:Int)),fz (.str al),fz (brd bd),x7,x8]
def M0:DE:=bB 0 (λZ=>(aC (dV 4) aN) Z>>=gc) cH (d2 qa (dV 6) (aq 3 aR (aC (dV 1) (aC (d2 cy (d2 cy (d2 cy (dV 2) (dC (.int 3))) (d2 iN (dC (.int 7)) (dV 8))) (dV 0)) (aC (dA bh (aC (dV 6) aN)) aN)))))
def zY(at' mo:Nat)(ns:List Int)(hl:ns.length<=63)(al:Str)(ha:Alpha al)(j W R:Nat)(hW:W<=5)(bd:List Str)(x8:Option Sl):
 ∃ys,M0 (sgn at' mo ns W al bd R (fz (.int (0+(j:Int)))) x8)=ab (.lst ys)/\ys.length=W/\∀y∈ys,∃c,y= .str ⟨#[c]⟩/\lE c:=by
 obtain⟨ys,e,CG,hp⟩:=qF (f:=iE 0 cH (d2 qa (dV 6) (aq 3 aR (aC (dV 1) (aC (d2 cy (d2 cy (d2 cy (dV 2) (dC (.int 3))) (d2 iN (dC (.int 7)) (dV 8))) (dV 0)) (aC (dA bh (aC (dV 6) aN)) aN)))))
  (sgn at' mo ns W al bd R (fz (.int (0+(j:Int)))) x8)) (Pr:=λy=>∃c,y= .str ⟨#[c]⟩/\lE c) (gY 0 W) λd hd=>by
  obtain⟨i,hi,rfl⟩:=B9 hd;obtain⟨v,hv,e⟩:=fm ns hl (at'+3+7*j+i) al.length ha.pos;obtain⟨c,hc,_,e2⟩:=AS hv;refine⟨.str ⟨#[c]⟩,?_,c,rfl,ha.ok c hc⟩;rw[lC];have k:(at':Int)+3+7*(0+(j:Int))+(0+(i:Int))=((at'+3+7*j+i:Nat):Int):=by omega
  have m1:iN (.int 7) (.int (0+(j:Int)))=ab (.int (7*(0+(j:Int)))):=gF (.inl ⟨by decide,by decide⟩);simp only[aq,d2,dV,dC,dA,aC,aN,au,Pl,QK,Qf,Qo,Nat.reduceAdd,if_true,iM,m1,k,bh,e,e2]
 refine⟨ys,cg (lY (n:=W) (by omega)) e (by rw[CG,ja,cU];omega),by rw[CG,ja],hp⟩
def M3:DS:=bg 6 (d2 uD (dV 6) (dA dF (aC (dM Jc joinM (dC (.str "")) (aC (dV 8) aN)) aN)))
def CN(at' mo:Nat)(ns:List Int)(W:Nat)(al:Str)(bd:List Str)(R:Nat)(x7:Option Sl)(ys:List D)(hb:bd.length<=5)(hy:ys.length<=5)(s3:∀y∈ys,∃c,y= .str ⟨#[c]⟩/\lE c):
 ∃r,(Row ys.length r/\Fm r)/\M3 (sgn at' mo ns W al bd R x7 (fz (.lst ys)))=ab (.nx (sgn at' mo ns W al (bd++[r]) R x7 (fz (.lst ys)))):=by
 obtain⟨xs,t1,t2,t3,t4⟩:=vM ys s3;refine⟨eN xs,t4,?_⟩;have jn:joinM (.str "") [.lst ys]=ab (.str (eN xs)):=by
  show (match tP ys with | some (xs:List Str)=>if ("":Str).length=0/\(xs.map (λx:Str=>x.length)).sum<=lim then ab (D.str (eN xs)) else af | none=>af)=_;rw[t1];show (if ("":Str).length=0/\(xs.map (λx:Str=>x.length)).sum<=lim then ab (D.str (eN xs)) else af)=_;rw[UD ⟨rfl,by rw[t3,cU];omega⟩]
 have ct:uD (brd bd) (.tup [.str (eN xs)])=ab (brd (bd++[eN xs])):=by
  show (if (bd.map D.str).length+1<=lim then ab (D.tup (bd.map D.str++[.str (eN xs)])) else af)=_;rw[UD (by rw[Pb,cU];omega)];simp[brd]
 refine(aF (d:=brd (bd++[eN xs])) ?_).trans rfl;simp only[d2,dV,dC,dA,aC,aN,dM,Jc,au,Qf,Qo,if_true,jn,dF,Pl,QK,cU,Nat.reduceAdd,Nat.reduceLeDiff,ct]
def wa(ns:List Int)(hl:ns.length<=63)(at' mo:Nat)(m0:0<mo)(m5:mo<=5):∃bd W,Good bd W/\(∀r∈bd,Fm r)/\bd.length<=mo/\W<=mo/\eE [.scr ns, .int (at':Int), .int (mo:Int)]=ab (brd bd):=by
 obtain⟨r,hr,e1⟩:=fm ns hl at' mo m0;obtain⟨c,hc,e2⟩:=fm ns hl (at'+1) mo m0;obtain⟨a,ha,e3⟩:=fm ns hl (at'+2) 4 (by decide);obtain⟨al,Io,e4⟩:∃al,Alpha al/\eP (.lst [.str "ab", .str "abc", .str "aab", .str "fa"]) (.int (a:Int))=ab (.str al):=by
  obtain⟨a1,a2,a3,a4⟩:=Fs
  match a,ha with
  |0,_=>exact⟨_,a1,rfl⟩
  |1,_=>exact⟨_,a2,rfl⟩
  |2,_=>exact⟨_,a3,rfl⟩
  |3,_=>exact⟨_,a4,rfl⟩
 have k1:(1:Int)+(r:Int)=((r+1:Nat):Int):=by omega
 have k2:(1:Int)+(c:Int)=((c+1:Nat):Int):=by omega
 have Ab:aR [.scr ns, .int (at':Int), .int (mo:Int)]=ab (.int (r:Int)):=e1;have HA:aR [.scr ns, .int ((at':Int)+1), .int (mo:Int)]=ab (.int (c:Int)):=e2;have J0:aR [.scr ns, .int ((at':Int)+2), .int 4]=ab (.int (a:Int)):=e3;obtain⟨Z',f1,bd,f2,f3,f4⟩:=uB (put:=putN 7) (body:=b_ [7,8] (ay (bg 8 M0) M3))
  (I:=λi Z=>∃bd,Z=sgn at' mo ns (c+1) al bd (r+1) none none/\bd.length=i/\∀z∈bd,Row (c+1) z/\Fm z)
  (gY 0 (r+1)) 0 (sgn at' mo ns (c+1) al [] (r+1) none none) ⟨[],rfl,rfl,λ_ h=>by cases h⟩ λj d hd Z ⟨bd,hZ,hb,hw⟩=>by
   obtain⟨hj,rfl⟩:=Ei hd;subst hZ;obtain⟨ys,s1,s2,s3⟩:=zY at' mo ns hl al Io j (c+1) (r+1) (by omega) bd none;obtain⟨v8,t1,t2⟩:=CN at' mo ns (c+1) al bd (r+1) (fz (.int (0+(j:Int)))) ys (by omega) (by omega) s3;refine⟨_,_,rfl,br (ai (aF s1) t2),bd++[v8],rfl,by simp[hb],λz hz=>?_⟩;rcases PR.mp hz with h | h
   ·exact hw z h
   ·have h:z=v8:=by simpa using h
    subst h;rw[s2] at t1;exact t1
 refine⟨bd,c+1,⟨by rw[f3,ja];omega,by rw[f3,ja];omega,by omega,by omega,λr q=>(f4 r q).1⟩,λr q=>(f4 r q).2,by rw[f3,ja];omega,by omega,?_⟩;subst f2;refine aV ?_;refine ai (aF (d:= .int ((r+1:Nat):Int)) ?_) ?_
 ·simp only[aq,d2,dV,dC,aC,aN,au,Pj,Q9,Rz,Qh,Pl,QK,Qf,Qo,Nat.reduceAdd,if_true,iM,Ab,k1]
 refine ai (aF (d:= .int ((c+1:Nat):Int)) ?_) ?_
 ·simp only[aq,d2,dV,dC,aC,aN,au,Pj,Q9,Rz,Qh,Pl,QK,Qc,SM,SN,Nat.reduceSub,Qf,Qo,Nat.reduceAdd,if_true,iM,HA,k2]
 refine ai (aF (d:= .str al) ?_) ?_
 ·simp only[aq,d2,dV,dC,dA,aC,aN,au,Pj,Q9,Rz,Qh,Pl,QK,Qc,SM,SN,Nat.reduceSub,Qf,Qo,Nat.reduceAdd,if_true,iM,J0,eF,cU,Nat.reduceLeDiff,e4]
 refine ai (aF (d:= .tup []) rfl) ?_;refine ai (Ca (lY (n:=r+1) (by omega)) f1) ?_;exact aL rfl
def Plain:D->Prop
 | .non | .bl _ | .int _ | .str _ | .tup _ | .lst _=>True
 |_=>False
def isStr:D->Bool
 | .str _=>true
 |_=>false
def isTup:D->Bool
 | .tup _=>true
 |_=>false
def fZ{d:D}(h:Plain d):hX [d, .raw (.ty "str")]=ab (.bl (isStr d)):=by
 cases d<;>first | rfl | exact h.elim
def nA{d:D}(h:Plain d):hX [d, .raw (.ty "tuple")]=ab (.bl (isTup d)):=by
 cases d<;>first | rfl | exact h.elim
def sv:D->Bool
 | .str x=>(x.length==1)&&Dl x
 |_=>false
def bu{Z:aP}{i:Nat}{d:D}(h:Z[i]? =some (fz d)):dV i Z=ab d:=by
 unfold dV;rw[h]
def eq_int(i j:Int):lH (.int i) (.int j)=ab (.bl (i==j)):=rfl
def ne_int(i j:Int):kr (.int i) (.int j)=ab (.bl (!(i==j))):=rfl
def len_str(x:Str):bh [.str x]=ab (.int (x.length:Int)):=rfl
def in_str(x:Str):AQ false (.str x) (.str "abcdef")=ab (.bl (Dl x)):=rfl
def jQ(a b:Nat):((a:Int)==(b:Int))=(a==b):=by
 by_cases h:a=b
 ·subst h;simp
 ·have h2:¬(a:Int)=(b:Int):=by omega
  rw[UL.mpr h,UL.mpr h2]
def Dy{d:D}(h:Plain d){i:Nat}{Z:aP}(hZ:Z[i]? =some (fz d)):
 fF (dA hX (aC (dV i) (aC (dC (.raw (.ty "str"))) aN))) (fF (d2 lH (dA bh (aC (dV i) aN)) (dC (.int 1))) (d2 (AQ false) (dV i) (dC (.str "abcdef")))) Z=ab (.bl (sv d)):=by
 have hv:=bu hZ;have e1:=jQ;cases d with
 |str x=>
  have k:((x.length:Int)==1)=(x.length==1):=jQ x.length 1;simp only[fF,dA,aC,aN,dC,d2,hv,au,fZ h,isStr,Aa,if_true,len_str,eq_int,k,in_str,sv];cases x.length==1<;>rfl
 |non=>simp only[fF,dA,aC,aN,dC,d2,hv,au,fZ h,isStr,Aa,if_false,Qk,sv]
 |bl b=>simp only[fF,dA,aC,aN,dC,d2,hv,au,fZ h,isStr,Aa,if_false,Qk,sv]
 |int b=>simp only[fF,dA,aC,aN,dC,d2,hv,au,fZ h,isStr,Aa,if_false,Qk,sv]
 |tup b=>simp only[fF,dA,aC,aN,dC,d2,hv,au,fZ h,isStr,Aa,if_false,Qk,sv]
 |lst b=>simp only[fF,dA,aC,aN,dC,d2,hv,au,fZ h,isStr,Aa,if_false,Qk,sv]
 |raw _=>exact h.elim
 |exc _=>exact h.elim
 |scr _=>exact h.elim
 |dct _ _=>exact h.elim
 |dci _ _=>exact h.elim
def jM{d:D}(h:Plain d):bW [d]=ab (.bl (sv d)):=aV (aL (Dy h rfl))
def jB(x:Str):Bool:=x.cps.toList.all λc=>Dl ⟨#[c]⟩
def nk:D->Bool
 | .str x=>(decide (1<=x.length)&&decide (x.length<=8))&&jB x
 |_=>false
def y6(l:List Bool):bools (l.map D.bl)=some l:=by
 induction l with
 |nil=>rfl
 |cons b r ih=>show (bools (r.map D.bl)).map _=_;rw[ih];rfl
def all_map(l:List Bool):allM [.lst (l.map D.bl)]=ab (.bl (l.all id)):=by
 show (match bools (l.map D.bl) with | some bs=>ab (D.bl (bs.all id)) | none=>af)=_;rw[y6]
def Aw{δ:DE}{Z:aP}{n:Nat}(h:δ Z=ab (.int (n:Int))):
 bH (vY (λi j=>decide (i<=j)) (λi j=>decide (i<=j)) (dC (.int 1)) δ (dC (.int 8))) Z=ab (decide (1<=n)&&decide (n<=8)):=by
 have k1:decide ((1:Int)<=(n:Int))=decide (1<=n):=by by_cases h:1<=n<;>simp[h]<;>omega
 have k2:decide ((n:Int)<=8)=decide (n<=8):=by by_cases h:n<=8<;>simp[h]<;>omega
 simp only[bH,vY,dC,h,au,k1,k2,gI,Aa];cases decide (1<=n)<;>rfl
def wL{d:D}(h:Plain d):fJ [d]=ab (.bl (nk d)):=by
 refine aV ?_;have hZ:([d].map (λd=>some (Sl.fz d))++Qc (1 - [d].length) none)=[fz d]:=rfl;rw[hZ];have hv:dV 0 [fz d]=ab d:=rfl;have no:isStr d=false->vR [fz d]=ab (.rt (.bl false)):=λhs=>by
  refine da (eT ?_ (aL rfl));simp only[lq,cG,b9,dA,aC,aN,dC,hv,au,fZ h,hs,vL,Sx,if_true]
 cases d with
 |str x=>
  have hi:b9 (dA hX (aC (dV 0) (aC (dC (.raw (.ty "str"))) aN))) [fz (.str x)]=ab true:=by
   simp only[b9,dA,aC,aN,dC,hv,au,fZ h,isStr,vL]
  have hl:dA bh (aC (dV 0) aN) [fz (.str x)]=ab (.int (x.length:Int)):=rfl;have hc:=Aw hl;by_cases hr:(decide (1<=x.length)&&decide (x.length<=8))=true
  ·rw[hr] at hc;refine ai (eI ?_ (Z:=[fz (.str x)]) rfl) (aL ?_)
   ·unfold lq cG;rw[hi,au,au,hc];rfl
   ·have hb:x.length<=8:=by simp only[P7,UJ] at hr;exact hr.2
    have cm:bB 0 (λZ=>(dV 0) Z>>=Hm) cH (aq 1 bW (aC (dV 0) aN)) [fz (.str x)]=ab (.lst ((x.cps.toList.map λc=>Dl ⟨#[c]⟩).map D.bl)):=by
     refine cg (ds:=signs x) rfl ?_ ?_
     ·have:=gA (f:=iE 0 cH (aq 1 bW (aC (dV 0) aN)) [fz (.str x)]) (g:=λd=>D.bl (sv d)) (signs x) λd hd=>by
       rw[lC];obtain⟨c,_,rfl⟩:=Px.mp hd;show (bW [.str ⟨#[c]⟩]>>=λy=>ab (some y))=_;rw[jM (d:= .str ⟨#[c]⟩) trivial];rfl
      rw[this];unfold signs;rw[P5,P5];congr 1
     ·rw[Pb,Pb,PO,cU];exact PM hb (by decide)
    rw[cS (aI cm rfl),all_map];show ab (D.bl ((x.cps.toList.map λc=>Dl ⟨#[c]⟩).all id))=ab (D.bl ((decide (1<=x.length)&&decide (x.length<=8))&&jB x));rw[hr];unfold jB;rw[Rx];rfl
  ·have hr:(decide (1<=x.length)&&decide (x.length<=8))=false:=by simpa using hr
   rw[hr] at hc;have:nk (.str x)=false:=by
    show ((decide (1<=x.length)&&decide (x.length<=8))&&jB x)=false;rw[hr];rfl
   rw[this];refine da (eT ?_ (aL rfl));unfold lq cG;rw[hi,au,au,hc];rfl
 |non=>exact no rfl
 |bl b=>exact no rfl
 |int b=>exact no rfl
 |tup b=>exact no rfl
 |lst b=>exact no rfl
 |raw _=>exact h.elim
 |exc _=>exact h.elim
 |scr _=>exact h.elim
 |dct _ _=>exact h.elim
 |dci _ _=>exact h.elim
def j6:D->Nat
 | .str x=>x.length
 |_=>0
def nV:D->Bool
 | .tup ds=>(decide (1<=ds.length)&&decide (ds.length<=8))&&(ds.all nk&&ds.all λd=>j6 d==j6 (ds.headD .non))
 |_=>false
def Plain2:D->Prop
 | .tup ds=>∀d∈ds,Plain d
 |d=>Plain d
def Plain2.plain{d:D}(h:Plain2 d):Plain d:=by
 cases d<;>first | exact h | exact trivial
def Dx{ds:List D}:bh [.tup ds]=ab (.int (ds.length:Int)):=rfl
def Lr{ds:List D}{d:D}{r:List D}(h:ds=d::r):aU (.tup ds) (.int 0)=ab d:=by
 subst h;show (match L2.atI (d::r) ((0:Nat):Int) with | some d=>ab d | none=>af)=_;rw[gx (x:=d) rfl]
def Ej{d:D}(h:nk d=true):∃x,d= .str x:=by
 cases d<;>first | exact⟨_,rfl⟩ | cases h
def zg{d:D}(h:Plain d):lq (cG (b9 (dA hX (aC (dV 0) (aC (dC (.raw (.ty "tuple"))) aN))))) (cG (bH (vY (λi j=>decide (i<=j)) (λi j=>decide (i<=j)) (dC (.int 1)) (dA bh (aC (dV 0) aN)) (dC (.int 8))))) [fz d]=
 ab (match d with | .tup ds=>!(decide (1<=ds.length)&&decide (ds.length<=8)) | _=>true):=by
 have hv:dV 0 [fz d]=ab d:=rfl;have no:isTup d=false->lq (cG (b9 (dA hX (aC (dV 0) (aC (dC (.raw (.ty "tuple"))) aN))))) (cG (bH (vY (λi j=>decide (i<=j)) (λi j=>decide (i<=j)) (dC (.int 1)) (dA bh (aC (dV 0) aN)) (dC (.int 8))))) [fz d]=ab true:=λhs=>by
  simp only[lq,cG,b9,dA,aC,aN,dC,hv,au,nA h,hs,vL,Sx,if_true]
 cases d with
 |tup ds=>
  have hi:b9 (dA hX (aC (dV 0) (aC (dC (.raw (.ty "tuple"))) aN))) [fz (.tup ds)]=ab true:=by
   simp only[b9,dA,aC,aN,dC,hv,au,nA h,isTup,vL]
  have hl:dA bh (aC (dV 0) aN) [fz (.tup ds)]=ab (.int (ds.length:Int)):=rfl;unfold lq cG;rw[hi,au,au,Aw hl];rfl
 |non=>exact no rfl
 |bl b=>exact no rfl
 |int b=>exact no rfl
 |str b=>exact no rfl
 |lst b=>exact no rfl
 |raw _=>exact h.elim
 |exc _=>exact h.elim
 |scr _=>exact h.elim
 |dct _ _=>exact h.elim
 |dci _ _=>exact h.elim
def all_rows{ds:List D}(h:∀d∈ds,Plain d)(hl:ds.length<=8):dA allM (aC (bB 0 (uh (dV 0)) cH (aq 1 fJ (aC (dV 0) aN))) aN) [fz (.tup ds)]=ab (.bl (ds.all nk)):=by
 have cm:bB 0 (uh (dV 0)) cH (aq 1 fJ (aC (dV 0) aN)) [fz (.tup ds)]=ab (.lst ((ds.map nk).map D.bl)):=by
  refine cg (ds:=ds) rfl ?_ (by rw[Pb,Pb,cU];omega);rw[P5];refine gA (g:=D.bl∘nk) ds λd hd=>?_;rw[lC];show (fJ [d]>>=λy=>ab (some y))=_;rw[wL (h d hd)];rfl
 rw[cS (aI cm rfl),all_map,Rx];rfl
def all_lens{ds:List D}(hs:∀d∈ds,∃x,d= .str x)(h0:1<=ds.length)(hl:ds.length<=8):
 dA allM (aC (bB 0 (uh (dV 0)) cH (d2 lH (dA bh (aC (dV 0) aN)) (dA bh (aC (d2 aU (dV 1) (dC (.int 0))) aN)))) aN) [fz (.tup ds)]=ab (.bl (ds.all λd=>j6 d==j6 (ds.headD .non))):=by
 obtain⟨d0,r,e0⟩:∃d0 r,ds=d0::r:=by
  cases ds with
  |nil=>simp at h0
  |cons a r=>exact⟨a,r,rfl⟩
 have hh:ds.headD .non=d0:=by rw[e0];rfl
 obtain⟨x0,MD⟩:=hs d0 (by rw[e0];exact Pa ..);have cm:bB 0 (uh (dV 0)) cH (d2 lH (dA bh (aC (dV 0) aN)) (dA bh (aC (d2 aU (dV 1) (dC (.int 0))) aN))) [fz (.tup ds)]=ab (.lst ((ds.map λd=>j6 d==j6 (ds.headD .non)).map D.bl)):=by
  refine cg (ds:=ds) rfl ?_ (by rw[Pb,Pb,cU];omega);rw[P5];refine gA (g:=D.bl∘λd=>j6 d==j6 (ds.headD .non)) ds λd hd=>?_;rw[lC];obtain⟨x,rfl⟩:=hs d hd;have k:((x.length:Int)==(x0.length:Int))=(x.length==x0.length):=jQ _ _;have i0:aU (.tup ds) (.int 0)=ab (.str x0):=by rw[Lr e0,MD]
  have NP:ds.headD .non= .str x0:=by rw[hh,MD]
  simp only[d2,dA,aC,aN,dC,dV,au,Qf,Qo,len_str,i0,eq_int,k,UC,j6,NP]
 rw[cS (aI cm rfl),all_map,Rx];rfl
def sr{d:D}(h:Plain2 d):g8 [d]=ab (.bl (nV d)):=by
 refine aV ?_;have hZ:([d].map (λd=>some (Sl.fz d))++Qc (1 - [d].length) none)=[fz d]:=rfl;rw[hZ];have hf:=zg h.plain;have no:(∀ds,d≠ .tup ds)->pX [fz d]=ab (.rt (.bl (nV d))):=λhn=>by
  cases d<;>first | exact UK rfl (hn _) | exact da (eT hf (aL rfl))
 cases d with
 |tup ds=>
  have hf:_=ab (!(decide (1<=ds.length)&&decide (ds.length<=8))):=hf;by_cases hr:(decide (1<=ds.length)&&decide (ds.length<=8))=true
  ·rw[hr] at hf;have hb:=hr;simp only[P7,UJ] at hb;have e:nV (.tup ds)=(ds.all nk&&ds.all λd=>j6 d==j6 (ds.headD .non)):=by
    show ((decide (1<=ds.length)&&decide (ds.length<=8))&&_)=_;rw[hr,SQ]
   rw[e];have a1:=all_rows h hb.2;refine ai (eI hf rfl) ?_;cases hc:ds.all nk with
   |false=>
    rw[hc] at a1;refine da (eT ?_ (aL rfl));unfold cG b9;rw[a1];rfl
   |true=>
    rw[hc] at a1;refine ai (eI ?_ rfl) (aL ?_)
    ·unfold cG b9;rw[a1];rfl
    ·rw[SQ];exact all_lens (λd hd=>Ej (PJ.mp hc d hd)) hb.1 hb.2
  ·have hr:(decide (1<=ds.length)&&decide (ds.length<=8))=false:=by simpa using hr
   rw[hr] at hf;have e:nV (.tup ds)=false:=by
    show ((decide (1<=ds.length)&&decide (ds.length<=8))&&_)=_;rw[hr];rfl
   rw[e];exact da (eT hf (aL rfl))
 |non=>exact no λ_ z=>by cases z
 |bl b=>exact no λ_ z=>by cases z
 |int b=>exact no λ_ z=>by cases z
 |str b=>exact no λ_ z=>by cases z
 |lst b=>exact no λ_ z=>by cases z
 |raw _=>exact h.elim
 |exc _=>exact h.elim
 |scr _=>exact h.elim
 |dct _ _=>exact h.elim
 |dci _ _=>exact h.elim
structure Brd (ob:List Str) (V:Nat):Prop where
 r1:1<=ob.length
 r8:ob.length<=8
 w1:1<=V
 w8:V<=8
 rows:∀r∈ob,Row V r
def Good.brd{bd:List Str}{W:Nat}(hg:Good bd W):Brd bd W:=⟨hg.r1,by have:=hg.r5;omega,hg.w1,by have:=hg.w5;omega,hg.rows⟩
def Brd.board{ob:List Str}{V:Nat}(h:Brd ob V):nV (brd ob)=true:=by
 have Lg:∀r∈ob,nk (.str r)=true:=λr hr=>by
  have q:=h.rows r hr;show ((decide (1<=r.length)&&decide (r.length<=8))&&jB r)=true;rw[q.len];have a:decide (1<=V)=true:=UG h.w1;have b:decide (V<=8)=true:=UG h.w8;rw[a,b];show jB r=true;exact PJ.mpr λc hc=>q.let' c hc
 have h0:j6 ((ob.map D.str).headD .non)=V:=by
  have:=h.r1;have hr:=h.rows;cases ob with
  |nil=>simp at this
  |cons x l=>exact(hr x (Pa ..)).len
 show ((decide (1<=(ob.map D.str).length)&&decide ((ob.map D.str).length<=8))&&((ob.map D.str).all nk&&(ob.map D.str).all λd=>j6 d==j6 ((ob.map D.str).headD .non)))=true;rw[h0,Pb,UG h.r1,UG h.r8];have a:(ob.map D.str).all nk=true:=PJ.mpr λd hd=>by
  obtain⟨r,hr,rfl⟩:=Px.mp hd;exact Lg r hr
 have b:((ob.map D.str).all λd=>j6 d==V)=true:=PJ.mpr λd hd=>by
  obtain⟨r,hr,rfl⟩:=Px.mp hd;show (r.length==V)=true;rw[(h.rows r hr).len];simp
 rw[a,b];rfl
def y7{bd:List Str}:Plain2 (brd bd):=λd hd=>by
 obtain⟨r,_,rfl⟩:=Px.mp hd;trivial
def lF{δ:DE}{Z:aP}{b:Bool}(h:δ Z=ab (.bl b)):b9 δ Z=ab b:=by
 unfold b9;rw[h];rfl
def cZ{δ:DE}{Z:aP}{b:Bool}(h:δ Z=ab (.bl b)):bH δ Z=ab b:=by
 unfold bH;rw[h];rfl
def lD{τ:DT}{Z:aP}{b:Bool}(h:τ Z=ab b):cG τ Z=ab (!b):=by
 unfold cG;rw[h];rfl
def xZ{a c:DT}{Z:aP}{p q:Bool}(h1:a Z=ab p)(h2:c Z=ab q):lq a c Z=ab (p||q):=by
 unfold lq;rw[h1,au];cases p
 ·exact h2
 ·rfl
def wq{a c:DT}{Z:aP}{p q:Bool}(h1:a Z=ab p)(h2:c Z=ab q):ky a c Z=ab (p&&q):=by
 unfold ky;rw[h1,au];cases p
 ·rfl
 ·exact h2
def wo{a c:DT}{Z:aP}(h1:a Z=ab false):ky a c Z=ab false:=by
 unfold ky;rw[h1];rfl
def xY{c:DT}{a b:DE}{Z:aP}{p:Bool}(h:c Z=ab p):Az c a b Z=if p then a Z else b Z:=by
 unfold Az;rw[h];rfl
def Brd.nb{ob:List Str}{V:Nat}(h:Brd ob V):bx [brd ob]=ab .non:=by
 refine k_ (Z:=[fz (brd ob)]) (eI (lD (lF (b:=true) ?_)) rfl);refine(aj (ds:=[brd ob]) rfl rfl).trans ?_;rw[sr y7,h.board]
structure Ln (V:Nat) (r:Str):Prop where
 len:r.length=V
structure Wd (ob:List Str) (V:Nat):Prop where
 r1:1<=ob.length
 r8:ob.length<=8
 w1:1<=V
 w8:V<=8
 rows:∀r∈ob,Ln V r
def Brd.wd{ob:List Str}{V:Nat}(h:Brd ob V):Wd ob V:=⟨h.r1,h.r8,h.w1,h.w8,λr hr=>⟨(h.rows r hr).len⟩⟩
def Wd.len0{ob:List Str}{V:Nat}(h:Wd ob V){i:Nat}{Z:aP}(hZ:Z[i]? =some (fz (brd ob))):dA bh (aC (d2 aU (dV i) (dC (.int 0))) aN) Z=ab (.int (V:Int)):=by
 have h1:=h.r1;have hr:=h.rows;obtain⟨x,l,e⟩:∃x l,ob=x::l:=by
  cases ob with
  |nil=>simp at h1
  |cons x l=>exact⟨x,l,rfl⟩
 have hx:x.length=V:=(hr x (by rw[e];exact Pa ..)).len;have i0:aU (brd ob) (.int 0)=ab (.str x):=Lr (show ob.map D.str=D.str x::l.map D.str by rw[e];rfl);have k:=aB (g:=aU) (bu hZ) (show dC (.int 0) Z=ab (.int 0) from rfl);rw[i0] at k;rw[cS (aI (xs:=[]) k rfl)];show ab (D.int (x.length:Int))=_;rw[hx]
def Brd.len0{ob:List Str}{V:Nat}(h:Brd ob V){i:Nat}{Z:aP}(hZ:Z[i]? =some (fz (brd ob))):dA bh (aC (d2 aU (dV i) (dC (.int 0))) aN) Z=ab (.int (V:Int)):=h.wd.len0 hZ
def Bf{bd:List Str}{i:Nat}{Z:aP}(hZ:Z[i]? =some (fz (brd bd))):dA bh (aC (dV i) aN) Z=ab (.int (bd.length:Int)):=by
 have:bh [brd bd]=ab (.int (bd.length:Int)):=by
  show ab (D.int ((bd.map D.str).length:Int))=_;rw[Pb]
 simp only[dA,aC,aN,bu hZ,au,this]
def iD:D->Bool
 | .int _=>true
 |_=>false
def l9{d:D}(h:Plain d):a_ [d]=ab (.bl (iD d)):=by
 cases d<;>first | rfl | exact h.elim
def HU(R W:Nat):D->D->Bool
 | .int a, .int b=>(decide (0<=a)&&decide (a<(R:Int)))&&(decide (0<=b)&&decide (b<(W:Int)))
 |_,_=>false
def EA(R W:Nat):D->Bool
 | .tup [u,v]=>HU R W u v
 |_=>false
def HW{δ ε:DE}{Z:aP}{i n:Int}(h:δ Z=ab (.int i))(h2:ε Z=ab (.int n)):
 vY (λi j=>decide (i<=j)) (λi j=>decide (i<j)) (dC (.int 0)) δ ε Z=ab (.bl (decide (0<=i)&&decide (i<n))):=by
 simp only[vY,dC,h,h2,au,gI];cases decide (0<=i)<;>rfl
def uH{bd:List Str}{W:Nat}(hg:Brd bd W){d:D}(h:Plain2 d):jw [brd bd,d]=ab (.bl (EA bd.length W d)):=by
 refine aV ?_;have hZ:([brd bd,d].map (λd=>some (Sl.fz d))++Qc (2 - [brd bd,d].length) none)=[fz (brd bd),fz d]:=rfl;rw[hZ];have hv:dV 1 [fz (brd bd),fz d]=ab d:=rfl;have no:isTup d=false->rQ [fz (brd bd),fz d]=ab (.rt (.bl false)):=λhs=>by
  refine da (eT ?_ (aL rfl));simp only[lq,cG,b9,dA,aC,aN,dC,hv,au,nA h.plain,hs,vL,Sx,if_true]
 cases d with
 |tup ds=>
  have hi:cG (b9 (dA hX (aC (dV 1) (aC (dC (.raw (.ty "tuple"))) aN)))) [fz (brd bd),fz (.tup ds)]=ab false:=by
   simp only[cG,b9,dA,aC,aN,dC,hv,au,nA h.plain,isTup,vL,Bool.not_true]
  have k:((ds.length:Int)==2)=(ds.length==2):=jQ ds.length 2;have hl:lq (cG (b9 (dA hX (aC (dV 1) (aC (dC (.raw (.ty "tuple"))) aN))))) (bH (d2 kr (dA bh (aC (dV 1) aN)) (dC (.int 2)))) [fz (brd bd),fz (.tup ds)]=ab (!(ds.length==2)):=by
   unfold lq;rw[hi];simp only[bH,d2,dA,aC,aN,dC,hv,au,Dx,ne_int,k,Aa,Qk,if_false]
  match ds,h,hl with
  |[],h,hl=>exact da (eT hl (aL rfl))
  |[_],h,hl=>exact da (eT hl (aL rfl))
  |_::_::_::_,h,hl=>
   refine da (eT (hl.trans ?_) (aL rfl));simp
  |[u,v],h,hl=>
   refine ai (eI hl rfl) ?_;have pu:Plain u:=h u (by simp);have pv:Plain v:=h v (by simp);have w1:aq 1 a_ (aC (d2 aU (dV 1) (dC (.int 0))) aN) [fz (brd bd),fz (.tup [u,v])]=ab (.bl (iD u)):=l9 pu;have w2:aq 1 a_ (aC (d2 aU (dV 1) (dC (.int 1))) aN) [fz (brd bd),fz (.tup [u,v])]=ab (.bl (iD v)):=l9 pv;have hw:lq (cG (b9 (aq 1 a_ (aC (d2 aU (dV 1) (dC (.int 0))) aN)))) (cG (b9 (aq 1 a_ (aC (d2 aU (dV 1) (dC (.int 1))) aN)))) [fz (brd bd),fz (.tup [u,v])]=ab (!(iD u&&iD v)):=by
    unfold lq cG b9;rw[w1,w2];simp only[au,vL];cases iD u<;>cases iD v<;>rfl
   have bad:(iD u&&iD v)=false->ay (fb (lq (cG (b9 (aq 1 a_ (aC (d2 aU (dV 1) (dC (.int 0))) aN)))) (cG (b9 (aq 1 a_ (aC (d2 aU (dV 1) (dC (.int 1))) aN))))) (aX (dC (.bl false))) bY) (aX (fF (vY (λi j=>decide (i<=j)) (λi j=>decide (i<j)) (dC (.int 0)) (d2 aU (dV 1) (dC (.int 0))) (dA bh (aC (dV 0) aN))) (vY (λi j=>decide (i<=j)) (λi j=>decide (i<j)) (dC (.int 0)) (d2 aU (dV 1) (dC (.int 1))) (dA bh (aC (d2 aU (dV 0) (dC (.int 0))) aN))))) [fz (brd bd),fz (.tup [u,v])]=ab (.rt (.bl false)):=λhz=>by
    rw[hz] at hw;exact da (eT hw (aL rfl))
   match u,v,hw,bad with
   | .int a, .int b,hw,bad=>
     refine ai (eI hw rfl) (aL ?_);obtain⟨x0,r,e0⟩:∃x0 r,bd=x0::r:=by
      have:=hg.r1;cases bd with
      |nil=>simp at this
      |cons x r=>exact⟨x,r,rfl⟩
     have hx:x0.length=W:=(hg.rows x0 (by rw[e0];simp)).len;have l0:dA bh (aC (dV 0) aN) [fz (brd bd),fz (.tup [.int a, .int b])]=ab (.int (bd.length:Int)):=by
      show ab (D.int ((bd.map D.str).length:Int))=_;rw[Pb]
     have l1:dA bh (aC (d2 aU (dV 0) (dC (.int 0))) aN) [fz (brd bd),fz (.tup [.int a, .int b])]=ab (.int (W:Int)):=by
      have i0:aU (brd bd) (.int 0)=ab (.str x0):=Lr (r:=r.map D.str) (by rw[e0];rfl);simp only[dA,aC,aN,d2,dC,dV,Qf,au,i0,len_str,hx]
     have c1:=HW (δ:=d2 aU (dV 1) (dC (.int 0))) (i:=a) rfl l0;have c2:=HW (δ:=d2 aU (dV 1) (dC (.int 1))) (i:=b) rfl l1;unfold fF;rw[c1,au];show (if (decide (0<=a)&&decide (a<(bd.length:Int)))=true then _ else _)=ab (D.bl ((decide (0<=a)&&decide (a<(bd.length:Int)))&&(decide (0<=b)&&decide (b<(W:Int)))));cases (decide (0<=a)&&decide (a<(bd.length:Int)))
     ·rfl
     ·rw[UD rfl,c2,SQ]
   | .non,_,_,bad=>exact bad rfl
   | .bl _,_,_,bad=>exact bad rfl
   | .str _,_,_,bad=>exact bad rfl
   | .tup _,_,_,bad=>exact bad rfl
   | .lst _,_,_,bad=>exact bad rfl
   | .raw _,_,_,_=>exact pu.elim
   | .exc _,_,_,_=>exact pu.elim
   | .scr _,_,_,_=>exact pu.elim
   | .int a, .non,_,bad=>exact bad rfl
   | .int a, .bl _,_,bad=>exact bad rfl
   | .int a, .str _,_,bad=>exact bad rfl
   | .int a, .tup _,_,bad=>exact bad rfl
   | .int a, .lst _,_,bad=>exact bad rfl
   | .int a, .raw _,_,_=>exact pv.elim
   | .int a, .exc _,_,_=>exact pv.elim
   | .int a, .scr _,_,_=>exact pv.elim
 |non=>exact no rfl
 |bl b=>exact no rfl
 |int b=>exact no rfl
 |str b=>exact no rfl
 |lst b=>exact no rfl
 |raw _=>exact h.elim
 |exc _=>exact h.elim
 |scr _=>exact h.elim
 |dct _ _=>exact h.elim
 |dci _ _=>exact h.elim
abbrev Cell:=Nat×Nat
def cD(c:Cell):D:= .tup [.int (c.1:Int), .int (c.2:Int)]
def On(R W:Nat)(c:Cell):Prop:=c.1<R/\c.2<W
instance {R W:Nat}{c:Cell}:Decidable (On R W c):=by unfold On;infer_instance
def Ao{c:Cell}:Plain2 (cD c):=λd hd=>by
 have:d= .int (c.1:Int)\/d= .int (c.2:Int):=by simpa[cD] using hd
 rcases this with rfl | rfl<;>trivial
def CO{R W:Nat}{c:Cell}(h:On R W c):EA R W (cD c)=true:=by
 show ((decide ((0:Int)<=(c.1:Int))&&decide ((c.1:Int)<(R:Int)))&&(decide ((0:Int)<=(c.2:Int))&&decide ((c.2:Int)<(W:Int))))=true;obtain⟨h1,h2⟩:=h;simp;omega
def Brd.nc{bd:List Str}{W:Nat}(hg:Brd bd W){c:Cell}(h:On bd.length W c):cu [brd bd,cD c]=ab .non:=by
 refine k_ (Z:=[fz (brd bd),fz (cD c)]) (eI (lD (lF (b:=true) ?_)) rfl);refine(aj (ds:=[brd bd,cD c]) rfl rfl).trans ?_;rw[uH hg Ao,CO h]
def Ways(w:Nat):Prop:=w=4\/w=8
def Ways.nw{w:Nat}(h:Ways w):bL [.int (w:Int)]=ab .non:=by
 rcases h with rfl | rfl<;>rfl
def ch(x:Str)(j:Nat):Nat:=x.cps.toList.getD j 0
def at2(bd:List Str)(i j:Nat):Nat:=ch (bd.getD i ⟨#[]⟩) j
abbrev lt(bd:List Str)(c:Cell):Nat:=at2 bd c.1 c.2
def sg(n:Nat):D:= .str ⟨#[n]⟩
def Em{x:Str}{c:Nat}(h:c<x.length):qa (.str x) (.int (c:Int))=ab (sg (ch x c)):=by
 have h':c<x.cps.toList.length:=by rw[PO];exact h
 show (match L2.atI x.cps.toList (c:Int) with | some c=>ab (D.str ⟨#[c]⟩) | none=>af)=_;rw[gx (Pd h')];unfold sg ch;rw[PV,Pd h'];rfl
def getD_mem{bd:List Str}{i:Nat}(h:i<bd.length):bd.getD i ⟨#[]⟩∈bd:=by
 rw[PV,Pd h];exact Q7 h
def Gk{bd:List Str}{i:Nat}(h:i<bd.length):aU (brd bd) (.int (i:Int))=ab (.str (bd.getD i ⟨#[]⟩)):=by
 show (match L2.atI (bd.map D.str) (i:Int) with | some d=>ab d | none=>af)=_;rw[gx (x:= .str (bd.getD i ⟨#[]⟩)) ?_];rw[Pq,Pd h,PV,Pd h];rfl
def ej{bd:List Str}{W:Nat}(hg:Brd bd W){c:Cell}(h:On bd.length W c):bK [brd bd,cD c]=ab (sg (lt bd c)):=by
 refine aV (aL ?_);refine(aB (x:= .str (bd.getD c.1 ⟨#[]⟩)) (y:= .int (c.2:Int)) ((aB (x:=brd bd) (y:= .int (c.1:Int)) rfl rfl).trans (Gk h.1)) rfl).trans ?_;exact Em (by rw[(hg.rows _ (getD_mem h.1)).len];exact h.2)
def EH(a b:Nat):lH (sg a) (sg b)=ab (.bl (decide (a=b))):=by
 show ab (D.bl (decide ((⟨#[a]⟩:Str)=⟨#[b]⟩)))=_;congr 2;by_cases h:a=b
 ·subst h;simp
 ·have:¬((⟨#[a]⟩:Str)=⟨#[b]⟩):=λz=>by
   injection z with z
   exact h (by simpa using z)
  rw[UH h,UH this]
def bo(a b:Nat):Nat:=max a b - min a b
def jI(w:Nat)(a b:Cell):Bool:=if w=4 then decide (bo a.1 b.1+bo a.2 b.2=1) else decide (max (bo a.1 b.1) (bo a.2 b.2)=1)
def nv(a b:Nat):rR [.int ((a:Int) - (b:Int))]=ab (.int (bo a b:Int)):=by
 show ab (D.int _)=_;congr 2;unfold bo;omega
def rT{w:Nat}(hw:Ways w)(a b:Cell):df [cD a,cD b, .int (w:Int)]=ab (.bl (jI w a b)):=by
 refine aV ?_;refine ai (Z':=[fz (cD a),fz (cD b),fz (.int (w:Int)),fz (.int (bo a.1 b.1:Int)),none]) ((aF (d:= .int (bo a.1 b.1:Int)) (nv a.1 b.1)).trans rfl) ?_;refine ai (Z':=[fz (cD a),fz (cD b),fz (.int (w:Int)),fz (.int (bo a.1 b.1:Int)),fz (.int (bo a.2 b.2:Int))]) ((aF (d:= .int (bo a.2 b.2:Int)) (nv a.2 b.2)).trans rfl) ?_;rcases hw with rfl | rfl
 ·refine da (eT (cZ rfl) (aL ?_));show ab (D.bl (((bo a.1 b.1:Int)+(bo a.2 b.2:Int))==1))=_;unfold jI;rw[UD rfl];congr 2;have:((bo a.1 b.1:Int)+(bo a.2 b.2:Int))=((bo a.1 b.1+bo a.2 b.2:Nat):Int):=by omega
  rw[this];have e:=jQ (bo a.1 b.1+bo a.2 b.2) 1;exact e.trans rfl
 ·refine ai (eI (cZ rfl) rfl) (aL ?_);show ab (D.bl ((if (bo a.1 b.1:Int)<(bo a.2 b.2:Int) then(bo a.2 b.2:Int) else(bo a.1 b.1:Int))==1))=_;have hn:jI 8 a b=decide (max (bo a.1 b.1) (bo a.2 b.2)=1):=rfl;rw[hn];congr 2;have:(if (bo a.1 b.1:Int)<(bo a.2 b.2:Int) then(bo a.2 b.2:Int) else(bo a.1 b.1:Int))=((max (bo a.1 b.1) (bo a.2 b.2):Nat):Int):=by split<;>omega
  rw[this];have e:=jQ (max (bo a.1 b.1) (bo a.2 b.2)) 1;exact e.trans rfl
def kR(w:Nat)(a b:Cell):jI w a b=jI w b a:=by
 have e:∀x y:Nat,bo x y=bo y x:=λx y=>by unfold bo;omega
 unfold jI;rw[e a.1,e a.2]
def Jn{a b:Cell}(h:jI 4 a b=true):jI 8 a b=true:=by
 unfold jI at h⊢;rw[UD rfl] at h;rw[UE (by decide)];have h:=UI h;exact UG (by omega)
def cM{put:D->aP->Option aP}{body:DS}{d:D}{ds:List D}{Z Z1 Z2:aP}(h1:put d Z=some Z1)(h2:body Z1=ab (.nx Z2)):forL put body (d::ds) Z=forL put body ds Z2:=by
 show (match put d Z with | none=>af | some Z1=>body Z1>>=λo=>match o with | .nx Z2=>forL put body ds Z2 | .rt v=>ab (.rt v))=_;rw[h1];show (body Z1>>=λo=>match o with | .nx Z2=>forL put body ds Z2 | .rt v=>ab (.rt v))=_;rw[h2];rfl
section
variable{α σ:Type}{put:D->aP->Option aP}{body:DS}
def jy(enc:α->D)(mk:σ->aP)(step:σ->α->σ)(I:σ->Prop):∀(xs:List α) (s:σ),I s->(∀s,I s->∀x∈xs,I (step s x)/\∃Z1,put (enc x) (mk s)=some Z1/\body Z1=ab (.nx (mk (step s x))))->
 I (xs.foldl step s)/\forL put body (xs.map enc) (mk s)=ab (.nx (mk (xs.foldl step s)))
 |[],s,h,_=>⟨h,rfl⟩
 |x::xs,s,h,st=>by
  obtain⟨h2,Z1,e1,e2⟩:=st s h x (Pa ..);obtain⟨h3,e3⟩:=jy enc mk step I xs (step s x) h2 λs hs y hy=>st s hs y (O_ _ hy);exact⟨h3,(cM e1 e2).trans e3⟩
def qJ(enc:α->D)(Z:aP):∀(xs:List α),(∀x∈xs,∃Z1,put (enc x) Z=some Z1/\body Z1=ab (.nx Z))->forL put body (xs.map enc) Z=ab (.nx Z)
 |[],_=>rfl
 |x::xs,st=>by
  obtain⟨Z1,e1,e2⟩:=st x (Pa ..);exact(cM e1 e2).trans (qJ enc Z xs λy hy=>st y (O_ _ hy))
def gD(enc:α->D)(mk:List D->aP)(g:α->List D){B:Nat}:∀(xs:List α) (v2:List D),(v2++xs.flatMap g).length<=B->(∀x∈xs,∀v2,(v2++g x).length<=B->∃Z1,put (enc x) (mk v2)=some Z1/\body Z1=ab (.nx (mk (v2++g x))))->
 forL put body (xs.map enc) (mk v2)=ab (.nx (mk (v2++xs.flatMap g)))
 |[],v2,_,_=>by simp;rfl
 |x::xs,v2,hB,st=>by
  have Me:((v2++g x)++xs.flatMap g).length<=B:=by simpa[QY,Rt] using hB
  obtain⟨Z1,e1,e2⟩:=st x (Pa ..) v2 (PM (by simp only[Pp];omega) Me);have e3:=gD enc mk g xs (v2++g x) Me λy hy=>st y (O_ _ hy);rw[Pj,cM e1 e2,e3,QY,Rt]
end
def eS{put:D->aP->Option aP}{δi:DA}{b:DS}{Z:aP}{ds:List D}{m:M Out}(h:δi Z=ab ds)(h2:forL put b ds Z=m):dq put δi b Z=m:=by
 unfold dq;rw[h];exact h2
def cX{τ:DS}{Z:aP}{o:Out}(h:τ Z=ab o):(λZ=>noex (τ Z)) Z=ab o:=by
 show noex (τ Z)=_;rw[h];rfl
def vy(lo n:Nat):gY (lo:Int) n=(Qn lo n).map λ(k:Nat)=>D.int (k:Int):=by
 unfold gY;rw[T7];have:∀(n a:Nat),(Qn a n).map (λ(i:Nat)=>D.int ((lo:Int)+(i:Int)))=(Qn (lo+a) n).map λ(k:Nat)=>D.int (k:Int):=by
  intro n;induction n with
  |zero=>intro a;rfl
  |succ n ih=>
   intro a;rw[R_,R_,Pj,Pj,ih (a+1)];rfl
 exact this n 0
def B8{δ:DE}{Z:aP}{n:Nat}(h:δ Z=ab (.int (n:Int)))(hn:n<=4096):(aC δ aN Z>>=gc)=ab ((PY n).map λ(k:Nat)=>D.int (k:Int)):=by
 rw[aI h rfl,au,lY hn,show gY 0 n=gY ((0:Nat):Int) n from rfl,vy,T7]
def JK{δ ε:DE}{Z:aP}{i j:Nat}(h:δ Z=ab (.int (i:Int)))(h2:ε Z=ab (.int (j:Int)))(hi:i<=4096)(hj:j<=4096):(aC δ (aC ε aN) Z>>=rE)=ab ((Qn i (j - i)).map λ(k:Nat)=>D.int (k:Int)):=by
 rw[aI h (aI h2 rfl),au];show (if (-4096<=(i:Int)/\(i:Int)<=4096)/\(-4096<=(j:Int)/\(j:Int)<=4096) then ab (gY (i:Int) ((j:Int) - (i:Int)).toNat) else af)=_;rw[UD ⟨⟨by omega,by omega⟩,by omega,by omega⟩,show ((j:Int) - (i:Int)).toNat=j - i by omega,vy]
def bw(W r:Nat):List Cell:=(PY W).map λk=>(r,k)
def aQ(R W:Nat):List Cell:=(PY R).flatMap (bw W)
def aJ{R W:Nat}{c:Cell}:c∈aQ R W↔On R W c:=by
 unfold aQ bw On;simp only[List.mem_flatMap,Q3,Px];constructor
 ·rintro⟨r,hr,k,hk,rfl⟩;exact⟨hr,hk⟩
 ·rintro⟨h1,h2⟩;exact⟨c.1,h1,c.2,h2,rfl⟩
def cB(R W:Nat):(aQ R W).length=R*W:=by
 unfold aQ;have:∀l:List Nat,(l.flatMap (bw W)).length=l.length*W:=by
  intro l;induction l with
  |nil=>simp
  |cons a l ih=>rw[QY,Pp,ih,Pl,Nat.succ_mul];simp[bw];omega
 rw[this,UA]
def gy{bd:List Str}{W:Nat}(hg:Brd bd W)(r:Nat):aW [brd bd, .int (r:Int)]=ab (.lst ((bw W r).map cD)):=by
 have:=hg.w8;refine aV (aL (cg (B8 (n:=W) (hg.len0 rfl) (by omega)) ?_ (by simp[bw,cU];omega)));rw[show (bw W r).map cD=((PY W).map λ(k:Nat)=>D.int (k:Int)).map (λe=> .tup [.int (r:Int),e]) by simp[bw,P5];intro a _;rfl];exact gA (g:=λe=> .tup [.int (r:Int),e]) _ λe _=>rfl
def gj{bd:List Str}{W:Nat}(hg:Brd bd W):cq [brd bd]=ab (.lst ((aQ bd.length W).map cD)):=by
 have h8:=hg.r8;have w8:=hg.w8;have hm:bd.length*W<=64:=Q6 h8 w8;have FV:(PY bd.length).flatMap (λr=>(bw W r).map cD)=(aQ bd.length W).map cD:=by
  unfold aQ;rw[S2]
 have e:=gD (put:=putN 2) (body:=b_ [2] (B_ 1 (aq 2 aW (aC (dV 0) (aC (dV 2) aN))))) (λ(k:Nat)=>D.int (k:Int)) (λv2=>[fz (brd bd),some (.ow (.lst v2)),none]) (λr=>(bw W r).map cD) (B:=64) (PY bd.length) []
  (by rw[Qh,FV,Pb,cB];exact hm) λr hr v2 hB=>by
   refine⟨[fz (brd bd),some (.ow (.lst v2)),fz (.int (r:Int))],rfl,?_⟩;refine(br (Z':=[fz (brd bd),some (.ow (.lst (v2++(bw W r).map cD))),fz (.int (r:Int))]) ?_).trans rfl;show (aW [brd bd, .int (r:Int)]>>=λd=>lstM d>>=λes=>if v2.length+es.length<=lim then ab (Out.nx (List.set [fz (brd bd),some (.ow (.lst v2)),fz (.int (r:Int))] 1 (some (.ow (.lst (v2++es)))))) else af)=_;rw[gy hg,au];show (if v2.length+((bw W r).map cD).length<=lim then ab (Out.nx [fz (brd bd),some (.ow (.lst (v2++(bw W r).map cD))),fz (.int (r:Int))]) else af)=_;rw[UD (by rw[Pp] at hB;rw[cU];omega)]
 rw[Qh,FV] at e;refine aV (ai (Z':=[fz (brd bd),some (.ow (.lst [])),none]) rfl (ai (Z':=[fz (brd bd),some (.ow (.lst ((aQ bd.length W).map cD))),none]) (cX (eS (B8 (n:=bd.length) (Bf rfl) (by omega)) e)) ?_));rfl
def f9(R W w:Nat)(c:Cell):List Cell:=
 (Qn (c.1 - 1) (min (c.1+2) R - (c.1 - 1))).flatMap λr=>((Qn (c.2 - 1) (min (c.2+2) W - (c.2 - 1))).map λk=>(r,k)).filter (jI w c)
def ft{R W w:Nat}(hw:Ways w){c x:Cell}:x∈f9 R W w c↔On R W x/\jI w c x=true:=by
 unfold f9 On;simp only[List.mem_flatMap,Qr,Px,List.mem_range'_1];constructor
 ·rintro⟨r,⟨h1,h2⟩,⟨k,⟨h3,h4⟩,rfl⟩,h5⟩;refine⟨⟨?_,?_⟩,h5⟩
  ·show r<R;omega
  ·show k<W;omega
 ·rintro⟨⟨h1,h2⟩,h5⟩;have h6:bo c.1 x.1<=1/\bo c.2 x.2<=1:=by
   unfold jI at h5;rcases hw with rfl | rfl
   ·rw[UD rfl] at h5;have:=UI h5;omega
   ·rw[UE (by decide)] at h5;have:=UI h5;omega
  unfold bo at h6;exact⟨x.1,⟨by omega,by omega⟩,⟨x.2,⟨by omega,by omega⟩,rfl⟩,h5⟩
def lL(R W w:Nat)(c:Cell):(f9 R W w c).length<=9:=by
 unfold f9;rw[Ug];have h:∀r,(((Qn (c.2 - 1) (min (c.2+2) W - (c.2 - 1))).map λk=>(r,k)).filter (jI w c)).length<=3:=λr=>by
  refine PM (QV ..) ?_;rw[Pb,SO];omega
 have:∀(l:List Nat),(l.map λr=>(((Qn (c.2 - 1) (min (c.2+2) W - (c.2 - 1))).map λk=>(r,k)).filter (jI w c)).length).sum<=3*l.length:=by
  intro l;induction l with
  |nil=>simp
  |cons a l ih=>rw[Pj,SK,Pl];have:=h a;omega
 refine PM (this _) ?_;rw[SO];omega
abbrev nc(b c w:D)(v2:List D)(x4 x5:Option Sl):aP:=[fz b,fz c,fz w,some (.ow (.lst v2)),x4,x5]
def fN{bd:List Str}{W w:Nat}(hg:Brd bd W)(hw:Ways w){c:Cell}(hc:On bd.length W c):a8 [brd bd,cD c, .int (w:Int)]=ab (.lst ((f9 bd.length W w c).map cD)):=by
 have h8:=hg.r8;have w8:=hg.w8;obtain⟨c1,c2⟩:=hc;have IJ:∀n:Nat,qd [.int ((n:Int) - 1), .int 0]=ab (.int ((n - 1:Nat):Int)):=λn=>by
  show ab (D.int (if (0:Int)>(n:Int) - 1 then 0 else(n:Int) - 1))=_;congr 2;split<;>omega
 have wG:∀n m:Nat,zA [.int ((n:Int)+2), .int (m:Int)]=ab (.int ((min (n+2) m:Nat):Int)):=λn m=>by
  show ab (D.int (if (m:Int)<(n:Int)+2 then(m:Int) else(n:Int)+2))=_;congr 2;split<;>omega
 have inner:∀(r:Nat) (v2:List D),v2.length<=16->forL (putN 5) (b_ [5] (fb (b9 (aq 3 df (aC (dV 1) (aC (dA dF (aC (dV 4) (aC (dV 5) aN))) (aC (dV 2) aN))))) (jb 3 (dA dF (aC (dV 4) (aC (dV 5) aN)))) bY))
  ((Qn (c.2 - 1) (min (c.2+2) W - (c.2 - 1))).map λ(k:Nat)=>D.int (k:Int)) (nc (brd bd) (cD c) (.int (w:Int)) v2 (fz (.int (r:Int))) none)=
  ab (.nx (nc (brd bd) (cD c) (.int (w:Int)) (v2++(Qn (c.2 - 1) (min (c.2+2) W - (c.2 - 1))).flatMap λk=>if jI w c (r,k) then [cD (r,k)] else []) (fz (.int (r:Int))) none)):=λr v2 AX=>by
  refine gD (λ(k:Nat)=>D.int (k:Int)) (λv2=>nc (brd bd) (cD c) (.int (w:Int)) v2 (fz (.int (r:Int))) none) (λk=>if jI w c (r,k) then [cD (r,k)] else []) (B:=64) _ v2 ?_ λk hk v2 hB=>?_
  ·rw[Pp,Ug];have:∀l:List Nat,(l.map λk=>(if jI w c (r,k) then [cD (r,k)] else []).length).sum<=l.length:=by
    intro l;induction l with
    |nil=>simp
    |cons a l ih=>rw[Pj,SK,Pl];split<;>simp<;>omega
   have h2:=this (Qn (c.2 - 1) (min (c.2+2) W - (c.2 - 1)));rw[SO] at h2;omega
  ·refine⟨nc (brd bd) (cD c) (.int (w:Int)) v2 (fz (.int (r:Int))) (fz (.int (k:Int))),rfl,?_⟩;have ht:b9 (aq 3 df (aC (dV 1) (aC (dA dF (aC (dV 4) (aC (dV 5) aN))) (aC (dV 2) aN)))) (nc (brd bd) (cD c) (.int (w:Int)) v2 (fz (.int (r:Int))) (fz (.int (k:Int))))=ab (jI w c (r,k)):=
    lF ((aj (ds:=[cD c,cD (r,k), .int (w:Int)]) rfl rfl).trans (rT hw c (r,k)))
   cases hn:jI w c (r,k) with
   |true=>
    rw[hn] at ht;rw[hn,UD rfl,Pp] at hB;refine(br (Z':=nc (brd bd) (cD c) (.int (w:Int)) (v2++[cD (r,k)]) (fz (.int (r:Int))) (fz (.int (k:Int)))) (eT ht ?_)).trans rfl;show (if v2.length<lim then ab (Out.nx (nc (brd bd) (cD c) (.int (w:Int)) (v2++[cD (r,k)]) (fz (.int (r:Int))) (fz (.int (k:Int))))) else af)=_;rw[UD (by rw[cU];simp at hB;omega)]
   |false=>
    rw[hn] at ht;refine(br (Z':=nc (brd bd) (cD c) (.int (w:Int)) v2 (fz (.int (r:Int))) (fz (.int (k:Int)))) (eI ht rfl)).trans ?_;simp;rfl
 have flt:∀r,((Qn (c.2 - 1) (min (c.2+2) W - (c.2 - 1))).flatMap λk=>if jI w c (r,k) then [cD (r,k)] else [])=(((Qn (c.2 - 1) (min (c.2+2) W - (c.2 - 1))).map λk=>(r,k)).filter (jI w c)).map cD:=λr=>by
  generalize Qn (c.2 - 1) (min (c.2+2) W - (c.2 - 1))=l;induction l with
  |nil=>rfl
  |cons a l ih=>
   rw[QY,ih,Pj,List.filter_cons];cases jI w c (r,a)<;>rfl
 have tot:(Qn (c.1 - 1) (min (c.1+2) bd.length - (c.1 - 1))).flatMap (λr=>(((Qn (c.2 - 1) (min (c.2+2) W - (c.2 - 1))).map λk=>(r,k)).filter (jI w c)).map cD)=(f9 bd.length W w c).map cD:=by
  unfold f9;rw[S2]
 have outer:=gD (put:=putN 4) (body:=b_ [4,5] (dq (putN 5) (λZ=>(aC (dA qd (aC (d2 gG (d2 aU (dV 1) (dC (.int 1))) (dC (.int 1))) (aC (dC (.int 0)) aN))) (aC (dA zA (aC (d2 cy (d2 aU (dV 1) (dC (.int 1))) (dC (.int 2))) (aC (dA bh (aC (d2 aU (dV 0) (dC (.int 0))) aN)) aN))) aN)) Z>>=rE) (b_ [5] (fb (b9 (aq 3 df (aC (dV 1) (aC (dA dF (aC (dV 4) (aC (dV 5) aN))) (aC (dV 2) aN))))) (jb 3 (dA dF (aC (dV 4) (aC (dV 5) aN)))) bY))))
  (λ(k:Nat)=>D.int (k:Int)) (λv2=>nc (brd bd) (cD c) (.int (w:Int)) v2 none none) (λr=>(((Qn (c.2 - 1) (min (c.2+2) W - (c.2 - 1))).map λk=>(r,k)).filter (jI w c)).map cD) (B:=16) (Qn (c.1 - 1) (min (c.1+2) bd.length - (c.1 - 1))) []
  (by rw[Qh,tot,Pb];have:=lL bd.length W w c;omega) λr hr v2 hB=>by
   refine⟨nc (brd bd) (cD c) (.int (w:Int)) v2 (fz (.int (r:Int))) none,rfl,?_⟩;have e:=inner r v2 (by rw[Pp] at hB;omega);rw[flt r] at e;refine(br (eS (JK (i:=c.2 - 1) (j:=min (c.2+2) W) ?_ ?_ (by omega) (by omega)) e)).trans rfl
   ·exact(cS (xs:=[.int ((c.2:Int) - 1), .int 0]) rfl).trans (IJ c.2)
   ·refine(cS (xs:=[.int ((c.2:Int)+2), .int (W:Int)]) ?_).trans (wG c.2 W);exact aI (show d2 cy (d2 aU (dV 1) (dC (.int 1))) (dC (.int 2)) (nc (brd bd) (cD c) (.int (w:Int)) v2 (fz (.int (r:Int))) none)=ab (.int ((c.2:Int)+2)) from rfl) (aI (hg.len0 rfl) rfl)
 rw[Qh,tot] at outer;refine aV (ai (Z':=nc (brd bd) (cD c) (.int (w:Int)) [] none none) rfl (ai (Z':=nc (brd bd) (cD c) (.int (w:Int)) ((f9 bd.length W w c).map cD) none none) (cX (eS (JK (i:=c.1 - 1) (j:=min (c.1+2) bd.length) ?_ ?_ (by omega) (by omega)) outer)) ?_))
 ·exact(cS (xs:=[.int ((c.1:Int) - 1), .int 0]) rfl).trans (IJ c.1)
 ·refine(cS (xs:=[.int ((c.1:Int)+2), .int (bd.length:Int)]) ?_).trans (wG c.1 bd.length);exact aI (show d2 cy (d2 aU (dV 1) (dC (.int 0))) (dC (.int 2)) (nc (brd bd) (cD c) (.int (w:Int)) [] none none)=ab (.int ((c.1:Int)+2)) from rfl) (aI (Bf rfl) rfl)
 ·rfl
def aS(bd:List Str)(W w:Nat)(c:Cell):List Cell:=(f9 bd.length W w c).filter λx=>decide (lt bd x=lt bd c)
def cW{bd:List Str}{W w:Nat}(hw:Ways w){c x:Cell}:x∈aS bd W w c↔On bd.length W x/\jI w c x=true/\lt bd x=lt bd c:=by
 unfold aS;rw[Qr,ft hw,UJ,and_assoc]
def zv(bd:List Str)(W w:Nat)(c:Cell):(aS bd W w c).length<=9:=PM (QV ..) (lL ..)
def ju{α:Type}{f:D->M (Option D)}(enc:α->D)(p:α->Bool):∀(xs:List α),(∀x∈xs,f (enc x)=ab (if p x then some (enc x) else none))->di f (xs.map enc)=ab ((xs.filter p).map enc)
 |[],_=>rfl
 |x::xs,h=>by
  rw[Pj,fE,h x (Pa ..),au,ju enc p xs λy hy=>h y (O_ _ hy),List.filter_cons];cases p x<;>rfl
def oO{bd:List Str}{W w:Nat}(hg:Brd bd W)(hw:Ways w){c:Cell}(hc:On bd.length W c):cx [brd bd,cD c, .int (w:Int)]=ab (.lst ((aS bd W w c).map cD)):=by
 refine aV (ai (Z':=[fz (brd bd),fz (cD c),fz (.int (w:Int)),fz (sg (lt bd c))]) ((aF (d:=sg (lt bd c)) ((aj (ds:=[brd bd,cD c]) rfl rfl).trans (ej hg hc))).trans rfl) (aL ?_));refine cg (ds:=(f9 bd.length W w c).map cD) ?_ (ju cD _ _ λx hx=>?_) (by rw[Pb,cU];exact PM (zv bd W w c) (by decide))
 ·show (aq 3 a8 _ _>>=lstM)=_;have e:aq 3 a8 (aC (dV 0) (aC (dV 1) (aC (dV 2) aN))) [fz (brd bd),fz (cD c),fz (.int (w:Int)),fz (sg (lt bd c))]=ab (.lst ((f9 bd.length W w c).map cD)):=fN hg hw hc;rw[e];rfl
 ·have Lj:=(ft hw).mp hx;rw[wk];have e:bH (d2 lH (aq 2 bK (aC (dV 1) (aC (dV 0) aN))) (dV 4)) (fz (cD x)::[fz (brd bd),fz (cD c),fz (.int (w:Int)),fz (sg (lt bd c))])=ab (decide (lt bd x=lt bd c)):=by
   refine cZ ?_;exact(aB (x:=sg (lt bd x)) (y:=sg (lt bd c)) ((aj (ds:=[brd bd,cD x]) rfl rfl).trans (ej hg Lj.1)) rfl).trans (EH _ _)
  rw[e,au];cases decide (lt bd x=lt bd c)<;>rfl
end K1
namespace K1
section
variable{α:Type}[DecidableEq α]
structure Bk (α:Type) where
 ks:List α
 ps:List (Option α)
 fu:List α
def cp(c:α)(s:Bk α)(x:α):Bk α:=if x∈s.ks then s else⟨s.ks++[x],s.ps++[some c],s.fu++[x]⟩
variable(nb:α->List α)
def fU(s:Bk α)(c:α):Bk α:=(nb c).foldl (cp c) s
def bC(s:Bk α)(v1:List α):Bk α:=v1.foldl (fU nb) s
def Rb(a:α):Nat->α->Prop
 |0,x=>x=a
 |k+1,x=>Rb a k x\/∃y,Rb a k y/\x∈nb y
variable{nb}{a:α}
def Rb.mono{i j:Nat}{x:α}(h:i<=j)(r:Rb nb a i x):Rb nb a j x:=by
 induction h with
 |refl=>exact r
 |step _ ih=>exact .inl ih
structure Grown (P:α->α->Prop) (s t:Bk α):Prop where
 ex:∃fs:List (α×α),t.ks=s.ks++fs.map (·.1)/\t.ps=s.ps++fs.map (λp=>some p.2)/\t.fu=s.fu++fs.map (·.1)/\(∀p∈fs,P p.2 p.1)
 nd:s.ks.Nodup->t.ks.Nodup
def Grown.refl{P:α->α->Prop}(s:Bk α):Grown P s s:=⟨⟨[],by simp,by simp,by simp,λ_ h=>by cases h⟩,id⟩
def Grown.trans{P:α->α->Prop}{s t u:Bk α}(h1:Grown P s t)(h2:Grown P t u):Grown P s u:=by
 obtain⟨fs,a1,a2,a3,a4⟩:=h1.ex;obtain⟨gs,b1,b2,b3,b4⟩:=h2.ex;refine⟨⟨fs++gs,by rw[b1,a1];simp,by rw[b2,a2];simp,by rw[b3,a3];simp,λp hp=>?_⟩,λh=>h2.nd (h1.nd h)⟩;rcases PR.mp hp with h | h
 ·exact a4 p h
 ·exact b4 p h
def ud{P:α->α->Prop}{c x:α}(s:Bk α)(h:P c x):Grown P s (cp c s x):=by
 unfold cp;split
 ·exact Grown.refl s
 ·rename_i hx;refine⟨⟨[(x,c)],rfl,rfl,rfl,λp hp=>?_⟩,λhn=>?_⟩
  ·have:p=(x,c):=by simpa using hp
   subst this;exact h
  ·refine Qi.mpr ⟨hn,by simp,λy hy z hz e=>?_⟩;have hz:z=x:=by simpa using hz
   rw[e,hz] at hy;exact hx hy
def qy{c x y:α}(s:Bk α):y∈(cp c s x).ks↔y∈s.ks\/y=x:=by
 unfold cp;split
 ·rename_i hx;exact⟨.inl,λh=>h.elim id λe=>by rw[e];exact hx⟩
 ·simp
def foldStep{P:α->α->Prop}{c:α}:∀(l:List α) (s:Bk α),(∀x∈l,P c x)->Grown P s (l.foldl (cp c) s)/\∀y,y∈(l.foldl (cp c) s).ks↔y∈s.ks\/y∈l
 |[],s,_=>⟨Grown.refl s,λy=>by simp⟩
 |x::l,s,h=>by
  obtain⟨h1,h2⟩:=foldStep l (cp c s x) λy hy=>h y (O_ _ hy);refine⟨(ud s (h x (Pa ..))).trans h1,λy=>?_⟩;rw[Sn,h2 y,qy];simp[or_assoc]
def uA{P:α->α->Prop}:∀(l:List α) (s:Bk α),(∀c∈l,∀x∈nb c,P c x)->Grown P s (bC nb s l)/\∀y,y∈(bC nb s l).ks↔y∈s.ks\/∃c∈l,y∈nb c
 |[],s,_=>⟨Grown.refl s,λy=>by simp[bC]⟩
 |c::l,s,h=>by
  obtain⟨g1,m1⟩:=foldStep (P:=P) (c:=c) (nb c) s (h c (Pa ..));obtain⟨g2,m2⟩:=uA l (fU nb s c) λc' hc=>h c' (O_ _ hc);refine⟨g1.trans g2,λy=>?_⟩;show y∈(bC nb (fU nb s c) l).ks↔_;rw[m2 y];show (y∈((nb c).foldl (cp c) s).ks\/_)↔_;rw[m1 y];simp[or_assoc]
structure Rng (nb:α->List α) (a:α) (k:Nat) (ks:List α) (ps:List (Option α)) (v1:List α):Prop where
 len:ks.length=ps.length
 nd:ks.Nodup
 mem:∀x,x∈ks↔Rb nb a k x
 rg:∀x,x∈v1↔Rb nb a k x/\∀j,Rb nb a j x->k<=j
 par:∀x p,(x,some p)∈ks.zip ps->x∈nb p/\p∈ks/\∀j,Rb nb a j x->∃i,j=i+1/\Rb nb a i p
 non:∀x,(x,none)∈ks.zip ps->x=a
 sz:k<=ks.length/\(v1≠[]->k+1<=ks.length)
def Rng.zero(nb:α->List α)(a:α):Rng nb a 0 [a] [none] [a] where
 len:=rfl
 nd:=by simp
 mem:=λx=>by simp[Rb]
 rg:=λx=>by simp[Rb]
 par:=λx p h=>by simp at h
 non:=λx h=>by simpa using h
 sz:=⟨by simp,λ_=>by simp⟩
def Rng.next{k:Nat}{ks:List α}{ps:List (Option α)}{v1:List α}(h:Rng nb a k ks ps v1)(hr:v1≠[]):Rng nb a (k+1) (bC nb ⟨ks,ps,[]⟩ v1).ks (bC nb ⟨ks,ps,[]⟩ v1).ps (bC nb ⟨ks,ps,[]⟩ v1).fu:=by
 obtain⟨g,m⟩:=uA (nb:=nb) (P:=λc x=>c∈v1/\x∈nb c) v1 ⟨ks,ps,[]⟩ λc hc x hx=>⟨hc,hx⟩
 obtain⟨fs,e1,e2,e3,e4⟩:=g.ex;have J8:=g.nd h.nd;have hm:∀x,x∈(bC nb ⟨ks,ps,[]⟩ v1).ks↔Rb nb a (k+1) x:=λx=>by
  rw[m x];show (x∈ks\/_)↔(Rb nb a k x\/_);constructor
  ·rintro(q | ⟨c,hc,hx⟩)
   ·exact .inl ((h.mem x).mp q)
   ·exact .inr ⟨c,((h.rg c).mp hc).1,hx⟩
  ·rintro(q | ⟨y,hy,hx⟩)
   ·exact .inl ((h.mem x).mpr q)
   ·by_cases hk:∀j,Rb nb a j y->k<=j
    ·exact .inr ⟨y,(h.rg y).mpr ⟨hy,hk⟩,hx⟩
    ·refine .inl ((h.mem x).mpr ?_);obtain⟨j,hj⟩:=TB.mp hk;obtain⟨K3,NR⟩:=T1.mp hj;exact Rb.mono (i:=j+1) (by omega) (.inr ⟨y,K3,hx⟩)
 have Ab:(bC nb ⟨ks,ps,[]⟩ v1).ks=ks++fs.map (·.1):=e1;have HA:(bC nb ⟨ks,ps,[]⟩ v1).ps=ps++fs.map (λp=>some p.2):=e2;have J0:(bC nb ⟨ks,ps,[]⟩ v1).fu=fs.map (·.1):=e3;have new:∀x,x∈fs.map (·.1)->¬Rb nb a k x:=λx hx hk=>by
  rw[Ab] at J8;exact(Qi.mp J8).2.2 x ((h.mem x).mpr hk) x hx rfl
 have Jg:∀x,¬Rb nb a k x->∀j,Rb nb a j x->k+1<=j:=λx hx j hj=>by
  by_cases Mt:k+1<=j
  ·exact Mt
  ·exact UK (Rb.mono (by omega) hj) hx
 have IY:(bC nb ⟨ks,ps,[]⟩ v1).ks.zip (bC nb ⟨ks,ps,[]⟩ v1).ps=ks.zip ps++fs.map λp=>(p.1,some p.2):=by
  rw[Ab,HA,Si h.len];congr 1;rw[List.zip_map']
 refine⟨?_,J8,hm,λx=>?_,λx p hp=>?_,λx hx=>?_,?_⟩
 ·rw[Ab,HA,Pp,Pp,Pb,Pb,h.len]
 ·rw[J0];constructor
  ·intro hx;exact⟨(hm x).mp (by rw[Ab];exact P9 _ hx),Jg x (new x hx)⟩
  ·rintro⟨h1,h2⟩;have h3:=(hm x).mpr h1;rw[Ab] at h3;rcases PR.mp h3 with q | q
   ·have:=h2 k ((h.mem x).mp q);omega
   ·exact q
 ·rw[IY] at hp;rcases PR.mp hp with q | q
  ·obtain⟨q1,q2,q3⟩:=h.par x p q;exact⟨q1,by rw[Ab];exact RC _ q2,q3⟩
  ·obtain⟨f,hf,e⟩:=Px.mp q;cases e;obtain⟨f1,f2⟩:=e4 f hf;have hc:=(h.rg f.2).mp f1;refine⟨f2,by rw[Ab];exact RC _ ((h.mem _).mpr hc.1),λj hj=>?_⟩;have:=Jg f.1 (new f.1 (Px.mpr ⟨f,hf,rfl⟩)) j hj;exact⟨j - 1,by omega,Rb.mono (by omega) hc.1⟩
 ·rw[IY] at hx;rcases PR.mp hx with q | q
  ·exact h.non x q
  ·obtain⟨f,hf,e⟩:=Px.mp q;cases e
 ·have hs:=h.sz.2 hr;rw[Ab,Pp,Pb];refine⟨by omega,λg6=>?_⟩;have:fs≠[]:=λz=>g6 (by rw[J0,z];rfl);have:=Sy.mpr this;omega
def Rng.last{k:Nat}{ks:List α}{ps:List (Option α)}(h:Rng nb a k ks ps []):∀x,x∈ks↔∃j,Rb nb a j x:=by
 have none:∀x,¬(Rb nb a k x/\∀j,Rb nb a j x->k<=j):=λx q=>by
  have:=(h.rg x).mpr q;cases this
 have hk:∀x,Rb nb a k x->∃i,i<k/\Rb nb a i x:=λx hx=>by
  by_cases q:∀j,Rb nb a j x->k<=j
  ·exact UK ⟨hx,q⟩ (none x)
  ·obtain⟨j,hj⟩:=TB.mp q;obtain⟨K3,NR⟩:=T1.mp hj;exact⟨j,by omega,K3⟩
 have all:∀j x,Rb nb a j x->Rb nb a k x:=by
  intro j;induction j with
  |zero=>intro x hx;exact Rb.mono (P2 _) hx
  |succ j ih=>
   rintro x (q | ⟨y,hy,hx⟩)
   ·exact ih x q
   ·obtain⟨i,hi,hr⟩:=hk y (ih y hy);exact Rb.mono (i:=i+1) (by omega) (.inr ⟨y,hr,hx⟩)
 exact λx=>⟨λq=>⟨k,(h.mem x).mp q⟩,λ⟨j,hj⟩=>(h.mem x).mpr (all j x hj)⟩
def c6{l U:List α}(hn:l.Nodup)(h:∀x∈l,x∈U):l.length<=U.length:=by
 induction l generalizing U with
 |nil=>simp
 |cons a l ih=>
  rw[Qg] at hn;have hl:∀x∈l,x∈U.erase a:=λx hx=>by
   have g6:x≠a:=λz=>hn.1 (by rw[<-z];exact hx);exact(List.mem_erase_of_ne g6).mpr (h x (O_ _ hx))
  have h1:=ih hn.2 hl;have h2:=TK (h a (Pa ..));have h3:=List.length_pos_of_mem (h a (Pa ..));rw[Pl];omega
end
end K1
namespace K1
open PySem L2 L3
def keyOf(c:Cell):List Key:=[.inl (c.1:Int), .inl (c.2:Int)]
def gJ{a b:Cell}(h:keyOf a=keyOf b):a=b:=by
 unfold keyOf at h;injection h with h1 h2
 injection h1 with h1
 injection h2 with h2 _
 injection h2 with h2
 exact Uq (RP h1) (RP h2)
def jA(c:Cell):j4 (cD c)=some (keyOf c):=rfl
def g0{c:Cell}:∀{ks:List Cell}{ds:List D},c∉ks->c9 (ks.map keyOf) ds (keyOf c)=none
 |[],_,_=>by simp[c9]
 |k::ks,[],_=>by simp[c9]
 |k::ks,d::ds,h=>by
  rw[Pj];unfold c9;rw[UE (λz=>h (by rw[gJ z];exact Pa ..))];exact g0 λz=>h (O_ _ z)
def jG{c:Cell}:∀{ks:List Cell}{ds:List D},ks.length=ds.length->c∈ks->∃d,c9 (ks.map keyOf) ds (keyOf c)=some d/\(c,d)∈ks.zip ds
 |[],_,_,h=>by cases h
 |k::ks,[],hl,_=>by simp at hl
 |k::ks,d::ds,hl,h=>by
  rw[Pj];unfold c9;by_cases hk:k=c
  ·subst hk;rw[UD rfl];exact⟨d,rfl,by simp⟩
  ·rw[UE (λz=>hk (gJ z))];have hc:c∈ks:=by
    rcases Pn.mp h with q | q
    ·exact UK q.symm hk
    ·exact q
   obtain⟨d',e1,e2⟩:=jG (ds:=ds) (by simpa using hl) hc;exact⟨d',e1,by simp[e2]⟩
def jz{neg:Bool}{ks:List Cell}{ds:List D}{c:Cell}(hl:ks.length=ds.length):eO neg (cD c) (.dct (ks.map keyOf) ds)=ab (.bl (if neg then !decide (c∈ks) else decide (c∈ks))):=by
 show (match (j4 (cD c)).map (c9 (ks.map keyOf) ds) with | some o=>ab (D.bl (if neg then !o.isSome else o.isSome)) | none=>af)=_;rw[jA];show ab (D.bl (if neg then !(c9 (ks.map keyOf) ds (keyOf c)).isSome else(c9 (ks.map keyOf) ds (keyOf c)).isSome))=_;by_cases h:c∈ks
 ·obtain⟨d,e,_⟩:=jG hl h;rw[e,UG h];rfl
 ·rw[g0 h,UH h];rfl
def pB{ks:List Cell}{ds:List D}{c:Cell}{d:D}(h:c∉ks)(hl:ds.length<lim):iH (.dct (ks.map keyOf) ds) (cD c) d=some (.dct ((ks++[c]).map keyOf) (ds++[d])):=by
 show (match j4 (cD c) with | some kk=>if ds.length<lim then some (C.dct (cP (ks.map keyOf) ds kk) (b8 (ks.map keyOf) ds kk d)) else none | none=>none)=_;rw[jA];show (if ds.length<lim then some (C.dct (cP (ks.map keyOf) ds (keyOf c)) (b8 (ks.map keyOf) ds (keyOf c) d)) else none)=_;rw[UD hl];unfold cP b8;rw[g0 h];simp
def vJ{τ:DT}{Z:aP}{b:Bool}(h:τ (yh Z)=ab b):yV τ Z=ab b:=by
 unfold yV;rw[h];rfl
def ED{δ:DE}{Z:aP}{d:D}(h:δ (yh Z)=ab d)(hf:uw d=true):CP δ Z=ab d:=by
 unfold CP;rw[h];show oe d=_;unfold oe;rw[hf];rfl
def C2(c:Cell):uw (cD c)=true:=rfl
def pV{c:DT}{body:DS}{n:Nat}{Z Z':aP}{m:M Out}(h1:c Z=ab true)(h2:body Z=ab (.nx Z'))(h3:dQ c body n Z'=m):dQ c body (n+1) Z=m:=by
 show (c Z>>=λb=>if b then body Z>>=λo=>match o with | .nx Z'=>dQ c body n Z' | .rt d=>ab (.rt d) else ab (.nx Z))=_;rw[h1,au,UD rfl,h2];exact h3
def pU{c:DT}{body:DS}{n:Nat}{Z:aP}(h1:c Z=ab false):dQ c body (n+1) Z=ab (.nx Z):=by
 show (c Z>>=λb=>if b then body Z>>=λo=>match o with | .nx Z'=>dQ c body n Z' | .rt d=>ab (.rt d) else ab (.nx Z))=_;rw[h1];rfl
def sV:Option Cell->D
 |none=> .non
 |some c=>cD c
abbrev Am(ks:List Cell)(ps:List (Option Cell)):C:= .dct (ks.map keyOf) (ps.map sV)
abbrev dr(ks:List Cell)(ps:List (Option Cell)):D:= .dct (ks.map keyOf) (ps.map sV)
abbrev sb(b s w:D)(ks:List Cell)(ps:List (Option Cell))(x4 x5 x6 x7:Option Sl):aP:=[fz b,fz s,fz w,some (.ow (Am ks ps)),x4,x5,x6,x7]
structure Bok (R W:Nat) (s:Bk Cell):Prop where
 len:s.ks.length=s.ps.length
 nd:s.ks.Nodup
 on:∀x∈s.ks,On R W x
 fu:s.fu.length<=s.ks.length
def Bok.le{R W:Nat}{s:Bk Cell}(h:Bok R W s):s.ks.length<=R*W:=by
 rw[<-cB R W];exact c6 h.nd λx hx=>aJ.mpr (h.on x hx)
def Bok.step{R W:Nat}{s:Bk Cell}(h:Bok R W s){c x:Cell}(hx:On R W x):Bok R W (cp c s x):=by
 unfold cp;split
 ·exact h
 ·rename_i hn;refine⟨by simp[h.len],?_,λy hy=>?_,by simp;exact h.fu⟩
  ·refine Qi.mpr ⟨h.nd,by simp,λy hy z hz e=>?_⟩;have hz:z=x:=by simpa using hz
   rw[e,hz] at hy;exact hn hy
  ·rcases PR.mp hy with q | q
   ·exact h.on y q
   ·have:y=x:=by simpa using q
    rw[this];exact hx
def Hk:DS:=b_ [7] (fb (yV (bH (d2 (eO true) (dV 7) (dV 3)))) (ay (eU 3 (dV 7) (dV 6)) (jb 5 (dV 7))) bY)
def El{bd:List Str}{W:Nat}(hg:Brd bd W){a c x:Cell}{w:D}{r:Option Sl}{s:Bk Cell}(h:Bok bd.length W s):
 Hk (sb (brd bd) (cD a) w s.ks s.ps r (some (.ow (.lst (s.fu.map cD)))) (fz (cD c)) (fz (cD x)))=ab (.nx (sb (brd bd) (cD a) w (cp c s x).ks (cp c s x).ps r (some (.ow (.lst ((cp c s x).fu.map cD)))) (fz (cD c)) none)):=by
 have hle:=h.le;have hm:bd.length*W<=64:=Q6 hg.r8 hg.w8;have ht:yV (bH (d2 (eO true) (dV 7) (dV 3))) (sb (brd bd) (cD a) w s.ks s.ps r (some (.ow (.lst (s.fu.map cD)))) (fz (cD c)) (fz (cD x)))=ab (!decide (x∈s.ks)):=
  vJ (cZ ((aB (x:=cD x) (y:=dr s.ks s.ps) rfl rfl).trans (jz (neg:=true) (by rw[Pb];exact h.len))))
 by_cases hx:x∈s.ks
 ·rw[UG hx] at ht;have e:cp c s x=s:=UD hx;rw[e];exact(br (eI ht rfl)).trans rfl
 ·rw[UH hx] at ht;have e:cp c s x=⟨s.ks++[x],s.ps++[some c],s.fu++[x]⟩:=UE hx;rw[e];refine(br (Z':=sb (brd bd) (cD a) w (s.ks++[x]) (s.ps++[some c]) r (some (.ow (.lst ((s.fu++[x]).map cD)))) (fz (cD c)) (fz (cD x))) (eT ht (ai (Z':=sb (brd bd) (cD a) w (s.ks++[x]) (s.ps++[some c]) r (some (.ow (.lst (s.fu.map cD)))) (fz (cD c)) (fz (cD x))) ?_ ?_))).trans rfl
  ·show (match iH (Am s.ks s.ps) (cD x) (cD c) with | some c'=>ab (Out.nx (List.set (sb (brd bd) (cD a) w s.ks s.ps r (some (.ow (.lst (s.fu.map cD)))) (fz (cD c)) (fz (cD x))) 3 (some (.ow c')))) | none=>af)=_;rw[pB hx (by rw[Pb,<-h.len,cU];omega)];rw[show s.ps.map sV++[cD c]=(s.ps++[some c]).map sV by simp[sV]];rfl
  ·show (if (s.fu.map cD).length<lim then ab (Out.nx (sb (brd bd) (cD a) w (s.ks++[x]) (s.ps++[some c]) r (some (.ow (.lst (s.fu.map cD++[cD x])))) (fz (cD c)) (fz (cD x)))) else af)=_;have:=h.fu;rw[UD (by rw[Pb,cU];omega)];rw[show s.fu.map cD++[cD x]=(s.fu++[x]).map cD by simp]
def Hj:DS:=b_ [6,7] (dq (putN 7) (de (aq 3 cx (aC (dV 0) (aC (dV 6) (aC (dV 2) aN))))) Hk)
def yU{bd:List Str}{W w:Nat}(hg:Brd bd W)(hw:Ways w){a c:Cell}(hc:On bd.length W c){r:Option Sl}{s:Bk Cell}(h:Bok bd.length W s):
 Bok bd.length W (fU (aS bd W w) s c)/\Hj (sb (brd bd) (cD a) (.int (w:Int)) s.ks s.ps r (some (.ow (.lst (s.fu.map cD)))) (fz (cD c)) none)=
  ab (.nx (sb (brd bd) (cD a) (.int (w:Int)) (fU (aS bd W w) s c).ks (fU (aS bd W w) s c).ps r (some (.ow (.lst ((fU (aS bd W w) s c).fu.map cD)))) none none)):=by
 obtain⟨h1,e⟩:=jy (put:=putN 7) (body:=Hk) cD (λs:Bk Cell=>sb (brd bd) (cD a) (.int (w:Int)) s.ks s.ps r (some (.ow (.lst (s.fu.map cD)))) (fz (cD c)) none) (cp c) (Bok bd.length W) (aS bd W w c) s h λs hs x hx=>
  ⟨hs.step ((cW hw).mp hx).1,_,rfl,El hg hs⟩
 refine⟨h1,(br (eS ?_ e)).trans rfl⟩;show (aq 3 cx (aC (dV 0) (aC (dV 6) (aC (dV 2) aN))) (sb (brd bd) (cD a) (.int (w:Int)) s.ks s.ps r (some (.ow (.lst (s.fu.map cD)))) (fz (cD c)) none)>>=lstM)=_;have e2:aq 3 cx (aC (dV 0) (aC (dV 6) (aC (dV 2) aN))) (sb (brd bd) (cD a) (.int (w:Int)) s.ks s.ps r (some (.ow (.lst (s.fu.map cD)))) (fz (cD c)) none)=ab (.lst ((aS bd W w c).map cD)):=oO hg hw hc;rw[e2];rfl
def JM:DS:=b_ [5,6,7] (ay (tB 5) (ay (dq (putN 6) (de (dV 4)) Hj) (t6 5 (bg 4 (dV 5)))))
def Ek{bd:List Str}{W w:Nat}(hg:Brd bd W)(hw:Ways w){a:Cell}{v1:List Cell}(hr:∀c∈v1,On bd.length W c){s:Bk Cell}(h:Bok bd.length W s)(hf:s.fu=[]):
 Bok bd.length W (bC (aS bd W w) s v1)/\JM (sb (brd bd) (cD a) (.int (w:Int)) s.ks s.ps (fz (.lst (v1.map cD))) none none none)=
  ab (.nx (sb (brd bd) (cD a) (.int (w:Int)) (bC (aS bd W w) s v1).ks (bC (aS bd W w) s v1).ps (fz (.lst ((bC (aS bd W w) s v1).fu.map cD))) none none none)):=by
 obtain⟨h1,e⟩:=jy (put:=putN 6) (body:=Hj) cD (λs:Bk Cell=>sb (brd bd) (cD a) (.int (w:Int)) s.ks s.ps (fz (.lst (v1.map cD))) (some (.ow (.lst (s.fu.map cD)))) none none) (fU (aS bd W w)) (Bok bd.length W) v1 s h λs hs c hc=>
  ⟨(yU (a:=a) (r:=fz (.lst (v1.map cD))) hg hw (hr c hc) hs).1,_,rfl,(yU hg hw (hr c hc) hs).2⟩
 refine⟨h1,(br (Z':=sb (brd bd) (cD a) (.int (w:Int)) (bC (aS bd W w) s v1).ks (bC (aS bd W w) s v1).ps (fz (.lst ((bC (aS bd W w) s v1).fu.map cD))) (fz (.lst ((bC (aS bd W w) s v1).fu.map cD))) none none) ?_).trans rfl⟩;refine ai (Z':=sb (brd bd) (cD a) (.int (w:Int)) s.ks s.ps (fz (.lst (v1.map cD))) (some (.ow (.lst []))) none none) rfl (ai (Z':=sb (brd bd) (cD a) (.int (w:Int)) (bC (aS bd W w) s v1).ks (bC (aS bd W w) s v1).ps (fz (.lst (v1.map cD))) (some (.ow (.lst ((bC (aS bd W w) s v1).fu.map cD)))) none none) ?_ rfl);rw[hf] at e;exact eS rfl e
def vB{bd:List Str}{W w:Nat}(hg:Brd bd W)(hw:Ways w){a:Cell}(ha:On bd.length W a):∀(fuel k:Nat) (ks:List Cell) (ps:List (Option Cell)) (v1:List Cell),bd.length*W+2<=fuel+k->Rng (aS bd W w) a k ks ps v1->(∀x∈ks,On bd.length W x)->
 ∃k' ks' iG,Rng (aS bd W w) a k' ks' iG []/\(∀x∈ks',On bd.length W x)/\dQ (b9 (dV 4)) JM fuel (sb (brd bd) (cD a) (.int (w:Int)) ks ps (fz (.lst (v1.map cD))) none none none)=ab (.nx (sb (brd bd) (cD a) (.int (w:Int)) ks' iG (fz (.lst [])) none none none))
 |0,k,ks,ps,v1,hf,hR,hJ=>by
  have h1:ks.length<=bd.length*W:=by
   rw[<-cB bd.length W];exact c6 hR.nd λx hx=>aJ.mpr (hJ x hx)
  have:=hR.sz.1;omega
 |fuel+1,k,ks,ps,[],hf,hR,hJ=>⟨k,ks,ps,hR,hJ,pU rfl⟩
 |fuel+1,k,ks,ps,c::v1,hf,hR,hJ=>by
  have g6:c::v1≠[]:=by simp
  have hN:=hR.next g6;have IT:∀x∈c::v1,On bd.length W x:=λx hx=>hJ x ((hR.mem x).mpr ((hR.rg x).mp hx).1);obtain⟨hb,e⟩:=Ek (a:=a) hg hw IT (s:=⟨ks,ps,[]⟩) ⟨hR.len,hR.nd,hJ,P2 _⟩ rfl;obtain⟨k',ks',iG,q1,q2,q3⟩:=vB hg hw ha fuel (k+1) _ _ _ (by omega) hN hb.on;exact⟨k',ks',iG,q1,q2,pV rfl e q3⟩
def fT{bd:List Str}{W w:Nat}(hg:Brd bd W)(hw:Ways w){a:Cell}(ha:On bd.length W a):
 ∃k ks ps,Rng (aS bd W w) a k ks ps []/\(∀x∈ks,On bd.length W x)/\bp [brd bd,cD a, .int (w:Int)]=ab (dr ks ps):=by
 have hm:bd.length*W<=64:=Q6 hg.r8 hg.w8;obtain⟨k,ks,ps,h1,h2,h3⟩:=vB hg hw ha lim 0 [a] [none] [a] (by rw[cU];omega) (Rng.zero _ _) (λx hx=>(show x=a by simpa using hx)▸ha);refine⟨k,ks,ps,h1,h2,aV (ai (Z':=[fz (brd bd),fz (cD a),fz (.int (w:Int)),some (.ow (Am [a] [none])),none,none,none,none]) rfl (ai (Z':=sb (brd bd) (cD a) (.int (w:Int)) [a] [none] (fz (.lst [cD a])) none none none) rfl (ai (Z':=sb (brd bd) (cD a) (.int (w:Int)) ks ps (fz (.lst [])) none none none) (cX h3) rfl)))⟩
def xR{α:Type}[DecidableEq α](n:Nat)(enc:α->D):Prop:=∀k x y,m7 (n+k) (enc x) (enc y)=some (decide (x=y))
def yd(n:Nat)(i j:Int):m7 n (.int i) (.int j)=some (i==j):=by cases n<;>rfl
def CZ(n:Nat)(i j:Str):m7 n (.str i) (.str j)=some (i==j):=by cases n<;>rfl
def C0{α:Type}[DecidableEq α]{enc:α->D}{f:D->D->Option Bool}(h:∀x y,f (enc x) (enc y)=some (decide (x=y))):∀(xs ys:List α),se f (xs.map enc) (ys.map enc)=some (decide (xs=ys))
 |[],[]=>rfl
 |[],_::_=>by simp[se]
 |_::_,[]=>by simp[se]
 |x::xs,y::ys=>by
  rw[Pj,Pj];show (match f (enc x) (enc y),se f (xs.map enc) (ys.map enc) with | some b,some r=>some (b&&r) | _,_=>none)=_;rw[h,C0 h xs ys];show some (decide (x=y)&&decide (xs=ys))=_;congr 1;by_cases h1:x=y<;>by_cases h2:xs=ys<;>simp[h1,h2]
def FD:xR 1 cD:=λk a b=>by
 rw[Nat.add_comm];show (match m7 k (.int (a.1:Int)) (.int (b.1:Int)),se (m7 k) [.int (a.2:Int)] [.int (b.2:Int)] with | some b,some r=>some (b&&r) | _,_=>none)=_;rw[yd];show (match some ((a.1:Int)==(b.1:Int)),(match m7 k (.int (a.2:Int)) (.int (b.2:Int)),se (m7 k) [] [] with | some b,some r=>some (b&&r) | _,_=>none) with | some b,some r=>some (b&&r) | _,_=>none)=_;rw[yd];show some (((a.1:Int)==(b.1:Int))&&(((a.2:Int)==(b.2:Int))&&true))=_;rw[jQ,jQ,TM];congr 1;obtain⟨a1,a2⟩:=a;obtain⟨b1,b2⟩:=b;by_cases h1:a1=b1<;>by_cases h2:a2=b2<;>simp[h1,h2]
def CW:xR 0 D.str:=λk x y=>by
 rw[CZ];congr 1
def KC{α:Type}[DecidableEq α]{enc:α->D}{n:Nat}(h:xR n enc)(hn:n<=6)(x y:α):lH (enc x) (enc y)=ab (.bl (decide (x=y))):=by
 have:=h (6 - n) x y;rw[show n+(6 - n)=6 by omega] at this;unfold lH;rw[this]
def FE{α:Type}[DecidableEq α]{enc:α->D}{n:Nat}(h:xR n enc)(hn:n<=6)(x y:α):kr (enc x) (enc y)=ab (.bl (!decide (x=y))):=by
 have:=h (6 - n) x y;rw[show n+(6 - n)=6 by omega] at this;unfold kr;rw[this]
abbrev cL(l:List Cell):D:= .lst (l.map cD)
def E3(a b:Cell):kr (cD a) (cD b)=ab (.bl (!decide (a=b))):=FE FD (by decide) a b
def ic(c:Cell):List Int:=[(c.1:Int),(c.2:Int)]
def Ay(a b:Cell):Bool:=if a.1=b.1 then decide (a.2<b.2) else decide (a.1<b.1)
def Dm(k:Cell):List Cell->List Cell
 |[]=>[k]
 |x::r=>if Ay k x then k::x::r else x::Dm k r
def pN:List Cell->List Cell
 |[]=>[]
 |k::r=>Dm k (pN r)
def wO(a b:Cell):dW (ic a) (ic b)=Ay a b:=by
 show (if (a.1:Int)=(b.1:Int) then(if (a.2:Int)=(b.2:Int) then false else decide ((a.2:Int)<(b.2:Int))) else decide ((a.1:Int)<(b.1:Int)))=_;unfold Ay;by_cases h:a.1=b.1
 ·rw[UD h,UD (by omega)];by_cases h2:a.2=b.2
  ·rw[UD (by omega),h2];simp
  ·rw[UE (by omega)];by_cases h3:a.2<b.2
   ·rw[UG h3,UG (by omega)]
   ·rw[UH h3,UH (by omega)]
 ·rw[UE h,UE (by omega)];by_cases h3:a.1<b.1
  ·rw[UG h3,UG (by omega)]
  ·rw[UH h3,UH (by omega)]
def A7(k:Cell):∀l:List Cell,insI (ic k) (l.map ic)=(Dm k l).map ic
 |[]=>rfl
 |x::r=>by
  rw[Pj];unfold insI Dm;rw[wO];cases Ay k x with
  |true=>rfl
  |false=>rw[UE (by decide),UE (by decide),Pj,A7 k r]
def nL:∀l:List Cell,sortI (l.map ic)=(pN l).map ic
 |[]=>rfl
 |k::r=>by
  rw[Pj];unfold sortI pN;rw[nL r,A7]
def sm{a b:Cell}(h:ic a=ic b):a=b:=by
 unfold ic at h;injection h with h1 h2
 injection h2 with h2 _
 exact Uq (RP h1) (RP h2)
def zy{x:Cell}{l:List Cell}:x∈pN l↔x∈l:=by
 have h:=gZ (x:=ic x) (l:=l.map ic);rw[nL] at h;constructor
 ·intro hx;obtain⟨y,hy,e⟩:=Px.mp (h.mp (Px.mpr ⟨x,hx,rfl⟩));rw[<-sm e];exact hy
 ·intro hx;obtain⟨y,hy,e⟩:=Px.mp (h.mpr (Px.mpr ⟨x,hx,rfl⟩));rw[<-sm e];exact hy
def RiseC(l:List Cell):Prop:=l.Pairwise λa b=>Ay a b=true
def tu{l:List Cell}:v9 (l.map ic)↔RiseC l:=by
 unfold v9 RiseC;rw[R5];constructor<;>intro h<;>refine Sh ?_ h<;>intro a b q
 ·rw[<-wO];exact q
 ·rw[wO];exact q
def uU{l:List Cell}(h:l.Nodup):(l.map ic).Nodup:=by
 unfold QL at h⊢;rw[R5];exact Sh (λh z=>h (sm z)) h
def xB{l:List Cell}(h:l.Nodup):RiseC (pN l):=by
 have:=km (uU h);rw[nL] at this;exact tu.mp this
def zT{a b:List Cell}(ha:RiseC a)(hb:RiseC b)(h:∀x,x∈a↔x∈b):a=b:=by
 have e:=pE (tu.mpr ha) (tu.mpr hb) λx=>by
  constructor
  ·intro hx;obtain⟨y,hy,rfl⟩:=Px.mp hx;exact Px.mpr ⟨y,(h y).mp hy,rfl⟩
  ·intro hx;obtain⟨y,hy,rfl⟩:=Px.mp hx;exact Px.mpr ⟨y,(h y).mpr hy,rfl⟩
 have inj:∀(a b:List Cell),a.map ic=b.map ic->a=b:=by
  intro a;induction a with
  |nil=>intro b h;cases b with
   |nil=>rfl
   |cons=>simp at h
  |cons x a ih=>intro b h;cases b with
   |nil=>simp at h
   |cons y b=>
    rw[Pj,Pj] at h;injection h with h1 h2
    rw[sm h1,ih b h2]
 exact inj a b e
def RiseC.nodup{l:List Cell}(h:RiseC l):l.Nodup:=by
 refine Sh ?_ h;intro a b q z;subst z;unfold Ay at q;rw[UD rfl] at q;have:=UI q;omega
def lK:∀ks:List Cell,fL (ks.map keyOf)=some (ks.map ic)
 |[]=>rfl
 |k::r=>by
  show (match qP (keyOf k),fL (r.map keyOf) with | some x,some xs=>some (x::xs) | _,_=>none)=_;rw[lK r];rfl
def Jp{ks:List Cell}(h:ks.Nodup)(hl:ks.length<64):iY (ks.map ic)=true:=by
 unfold iY;rw[Pb,UG (uU h),UG hl];simp;intro a b _ z;cases z
def Cm{ks:List Cell}{ds:List D}(h:ks.Nodup)(hl:ks.length<64):rJ [.dct (ks.map keyOf) ds]=ab (cL (pN ks)):=by
 show (match fL (ks.map keyOf) with | some ks=>if iY ks&&ks.all (λk=>decide (k.length<=lim)) then ab (D.lst ((sortI ks).map tupI)) else af | none=>af)=_;rw[lK];show (if iY (ks.map ic)&&(ks.map ic).all (λk=>decide (k.length<=lim)) then ab (D.lst ((sortI (ks.map ic)).map tupI)) else af)=_;rw[Jp h hl];have:(ks.map ic).all (λk=>decide (k.length<=lim))=true:=by
  simp;intro a b _;show 2<=lim
  decide
 rw[this,TM,UD rfl,nL,P5];rfl
def Cn(bd:List Str)(W w:Nat)(a b:Cell):Prop:=∃j,Rb (aS bd W w) a j b
def Cn.refl{bd:List Str}{W w:Nat}{a:Cell}:Cn bd W w a a:=⟨0,rfl⟩
def wQ{bd:List Str}{W w:Nat}(hw:Ways w){a b:Cell}(ha:On bd.length W a)(h:b∈aS bd W w a):a∈aS bd W w b:=by
 obtain⟨h1,h2,h3⟩:=(cW hw).mp h;exact(cW hw).mpr ⟨ha,by rw[kR];exact h2,h3.symm⟩
def yS{bd:List Str}{W w:Nat}(hw:Ways w){a b:Cell}(ha:On bd.length W a):∀{j:Nat},Rb (aS bd W w) a j b->On bd.length W b
 |0,h=>by rw[show b=a from h];exact ha
 |j+1, .inl h=>yS hw ha h
 |j+1, .inr ⟨y,_,hy⟩=>((cW hw).mp hy).1
def pC{bd:List Str}{W w:Nat}{a c b:Cell}(h:c∈aS bd W w a):∀{j:Nat},Rb (aS bd W w) c j b->Rb (aS bd W w) a (j+1) b
 |0,q=> .inr ⟨a,rfl,by rw[show b=c from q];exact h⟩
 |j+1, .inl q=> .inl (pC h q)
 |j+1, .inr ⟨y,q,hy⟩=> .inr ⟨y,pC h q,hy⟩
def nK{bd:List Str}{W w:Nat}(hw:Ways w){a b:Cell}(ha:On bd.length W a):∀{j:Nat},Rb (aS bd W w) a j b->Rb (aS bd W w) b j a
 |0,h=>show a=b from(show b=a from h).symm
 |j+1, .inl h=> .inl (nK hw ha h)
 |j+1, .inr ⟨y,q,hy⟩=>pC (wQ hw (yS hw ha q) hy) (nK hw ha q)
def pD{bd:List Str}{W w:Nat}{a b c:Cell}{i:Nat}(h:Rb (aS bd W w) a i b):∀{j:Nat},Rb (aS bd W w) b j c->Rb (aS bd W w) a (i+j) c
 |0,q=>by rw[show c=b from q];exact h
 |j+1, .inl q=> .inl (pD h q)
 |j+1, .inr ⟨y,q,hy⟩=> .inr ⟨y,pD h q,hy⟩
section
variable{bd:List Str}{W w:Nat}{a b c:Cell}
def Cn.on(hw:Ways w)(ha:On bd.length W a)(h:Cn bd W w a b):On bd.length W b:=let ⟨_,q⟩:=h;yS hw ha q
def Cn.symm(hw:Ways w)(ha:On bd.length W a)(h:Cn bd W w a b):Cn bd W w b a:=let ⟨j,q⟩:=h;⟨j,nK hw ha q⟩
def Cn.trans(h:Cn bd W w a b)(h2:Cn bd W w b c):Cn bd W w a c:=let ⟨i,q⟩:=h;let ⟨j,r⟩:=h2;⟨i+j,pD q r⟩
end
structure IsPatch (bd:List Str) (W w:Nat) (a:Cell) (P:List Cell):Prop where
 rise:RiseC P
 mem:∀x,x∈P↔Cn bd W w a x
def IsPatch.one{bd:List Str}{W w:Nat}{a:Cell}{P Q:List Cell}(h:IsPatch bd W w a P)(h2:IsPatch bd W w a Q):P=Q:=zT h.rise h2.rise λx=>(h.mem x).trans (h2.mem x).symm
def kx{bd:List Str}{W:Nat}{ks:List Cell}(hn:ks.Nodup)(hJ:∀x∈ks,On bd.length W x):ks.length<=bd.length*W:=by
 rw[<-cB bd.length W];exact c6 hn λx hx=>aJ.mpr (hJ x hx)
def l8{bd:List Str}{W w:Nat}(hg:Brd bd W)(hw:Ways w){a b:Cell}(ha:On bd.length W a)(hb:On bd.length W b):bf [brd bd, .int (w:Int),cD a,cD b]=ab .non:=
 k_ (Z:=[fz (brd bd),fz (.int (w:Int)),fz (cD a),fz (cD b)]) (ai (bA ((aj (ds:=[brd bd]) rfl rfl).trans hg.nb)) (ai (bA ((aj (ds:=[.int (w:Int)]) rfl rfl).trans hw.nw)) (ai (bA ((aj (ds:=[brd bd,cD a]) rfl rfl).trans (hg.nc ha))) (bA ((aj (ds:=[brd bd,cD b]) rfl rfl).trans (hg.nc hb))))))
def ua{bd:List Str}{W w:Nat}(hg:Brd bd W)(hw:Ways w){a b:Cell}(ha:On bd.length W a)(hb:On bd.length W b):∃r:Bool,(r=true↔Cn bd W w a b)/\fo [brd bd, .int (w:Int),cD a,cD b]=ab (.bl r):=by
 obtain⟨k,ks,ps,h1,h2,h3⟩:=fT hg hw ha;refine⟨decide (b∈ks),by rw[UJ];exact h1.last b,aV (ai (bA ((aj (ds:=[brd bd, .int (w:Int),cD a,cD b]) rfl rfl).trans (l8 hg hw ha hb))) (aL ?_))⟩;exact(aB (x:=cD b) (y:=dr ks ps) rfl ((aj (ds:=[brd bd,cD a, .int (w:Int)]) rfl rfl).trans h3)).trans (jz (neg:=false) (by rw[Pb];exact h1.len))
def m6(w:Nat):List Cell->Bool
 |a::b::r=>jI w a b&&m6 w (b::r)
 |_=>true
structure IsWay (bd:List Str) (W w:Nat) (a b:Cell) (p:List Cell):Prop where
 on:∀x∈p,On bd.length W x
 hd:p.head? =some a
 lst:p.getLast? =some b
 let':∀x∈p,lt bd x=lt bd a
 adj:m6 w p=true
def uc{α:Type}{l:List α}{x:α}:L2.atI (l++[x]) (-1)=some x:=by
 unfold L2.atI CJ;rw[UE (by decide)];have: -((l++[x]).length:Int)<= -1:=by simp;omega
 rw[UD this];have e:((-1:Int)+((l++[x]).length:Int)).toNat=l.length:=by simp;omega
 show (l++[x])[((-1:Int)+((l++[x]).length:Int)).toNat]? =some x;rw[e];simp
def oF{l:List Cell}{x:Cell}:eP (cL (l++[x])) (.int (-1))=ab (cD x):=by
 show (match L2.atI ((l++[x]).map cD) (-1) with | some d=>ab d | none=>af)=_;rw[P1,show [x].map cD=[cD x] from rfl,uc]
structure Trail (nb:Cell->List Cell) (b:Cell) (p:List Cell) (x:Cell):Prop where
 hd:p.head? =some x
 lst:p.getLast? =some b
 ch:∀l r u v,p=l++u::v::r->u∈nb v
abbrev wr(bd w a b k t:D):aP:=[fz bd,fz w,fz a,fz b,fz k,fz t]
def xE{bd:List Str}{W:Nat}{w:D}{nb:Cell->List Cell}{a b:Cell}{k0:Nat}{ks:List Cell}{ps:List (Option Cell)}(h:Rng nb b k0 ks ps []):∀(j fuel:Nat) (x:Cell) (v2:List Cell),Rb nb b j x->j<fuel->v2.length+j+1<lim->
 ∃p,Trail nb b p x/\p.length<=j+1/\dQ (yV (bH (d2 kr (d2 eP (dV 5) (d1 sC (dC (.int 1)))) (dV 3)))) (jb 5 (CP (d2 cz (dV 4) (d2 eP (dV 5) (d1 sC (dC (.int 1))))))) fuel [fz (brd bd),fz w,fz (cD a),fz (cD b),fz (dr ks ps),some (.ow (.lst ((v2++[x]).map cD)))]=
  ab (.nx [fz (brd bd),fz w,fz (cD a),fz (cD b),fz (dr ks ps),some (.ow (.lst ((v2++p).map cD)))]):=by
 intro j;induction j with
 |zero=>
  intro fuel x v2 hx hf hl;obtain⟨f,rfl⟩:∃f,fuel=f+1:=⟨fuel - 1,by omega⟩
  have hx:x=b:=hx;subst hx;refine⟨[x],⟨rfl,rfl,λl r u v e=>?_⟩,by simp,pU (vJ (cZ ((aB (x:=cD x) (y:=cD x) ((aB (x:=cL (v2++[x])) (y:= .int (-1)) rfl rfl).trans oF) rfl).trans ((E3 x x).trans (by simp)))))⟩;have:=UM Uh e;simp at this;omega
 |succ j ih=>
  intro fuel x v2 hx hf hl;obtain⟨f,rfl⟩:∃f,fuel=f+1:=⟨fuel - 1,by omega⟩
  by_cases Lk:x=b
  ·subst Lk;obtain⟨p,h1,h2,h3⟩:=ih (f+1) x v2 (Rb.mono (P2 _) rfl) (by omega) (by omega);exact⟨p,h1,by omega,h3⟩
  ·have hk:x∈ks:=(h.last x).mpr ⟨_,hx⟩;obtain⟨d,e1,e2⟩:=jG (ds:=ps.map sV) (by rw[Pb];exact h.len) hk;obtain⟨o,ho,rfl⟩:∃o,(x,o)∈ks.zip ps/\d=sV o:=by
    rw[List.zip_map_right] at e2;obtain⟨⟨y,o⟩,hy,e⟩:=Px.mp e2;cases e;exact⟨o,hy,rfl⟩
   cases o with
   |none=>exact UK (h.non x ho) Lk
   |some q=>
    obtain⟨q1,q2,q3⟩:=h.par x q ho;obtain⟨i,hi,hq⟩:=q3 _ hx;have hi:j=i:=by omega
    subst hi;obtain⟨p,h1,h2,h3⟩:=ih f q (v2++[x]) hq (by omega) (by simp;omega);refine⟨x::p,⟨rfl,?_,λl r u v e=>?_⟩,by simp;omega,pV (Z':=[fz (brd bd),fz w,fz (cD a),fz (cD b),fz (dr ks ps),some (.ow (.lst ((v2++[x]++[q]).map cD)))]) (vJ (cZ ((aB (x:=cD x) (y:=cD b) ((aB (x:=cL (v2++[x])) (y:= .int (-1)) rfl rfl).trans oF) rfl).trans ((E3 x b).trans (by rw[UH Lk];rfl))))) ?_ (by rw[h3];simp)⟩
    ·have:=h1.lst;rw[List.getLast?_cons];rw[this];rfl
    ·cases l with
     |nil=>
      injection e with e1 e2
      subst e1;have:=h1.hd;rw[e2] at this;cases this;exact q1
     |cons y l=>
      injection e with _ e2
      exact h1.ch l r u v e2
    ·have ev:CP (d2 cz (dV 4) (d2 eP (dV 5) (d1 sC (dC (.int 1))))) [fz (brd bd),fz w,fz (cD a),fz (cD b),fz (dr ks ps),some (.ow (.lst ((v2++[x]).map cD)))]=ab (cD q):=by
      refine ED ((aB (x:=dr ks ps) (y:=cD x) rfl ((aB (x:=cL (v2++[x])) (y:= .int (-1)) rfl rfl).trans oF)).trans ?_) (C2 q);show (match (j4 (cD x)).map (c9 (ks.map keyOf) (ps.map sV)) with | some (some v)=>ab v | _=>af)=_;rw[jA];show (match some (c9 (ks.map keyOf) (ps.map sV) (keyOf x)) with | some (some v)=>ab v | _=>af)=_;rw[e1];rfl
     show (CP (d2 cz (dV 4) (d2 eP (dV 5) (d1 sC (dC (.int 1))))) [fz (brd bd),fz w,fz (cD a),fz (cD b),fz (dr ks ps),some (.ow (.lst ((v2++[x]).map cD)))]>>=λd=>if ((v2++[x]).map cD).length<lim then ab (Out.nx [fz (brd bd),fz w,fz (cD a),fz (cD b),fz (dr ks ps),some (.ow (.lst ((v2++[x]).map cD++[d])))]) else af)=_;rw[ev,au,UD (by rw[Pb];simp;omega)];rw[show (v2++[x]).map cD++[cD q]=(v2++[x]++[q]).map cD by simp]
def rM{bd:List Str}{W w:Nat}(hw:Ways w){b:Cell}(hb:On bd.length W b):∀{p:List Cell}{x:Cell},Trail (aS bd W w) b p x->IsWay bd W w x b p
 |[],x,h=>by have:=h.hd;cases this
 |[y],x,h=>by
  have h1:y=x:=Pz h.hd;have h2:y=b:=Pz h.lst;subst h1;subst h2;exact⟨λz hz=>(show z=y by simpa using hz)▸hb,rfl,rfl,λz hz=>by rw[show z=y by simpa using hz],rfl⟩
 |y::z::r,x,h=>by
  have h1:y=x:=Pz h.hd;subst h1;have hz:Trail (aS bd W w) b (z::r) z:=⟨rfl,by have:=h.lst;rw[Rf] at this;exact this,λl r' u v e=>h.ch (y::l) r' u v (by rw[e];rfl)⟩
  have ih:=rM hw hb hz;have hx:=h.ch [] r y z rfl;obtain⟨x1,x2,x3⟩:=(cW hw).mp hx;refine⟨λu hu=>?_,rfl,h.lst,λu hu=>?_,?_⟩
  ·rcases Pn.mp hu with q | q
   ·rw[q];exact x1
   ·exact ih.on u q
  ·rcases Pn.mp hu with q | q
   ·rw[q]
   ·exact(ih.let' u q).trans x3.symm
  ·unfold m6;rw[kR,x2,ih.adj];rfl
def xJ{bd:List Str}{W w:Nat}(hw:Ways w){a b:Cell}:∀{p:List Cell},IsWay bd W w a b p->Rb (aS bd W w) b (p.length - 1) a
 |[],h=>by have:=h.hd;cases this
 |[y],h=>by
  have h1:y=a:=Pz h.hd;have h2:y=b:=Pz h.lst;exact h1.symm.trans h2
 |y::z::r,h=>by
  have h1:y=a:=Pz h.hd;subst h1;have ha:=h.adj;unfold m6 at ha;rw[P7] at ha;have hz:IsWay bd W w z b (z::r):=⟨λu hu=>h.on u (O_ _ hu),rfl,by have:=h.lst;rw[Rf] at this;exact this,
   λu hu=>(h.let' u (O_ _ hu)).trans (h.let' z (by simp)).symm,ha.2⟩
  have ih:=xJ hw hz;refine .inr ⟨z,ih,(cW hw).mpr ⟨h.on _ (Pa ..),by rw[kR];exact ha.1,(h.let' z (by simp)).symm⟩⟩
def Eu{bd:List Str}{W w:Nat}(hg:Brd bd W)(hw:Ways w){a b:Cell}(ha:On bd.length W a)(hb:On bd.length W b):
 (∃p,IsWay bd W w a b p/\(∀q,IsWay bd W w a b q->p.length<=q.length)/\p.length<=64/\mj [brd bd, .int (w:Int),cD a,cD b]=ab (cL p))\/
 (¬Cn bd W w a b/\mj [brd bd, .int (w:Int),cD a,cD b]=ab .non):=by
 have hm:bd.length*W<=64:=Q6 hg.r8 hg.w8;obtain⟨k,ks,ps,h1,h2,h3⟩:=fT hg hw hb;have K6:=kx h1.nd h2;have st:∀{o:M Out},ay (fb (bH (d2 (eO true) (dV 2) (dV 4))) (aX (dC .non)) bY) (ay (rF 5 (λZ=>(aC (dV 2) aN) Z>>=Kf)) (ay (λZ=>noex ((pF (yV (bH (d2 kr (d2 eP (dV 5) (d1 sC (dC (.int 1)))) (dV 3)))) (jb 5 (CP (d2 cz (dV 4) (d2 eP (dV 5) (d1 sC (dC (.int 1)))))))) Z)) (t6 5 (aX (dV 5))))) [fz (brd bd),fz (.int (w:Int)),fz (cD a),fz (cD b),fz (dr ks ps),none]=o->
  Fl [fz (brd bd),fz (.int (w:Int)),fz (cD a),fz (cD b),none,none]=o:=λ{o} h=>
  ai (bA ((aj (ds:=[brd bd, .int (w:Int),cD a,cD b]) rfl rfl).trans (l8 hg hw ha hb))) (ai (Z':=[fz (brd bd),fz (.int (w:Int)),fz (cD a),fz (cD b),fz (dr ks ps),none]) ((aF (d:=dr ks ps) ((aj (ds:=[brd bd,cD b, .int (w:Int)]) rfl rfl).trans h3)).trans rfl) h)
 have ht:bH (d2 (eO true) (dV 2) (dV 4)) [fz (brd bd),fz (.int (w:Int)),fz (cD a),fz (cD b),fz (dr ks ps),none]=ab (!decide (a∈ks)):=cZ ((aB (x:=cD a) (y:=dr ks ps) rfl rfl).trans (jz (neg:=true) (by rw[Pb];exact h1.len)));by_cases Im:a∈ks
 ·rw[UG Im] at ht;have hex:=(h1.last a).mp Im;have FY:∃j,Rb (aS bd W w) b j a/\j<=k/\∀i,Rb (aS bd W w) b i a->j<=i:=by
   have NV:=(h1.mem a).mp Im;have:∀n,(∃j,j<=n/\Rb (aS bd W w) b j a)->∃j,Rb (aS bd W w) b j a/\j<=n/\∀i,Rb (aS bd W w) b i a->j<=i:=by
    intro n;induction n with
    |zero=>rintro⟨j,hj,hr⟩;exact⟨j,hr,hj,λi _=>by omega⟩
    |succ n ih=>
     rintro⟨j,hj,hr⟩;by_cases hn:∃j,j<=n/\Rb (aS bd W w) b j a
     ·obtain⟨i,i1,i2,i3⟩:=ih hn;exact⟨i,i1,by omega,i3⟩
     ·refine⟨j,hr,hj,λi hi=>?_⟩;by_cases v5:i<=n
      ·exact UK ⟨i,v5,hi⟩ hn
      ·omega
   exact this k ⟨k,Pm _,NV⟩
  obtain⟨j,hj,Mt,wG⟩:=FY;have NU:k<=64:=PM h1.sz.1 (PM K6 hm);obtain⟨p,p1,p2,p3⟩:=xE (bd:=bd) (W:=W) (w:= .int (w:Int)) (a:=a) h1 j lim a [] hj (by rw[cU];omega) (by rw[cU];simp;omega);have hp:=rM hw hb p1;have NS:∀q,IsWay bd W w a b q->j+1<=q.length:=λq hq=>by
   have:=wG _ (xJ hw hq);have:q≠[]:=λz=>by have:=hq.hd;rw[z] at this;cases this
   have:=Sy.mpr this;omega
  refine .inl ⟨p,hp,λq hq=>by have:=NS q hq;omega,?_,aV (st (ai (eI ht rfl) (ai (Z':=[fz (brd bd),fz (.int (w:Int)),fz (cD a),fz (cD b),fz (dr ks ps),some (.ow (.lst [cD a]))]) rfl (ai (Z':=[fz (brd bd),fz (.int (w:Int)),fz (cD a),fz (cD b),fz (dr ks ps),some (.ow (.lst (p.map cD)))]) (cX p3) rfl))))⟩;by_cases O5:k=0
  ·omega
  ·have:j+1<=k:=by
    by_cases K4:j=k
    ·subst K4;have:=(h1.rg a).mpr ⟨hj,wG⟩;cases this
    ·omega
   omega
 ·rw[UH Im] at ht;refine .inr ⟨λhc=>Im ((h1.last a).mpr (hc.symm hw ha)),aV (st (da (eT ht (aL rfl))))⟩
def g7{α:Type}{f:D->M (Option D)}(enc:α->D)(g:α->D):∀(xs:List α),(∀x∈xs,f (enc x)=ab (some (g x)))->di f (xs.map enc)=ab (xs.map g)
 |[],_=>rfl
 |x::xs,h=>by
  rw[Pj,fE,h x (Pa ..),au,g7 enc g xs λy hy=>h y (O_ _ hy)];rfl
def Al{α:Type}{δi:DA}{δe:DE}{Z:aP}{enc:α->D}{xs:List α}{g:α->Bool}(h:δi Z=ab (xs.map enc))(h2:∀x∈xs,δe (fz (enc x)::Z)=ab (.bl (g x)))(h3:xs.length<=4096):dA allM (aC (bB 0 δi cH δe) aN) Z=ab (.bl (xs.all g)):=by
 have cm:bB 0 δi cH δe Z=ab (.lst ((xs.map g).map D.bl)):=by
  refine cg h ?_ (by rw[Pb,Pb,cU];exact h3);rw[P5];exact g7 enc _ xs λx hx=>by rw[lC,h2 x hx];rfl
 rw[cS (aI cm rfl),all_map,Rx];rfl
def MI{Z:aP}{i:Nat}{ds:List D}(h:Z[i]? =some (fz (.lst ds))):de (dV i) Z=ab ds:=by
 unfold de;rw[bu h];rfl
def bO(ks:List Cell)(c:Cell):List Cell:=if c∈ks then ks else ks++[c]
def bD(l:List Cell):List Cell:=l.foldl bO []
def trues(ks:List Cell):List D:=ks.map λ_=> .bl true
def gw{ks:List Cell}{c x:Cell}:x∈bO ks c↔x∈ks\/x=c:=by
 unfold bO;split
 ·rename_i h;exact⟨.inl,λq=>q.elim id λe=>by rw[e];exact h⟩
 ·simp
def kD:∀(l ks:List Cell),(ks.Nodup->(l.foldl bO ks).Nodup)/\(∀x,x∈l.foldl bO ks↔x∈ks\/x∈l)/\(l.foldl bO ks).length<=ks.length+l.length
 |[],ks=>⟨id,λx=>by simp,by simp⟩
 |c::l,ks=>by
  obtain⟨h1,h2,h3⟩:=kD l (bO ks c);refine⟨λhn=>h1 ?_,λx=>?_,?_⟩
  ·unfold bO;split
   ·exact hn
   ·rename_i hc;refine Qi.mpr ⟨hn,by simp,λy hy z hz e=>?_⟩;have hz:z=c:=by simpa using hz
    rw[e,hz] at hy;exact hc hy
  ·rw[Sn,h2 x,gw];simp[or_assoc]
  ·rw[Sn,Pl];have:(bO ks c).length<=ks.length+1:=by unfold bO;split<;>simp
   omega
def jC{l:List Cell}{x:Cell}:x∈bD l↔x∈l:=by
 unfold bD;rw[(kD l []).2.1 x];simp
def Bj(l:List Cell):(bD l).Nodup:=(kD l []).1 Q2
def zu(l:List Cell):(bD l).length<=l.length:=by have:=(kD l []).2.2;simpa[bD] using this
def rC{k:List Key}:∀{ks:List (List Key)}{l:List Cell},ks.length=l.length->lX ks (trues l) k (.bl true)=trues l
 |[],[],_=>rfl
 |k'::ks,c::l,h=>by
  show (if k'=k then D.bl true else D.bl true)::lX ks (trues l) k (.bl true)=_;rw[rC (by simpa using h)];split<;>rfl
 |[],_::_,h=>by simp at h
 |_::_,[],h=>by simp at h
def B2{ks:List Cell}{c:Cell}(hl:ks.length<lim):iH (.dct (ks.map keyOf) (trues ks)) (cD c) (.bl true)=some (.dct ((bO ks c).map keyOf) (trues (bO ks c))):=by
 have P3:(trues ks).length=ks.length:=by simp[trues]
 unfold bO;by_cases h:c∈ks
 ·rw[UD h];show (match j4 (cD c) with | some kk=>if (trues ks).length<lim then some (C.dct (cP (ks.map keyOf) (trues ks) kk) (b8 (ks.map keyOf) (trues ks) kk (.bl true))) else none | none=>none)=_;rw[jA];show (if (trues ks).length<lim then some (C.dct (cP (ks.map keyOf) (trues ks) (keyOf c)) (b8 (ks.map keyOf) (trues ks) (keyOf c) (.bl true))) else none)=_;rw[UD (by rw[P3];exact hl)];obtain⟨d,e,_⟩:=jG (ds:=trues ks) P3.symm h;unfold cP b8;rw[e];show some (C.dct (ks.map keyOf) (lX (ks.map keyOf) (trues ks) (keyOf c) (.bl true)))=_;rw[rC (by simp)]
 ·rw[UE h,pB h (by rw[P3];exact hl)];simp[trues]
abbrev iP(l:List Cell):D:= .dct ((bD l).map keyOf) (trues (bD l))
def qU{l:List Cell}(hl:l.length<4000):g9 [cL l]=ab (iP l):=by
 have e:∀(xs ks:List Cell),ks.length+xs.length<4000->forL (putN 2) (b_ [2] (eU 1 (dV 2) (dC (.bl true)))) (xs.map cD) [fz (cL l),some (.ow (.dct (ks.map keyOf) (trues ks))),none]=ab (.nx [fz (cL l),some (.ow (.dct ((xs.foldl bO ks).map keyOf) (trues (xs.foldl bO ks)))),none]):=by
  intro xs;induction xs with
  |nil=>intro ks _;rfl
  |cons x xs ih=>
   intro ks hk;rw[Pl] at hk;have hle:(bO ks x).length<=ks.length+1:=by unfold bO;split<;>simp
   refine(cM (Z1:=[fz (cL l),some (.ow (.dct (ks.map keyOf) (trues ks))),fz (cD x)]) (Z2:=[fz (cL l),some (.ow (.dct ((bO ks x).map keyOf) (trues (bO ks x)))),none]) rfl ?_).trans (ih (bO ks x) (by omega));refine(br (Z':=[fz (cL l),some (.ow (.dct ((bO ks x).map keyOf) (trues (bO ks x)))),fz (cD x)]) ?_).trans rfl;show (match iH (.dct (ks.map keyOf) (trues ks)) (cD x) (.bl true) with | some c'=>ab (Out.nx [fz (cL l),some (.ow c'),fz (cD x)]) | none=>af)=_;rw[B2 (by rw[cU];omega)]
 refine aV (ai (Z':=[fz (cL l),some (.ow (.dct [] [])),none]) rfl (ai (Z':=[fz (cL l),some (.ow (.dct ((bD l).map keyOf) (trues (bD l)))),none]) (cX (eS (ds:=l.map cD) rfl (e l [] (by simpa using hl)))) rfl))
def nQ{w:Nat}:∀{p q:List Cell}{x y:Cell},p.getLast? =some x->q.head? =some y->m6 w (p++q)=(m6 w p&&(jI w x y&&m6 w q))
 |[],_,_,_,h,_=>by cases h
 |[a],q,x,y,h,h2=>by
  have h:a=x:=Pz h;subst h;cases q with
  |nil=>cases h2
  |cons b r=>
   have h2:b=y:=Pz h2;subst h2;show m6 w (a::b::r)=_;unfold m6;rw[SQ];cases r<;>rfl
 |a::b::r,q,x,y,h,h2=>by
  rw[Rf] at h;have ih:=nQ (w:=w) (p:=b::r) (q:=q) h h2;show (jI w a b&&m6 w ((b::r)++q))=((jI w a b&&m6 w (b::r))&&_)
  rw[ih,Bool.and_assoc]
section
variable{bd:List Str}{W w:Nat}{a b c:Cell}{p q:List Cell}
def IsWay.ne(h:IsWay bd W w a b p):p≠[]:=λz=>by have:=h.hd;rw[z] at this;cases this
def IsWay.pos(h:IsWay bd W w a b p):1<=p.length:=Sy.mpr h.ne
def IsWay.last_let(h:IsWay bd W w a b p):lt bd b=lt bd a:=h.let' b (List.mem_of_getLast? h.lst)
def IsWay.one(ha:On bd.length W a):IsWay bd W w a a [a]:=⟨λx hx=>(show x=a by simpa using hx)▸ha,rfl,rfl,λx hx=>by rw[show x=a by simpa using hx],rfl⟩
def IsWay.cat(h:IsWay bd W w a b p)(h2:IsWay bd W w b c q):IsWay bd W w a c (p++q.tail):=by
 cases q with
 |nil=>exact UK rfl h2.ne
 |cons x r=>
  have hx:x=b:=Pz h2.hd;subst hx;have hl:=h.last_let;refine⟨λy hy=>?_,?_,?_,λy hy=>?_,?_⟩
  ·rcases PR.mp hy with z | z
   ·exact h.on y z
   ·exact h2.on y (O_ _ z)
  ·rw[List.head?_append,h.hd];rfl
  ·have:=h2.lst;cases r with
   |nil=>
    have e:x=c:=Pz this;subst e;simp only[Sv,Qx];exact h.lst
   |cons y r=>
    rw[Rf] at this;rw[Sv,List.getLast?_append,this];rfl
  ·rcases PR.mp hy with z | z
   ·exact h.let' y z
   ·exact(h2.let' y (O_ _ z)).trans hl
  ·cases r with
   |nil=>simp only[Sv,Qx];exact h.adj
   |cons y r=>
    have ha:=h2.adj;unfold m6 at ha;rw[P7] at ha;rw[Sv,nQ h.lst rfl,h.adj,ha.1,ha.2];rfl
end
def Ji(a b:Bool):kr (.bl a) (.bl b)=ab (.bl (!(a==b))):=rfl
def Gy(l:List Cell):bh [cL l]=ab (.int (l.length:Int)):=by
 show ab (D.int ((l.map cD).length:Int))=_;rw[Pb]
def E2(a b:Nat):kr (.int (a:Int)) (.int (b:Int))=ab (.bl (!(a==b))):=by
 rw[ne_int,jQ]
def Bi(a b:Nat):C3 (.int (a:Int)) (.int (b:Int))=ab (.bl (decide (b<a))):=by
 show ab (D.bl (decide ((b:Int)<(a:Int))))=_;congr 2;rw[UN];omega
def AE(ks:List Cell)(f:Cell->D):C:= .dct (ks.map keyOf) (ks.map f)
def n9(ks:List Cell)(f:Cell->D):D:= .dct (ks.map keyOf) (ks.map f)
def fj(f:Cell->D)(x:Cell)(d:D):Cell->D:=λy=>if y=x then d else f y
def nM{f:Cell->D}{x:Cell}:∀{ks:List Cell},x∈ks->c9 (ks.map keyOf) (ks.map f) (keyOf x)=some (f x)
 |y::ks,h=>by
  show (if keyOf y=keyOf x then some (f y) else c9 (ks.map keyOf) (ks.map f) (keyOf x))=_;by_cases e:y=x
  ·subst e;rw[UD rfl]
  ·rw[UE (λz=>e (gJ z))];rcases Pn.mp h with q | q
   ·exact UK q.symm e
   ·exact nM q
def oE{ks:List Cell}{f:Cell->D}{x:Cell}(h:x∈ks):cz (n9 ks f) (cD x)=ab (f x):=by
 show (match ((j4 (cD x)).map λk=>c9 (ks.map keyOf) (ks.map f) k) with | some (some v)=>ab v | _=>af)=_;rw[jA];show (match some (c9 (ks.map keyOf) (ks.map f) (keyOf x)) with | some (some v)=>ab v | _=>af)=_;rw[nM h]
def tq{f:Cell->D}{x:Cell}{d:D}:∀{ks:List Cell},lX (ks.map keyOf) (ks.map f) (keyOf x) d=ks.map (fj f x d)
 |[]=>rfl
 |y::ks=>by
  show (if keyOf y=keyOf x then d else f y)::lX (ks.map keyOf) (ks.map f) (keyOf x) d=_;rw[tq,Pj];congr 1;unfold fj;by_cases e:y=x
  ·subst e;rw[UD rfl,UD rfl]
  ·rw[UE (λz=>e (gJ z)),UE e]
def Ed{ks:List Cell}{f:Cell->D}{x:Cell}{d:D}(hl:ks.length<lim):iH (AE ks f) (cD x) d=some (AE (bO ks x) (fj f x d)):=by
 show (match j4 (cD x) with | some kk=>if (ks.map f).length<lim then some (C.dct (cP (ks.map keyOf) (ks.map f) kk) (b8 (ks.map keyOf) (ks.map f) kk d)) else none | none=>none)=_;rw[jA];show (if (ks.map f).length<lim then some (C.dct (cP (ks.map keyOf) (ks.map f) (keyOf x)) (b8 (ks.map keyOf) (ks.map f) (keyOf x) d)) else none)=_;rw[UD (by rw[Pb];exact hl)];unfold AE bO cP b8;by_cases h:x∈ks
 ·rw[nM h,UD h];show some (C.dct (ks.map keyOf) (lX (ks.map keyOf) (ks.map f) (keyOf x) d))=_;rw[tq]
 ·rw[g0 h,UE h];show some (C.dct (ks.map keyOf++[keyOf x]) (ks.map f++[d]))=_;have e1:ks.map f=ks.map (fj f x d):=QC λy hy=>by
   unfold fj;rw[UE (λz:y=x=>h (z▸hy))]
  have e2:(ks++[x]).map (fj f x d)=ks.map (fj f x d)++[d]:=by
   rw[P1];congr 1;show [fj f x d x]=[d]
   unfold fj;rw[UD rfl]
  rw[P1,e1,e2];rfl
def yN{i:Nat}{δk δv:DE}{Z:aP}{ks:List Cell}{f:Cell->D}{x:Cell}{d:D}(h0:Z[i]? =some (some (.ow (AE ks f))))(hv:δv Z=ab d)(hk:δk Z=ab (cD x))(hl:ks.length<lim):
 eU i δk δv Z=ab (.nx (Z.set i (some (.ow (AE (bO ks x) (fj f x d)))))):=by
 unfold eU qp;rw[h0];show (δv Z>>=λv=>δk Z>>=λk=>match iH (AE ks f) k v with | some c'=>ab (Out.nx (Z.set i (some (.ow c')))) | none=>af)=_;rw[hv,au,hk,au,Ed hl]
def uK{bd:List Str}{W:Nat}(hg:Wd bd W):cT [brd bd]=ab (cL (aQ bd.length W)):=by
 have h8:=hg.r8;have w8:=hg.w8;have hm:bd.length*W<=64:=Q6 h8 w8;have FV:(PY bd.length).flatMap (λr=>(bw W r).map cD)=(aQ bd.length W).map cD:=by
  unfold aQ;rw[S2]
 have e:=gD (put:=putN 2) (body:=b_ [2] (bg 1 (d2 qK (dV 1) (bB 0 (λZ=>(aC (dA bh (aC (d2 aU (dV 0) (dC (.int 0))) aN)) aN) Z>>=gc) cH (dA dF (aC (dV 3) (aC (dV 0) aN))))))) (λ(k:Nat)=>D.int (k:Int)) (λv2=>[fz (brd bd),fz (.lst v2),none]) (λr=>(bw W r).map cD) (B:=64) (PY bd.length) []
  (by rw[Qh,FV,Pb,cB];exact hm) λr hr v2 hB=>by
   refine⟨[fz (brd bd),fz (.lst v2),fz (.int (r:Int))],rfl,?_⟩;refine(br (Z':=[fz (brd bd),fz (.lst (v2++(bw W r).map cD)),fz (.int (r:Int))]) ?_).trans rfl;have hc:bB 0 (λZ=>(aC (dA bh (aC (d2 aU (dV 0) (dC (.int 0))) aN)) aN) Z>>=gc) cH (dA dF (aC (dV 3) (aC (dV 0) aN))) [fz (brd bd),fz (.lst v2),fz (.int (r:Int))]=ab (.lst ((bw W r).map cD)):=by
    refine cg (B8 (n:=W) (hg.len0 rfl) (by omega)) ?_ (by simp[bw,cU];omega);rw[show (bw W r).map cD=(PY W).map (λk=>cD (r,k)) by simp[bw,P5]];exact g7 (λ(k:Nat)=>D.int (k:Int)) (λk=>cD (r,k)) _ λk _=>rfl
   refine(aF (d:= .lst (v2++(bw W r).map cD)) ((aB (x:= .lst v2) (y:= .lst ((bw W r).map cD)) rfl hc).trans ?_)).trans rfl;show (if v2.length+((bw W r).map cD).length<=lim then ab (D.lst (v2++(bw W r).map cD)) else af)=_;rw[UD (by rw[Pp] at hB;rw[cU];omega)]
 rw[Qh,FV] at e;refine aV (ai (Z':=[fz (brd bd),fz (.lst []),none]) rfl (ai (Z':=[fz (brd bd),fz (.lst ((aQ bd.length W).map cD)),none]) (cX (eS (B8 (n:=bd.length) (Bf rfl) (by omega)) e)) ?_));rfl
def qc{bd:List Str}{W:Nat}(hg:Brd bd W):cT [brd bd]=ab (cL (aQ bd.length W)):=uK hg.wd
section
variable{α:Type}[DecidableEq α]
def ll{β:Type}[DecidableEq β]{g:α->β}(hg:∀a b,g a=g b->a=b){x:α}:∀{ks:List α}{ds:List D},c9 (ks.map g) ds (g x)=c9 ks ds x
 |[],ds=>by cases ds<;>rfl
 |k::ks,[]=>rfl
 |k::ks,d::ds=>by
  show (if g k=g x then some d else c9 (ks.map g) ds (g x))=if k=x then some d else c9 ks ds x
  by_cases e:k=x
  ·rw[UD (by rw[e]),UD e]
  ·rw[UE (λz=>e (hg _ _ z)),UE e,ll hg]
def nN{x:α}:∀{ks:List α}{ds:List D},x∉ks->c9 ks ds x=none
 |[],ds,_=>by cases ds<;>rfl
 |k::ks,[],_=>rfl
 |k::ks,d::ds,h=>by
  show (if k=x then some d else c9 ks ds x)=none;rw[UE (λz:k=x=>h (z▸Pa)),nN λz=>h (O_ _ z)]
def lp{x:α}:∀{ks:List α}{ds:List D},ks.length=ds.length->x∈ks->∃d,c9 ks ds x=some d/\(x,d)∈ks.zip ds
 |k::ks,d::ds,hl,h=>by
  by_cases e:k=x
  ·exact⟨d,by show (if k=x then some d else _)=_;rw[UD e],by rw[e];exact Pa⟩
  ·obtain⟨d',h1,h2⟩:=lp (ks:=ks) (ds:=ds) (by simpa using hl) ((Pn.mp h).resolve_left λz=>e z.symm);exact⟨d',by show (if k=x then some d else _)=_;rw[UE e,h1],O_ _ h2⟩
 |k::ks,[],hl,h=>by simp at hl
structure KOk (enc:α->D) (mk:List α->List D->C):Prop where
 at':∀ks ds x,y0 (mk ks ds).d (enc x)=some (c9 ks ds x)
 put:∀ks ds x d,x∉ks->ds.length<lim->iH (mk ks ds) (enc x) d=some (mk (ks++[x]) (ds++[d]))
 ini:∀x,orM (kz (enc x) (.int 0)) (me (enc x) (.int 0))=ab (mk [x] [.int 0])
def zQ{ks:List Cell}{ds:List D}{x:Cell}{d:D}(h:x∉ks)(hl:ds.length<lim):iH (.dct (ks.map keyOf) ds) (cD x) d=some (.dct ((ks++[x]).map keyOf) (ds++[d])):=pB h hl
def EV:KOk cD (λks ds=> .dct (ks.map keyOf) ds):=
 ⟨λks ds x=>UM some (ll (λ_ _=>gJ)),λks ds x d h hl=>zQ h hl,λx=>rfl⟩
def kN(n:Nat):Key:= .inl (n:Int)
def su(a b:Nat)(h:kN a=kN b):a=b:=RP (Sum.inl.inj h)
def nI(n:Nat):D:= .int (n:Int)
abbrev ML(ks:List Nat)(ds:List D):C:= .dci (ks.map kN) ds
def Gp:KOk nI ML:=
 ⟨λks ds x=>UM some (ll su),λks ds x d h hl=>by
  show (if ds.length<lim then some (C.dci (cP (ks.map kN) ds (kN x)) (b8 (ks.map kN) ds (kN x) d)) else none)=_;rw[UD hl];unfold cP b8;rw[ll su,nN h];show some (C.dci (ks.map kN++[kN x]) (ds++[d]))=some (C.dci ((ks++[x]).map kN) (ds++[d]));rw[P1];rfl,λx=>rfl⟩
variable{enc:α->D}{mk:List α->List D->C}
def KOk.inn(k:KOk enc mk){ks:List α}{ds:List D}{x:α}(hl:ks.length=ds.length){neg:Bool}:eO neg (enc x) (mk ks ds).d=ab (.bl (if neg then !decide (x∈ks) else decide (x∈ks))):=by
 unfold eO;rw[k.at'];by_cases h:x∈ks
 ·obtain⟨d,e,_⟩:=lp hl h;rw[e,UG h];rfl
 ·rw[nN h,UH h];rfl
def KOk.ix(k:KOk enc mk){ks:List α}{ds:List D}{x:α}(hl:ks.length=ds.length)(h:x∈ks):∃d,(x,d)∈ks.zip ds/\cz (mk ks ds).d (enc x)=ab d:=by
 obtain⟨d,e,h2⟩:=lp hl h;refine⟨d,h2,?_⟩;unfold cz;rw[k.at',e]
def KOk.get(k:KOk enc mk){ks:List α}{ds:List D}{x:α}{v:D}(hl:ks.length=ds.length):(x∈ks->∃d,(x,d)∈ks.zip ds/\getM (mk ks ds).d (enc x) v=ab d)/\(x∉ks->getM (mk ks ds).d (enc x) v=ab v):=by
 unfold getM;rw[k.at'];constructor
 ·intro h;obtain⟨d,e,h2⟩:=lp hl h;exact⟨d,h2,by rw[e]⟩
 ·intro h;rw[nN h]
def Ds(nb:α->List α)(a x:α)(n:Nat):Prop:=Rb nb a n x/\∀j,Rb nb a j x->n<=j
structure SokG (S:List α) (s:Bk α):Prop where
 len:s.ks.length=s.ps.length
 nd:s.ks.Nodup
 on:∀x∈s.ks,x∈S
 fu:s.fu.length<=s.ks.length
def SokG.step{S:List α}{s:Bk α}(h:SokG S s){c x:α}(hx:x∈S):SokG S (cp c s x):=by
 unfold cp;split
 ·exact h
 ·rename_i hn;refine⟨by simp[h.len],?_,λy hy=>?_,by simp;exact h.fu⟩
  ·refine Qi.mpr ⟨h.nd,by simp,λy hy z hz e=>?_⟩;have hz:z=x:=by simpa using hz
   rw[e,hz] at hy;exact hn hy
  ·rcases PR.mp hy with q | q
   ·exact h.on y q
   ·have:y=x:=by simpa using q
    rw[this];exact hx
abbrev gR(mk:List α->List D->C)(nr a:D)(ks:List α)(vs:List Nat)(x3 x4 x5 x6:Option Sl):aP:=[fz nr,fz a,some (.ow (mk ks (vs.map nI))),x3,x4,x5,x6]
def FC:DS:=(b_ [6] (fb (yV (bH (d2 (eO true) (dV 6) (dV 2)))) (ay (eU 2 (dV 6) (CP (d2 cy (d2 cz (dV 2) (dV 5)) (dC (.int 1))))) (jb 4 (dV 6))) bY))
def Val(nb:α->List α)(a:α)(ks:List α)(vs:List Nat):Prop:=ks.length=vs.length/\∀x n,(x,n)∈ks.zip vs->Ds nb a x n
def Ee{i:Nat}{δk δv:DE}{Z:aP}{c c':C}{k d:D}(h0:Z[i]? =some (some (.ow c)))(hv:δv Z=ab d)(hk:δk Z=ab k)(hp:iH c k d=some c'):eU i δk δv Z=ab (.nx (Z.set i (some (.ow c')))):=by
 unfold eU qp;rw[h0];show (δv Z>>=λv=>δk Z>>=λk=>match iH c k v with | some c'=>ab (Out.nx (Z.set i (some (.ow c')))) | none=>af)=_;rw[hv,au,hk,au,hp]
def tR{β:Type}{x:β}{d:D}:∀{ks:List β}{vs:List Nat},(x,d)∈ks.zip (vs.map nI)->∃n,d=nI n/\(x,n)∈ks.zip vs
 |k::ks,v::vs,h=>by
  rw[Pj,QH] at h;rcases Pn.mp h with e | h
  ·cases e;exact⟨v,rfl,Pa⟩
  ·obtain⟨n,h1,h2⟩:=tR h;exact⟨n,h1,O_ _ h2⟩
 |[],_,h=>by simp at h
 |_::_,[],h=>by simp at h
variable{S:List α}{nb:α->List α}{a0:α}
def CV(kk:KOk enc mk)(lI:S.length<=64){nr a:D}{c x:α}{r:Option Sl}{s:Bk α}{k:Nat}(h:SokG S s)(hc:c∈s.ks)(hk:Ds nb a0 c k)(j3:∀y,Rb nb a0 k y->y∈s.ks)(hx:x∈nb c){vs:List Nat}(hv:Val nb a0 s.ks vs):
 ∃vs',Val nb a0 (cp c s x).ks vs'/\FC (gR mk nr a s.ks vs r (some (.ow (.lst (s.fu.map enc)))) (fz (enc c)) (fz (enc x)))=ab (.nx (gR mk nr a (cp c s x).ks vs' r (some (.ow (.lst ((cp c s x).fu.map enc)))) (fz (enc c)) none)):=by
 have hle:s.ks.length<=S.length:=c6 h.nd h.on;have hl:s.ks.length=(vs.map nI).length:=by rw[Pb];exact hv.1
 have ht:yV (bH (d2 (eO true) (dV 6) (dV 2))) (gR mk nr a s.ks vs r (some (.ow (.lst (s.fu.map enc)))) (fz (enc c)) (fz (enc x)))=ab (!decide (x∈s.ks)):=
  vJ (cZ ((aB (x:=enc x) (y:=(mk s.ks (vs.map nI)).d) rfl rfl).trans (kk.inn (neg:=true) hl)))
 by_cases CI:x∈s.ks
 ·rw[UG CI] at ht;have e:cp c s x=s:=UD CI;rw[e];exact⟨vs,hv,(br (eI ht rfl)).trans rfl⟩
 ·rw[UH CI] at ht;have e:cp c s x=⟨s.ks++[x],s.ps++[some c],s.fu++[x]⟩:=UE CI;rw[e];obtain⟨d,hd,hi⟩:=kk.ix hl hc;obtain⟨n,rfl,hn⟩:=tR hd;have N5:n=k:=Rj ((hv.2 c n hn).2 k hk.1) (hk.2 n (hv.2 c n hn).1);subst N5;have hp:iH (mk s.ks (vs.map nI)) (enc x) (nI (n+1))=some (mk (s.ks++[x]) ((vs++[n+1]).map nI)):=by
   rw[kk.put _ _ _ _ CI (by rw[Pb,<-hv.1,cU];omega),P1];rfl
  refine⟨vs++[n+1],⟨by simp[hv.1],λy m hy=>?_⟩,(br (Z':=gR mk nr a (s.ks++[x]) (vs++[n+1]) r (some (.ow (.lst ((s.fu++[x]).map enc)))) (fz (enc c)) (fz (enc x))) (eT ht (ai (Z':=gR mk nr a (s.ks++[x]) (vs++[n+1]) r (some (.ow (.lst (s.fu.map enc)))) (fz (enc c)) (fz (enc x))) ((Ee (c:=mk s.ks (vs.map nI)) (k:=enc x) (d:=nI (n+1)) rfl (ED ((aB (x:=nI n) (y:= .int 1) ((aB (x:=(mk s.ks (vs.map nI)).d) (y:=enc c) rfl rfl).trans hi) rfl).trans rfl) rfl) rfl hp).trans rfl) ?_))).trans rfl⟩
  ·rw[Si hv.1] at hy;rcases PR.mp hy with q | q
   ·exact hv.2 y m q
   ·cases PQ.mp q;refine⟨.inr ⟨c,hk.1,hx⟩,λj hj=>Nat.lt_of_not_le λz=>CI (j3 _ (Rb.mono z hj))⟩
  ·show (if (s.fu.map enc).length<lim then ab (Out.nx (gR mk nr a (s.ks++[x]) (vs++[n+1]) r (some (.ow (.lst (s.fu.map enc++[enc x])))) (fz (enc c)) (fz (enc x)))) else af)=_;have:=h.fu;rw[UD (by rw[Pb,cU];omega),show s.fu.map enc++[enc x]=(s.fu++[x]).map enc by simp]
def FA:DS:=(b_ [5,6] (dq (putN 6) (A5 (de (d2 cz (dV 0) (dV 5))) (λZ=>(d2 cz (dV 0) (dV 5)) Z>>=gK)) FC))
def lu(enc:α->D)(S:List α)(nb:α->List α)(nr:D):Prop:=∀c∈S,∃d,cz nr (enc c)=ab d/\orM (lstM d) (gK d)=ab ((nb c).map enc)
def og{β σ:Type}{put:D->aP->Option aP}{body:DS}(enc:β->D)(I:σ->aP->Prop)(step:σ->β->σ):∀(xs:List β) (s:σ) (Z:aP),I s Z->(∀s Z,I s Z->∀x∈xs,∃Z1 Z2,put (enc x) Z=some Z1/\body Z1=ab (.nx Z2)/\I (step s x) Z2)->
 ∃Z',forL put body (xs.map enc) Z=ab (.nx Z')/\I (xs.foldl step s) Z'
 |[],s,Z,h,_=>⟨Z,rfl,h⟩
 |x::xs,s,Z,h,st=>by
  obtain⟨Z1,Z2,e1,e2,h2⟩:=st s Z h x (Pa ..);obtain⟨Z',e3,h3⟩:=og enc I step xs (step s x) Z2 h2 λs Z h y hy=>st s Z h y (O_ _ hy);exact⟨Z',by rw[Pj,cM e1 e2,e3],h3⟩
def oq{c x y:α}{s:Bk α}(h:y∈s.ks):y∈(cp c s x).ks:=(qy s).mpr (.inl h)
def oj{y c:α}{s:Bk α}(h:y∈s.ks):y∈(fU nb s c).ks:=((foldStep (P:=λ_ _=>True) (nb c) s λ_ _=>trivial).2 y).mpr (.inl h)
def CT(kk:KOk enc mk)(lI:S.length<=64)(hS:∀y∈S,∀x∈nb y,x∈S){nr:D}(hN:lu enc S nb nr){a:D}{c:α}{r:Option Sl}{s:Bk α}{k:Nat}(h:SokG S s)(hc:c∈s.ks)(hk:Ds nb a0 c k)(j3:∀y,Rb nb a0 k y->y∈s.ks){vs:List Nat}(hv:Val nb a0 s.ks vs):
 SokG S (fU nb s c)/\∃vs',Val nb a0 (fU nb s c).ks vs'/\FA (gR mk nr a s.ks vs r (some (.ow (.lst (s.fu.map enc)))) (fz (enc c)) none)=ab (.nx (gR mk nr a (fU nb s c).ks vs' r (some (.ow (.lst ((fU nb s c).fu.map enc)))) none none)):=by
 have Ml:=h.on c hc;obtain⟨Z',e,h1,h2,h4,vs',h3,rfl⟩:=og (put:=putN 6) (body:=FC) enc (λ(s:Bk α) Z=>SokG S s/\c∈s.ks/\(∀y,Rb nb a0 k y->y∈s.ks)/\∃vs:List Nat,Val nb a0 s.ks vs/\Z=gR mk nr a s.ks vs r (some (.ow (.lst (s.fu.map enc)))) (fz (enc c)) none) (cp c) (nb c) s _ ⟨h,hc,j3,vs,hv,rfl⟩ λs Z ⟨h,hc,j3,vs,hv,e⟩ x hx=>by
  subst e;obtain⟨vs',h1,h2⟩:=CV (nr:=nr) (a:=a) (x:=x) (r:=r) kk lI h hc hk j3 hx hv;exact⟨_,_,rfl,h2,h.step (hS c Ml x hx),oq hc,λy hy=>oq (j3 y hy),vs',h1,rfl⟩
 refine⟨h1,vs',h3,(br (eS ?_ e)).trans rfl⟩;obtain⟨d,hd,hd2⟩:=hN c Ml;have e0:d2 cz (dV 0) (dV 5) (gR mk nr a s.ks vs r (some (.ow (.lst (s.fu.map enc)))) (fz (enc c)) none)=ab d:=(aB (x:=nr) (y:=enc c) rfl rfl).trans hd;show orM (d2 cz (dV 0) (dV 5) _>>=lstM) (d2 cz (dV 0) (dV 5) _>>=gK)=_;rw[e0];exact hd2
def H9:DS:=(b_ [4,5,6] (ay (tB 4) (ay (dq (putN 5) (de (dV 3)) FA) (t6 4 (bg 3 (dV 4))))))
def CU(kk:KOk enc mk)(lI:S.length<=64)(hS:∀y∈S,∀x∈nb y,x∈S){nr:D}(hN:lu enc S nb nr){a:D}{v1:List α}{s:Bk α}{k:Nat}(hr:∀c∈v1,c∈s.ks/\Ds nb a0 c k)(j3:∀y,Rb nb a0 k y->y∈s.ks)(h:SokG S s)(hf:s.fu=[]){vs:List Nat}(hv:Val nb a0 s.ks vs):
 SokG S (bC nb s v1)/\∃vs',Val nb a0 (bC nb s v1).ks vs'/\H9 (gR mk nr a s.ks vs (fz (.lst (v1.map enc))) none none none)=ab (.nx (gR mk nr a (bC nb s v1).ks vs' (fz (.lst ((bC nb s v1).fu.map enc))) none none none)):=by
 obtain⟨Z',e,h1,h2,h4,vs',h3,rfl⟩:=og (put:=putN 5) (body:=FA) enc (λ(s:Bk α) Z=>SokG S s/\(∀c∈v1,c∈s.ks/\Ds nb a0 c k)/\(∀y,Rb nb a0 k y->y∈s.ks)/\∃vs:List Nat,Val nb a0 s.ks vs/\Z=gR mk nr a s.ks vs (fz (.lst (v1.map enc))) (some (.ow (.lst (s.fu.map enc)))) none none) (fU nb) v1 s _ ⟨h,hr,j3,vs,hv,rfl⟩ λs Z ⟨h,hr,j3,vs,hv,e⟩ c hc=>by
  subst e;obtain⟨g1,vs',g2,g3⟩:=CT (nb:=nb) (a:=a) (r:=fz (.lst (v1.map enc))) kk lI hS hN h (hr c hc).1 (hr c hc).2 j3 hv;exact⟨_,_,rfl,g3,g1,λc' AZ=>⟨oj (hr c' AZ).1,(hr c' AZ).2⟩,λy hy=>oj (j3 y hy),vs',g2,rfl⟩
 rw[hf] at e;refine⟨h1,vs',h3,(br (Z':=gR mk nr a (bC nb s v1).ks vs' (fz (.lst ((bC nb s v1).fu.map enc))) (fz (.lst ((bC nb s v1).fu.map enc))) none none) ?_).trans rfl⟩;refine ai (Z':=gR mk nr a s.ks vs (fz (.lst (v1.map enc))) (some (.ow (.lst []))) none none) rfl (ai (Z':=gR mk nr a (bC nb s v1).ks vs' (fz (.lst (v1.map enc))) (some (.ow (.lst ((bC nb s v1).fu.map enc)))) none none) ?_ rfl);exact eS rfl e
def uk(kk:KOk enc mk)(lI:S.length<=64)(hS:∀y∈S,∀x∈nb y,x∈S){nr:D}(hN:lu enc S nb nr)(ha:a0∈S):∀(fuel k:Nat) (ks:List α) (ps:List (Option α)) (v1:List α) (vs:List Nat),S.length+2<=fuel+k->Rng nb a0 k ks ps v1->(∀x∈ks,x∈S)->Val nb a0 ks vs->
 ∃k' ks' iG vs',Rng nb a0 k' ks' iG []/\(∀x∈ks',x∈S)/\Val nb a0 ks' vs'/\dQ (b9 (dV 3)) H9 fuel (gR mk nr (enc a0) ks vs (fz (.lst (v1.map enc))) none none none)=ab (.nx (gR mk nr (enc a0) ks' vs' (fz (.lst [])) none none none))
 |0,k,ks,ps,v1,vs,hf,hR,hJ,hv=>by
  have h1:ks.length<=S.length:=c6 hR.nd hJ;have:=hR.sz.1;omega
 |fuel+1,k,ks,ps,[],vs,hf,hR,hJ,hv=>⟨k,ks,ps,vs,hR,hJ,hv,pU rfl⟩
 |fuel+1,k,ks,ps,c::v1,vs,hf,hR,hJ,hv=>by
  have Nm:=hR.next (by simp);have IT:∀x∈c::v1,x∈ks/\Ds nb a0 x k:=λx hx=>⟨(hR.mem x).mpr ((hR.rg x).mp hx).1,(hR.rg x).mp hx⟩
  obtain⟨hb,OU,Oq,e⟩:=CU (nb:=nb) (a:=enc a0) kk lI hS hN (s:=⟨ks,ps,[]⟩) IT (λy hy=>(hR.mem y).mpr hy) ⟨hR.len,hR.nd,hJ,P2 _⟩ rfl hv;obtain⟨k',ks',iG,vs',q1,q2,q3,q4⟩:=uk kk lI hS hN ha fuel (k+1) _ _ _ OU (by omega) Nm hb.on Oq;exact⟨k',ks',iG,vs',q1,q2,q3,pV rfl e q4⟩
def oa(kk:KOk enc mk)(lI:S.length<=64)(hS:∀y∈S,∀x∈nb y,x∈S){nr:D}(hN:lu enc S nb nr)(ha:a0∈S):
 ∃(ks:List α) (vs:List Nat),(∀x,x∈ks↔∃j,Rb nb a0 j x)/\Val nb a0 ks vs/\bt [nr,enc a0]=ab (mk ks (vs.map nI)).d:=by
 obtain⟨k,ks,ps,vs,h1,h2,h3,h4⟩:=uk (nb:=nb) kk lI hS hN ha lim 0 [a0] [none] [a0] [0] (by rw[cU];omega) (Rng.zero _ _) (λx hx=>(show x=a0 by simpa using hx)▸ha) ⟨rfl,λx n h=>by
  have h:x=a0/\n=0:=by simpa using h
  rw[h.1,h.2];exact⟨rfl,λj _=>P2 _⟩⟩
 refine⟨ks,vs,h1.last,h3,aV (ai (Z':=gR mk nr (enc a0) [a0] [0] none none none none) ?_ (ai (Z':=gR mk nr (enc a0) [a0] [0] (fz (.lst [enc a0])) none none none) rfl (ai (Z':=gR mk nr (enc a0) ks vs (fz (.lst [])) none none none) (cX h4) rfl)))⟩;show (orM (kz (enc a0) (.int 0)) (me (enc a0) (.int 0))>>=_)=_;rw[kk.ini];rfl
end
def rank(W:Nat)(x:Cell):Nat:=x.1*W+x.2
def gz{R W:Nat}{a b:Cell}(ha:On R W a)(hb:On R W b):Ay a b=true↔rank W a<rank W b:=by
 unfold Ay rank;have h1:=ha.2;have h2:=hb.2;by_cases h:a.1=b.1
 ·rw[UD h,UJ,h];omega
 ·rw[UE h,UJ];constructor
  ·intro q;have:(a.1+1)*W<=b.1*W:=Ue _ q;rw[Nat.add_mul,Nat.one_mul] at this;omega
  ·intro q;refine Classical.byContradiction λz=>?_;have:(b.1+1)*W<=a.1*W:=Ue _ (by omega);rw[Nat.add_mul,Nat.one_mul] at this;omega
def vp{R W:Nat}{a b:Cell}(ha:On R W a)(hb:On R W b)(h:rank W a=rank W b):a=b:=by
 have n1:¬Ay a b=true:=λz=>by have:=(gz ha hb).mp z;omega
 have n2:¬Ay b a=true:=λz=>by have:=(gz hb ha).mp z;omega
 unfold Ay at n1 n2;obtain⟨a1,a2⟩:=a;obtain⟨b1,b2⟩:=b;simp only at n1 n2;by_cases h1:a1=b1
 ·rw[UD h1,UJ] at n1;rw[UD h1.symm,UJ] at n2;rw[Prod.mk.injEq];exact⟨h1,by omega⟩
 ·rw[UE h1,UJ] at n1;rw[UE (Qd h1),UJ] at n2;omega
section
variable{W:Nat}
def mu(R W:Nat)(L:Cell->Cell):Nat:=((aQ R W).map λx=>rank W (L x)).sum
end
def wM{δ:DE}{Z:aP}{l:List Cell}(h:δ Z=ab (cL l)):de δ Z=ab (l.map cD):=by
 show (δ Z>>=lstM)=_;rw[h];rfl
def fW(R W:Nat):RiseC (aQ R W):=by
 unfold RiseC aQ bw;rw[List.pairwise_flatMap];constructor
 ·intro r _;rw[R5];exact List.pairwise_lt_range.imp λh=>by show (if _ then _ else _)=true;rw[UD rfl,UJ];exact h
 ·refine List.pairwise_lt_range.imp λ{a b} h x hx y hy=>?_;obtain⟨i,_,rfl⟩:=Px.mp hx;obtain⟨j,_,rfl⟩:=Px.mp hy;show (if a=b then _ else decide (a<b))=true;rw[UE (by omega),UJ];exact h
section
variable{bd:List Str}{W w:Nat}
def uM{α β:Type}{n:Nat}(f:α->List β)(h:∀a,(f a).length<=n):∀l:List α,(l.flatMap f).length<=n*l.length
 |[]=>P2 _
 |a::l=>by
  rw[QY,Pp,Pl,Nat.mul_add,Nat.mul_one];have:=h a;have:=uM f h l;omega
def Least(bd:List Str)(W w:Nat)(x m:Cell):Prop:=Cn bd W w x m/\∀z,Cn bd W w x z->rank W m<=rank W z
end
def Ip:((aQ 8 8).map λc=>fY (ic c)).Nodup:=by decide+kernel
def lN{α β:Type}{f:α->β}:∀{l:List α},(l.map f).Nodup->∀a∈l,∀b∈l,f a=f b->a=b
 |x::l,h,a,ha,b,hb,e=>by
  rw[Pj,Qg] at h;by_cases h1:a=x
  ·by_cases h2:b=x
   ·rw[h1,h2]
   ·have hb:b∈l:=(Pn.mp hb).resolve_left h2;exact UK (Px.mpr ⟨b,hb,by rw[<-h1];exact e.symm⟩) h.1
  ·have ha:a∈l:=(Pn.mp ha).resolve_left h1;by_cases h2:b=x
   ·exact UK (Px.mpr ⟨a,ha,by rw[<-h2];exact e⟩) h.1
   ·exact lN h.2 a ha b ((Pn.mp hb).resolve_left h2) e
def C8{R W:Nat}(hR:R<=8)(hW:W<=8){l:List Cell}(hn:l.Nodup)(hJ:∀x∈l,On R W x):(l.map λc=>fY (ic c)).Nodup:=by
 have h8:∀x∈l,x∈aQ 8 8:=λx hx=>aJ.mpr ⟨by have:=(hJ x hx).1;omega,by have:=(hJ x hx).2;omega⟩;rw[QL,R5];refine List.Pairwise.imp_of_mem (λ{a b} ha hb h z=>h ?_) hn;exact lN Ip a (h8 a ha) b (h8 b hb) z
def Hd{ks:List Cell}{f:Cell->D}{x:Cell}{d:D}:cP (ks.map keyOf) (ks.map f) (keyOf x)=(bO ks x).map keyOf/\b8 (ks.map keyOf) (ks.map f) (keyOf x) d=(bO ks x).map (fj f x d):=by
 unfold bO cP b8;by_cases h:x∈ks
 ·rw[nM h,UD h];exact⟨rfl,tq⟩
 ·rw[g0 h,UE h];have e1:ks.map f=ks.map (fj f x d):=QC λy hy=>by
   unfold fj;rw[UE (λz:y=x=>h (z▸hy))]
  have e2:(ks++[x]).map (fj f x d)=ks.map (fj f x d)++[d]:=by
   rw[P1];congr 1;show [fj f x d x]=[d]
   unfold fj;rw[UD rfl]
  exact⟨by rw[P1];rfl,by rw[e2,<-e1];rfl⟩
def oU:∀(l ks:List Cell),b0 (ks.map keyOf) (trues ks) (l.map keyOf) (trues l)=((l.foldl bO ks).map keyOf,trues (l.foldl bO ks))
 |[],ks=>rfl
 |x::l,ks=>by
  show b0 (cP (ks.map keyOf) (trues ks) (keyOf x)) (b8 (ks.map keyOf) (trues ks) (keyOf x) (.bl true)) (l.map keyOf) (trues l)=_;have h:=Hd (ks:=ks) (f:=λ_=>D.bl true) (x:=x) (d:= .bl true);have e:fj (λ_=>D.bl true) x (.bl true)=λ_=>D.bl true:=by
   funext y;unfold fj;split<;>rfl
  rw[e] at h;rw[show trues ks=ks.map (λ_=>D.bl true) from rfl,h.1,h.2];exact oU l (bO ks x)
def AM{l ks:List Cell}(h:ks.Nodup):(l.foldl bO ks).Nodup:=(kD l ks).1 h
section
open Classical
variable{bd:List Str}{W w:Nat}
noncomputable def aY(bd:List Str)(W w:Nat)(m:Cell):List Cell:=(aQ bd.length W).filter λx=>decide (Cn bd W w m x)
noncomputable def cI(bd:List Str)(W w:Nat)(l:List Cell):List Cell:=l.filter λx=>decide (Least bd W w x x)
def bU(hw:Ways w){m:Cell}(hm:On bd.length W m):IsPatch bd W w m (aY bd W w m):=by
 refine⟨(fW _ _).filter _,λx=>?_⟩;unfold aY;rw[Qr,aJ,UJ];exact⟨λh=>h.2,λh=>⟨h.on hw hm,h⟩⟩
def Least.on(hw:Ways w){x m:Cell}(hx:On bd.length W x)(h:Least bd W w x m):On bd.length W m:=h.1.on hw hx
def Least.move(hw:Ways w){x y m:Cell}(hx:On bd.length W x)(h:Least bd W w x m)(hy:Cn bd W w x y):Least bd W w y m:=
 ⟨(hy.symm hw hx).trans h.1,λz hz=>h.2 z (hy.trans hz)⟩
def Least.one(hw:Ways w){x m n:Cell}(hx:On bd.length W x)(h:Least bd W w x m)(h2:Least bd W w x n):m=n:=
 vp (h.on hw hx) (h2.on hw hx) (Rj (h.2 n h2.1) (h2.2 m h.1))
def Least.self(hw:Ways w){x m:Cell}(hx:On bd.length W x)(h:Least bd W w x m):Least bd W w m m:=h.move hw hx h.1
variable(L:Cell->Cell)
def qW(hw:Ways w):∃L:Cell->Cell,∀x,On bd.length W x->Least bd W w x (L x):=by
 have h:∀x,∃m,On bd.length W x->Least bd W w x m:=λx=>by
  by_cases hx:On bd.length W x
  ·have hP:=bU hw hx;cases hp:aY bd W w x with
   |nil=>have:=(hP.mem x).mpr Cn.refl;rw[hp] at this;cases this
   |cons m r=>
    rw[hp] at hP;have hm:=(hP.mem m).mp (Pa ..);refine⟨m,λ_=>⟨hm,λz hz=>?_⟩⟩;rcases Pn.mp ((hP.mem z).mpr hz) with rfl | OC
    ·exact Pm _
    ·exact Qz ((gz (hm.on hw hx) (hz.on hw hx)).mp ((Qu.mp hP.rise).1 z OC))
  ·exact⟨x,λz=>UK z hx⟩
 exact⟨λx=>Classical.choose (h x),λx=>Classical.choose_spec (h x)⟩
noncomputable def pf(bd:List Str)(W w:Nat):D:= .lst ((cI bd W w (aQ bd.length W)).map λm=>cL (aY bd W w m))
end
section
open Classical
variable{bd:List Str}{W w:Nat}
def L0:DS:=(b_ [4,5] (fb (yV (bH (d2 (eO true) (dV 4) (dV 3)))) (ay (bg 5 (dA rJ (aC (aq 3 bp (aC (dV 0) (aC (dV 4) (aC (dV 1) aN)))) aN))) (ay (jb 2 (dV 5)) (zV 3 (aq 1 g9 (aC (dV 5) aN))))) bY))
noncomputable def yY(bd:List Str)(W w:Nat)(s:List Cell):List D:=(cI bd W w s).map λm=>cL (aY bd W w m)
noncomputable def CB(bd:List Str)(W w:Nat)(s ks:List Cell)(x4 x5:Option Sl):aP:=[fz (brd bd),fz (.int (w:Int)),some (.ow (.lst (yY bd W w s))),some (.ow (.dct (ks.map keyOf) (trues ks))),x4,x5]
structure Seen (bd:List Str) (W w:Nat) (s ks:List Cell):Prop where
 nd:ks.Nodup
 on:∀y∈ks,On bd.length W y
 mem:∀y,y∈ks↔∃m∈cI bd W w s,Cn bd W w m y
def Cy{i:Nat}{δ:DE}{Z:aP}{ks l:List Cell}(h0:Z[i]? =some (some (.ow (.dct (ks.map keyOf) (trues ks)))))(hd:δ Z=ab (iP l))(hz:ks.length+l.length<=4096)(hh:ks=[]->((bD l).map λc=>fY (ic c)).Nodup):
 zV i δ Z=ab (.nx (Z.set i (some (.ow (.dct (((bD l).foldl bO ks).map keyOf) (trues ((bD l).foldl bO ks))))))):=by
 unfold zV qp;rw[h0];show (δ Z>>=λd=>match Cw (ks.map keyOf) (trues ks) d with | some c'=>ab (Out.nx (Z.set i (some (.ow c')))) | none=>af)=_;rw[hd,au];have:Cw (ks.map keyOf) (trues ks) (iP l)=some (.dct (((bD l).foldl bO ks).map keyOf) (trues ((bD l).foldl bO ks))):=by
  show (match fL ((bD l).map keyOf) with | some ns=>if (trues ks).length+(trues (bD l)).length<=lim/\((ks.map keyOf).isEmpty=true->(ns.map fY).Nodup) then some (C.dct (b0 (ks.map keyOf) (trues ks) ((bD l).map keyOf) (trues (bD l))).1 (b0 (ks.map keyOf) (trues ks) ((bD l).map keyOf) (trues (bD l))).2) else none | none=>none)=_;rw[lK];show (if (trues ks).length+(trues (bD l)).length<=lim/\((ks.map keyOf).isEmpty=true->(((bD l).map ic).map fY).Nodup) then some (C.dct (b0 (ks.map keyOf) (trues ks) ((bD l).map keyOf) (trues (bD l))).1 (b0 (ks.map keyOf) (trues ks) ((bD l).map keyOf) (trues (bD l))).2) else none)=_;have c1:(trues ks).length+(trues (bD l)).length<=lim:=by
   have:=zu l;unfold trues;rw[Pb,Pb,cU];omega
  have c2:(ks.map keyOf).isEmpty=true->(((bD l).map ic).map fY).Nodup:=λz=>by
   rw[P5];exact hh (by cases ks with | nil=>rfl | cons _ _=>cases z)
  rw[UD ⟨c1,c2⟩,oU]
 rw[this]
def vG(hg:Brd bd W)(hs:bd.length*W<64)(hw:Ways w){x:Cell}(hx:On bd.length W x){Z:aP}(h0:dV 0 Z=ab (brd bd))(h1:dV 1 Z=ab (.int (w:Int)))(h4:dV 4 Z=ab (cD x)):
 dA rJ (aC (aq 3 bp (aC (dV 0) (aC (dV 4) (aC (dV 1) aN)))) aN) Z=ab (cL (aY bd W w x)):=by
 obtain⟨k,ks,ps,q1,q2,q3⟩:=fT hg hw hx;have e1:aq 3 bp (aC (dV 0) (aC (dV 4) (aC (dV 1) aN))) Z=ab (dr ks ps):=(aj (ds:=[brd bd,cD x, .int (w:Int)]) (aI h0 (aI h4 (aI h1 rfl))) rfl).trans q3;refine(cS (xs:=[dr ks ps]) (aI e1 rfl)).trans ((Cm q1.nd (SR (kx q1.nd q2) hs)).trans ?_);have:pN ks=aY bd W w x:=IsPatch.one ⟨xB q1.nd,λx=>zy.trans (q1.last x)⟩ (bU hw hx);rw[this]
def ie(s:List Cell)(x:Cell):cI bd W w (s++[x])=if Least bd W w x x then cI bd W w s++[x] else cI bd W w s:=by
 unfold cI;rw[List.filter_append];by_cases h:Least bd W w x x
 ·rw[UD h,List.filter_cons_of_pos (by rw[UJ];exact h),List.filter_nil]
 ·rw[UE h,List.filter_cons_of_neg (by rw[UJ];exact h),List.filter_nil,Qx]
def CM(hg:Brd bd W)(hs:bd.length*W<64)(hw:Ways w){L:Cell->Cell}(hL:∀x,On bd.length W x->Least bd W w x (L x)){s r ks:List Cell}{x:Cell}(e:s++x::r=aQ bd.length W)(h:Seen bd W w s ks):
 ∃ks',Seen bd W w (s++[x]) ks'/\L0 (CB bd W w s ks (fz (cD x)) none)=ab (.nx (CB bd W w (s++[x]) ks' none none)):=by
 have hx:On bd.length W x:=aJ.mp (by rw[<-e];simp);have A4:=fW bd.length W;rw[<-e] at A4;have Ka:∀y∈s,On bd.length W y:=λy hy=>aJ.mp (by rw[<-e];simp[hy]);have IT:∀y∈r,On bd.length W y:=λy hy=>aJ.mp (by rw[<-e];simp[hy]);have C9:∀y∈s,rank W y<rank W x:=λy hy=>(gz (Ka y hy) hx).mp ((T8.mp A4).2.2 y hy x (Pa ..));have FP:∀y∈r,rank W x<rank W y:=λy hy=>(gz hx (IT y hy)).mp ((Qu.mp (T8.mp A4).2.1).1 y hy);have K6:ks.length<=64:=by have:=kx (bd:=bd) (W:=W) h.nd h.on;omega
 have EU:s.length<64:=by
  have:=UM Uh e;rw[cB,Pp,Pl] at this;omega
 have ht:yV (bH (d2 (eO true) (dV 4) (dV 3))) (CB bd W w s ks (fz (cD x)) none)=ab (!decide (x∈ks)):=
  vJ (cZ ((aB (x:=cD x) (y:= .dct (ks.map keyOf) (trues ks)) rfl rfl).trans (jz (neg:=true) (by simp[trues]))))
 by_cases hl:Least bd W w x x
 ·have CI:x∉ks:=λz=>by
   obtain⟨m,hm,hc⟩:=(h.mem x).mp z;unfold cI at hm;rw[Qr,UJ] at hm;have h1:=C9 m hm.1;have h2:=hl.2 m (hc.symm hw (Ka m hm.1));omega
  rw[UH CI] at ht;have hP:=bU hw hx (bd:=bd) (W:=W);have FO:∀y∈aY bd W w x,On bd.length W y:=λy hy=>((hP.mem y).mp hy).on hw hx;have KI:(aY bd W w x).length<=64:=by have:=kx (bd:=bd) (W:=W) hP.rise.nodup FO;omega
  have FV:(yY bd W w s).length<lim:=by
   unfold yY;rw[Pb,cU];have:=QV (λx=>decide (Least bd W w x x)) s;unfold cI;omega
  refine⟨(bD (aY bd W w x)).foldl bO ks,⟨AM h.nd,λy hy=>?_,λy=>?_⟩,?_⟩
  ·rcases((kD (bD (aY bd W w x)) ks).2.1 y).mp hy with q | q
   ·exact h.on y q
   ·exact FO y (jC.mp q)
  ·rw[(kD (bD (aY bd W w x)) ks).2.1 y,jC,h.mem y,ie,UD hl,hP.mem y];constructor
   ·rintro(⟨m,hm,hc⟩ | hc)
    ·exact⟨m,PR.mpr (.inl hm),hc⟩
    ·exact⟨x,by simp,hc⟩
   ·rintro⟨m,hm,hc⟩;rcases PR.mp hm with hm | hm
    ·exact .inl ⟨m,hm,hc⟩
    ·rw[PQ.mp hm] at hc;exact .inr hc
  ·have ef:yY bd W w (s++[x])=yY bd W w s++[cL (aY bd W w x)]:=by
    unfold yY;rw[ie,UD hl,P1];rfl
   refine(br (Z':=[fz (brd bd),fz (.int (w:Int)),some (.ow (.lst (yY bd W w s++[cL (aY bd W w x)]))),some (.ow (.dct (((bD (aY bd W w x)).foldl bO ks).map keyOf) (trues ((bD (aY bd W w x)).foldl bO ks)))),fz (cD x),fz (cL (aY bd W w x))]) (eT ht (ai (Z':=CB bd W w s ks (fz (cD x)) (fz (cL (aY bd W w x)))) ((aF (vG hg hs hw hx rfl rfl rfl)).trans rfl) (ai (Z':=[fz (brd bd),fz (.int (w:Int)),some (.ow (.lst (yY bd W w s++[cL (aY bd W w x)]))),some (.ow (.dct (ks.map keyOf) (trues ks))),fz (cD x),fz (cL (aY bd W w x))]) ?_ ?_)))).trans ?_
   ·show (if (yY bd W w s).length<lim then ab (Out.nx [fz (brd bd),fz (.int (w:Int)),some (.ow (.lst (yY bd W w s++[cL (aY bd W w x)]))),some (.ow (.dct (ks.map keyOf) (trues ks))),fz (cD x),fz (cL (aY bd W w x))]) else af)=_;rw[UD FV]
   ·exact(Cy (ks:=ks) (l:=aY bd W w x) rfl ((aj (ds:=[cL (aY bd W w x)]) rfl rfl).trans (qU (by omega))) (by omega) (λ_=>C8 hg.r8 hg.w8 (Bj _) λy hy=>FO y (jC.mp hy))).trans rfl
   ·unfold CB;rw[ef];rfl
 ·have hm:=hL x hx;have g6:L x≠x:=λz=>hl (by rw[z] at hm;exact hm);have iO:rank W (L x)<rank W x:=by
   have h1:=hm.2 x Cn.refl;have h2:rank W (L x)≠rank W x:=λz=>g6 (vp (hm.on hw hx) hx z);omega
  have N1:L x∈s:=by
   have:L x∈s++x::r:=by rw[e];exact aJ.mpr (hm.on hw hx)
   rcases PR.mp this with q | q
   ·exact q
   ·rcases Pn.mp q with q | q
    ·exact UK q g6
    ·have:=FP _ q;omega
  have CI:x∈ks:=(h.mem x).mpr ⟨L x,by unfold cI;rw[Qr,UJ];exact⟨N1,hm.self hw hx⟩,hm.1.symm hw hx⟩;rw[UG CI] at ht;refine⟨ks,⟨h.nd,h.on,λy=>by rw[ie,UE hl];exact h.mem y⟩,?_⟩;have ef:yY bd W w (s++[x])=yY bd W w s:=by
   unfold yY;rw[ie,UE hl]
  refine(br (eI ht rfl)).trans ?_;unfold CB;rw[ef];rfl
def xT(hg:Brd bd W)(hs:bd.length*W<64)(hw:Ways w){L:Cell->Cell}(hL:∀x,On bd.length W x->Least bd W w x (L x)):∀(r s ks:List Cell),s++r=aQ bd.length W->Seen bd W w s ks->
 ∃ks',forL (putN 4) L0 (r.map cD) (CB bd W w s ks none none)=ab (.nx (CB bd W w (aQ bd.length W) ks' none none))
 |[],s,ks,e,h=>by
  rw[Qx] at e;exact⟨ks,by rw[e];rfl⟩
 |x::r,s,ks,e,h=>by
  obtain⟨Lu,h1,e1⟩:=CM hg hs hw hL e h;obtain⟨Lv,e2⟩:=xT hg hs hw hL r (s++[x]) Lu (by rw[Rt];exact e) h1;exact⟨Lv,(cM rfl e1).trans e2⟩
def eM(hg:Brd bd W)(hs:bd.length*W<64)(hw:Ways w):bI [brd bd, .int (w:Int)]=ab (pf bd W w):=by
 obtain⟨L,hL⟩:=qW (bd:=bd) (W:=W) hw;obtain⟨ks,e⟩:=xT hg hs hw hL (aQ bd.length W) [] [] rfl ⟨Q2,(λy hy=>(by cases hy)),(λy=>⟨λz=>(by cases z),λ⟨m,hm,_⟩=>(by cases hm)⟩)⟩;refine aV (ai (Z':=[fz (brd bd),fz (.int (w:Int)),some (.ow (.lst [])),none,none,none]) rfl (ai (Z':=CB bd W w [] [] none none) rfl (ai (Z':=CB bd W w (aQ bd.length W) ks none none) (cX (eS (ds:=(aQ bd.length W).map cD) (wM ((aj (ds:=[brd bd]) rfl rfl).trans (gj hg))) e)) rfl)))
end
structure NumOk (R W:Nat) (Ps:List (List Cell)) (ks:List Cell) (f:Cell->Nat):Prop where
 nd:ks.Nodup
 on:∀y∈ks,On R W y
 num:∀y∈ks,∃P,Ps[f y]? =some P/\y∈P
def MO:DS:=b_ [4] (eU 1 (dV 4) (dV 2))
def E5(Ps:List (List Cell))(ks:List Cell)(f:Cell->Nat)(x2 x3 x4:Option Sl):aP:=[fz (.lst (Ps.map cL)),some (.ow (AE ks λy=> .int (f y:Int))),x2,x3,x4]
def yX{ks:List Cell}{x:Cell}:x∈bO ks x:=gw.mpr (.inr rfl)
def E6{R W:Nat}(hm:R*W<=64){Ps:List (List Cell)}{i:Nat}{P:List Cell}(hP:Ps[i]? =some P){x3:Option Sl}(hJ:∀y∈P,On R W y):∀(l ks:List Cell) (f:Cell->Nat),(∀y∈l,y∈P)->NumOk R W Ps ks f->
 ∃ks' f',NumOk R W Ps ks' f'/\(∀y∈ks,y∈ks')/\(∀y∈l,y∈ks')/\forL (putN 4) MO (l.map cD) (E5 Ps ks f (fz (.int (i:Int))) x3 none)=ab (.nx (E5 Ps ks' f' (fz (.int (i:Int))) x3 none))
 |[],ks,f,_,h=>⟨ks,f,h,λy hy=>hy,(λy hy=>(by cases hy)),rfl⟩
 |x::l,ks,f,hl,h=>by
  have hx:=hl x (Pa ..);have K6:ks.length<=64:=by
   have h1:=c6 h.nd λy hy=>aJ.mpr (h.on y hy);rw[cB] at h1;omega
  have h1:NumOk R W Ps (bO ks x) (λy=>if y=x then i else f y):=by
   refine⟨(kD [x] ks).1 h.nd,λy hy=>?_,λy hy=>?_⟩
   ·rcases gw.mp hy with q | q
    ·exact h.on y q
    ·rw[q];exact hJ x hx
   ·by_cases e:y=x
    ·refine⟨P,?_,by rw[e];exact hx⟩;show Ps[if y=x then i else f y]? =_;rw[UD e];exact hP
    ·rcases gw.mp hy with q | q
     ·obtain⟨Q,q1,q2⟩:=h.num y q;refine⟨Q,?_,q2⟩;show Ps[if y=x then i else f y]? =_;rw[UE e];exact q1
     ·exact UK q e
  obtain⟨ks',f',a1,a2,a3,a4⟩:=E6 hm hP hJ l (bO ks x) _ (λy hy=>hl y (O_ _ hy)) h1;refine⟨ks',f',a1,λy hy=>a2 y (gw.mpr (.inl hy)),λy hy=>?_,?_⟩
  ·rcases Pn.mp hy with rfl | hy
   ·exact a2 _ yX
   ·exact a3 y hy
  ·refine(cM (Z1:=E5 Ps ks f (fz (.int (i:Int))) x3 (fz (cD x))) rfl ?_).trans a4;refine(br ((yN (ks:=ks) (f:=λy=> .int (f y:Int)) (x:=x) (d:= .int (i:Int)) rfl rfl rfl (by rw[cU];omega)).trans rfl)).trans ?_;have ef:fj (λy=>D.int (f y:Int)) x (.int (i:Int))=λy=>D.int ((if y=x then i else f y:Nat):Int):=by
    funext y;unfold fj;by_cases e:y=x
    ·rw[UD e,UD e]
    ·rw[UE e,UE e]
   show ab (Out.nx [fz (.lst (Ps.map cL)),some (.ow (AE (bO ks x) (fj (λy=>D.int (f y:Int)) x (.int (i:Int))))),fz (.int (i:Int)),x3,none])=_;rw[ef];rfl
def J1(q:Nat×List Cell):D:= .tup [.int (q.1:Int),cL q.2]
def Bp{R W:Nat}(hm:R*W<=64){Ps:List (List Cell)}(hJ:∀P∈Ps,∀y∈P,On R W y):∀(qs:List (Nat×List Cell)) (ks:List Cell) (f:Cell->Nat),(∀q∈qs,Ps[q.1]? =some q.2)->NumOk R W Ps ks f->
 ∃ks' f',NumOk R W Ps ks' f'/\(∀y∈ks,y∈ks')/\(∀q∈qs,∀y∈q.2,y∈ks')/\forL (yO [2,3]) (b_ [2,3,4] (dq (putN 4) (de (dV 3)) MO)) (qs.map J1) (E5 Ps ks f none none none)=ab (.nx (E5 Ps ks' f' none none none))
 |[],ks,f,_,h=>⟨ks,f,h,λy hy=>hy,(λq hq=>(by cases hq)),rfl⟩
 |q::qs,ks,f,hq,h=>by
  have hP:=hq q (Pa ..);obtain⟨Lu,f1,a1,a2,a3,a4⟩:=E6 hm hP (x3:=fz (cL q.2)) (hJ q.2 (PF hP)) q.2 ks f (λy hy=>hy) h;obtain⟨Lv,f2,b1,b2,b3,b4⟩:=Bp hm hJ qs Lu f1 (λq' IS=>hq q' (O_ _ IS)) a1;refine⟨Lv,f2,b1,λy hy=>b2 y (a2 y hy),λq' IS y hy=>?_,?_⟩
  ·rcases Pn.mp IS with rfl | IS
   ·exact b2 y (a3 y hy)
   ·exact b3 q' IS y hy
  ·exact(cM (Z1:=E5 Ps ks f (fz (.int (q.1:Int))) (fz (cL q.2)) none) rfl ((br (eS (ds:=q.2.map cD) (MI rfl) a4)).trans rfl)).trans b4
def zx(Ps:List (List Cell)):(Ps.map cL).mapIdx (λi d=>D.tup [.int (i:Int),d])=(Ps.zipIdx.map λq:List Cell×Nat=>(q.2,q.1)).map J1:=by
 apply UB;intro i;simp only[T9,Pq,List.getElem?_zipIdx,Option.map_map,S1];cases Ps[i]? <;>simp[J1]
def iT{R W:Nat}(hm:R*W<=64){Ps:List (List Cell)}(hJ:∀P∈Ps,∀y∈P,On R W y):∃ks f,NumOk R W Ps ks f/\(∀P∈Ps,∀y∈P,y∈ks)/\bG [.lst (Ps.map cL)]=ab (n9 ks λy=> .int (f y:Int)):=by
 have hq:∀q∈Ps.zipIdx.map (λq:List Cell×Nat=>(q.2,q.1)),Ps[q.1]? =some q.2:=λq hq=>by
  obtain⟨⟨P,i⟩,h1,rfl⟩:=Px.mp hq;exact Tc.mp h1
 obtain⟨ks,f,a1,a2,a3,a4⟩:=Bp hm hJ (Ps.zipIdx.map λq:List Cell×Nat=>(q.2,q.1)) [] (λ_=>0) hq ⟨Q2,(λy hy=>(by cases hy)),(λy hy=>(by cases hy))⟩;refine⟨ks,f,a1,λP hP y hy=>?_,?_⟩
 ·obtain⟨i,hi,rfl⟩:=RH hP;refine a3 (i,Ps[i]) (Px.mpr ⟨(Ps[i],i),Tc.mpr (by rw[Pd hi]),rfl⟩) y hy
 ·refine aV (ai (Z':=E5 Ps [] (λ_=>0) none none none) rfl (ai (Z':=E5 Ps ks f none none none) (cX (eS (ds:=(Ps.zipIdx.map λq:List Cell×Nat=>(q.2,q.1)).map J1) ?_ a4)) rfl));show ab ((Ps.map cL).mapIdx λi d=>D.tup [.int (i:Int),d])=_;rw[zx]
def uz{α β:Type}(g:α->β):∀l:List α,(l.flatMap λr=>[g r])=l.map g
 |[]=>rfl
 |a::l=>by rw[QY,uz g l];rfl
section
open Classical
variable{bd:List Str}{W w:Nat}
noncomputable def bb(bd:List Str)(W w:Nat):List (List Cell):=(cI bd W w (aQ bd.length W)).map (aY bd W w)
def kc:pf bd W w= .lst ((bb bd W w).map cL):=by
 unfold pf bb;rw[P5];rfl
def c5{m:Cell}(h:m∈cI bd W w (aQ bd.length W)):On bd.length W m:=by
 unfold cI at h;exact aJ.mp (Qr.mp h).1
def rk(hw:Ways w):∀P∈bb bd W w,∀y∈P,On bd.length W y:=λP hP y hy=>by
 unfold bb at hP;obtain⟨m,hm,rfl⟩:=Px.mp hP;exact(((bU hw (c5 hm)).mem y).mp hy).on hw (c5 hm)
def pe(hg:Brd bd W)(hw:Ways w){x:Cell}(hx:On bd.length W x):∃P∈bb bd W w,x∈P:=by
 obtain⟨L,hL⟩:=qW (bd:=bd) (W:=W) hw;have hm:=hL x hx;have Mw:=hm.on hw hx;refine⟨aY bd W w (L x),Px.mpr ⟨L x,?_,rfl⟩,((bU hw Mw).mem x).mpr (hm.1.symm hw hx)⟩;unfold cI;rw[Qr,UJ];exact⟨aJ.mpr Mw,hm.self hw hx⟩
def wN:(bb bd W w).length<=bd.length*W:=by
 unfold bb cI;rw[Pb,<-cB bd.length W];exact QV ..
def sD(hg:Brd bd W)(hs:bd.length*W<64)(hw:Ways w):∃f:Cell->Nat,(∀x,On bd.length W x->∃P,(bb bd W w)[f x]? =some P/\x∈P)/\
 dU [brd bd, .int (w:Int)]=ab (.lst ((PY bd.length).map λr=> .lst ((bw W r).map λy=> .int (f y:Int)))):=by
 obtain⟨ks,f,a1,a2,a3⟩:=iT (R:=bd.length) (W:=W) (by omega) (rk (bd:=bd) hw);have Af:∀x,On bd.length W x->x∈ks:=λx hx=>by
  obtain⟨P,hP,h⟩:=pe hg hw hx;exact a2 P hP x h
 refine⟨f,λx hx=>a1.num x (Af x hx),?_⟩;have h8:=hg.r8;have w8:=hg.w8;have e:=gD (put:=putN 4) (body:=b_ [4] (jb 3 (bB 0 (de (aq 2 aW (aC (dV 0) (aC (dV 4) aN)))) cH (d2 cz (dV 3) (dV 0))))) (λ(k:Nat)=>D.int (k:Int)) (λv2=>[fz (brd bd),fz (.int (w:Int)),fz (n9 ks λy=> .int (f y:Int)),some (.ow (.lst v2)),none]) (λr=>[D.lst ((bw W r).map λy=> .int (f y:Int))]) (B:=64) (PY bd.length) []
  (by
   rw[Qh];have:=uM (n:=1) (λr=>[D.lst ((bw W r).map λy=> .int (f y:Int))]) (λr=>by simp) (PY bd.length);rw[UA] at this;omega) λr hr v2 hB=>by
   refine⟨[fz (brd bd),fz (.int (w:Int)),fz (n9 ks λy=> .int (f y:Int)),some (.ow (.lst v2)),fz (.int (r:Int))],rfl,?_⟩;have hc:bB 0 (de (aq 2 aW (aC (dV 0) (aC (dV 4) aN)))) cH (d2 cz (dV 3) (dV 0)) [fz (brd bd),fz (.int (w:Int)),fz (n9 ks λy=> .int (f y:Int)),some (.ow (.lst v2)),fz (.int (r:Int))]=ab (.lst ((bw W r).map λy=> .int (f y:Int))):=by
    refine cg (ds:=(bw W r).map cD) (wM ((aj (ds:=[brd bd, .int (r:Int)]) rfl rfl).trans (gy hg r))) (g7 cD (λy=> .int (f y:Int)) _ λy hy=>?_) (by simp[bw,cU];omega);have OB:On bd.length W y:=by
     obtain⟨k,hk,rfl⟩:=Px.mp hy;exact⟨Q3.mp hr,Q3.mp hk⟩
    rw[lC];have:d2 cz (dV 3) (dV 0) [fz (cD y),fz (brd bd),fz (.int (w:Int)),fz (n9 ks λy=> .int (f y:Int)),some (.ow (.lst v2)),fz (.int (r:Int))]=ab (.int (f y:Int)):=(aB (x:=n9 ks λy=> .int (f y:Int)) (y:=cD y) rfl rfl).trans (oE (f:=λy=> .int (f y:Int)) (Af y OB));rw[this];rfl
   refine(br (Z':=[fz (brd bd),fz (.int (w:Int)),fz (n9 ks λy=> .int (f y:Int)),some (.ow (.lst (v2++[.lst ((bw W r).map λy=> .int (f y:Int))]))),fz (.int (r:Int))]) ?_).trans rfl;show (bB 0 (de (aq 2 aW (aC (dV 0) (aC (dV 4) aN)))) cH (d2 cz (dV 3) (dV 0)) [fz (brd bd),fz (.int (w:Int)),fz (n9 ks λy=> .int (f y:Int)),some (.ow (.lst v2)),fz (.int (r:Int))]>>=λd=>if v2.length<lim then ab (Out.nx [fz (brd bd),fz (.int (w:Int)),fz (n9 ks λy=> .int (f y:Int)),some (.ow (.lst (v2++[d]))),fz (.int (r:Int))]) else af)=_;rw[hc,au,UD (by rw[Pp] at hB;rw[cU];simp at hB;omega)]
 rw[Qh,show ((PY bd.length).flatMap λr=>[D.lst ((bw W r).map λy=> .int (f y:Int))])=(PY bd.length).map (λr=>D.lst ((bw W r).map λy=> .int (f y:Int))) from uz _ _] at e;refine aV (ai (bA ((aj (ds:=[brd bd]) rfl rfl).trans hg.nb)) (ai (bA ((aj (ds:=[.int (w:Int)]) rfl rfl).trans hw.nw)) (ai (Z':=[fz (brd bd),fz (.int (w:Int)),fz (n9 ks λy=> .int (f y:Int)),none,none]) ((aF (d:=n9 ks λy=> .int (f y:Int)) ((aj (ds:=[.lst ((bb bd W w).map cL)]) (aI ((aj (ds:=[brd bd, .int (w:Int)]) rfl rfl).trans ((eM hg hs hw).trans (by rw[kc]))) rfl) rfl).trans a3)).trans rfl) (ai (Z':=[fz (brd bd),fz (.int (w:Int)),fz (n9 ks λy=> .int (f y:Int)),some (.ow (.lst [])),none]) rfl (ai (cX (eS (B8 (n:=bd.length) (Bf rfl) (by omega)) e)) rfl)))))
end
end K1
namespace K1
open PySem L2 L3 HT
end K1
namespace K1
open PySem PySem.Spec L2 L3
open PyProof.Rows hiding St
section
open Classical
variable{bd:List Str}{W w:Nat}
def Dz:(cI bd W w (aQ bd.length W)).Nodup:=by
 unfold cI;exact(RiseC.nodup (fW _ _)).filter _
def uP{l:List Cell}{m:Cell}:m∈cI bd W w l↔m∈l/\Least bd W w m m:=by
 unfold cI;rw[Qr,UJ]
def uL(hw:Ways w){m x:Cell}(hm:m∈cI bd W w (aQ bd.length W))(hx:x∈aY bd W w m):Least bd W w x m:=
 (uP.mp hm).2.move hw (c5 hm) (((bU hw (c5 hm)).mem x).mp hx)
def gQ{i:Nat}{P:List Cell}(h:(bb bd W w)[i]? =some P):∃m,(cI bd W w (aQ bd.length W))[i]? =some m/\P=aY bd W w m:=by
 unfold bb at h;rw[Pq] at h;cases q:(cI bd W w (aQ bd.length W))[i]? with
 |none=>rw[q] at h;cases h
 |some m=>rw[q] at h;cases h;exact⟨m,rfl,rfl⟩
def Bg{i j:Nat}{m:Cell}(h:(cI bd W w (aQ bd.length W))[i]? =some m)(h2:(cI bd W w (aQ bd.length W))[j]? =some m):i=j:=
 (SV (Pe.mp h).1 Dz).mp (h.trans h2.symm)
def oP{α:Type}{l:List α}{i:Nat}{x:α}(h:l[i]? =some x):x∈l:=PF h
def sq(hw:Ways w){i j:Nat}{P Q:List Cell}{x:Cell}(hi:(bb bd W w)[i]? =some P)(hj:(bb bd W w)[j]? =some Q)(hx:x∈P)(hy:x∈Q):i=j:=by
 obtain⟨m,e1,rfl⟩:=gQ hi;obtain⟨n,e2,rfl⟩:=gQ hj;have hm:=oP e1;have hn:=oP e2;have hJ:On bd.length W x:=(((bU hw (c5 hm)).mem x).mp hx).on hw (c5 hm);have:=(uL hw hm hx).one hw hJ (uL hw hn hy);subst this;exact Bg e1 e2
def xi(hw:Ways w){m:Cell}(hm:m∈cI bd W w (aQ bd.length W)):∃r,aY bd W w m=m::r:=by
 have ho:=c5 hm;have hP:=bU hw ho;cases hp:aY bd W w m with
 |nil=>have:=(hP.mem m).mpr Cn.refl;rw[hp] at this;cases this
 |cons a r=>
  refine⟨r,?_⟩;rw[hp] at hP;by_cases e:a=m
  ·rw[e]
  ·have v5:m∈a::r:=(hP.mem m).mpr Cn.refl;have v5:m∈r:=by
    cases v5 with
    |head=>exact UK rfl e
    |tail _ q=>exact q
   have hc:=(hP.mem a).mp (Pa ..);have h1:=(gz (hc.on hw ho) ho).mp ((Qu.mp hP.rise).1 m v5);have:=(uP.mp hm).2.2 a hc;omega
end
end K1
namespace K1
open PySem L2 L3
abbrev NT:=List (Nat×List Nat)
def dD(p:Nat×List Nat):Key×List Key:=(kN p.1,p.2.map kN)
def Cc(l:NT)(n:Nat):NT:=if n∈l.map (·.1) then l else l++[(n,[])]
def Aj(l:NT)(n m:Nat):NT:=l.map λp=>if p.1=n then(p.1,if m∈p.2 then p.2 else p.2++[m]) else p
def yj(ks:List Nat)(n:Nat):qb (ks.map kN) (kN n)=decide (n∈ks):=by
 rw[Ti,kG,UJ,Px];exact⟨λ⟨a,h,e⟩=>su _ _ e▸h,λh=>⟨n,h,rfl⟩⟩
def yi(l:NT):(l.map dD).map (·.1)=(l.map (·.1)).map kN:=by rw[P5,P5];rfl
def Ce(l:NT)(n:Nat):tJ (l.map dD) (kN n)=(Cc l n).map dD:=by
 unfold tJ Cc;rw[yi,yj];by_cases h:n∈l.map (·.1)
 ·rw[UD h,UD (UG h)]
 ·rw[UE h,UE (λz=>h (UI z)),P1];rfl
def Ak(l:NT)(n m:Nat):nP (l.map dD) (kN n) (kN m)=(Aj l n m).map dD:=by
 unfold nP Aj;rw[P5,P5];refine QC λp _=>?_;show (if kN p.1=kN n then(kN p.1,if qb (p.2.map kN) (kN m) then p.2.map kN else p.2.map kN++[kN m]) else dD p)=dD (if p.1=n then(p.1,if m∈p.2 then p.2 else p.2++[m]) else p);by_cases h:p.1=n
 ·rw[UD (by rw[h]),UD h,yj];by_cases q:m∈p.2
  ·rw[UD (UG q),UD q];rfl
  ·rw[UE (λz=>q (UI z)),UE q];show _=(kN p.1,(p.2++[m]).map kN)
   rw[P1];rfl
 ·rw[UE (λz=>h (su _ _ z)),UE h]
structure NrS (T:Nat->Prop) (E:Nat->Nat->Prop) (l:NT):Prop where
 nd:(l.map (·.1)).Nodup
 key:∀n,n∈l.map (·.1)↔T n
 nb:∀p∈l,p.2.Nodup/\∀m,m∈p.2↔E p.1 m
 hT:∀n,T n->n<64
 hE:∀n m,E n m->m<64
def le64{l:List Nat}(hn:l.Nodup)(h:∀n∈l,n<64):l.length<=64:=by
 have:=c6 (U:=PY 64) hn λx hx=>Q3.mpr (h x hx);simpa using this
section
variable{T:Nat->Prop}{E:Nat->Nat->Prop}{l:NT}
def NrS.ok(h:NrS T E l):t5 (l.map dD)=true:=by
 unfold t5;rw[QI,UJ,PJ];have:=le64 h.nd λn hn=>h.hT n ((h.key n).mp hn);refine⟨by rw[Pb] at this⊢;rw[cU];omega,λp hp=>?_⟩;obtain⟨q,hq,rfl⟩:=Px.mp hp;have:=le64 (h.nb q hq).1 λm hm=>h.hE q.1 m (((h.nb q hq).2 m).mp hm);show decide ((q.2.map kN).length<lim)=true;rw[UJ,Pb,cU];omega
def NrS.cong{T':Nat->Prop}{E':Nat->Nat->Prop}(h:NrS T E l)(h1:∀n,T n↔T' n)(h2:∀n m,E n m↔E' n m):NrS T' E' l:=
 ⟨h.nd,λn=>(h.key n).trans (h1 n),λp hp=>⟨(h.nb p hp).1,λm=>((h.nb p hp).2 m).trans (h2 _ _)⟩,λn hn=>h.hT n ((h1 n).mpr hn),λn m hm=>h.hE n m ((h2 n m).mpr hm)⟩
def NrS.set(h:NrS T E l){n:Nat}(hn:n<64)(hE:∀m,E n m->T n):NrS (λk=>T k\/k=n) E (Cc l n):=by
 unfold Cc;split
 ·rename_i q;have hq:=(h.key n).mp q;exact h.cong (λk=>⟨.inl,λz=>z.elim id λe=>e▸hq⟩) λ_ _=>Sd
 ·rename_i q;refine⟨?_,λk=>?_,λp hp=>?_,λk hk=>hk.elim (h.hT k) λe=>e▸hn,h.hE⟩
  ·rw[P1,Qi];exact⟨h.nd,by simp,λx hx y hy z=>q (by rw[z] at hx;cases PQ.mp hy;exact hx)⟩
  ·rw[P1,PR,h.key];exact or_congr Sd (by simp)
  ·rcases PR.mp hp with z | z
   ·exact h.nb p z
   ·cases PQ.mp z;exact⟨Q2,λm=>⟨λz=>(nomatch z),λz=>UK ((h.key n).mpr (hE m z)) q⟩⟩
def t8(l:NT)(n m:Nat):(Aj l n m).map (·.1)=l.map (·.1):=by
 unfold Aj;rw[P5];refine QC λp _=>?_;show (if p.1=n then(p.1,_) else p).1=p.1;split<;>rfl
def NrS.add(h:NrS T E l){n m:Nat}(hm:m<64):NrS T (λa b=>E a b\/(a=n/\b=m)) (Aj l n m):=by
 refine⟨by rw[t8];exact h.nd,λk=>by rw[t8];exact h.key k,λp hp=>?_,h.hT,λa b q=>q.elim (h.hE a b) λe=>e.2▸hm⟩;obtain⟨q,hq,rfl⟩:=Px.mp hp;have:=h.nb q hq;by_cases e:q.1=n
 ·rw[UD e];by_cases z:m∈q.2
  ·rw[UD z];exact⟨this.1,λb=>⟨λy=> .inl ((this.2 b).mp y),λy=>y.elim (λy=>(this.2 b).mpr y) λy=>y.2▸z⟩⟩
  ·rw[UE z];refine⟨Qi.mpr ⟨this.1,by simp,λx hx y hy e=>z (by rw[e] at hx;cases PQ.mp hy;exact hx)⟩,λb=>?_⟩;show b∈q.2++[m]↔E q.1 b\/(q.1=n/\b=m);rw[PR,this.2 b,PQ];exact or_congr Sd ⟨λy=>⟨e,y⟩,λy=>y.2⟩
 ·rw[UE e];exact⟨this.1,λb=>(this.2 b).trans ⟨.inl,λy=>y.elim id λy=>UK y.1 e⟩⟩
end
def Bv{oi:Nat}{tc:DT}{δk:DE}{Z:aP}{f:Cell->Nat}{n:Nat}(lI:∀y,f y<64):∀(ys:List Cell) {T:Nat->Prop}{E:Nat->Nat->Prop}{l:NT},NrS T E l->
 (∀y∈ys,tc (Z.set oi (fz (cD y)))=ab (!decide (f y=n))/\δk (Z.set oi (fz (cD y)))=ab (nI (f y)))->
 ∃l',j7 oi tc δk (kN n) Z (ys.map cD) (l.map dD)=ab (l'.map dD)/\NrS T (λa b=>E a b\/(a=n/\b≠n/\∃y∈ys,f y=b)) l'
 |[],T,E,l,h,_=>⟨l,rfl,h.cong (λ_=>Sd) λa b=>⟨.inl,λz=>z.elim id λ⟨_,_,y,hy,_⟩=>nomatch hy⟩⟩
 |y::ys,T,E,l,h,Iw=>by
  obtain⟨h1,h2⟩:=Iw y Pa;have Iy:=λz hz=>Iw z (O_ _ hz);by_cases e:f y=n
  ·rw[UG e] at h1;obtain⟨l',g1,g2⟩:=Bv (n:=n) lI ys h Iy;refine⟨l',?_,g2.cong (λ_=>Sd) λa b=>or_congr Sd (and_congr_right λ_=>and_congr_right λhb=>?_)⟩
   ·rw[Pj];unfold j7;rw[show some (Sl.fz (cD y))=fz (cD y) from rfl,h1];exact g1
   ·exact⟨λ⟨z,hz,q⟩=>⟨z,O_ _ hz,q⟩,λ⟨z,hz,q⟩=>(Pn.mp hz).elim (λx=>UK (q.symm.trans (by rw[x,e])) hb) λx=>⟨z,x,q⟩⟩
  ·rw[UH e] at h1;obtain⟨l',g1,g2⟩:=Bv (n:=n) lI ys (h.add (n:=n) (lI y)) Iy;refine⟨l',?_,g2.cong (λ_=>Sd) λa b=>?_⟩
   ·rw[Pj];unfold j7;rw[show some (Sl.fz (cD y))=fz (cD y) from rfl,h1,h2];show (if t5 (l.map dD) then j7 oi tc δk (kN n) Z (ys.map cD) (nP (l.map dD) (kN n) (kN (f y))) else af)=_;rw[UD h.ok,Ak];exact g1
   ·constructor
    ·rintro((q | ⟨q1,q2⟩) | ⟨q1,q2,z,hz,q3⟩)
     ·exact .inl q
     ·exact .inr ⟨q1,λz=>e (q2.symm.trans z),y,Pa,q2.symm⟩
     ·exact .inr ⟨q1,q2,z,O_ _ hz,q3⟩
    ·rintro(q | ⟨q1,q2,z,hz,q3⟩)
     ·exact .inl (.inl q)
     ·rcases Pn.mp hz with x | x
      ·exact .inl (.inr ⟨q1,by rw[<-q3,x]⟩)
      ·exact .inr ⟨q1,q2,z,x,q3⟩
def Bw{ci oi:Nat}{δk:DE}{δj:DA}{tc:DT}{δk2:DE}{Z:aP}{f:Cell->Nat}{nx:Cell->List Cell}(lI:∀y,f y<64):∀(xs:List Cell) {T:Nat->Prop}{E:Nat->Nat->Prop}{l:NT},NrS T E l->(∀n m,E n m->T n)->
 (∀x∈xs,δk (Z.set ci (fz (cD x)))=ab (nI (f x))/\δj (Z.set ci (fz (cD x)))=ab ((nx x).map cD)/\∀y∈nx x,tc ((Z.set ci (fz (cD x))).set oi (fz (cD y)))=ab (!decide (f y=f x))/\δk2 ((Z.set ci (fz (cD x))).set oi (fz (cD y)))=ab (nI (f y)))->
 ∃l',fO ci oi δk δj tc δk2 Z (xs.map cD) (l.map dD)=ab (l'.map dD)/\NrS (λn=>T n\/∃x∈xs,f x=n) (λa b=>E a b\/(a≠b/\∃x∈xs,f x=a/\∃y∈nx x,f y=b)) l'
 |[],T,E,l,h,_,_=>⟨l,rfl,h.cong (λn=>⟨.inl,λz=>z.elim id λ⟨_,hx,_⟩=>nomatch hx⟩) λa b=>⟨.inl,λz=>z.elim id λ⟨_,_,hx,_⟩=>nomatch hx⟩⟩
 |x::xs,T,E,l,h,Mg,Iw=>by
  obtain⟨h1,h2,h3⟩:=Iw x Pa;obtain⟨l1,g1,g2⟩:=Bv (n:=f x) lI (nx x) (h.set (lI x) λm hm=>Mg _ m hm) h3;obtain⟨l2,k1,k2⟩:=Bw lI xs g2 (λn m z=>z.elim (λz=> .inl (Mg n m z)) λz=> .inr z.1) λz hz=>Iw z (O_ _ hz);refine⟨l2,?_,k2.cong (λn=>?_) λa b=>?_⟩
  ·rw[Pj];unfold fO;rw[show some (Sl.fz (cD x))=fz (cD x) from rfl,h1];show (if t5 (l.map dD) then noex (δj (Z.set ci (fz (cD x))))>>=λes=>j7 oi tc δk2 (kN (f x)) (Z.set ci (fz (cD x))) es (tJ (l.map dD) (kN (f x)))>>=λiG=>fO ci oi δk δj tc δk2 Z (xs.map cD) iG else af)=_;rw[UD h.ok,h2,Ce];show (j7 oi tc δk2 (kN (f x)) (Z.set ci (fz (cD x))) ((nx x).map cD) ((Cc l (f x)).map dD)>>=λiG=>fO ci oi δk δj tc δk2 Z (xs.map cD) iG)=_;rw[g1];exact k1
  ·constructor
   ·rintro((q | q) | ⟨z,hz,q⟩)
    ·exact .inl q
    ·exact .inr ⟨x,Pa,q.symm⟩
    ·exact .inr ⟨z,O_ _ hz,q⟩
   ·rintro(q | ⟨z,hz,q⟩)
    ·exact .inl (.inl q)
    ·rcases Pn.mp hz with e | e
     ·exact .inl (.inr (by rw[<-q,e]))
     ·exact .inr ⟨z,e,q⟩
  ·constructor
   ·rintro((q | ⟨q1,q2,y,hy,q3⟩) | ⟨q1,z,hz,q2⟩)
    ·exact .inl q
    ·exact .inr ⟨λe=>q2 (e.symm.trans q1),x,Pa,q1.symm,y,hy,q3⟩
    ·exact .inr ⟨q1,z,O_ _ hz,q2⟩
   ·rintro(q | ⟨q1,z,hz,q2,y,hy,q3⟩)
    ·exact .inl (.inl q)
    ·rcases Pn.mp hz with e | e
     ·subst e;exact .inl (.inr ⟨q2.symm,λe=>q1 (q2.symm.trans e.symm),y,hy,q3⟩)
     ·exact .inr ⟨q1,z,e,q2,y,hy,q3⟩
def zU{ni ci mi oi:Nat}{δi:DA}{δk:DE}{δj:DA}{tc:DT}{δk2:DE}{Z Z0:aP}{ds:List D}{ps:nO}(h0:qp Z ni=some (.dci [] []))(h1:fgt [ni,ci,mi,oi] Z=Z0)(h2:nR Z0=true)(h3:δi Z0=ab ds)
 (h4:fO ci oi δk δj tc δk2 Z0 ds []=ab ps)(h5:t5 ps=true):vz ni ci mi oi δi δk δj tc δk2 Z=ab (.nx (Z0.set ni (fz (rm ps)))):=by
 unfold vz;rw[h0,h1];show (if nR Z0=true then noex (δi Z0)>>=_ else af)=_;rw[UD h2,h3];show (noex (fO ci oi δk δj tc δk2 Z0 ds [])>>=_)=_;rw[h4];show (if t5 ps=true then _ else af)=_;rw[UD h5]
def wU(l:NT)(n:Nat):List Nat:=match l.find? (λp=>p.1==n) with
 |some p=>p.2
 |none=>[]
def yx{l:NT}{p:Nat×List Nat}(hn:(l.map (·.1)).Nodup)(hp:p∈l):wU l p.1=p.2:=by
 unfold wU;cases q:l.find? (λr=>r.1==p.1) with
 |none=>have:=List.find?_eq_none.mp q p hp;simp at this
 |some r=>
  have h1:=List.find?_some q;have h2:=List.mem_of_find?_eq_some q;have h1:r.1=p.1:=by simpa using h1
  have:r=p:=lN (f:=(·.1)) hn r h2 p hp h1;rw[this]
def NrS.mem{T:Nat->Prop}{E:Nat->Nat->Prop}{l:NT}(h:NrS T E l){n m:Nat}(hn:T n):m∈wU l n↔E n m:=by
 obtain⟨p,hp,rfl⟩:=Px.mp ((h.key n).mpr hn);rw[yx h.nd hp];exact(h.nb p hp).2 m
def BS(l:NT):rm (l.map dD)=(ML (l.map (·.1)) (l.map λp=>inD (p.2.map kN))).d:=by
 unfold rm;rw[yi];exact UM (D.dci _) (P5 ..)
def Bd(ks:List Nat):gK (inD (ks.map kN))=ab (ks.map nI):=by
 show (if (ks.map kN).all u0 then ab ((ks.map kN).map Bc) else af)=_;rw[UD (PJ.mpr λk hk=>by obtain⟨n,_,rfl⟩:=Px.mp hk;rfl),P5];rfl
def NrS.near{T:Nat->Prop}{E:Nat->Nat->Prop}{l:NT}(h:NrS T E l):lu nI (l.map (·.1)) (wU l) (rm (l.map dD)):=λn hn=>by
 rw[BS];obtain⟨d,h1,h2⟩:=Gp.ix (ds:=l.map λp=>inD (p.2.map kN)) (by simp) hn;refine⟨d,h2,?_⟩;rw[List.zip_map'] at h1;obtain⟨p,hp,e⟩:=Px.mp h1;cases e;rw[yx h.nd hp];exact Bd p.2
def ra(S:List Cell)(nb:Cell->List Cell):D:=n9 S λy=>cL (nb y)
end K1
namespace K1
open PySem PySem.Spec L2 L3
open PyProof.Rows hiding St
section
variable{nb:Cell->List Cell}
def ot{a b c:Cell}{i:Nat}(h:Rb nb a i b):∀{j:Nat},Rb nb b j c->Rb nb a (i+j) c
 |0,q=>(show c=b from q)▸h
 |j+1,q=>q.elim (λq=> .inl (ot h q)) λ⟨y,q1,q2⟩=> .inr ⟨y,ot h q1,q2⟩
end
def qe(R W w:Nat)(S:List Cell)(y:Cell):List Cell:=(f9 R W w y).filter λx=>decide (x∈S)
def yt{R W w:Nat}(hw:Ways w){S:List Cell}{x y:Cell}:x∈qe R W w S y↔On R W x/\jI w y x=true/\x∈S:=by
 unfold qe;rw[Qr,ft hw,UJ,and_assoc]
def CnS(R W w:Nat)(S:List Cell)(a b:Cell):Prop:=∃j,Rb (qe R W w S) a j b
section
open Classical
variable{bd:List Str}{W w:Nat}{S:List Cell}{R:Nat}
def CnS.trans{a b c:Cell}(h:CnS R W w S a b)(h2:CnS R W w S b c):CnS R W w S a c:=let ⟨i,p⟩:=h;let ⟨j,q⟩:=h2;⟨i+j,ot p q⟩
def foldl_addK:∀(l t:List Cell),(t++l).Nodup->l.foldl bO t=t++l
 |[],t,_=>by simp
 |x::l,t,h=>by
  have hx:x∉t:=λq=>(Qi.mp h).2.2 x q x (Pa ..) rfl;rw[Sn,show bO t x=t++[x] from UE hx,foldl_addK l (t++[x]) (by rw[Rt];exact h),Rt];rfl
def OI:DS:=(b_ [5] (eU 4 (dV 5) (bB 0 (de (aq 3 a8 (aC (dV 0) (aC (dV 5) (aC (dV 2) aN))))) (bH (d2 (eO false) (dV 0) (dV 4))) (dV 0))))
def Bo(hg:Brd bd W)(hw:Ways w)(hn:S.Nodup)(hJ:∀y∈S,On bd.length W y):eV [brd bd,cL S, .int (w:Int)]=ab (ra S (qe bd.length W w S)):=by
 have hm:bd.length*W<=64:=Q6 hg.r8 hg.w8;have lI:S.length<=64:=by
  have:=c6 hn λx hx=>aJ.mpr (hJ x hx);rw[cB] at this;omega
 obtain⟨_,e⟩:=jy (put:=putN 5) (body:=OI) cD (λt:List Cell=>[fz (brd bd),fz (cL S),fz (.int (w:Int)),fz (iP S),some (.ow (AE t λy=>cL (qe bd.length W w S y))),none]) bO (λt=>t.Nodup/\∀y∈t,y∈S) S [] ⟨Q2,λ_ h=>by cases h⟩ λt ⟨h1,h2⟩ x hx=>by
  have hl:=c6 h1 h2;refine⟨⟨(kD [x] t).1 h1,λy hy=>(gw.mp hy).elim (h2 y) λq=>q▸hx⟩,_,rfl,?_⟩;refine(br (Z':=[fz (brd bd),fz (cL S),fz (.int (w:Int)),fz (iP S),some (.ow (AE (bO t x) λy=>cL (qe bd.length W w S y))),fz (cD x)]) ?_).trans rfl;refine(yN (x:=x) (d:=cL (qe bd.length W w S x)) rfl (cg (ds:=(f9 bd.length W w x).map cD) (wM ((aj (ds:=[brd bd,cD x, .int (w:Int)]) rfl rfl).trans (fN hg hw (hJ x hx)))) (ju cD _ _ λy hy=>?_) ?_) rfl (by rw[cU];omega)).trans ?_
  ·rw[wk,cZ (b:=decide (y∈S)) ((aB (x:=cD y) (y:=iP S) rfl rfl).trans ((jz (neg:=false) (by simp[trues])).trans (by rw[UE (by decide)];congr 2;rw[UN];exact jC))),au];cases decide (y∈S)<;>rfl
  ·rw[Pb,cU];exact PM (QV ..) (PM (lL ..) (by decide))
  ·have:fj (λy=>cL (qe bd.length W w S y)) x (cL (qe bd.length W w S x))=λy=>cL (qe bd.length W w S y):=by
    funext y;unfold fj;split
    ·rename_i q;rw[q]
    ·rfl
   rw[this];rfl
 rw[foldl_addK S [] (by simpa using hn),Qh] at e;exact aV (ai (Z':=[fz (brd bd),fz (cL S),fz (.int (w:Int)),fz (iP S),none,none]) ((aF ((aj (ds:=[cL S]) rfl rfl).trans (qU (by omega)))).trans rfl) (ai (Z':=[fz (brd bd),fz (cL S),fz (.int (w:Int)),fz (iP S),some (.ow (AE [] λy=>cL (qe bd.length W w S y))),none]) rfl (ai (cX (eS rfl e)) rfl)))
end
end K1
namespace K1
open PySem L2 L3
section
variable{α:Type}{E E':α->α->Prop}{a b x:α}
def Rr(E:α->α->Prop)(a:α):Nat->α->Prop
 |0,x=>x=a
 |k+1,x=>Rr E a k x\/∃y,Rr E a k y/\E y x
def Dr(E:α->α->Prop)(a x:α)(n:Nat):Prop:=Rr E a n x/\∀j,Rr E a j x->n<=j
def Rr.mono{i j:Nat}(h:i<=j)(r:Rr E a i x):Rr E a j x:=by
 induction h with
 |refl=>exact r
 |step _ ih=>exact .inl ih
def Rr.sub(h:∀y x,E y x->E' y x):∀{j:Nat}{x:α},Rr E a j x->Rr E' a j x
 |0,_,r=>r
 |_+1,_, .inl r=> .inl (Rr.sub h r)
 |_+1,_, .inr ⟨y,r,e⟩=> .inr ⟨y,Rr.sub h r,h _ _ e⟩
def Rr.trans{i:Nat}(h:Rr E a i b):∀{j:Nat}{x:α},Rr E b j x->Rr E a (i+j) x
 |0,_,r=>by cases r;exact h
 |_+1,_, .inl r=> .inl (Rr.trans h r)
 |_+1,_, .inr ⟨y,r,e⟩=> .inr ⟨y,Rr.trans h r,e⟩
def Rr.symm(hs:∀x y,E x y->E y x):∀{j:Nat}{x:α},Rr E a j x->Rr E x j a
 |0,_,r=>Eq.symm r
 |_+1,_, .inl r=> .inl (Rr.symm hs r)
 |j+1,x, .inr ⟨y,r,e⟩=>by
  have h1:Rr E x 1 y:= .inr ⟨x,rfl,hs _ _ e⟩;have:=h1.trans (Rr.symm hs r);rw[Nat.add_comm] at this;exact this
def Dr.one{n m:Nat}(h:Dr E a x n)(h2:Dr E a x m):n=m:=Rj (h.2 _ h2.1) (h2.2 _ h.1)
def Dr.symm(hs:∀x y,E x y->E y x){n:Nat}(h:Dr E a x n):Dr E x a n:=⟨h.1.symm hs,λj r=>h.2 j (r.symm hs)⟩
def Dr.zero{n:Nat}(h:Dr E a x n):n=0↔x=a:=
 ⟨λe=>by have:=h.1;rw[e] at this;exact this,λe=>Ur.mp (h.2 0 e)⟩
def Dr.of{n j:Nat}(h:Dr E a x n)(r:Rr E a j x):n<=j:=h.2 j r
def gV{nb:α->List α}{P:α->Prop}(ha:P a)(hP:∀y,P y->∀x,x∈nb y->P x)(h:∀y,P y->∀x,x∈nb y↔E y x):∀{j:Nat}{x:α},(Rb nb a j x↔Rr E a j x)/\(Rb nb a j x->P x)
 |0,x=>⟨Sd,λr=>by cases (show x=a from r);exact ha⟩
 |j+1,x=>by
  refine⟨⟨λr=>?_,λr=>?_⟩,λr=>?_⟩
  ·rcases r with r | ⟨y,r,q⟩
   ·exact .inl ((gV ha hP h).1.mp r)
   ·exact .inr ⟨y,(gV ha hP h).1.mp r,(h y ((gV ha hP h).2 r) x).mp q⟩
  ·rcases r with r | ⟨y,r,q⟩
   ·exact .inl ((gV ha hP h).1.mpr r)
   ·have r':=(gV (nb:=nb) ha hP h).1.mpr r;exact .inr ⟨y,r',(h y ((gV ha hP h).2 r') x).mpr q⟩
  ·rcases r with r | ⟨y,r,q⟩
   ·exact(gV ha hP h).2 r
   ·exact hP y ((gV ha hP h).2 r) x q
def EF[DecidableEq α]{nb:α->List α}{P:α->Prop}(ha:P a)(hP:∀y,P y->∀x,x∈nb y->P x)(h:∀y,P y->∀x,x∈nb y↔E y x){n:Nat}:Ds nb a x n↔Dr E a x n:=
 and_congr (gV ha hP h).1 (forall_congr' λj=>imp_congr (gV ha hP h).1 Sd)
end
def gd(w:Nat)(a b:Cell):Nat:=if w=4 then bo a.1 b.1+bo a.2 b.2 else max (bo a.1 b.1) (bo a.2 b.2)
def Nx(R W w:Nat)(y x:Cell):Prop:=On R W y/\On R W x/\jI w y x=true
def Nx.symm{R W w:Nat}(x y:Cell)(h:Nx R W w x y):Nx R W w y x:=⟨h.2.1,h.1,by rw[kR];exact h.2.2⟩
def fI(a:Nat):bo a a=0:=by unfold bo;rw[Nat.max_self,T6,Nat.sub_self]
def fH{a b:Nat}(h:a<=b):bo a b=b - a:=by unfold bo;rw[Nat.max_eq_right h,RL h]
def fG{a b:Nat}(h:b<=a):bo a b=a - b:=by unfold bo;rw[Nat.max_eq_left h,Nat.min_eq_right h]
def ya(a b c:Nat):bo a c<=bo a b+bo b c:=by
 rcases Ss a b with h | h<;>rcases Ss b c with h2 | h2
 ·rw[fH h,fH h2,fH (PM h h2)];omega
 ·rw[fH h,fG h2];rcases Ss a c with h3 | h3
  ·rw[fH h3];omega
  ·rw[fG h3];omega
 ·rw[fG h,fH h2];rcases Ss a c with h3 | h3
  ·rw[fH h3];omega
  ·rw[fG h3];omega
 ·rw[fG h,fG h2,fG (PM h2 h)];omega
def qL{R W w:Nat}(hw:Ways w){a:Cell}:∀{j:Nat}{x:Cell},Rr (Nx R W w) a j x->gd w a x<=j
 |0,x,r=>by
  cases (show x=a from r);rcases hw with rfl | rfl
  ·show bo a.1 a.1+bo a.2 a.2<=0;rw[fI,fI];exact Pm _
  ·show max (bo a.1 a.1) (bo a.2 a.2)<=0;rw[fI,fI];exact Pm _
 |j+1,x, .inl r=>Nat.le_succ_of_le (qL hw r)
 |j+1,x, .inr ⟨y,r,e⟩=>by
  have h:=qL hw r;have e:=e.2.2;have t1:=ya a.1 y.1 x.1;have t2:=ya a.2 y.2 x.2;rcases hw with rfl | rfl
  ·have e:bo y.1 x.1+bo y.2 x.2=1:=UI e;show bo a.1 x.1+bo a.2 x.2<=j+1;have h:bo a.1 y.1+bo a.2 y.2<=j:=h;omega
  ·have e:max (bo y.1 x.1) (bo y.2 x.2)=1:=UI e;have h:max (bo a.1 y.1) (bo a.2 y.2)<=j:=h;have e1:=Ts (bo y.1 x.1) (bo y.2 x.2);have e2:=Tb (bo y.1 x.1) (bo y.2 x.2);have e3:=PM (Ts ..) h;have e4:=PM (Tb ..) h;rw[e] at e1 e2;exact Nat.max_le.mpr ⟨PM t1 (Nat.add_le_add e3 e1),PM t2 (Nat.add_le_add e4 e2)⟩
def toward(a b:Nat):Nat:=if b<a then b+1 else if a<b then b - 1 else b
def l7(a b:Nat):(toward a b<=max a b)/\bo a (toward a b)=bo a b - 1/\bo (toward a b) b=min 1 (bo a b):=by
 unfold toward;by_cases h:b<a
 ·rw[UD h,fG h,fG (Qz h),fG (Nat.le_succ b),Nat.max_eq_left (Qz h),RL (by omega)];omega
 ·rw[UE h];by_cases h2:a<b
  ·rw[UD h2,fH (show a<=b - 1 by omega),fH (Qz h2),fH (Nat.sub_le b 1),Nat.max_eq_right (Qz h2),RL (by omega)];omega
  ·rw[UE h2];have:a=b:=by omega
   subst this;rw[fI,Nat.max_self];exact⟨Pm _,rfl,rfl⟩
def jF{a b R:Nat}(ha:a<R)(hb:b<R):toward a b<R:=SR (l7 a b).1 (Nat.max_lt.mpr ⟨ha,hb⟩)
def C5{R W w:Nat}(hw:Ways w){a b:Cell}(ha:On R W a)(hb:On R W b){n:Nat}(h:gd w a b=n+1):∃c,Nx R W w c b/\gd w a c=n:=by
 obtain⟨a1,a2⟩:=a;obtain⟨b1,b2⟩:=b;obtain⟨_,t2,t3⟩:=l7 a1 b1;obtain⟨_,u2,u3⟩:=l7 a2 b2;rcases hw with rfl | rfl
 ·have h:bo a1 b1+bo a2 b2=n+1:=h;by_cases e:bo a1 b1=0
  ·refine⟨(b1,toward a2 b2),⟨⟨hb.1,jF ha.2 hb.2⟩,hb,UG (show bo b1 b1+bo (toward a2 b2) b2=1 from ?_)⟩,show bo a1 b1+bo a2 (toward a2 b2)=n from ?_⟩
   ·rw[fI,u3,RL (by omega)]
   ·rw[u2];omega
  ·refine⟨(toward a1 b1,b2),⟨⟨jF ha.1 hb.1,hb.2⟩,hb,UG (show bo (toward a1 b1) b1+bo b2 b2=1 from ?_)⟩,show bo a1 (toward a1 b1)+bo a2 b2=n from ?_⟩
   ·rw[fI,t3,RL (by omega)]
   ·rw[t2];omega
 ·have h:max (bo a1 b1) (bo a2 b2)=n+1:=h;refine⟨(toward a1 b1,toward a2 b2),⟨⟨jF ha.1 hb.1,jF ha.2 hb.2⟩,hb,UG (show max (bo (toward a1 b1) b1) (bo (toward a2 b2) b2)=1 from ?_)⟩,show max (bo a1 (toward a1 b1)) (bo a2 (toward a2 b2))=n from ?_⟩
  ·rw[t3,u3];generalize bo a1 b1=p at*;generalize bo a2 b2=q at*;omega
  ·rw[t2,u2];generalize bo a1 b1=p at*;generalize bo a2 b2=q at*;omega
def uo{a b:Nat}(h:bo a b=0):b=a:=by
 rcases Ss a b with q | q
 ·rw[fH q] at h;omega
 ·rw[fG q] at h;omega
def C6{w:Nat}(hw:Ways w){a b:Cell}(h:gd w a b=0):b=a:=by
 have:bo a.1 b.1=0/\bo a.2 b.2=0:=by
  rcases hw with rfl | rfl
  ·exact Nat.add_eq_zero_iff.mp h
  ·have h:max (bo a.1 b.1) (bo a.2 b.2)=0:=h;exact⟨Ur.mp (h▸Ts ..),Ur.mp (h▸Tb ..)⟩
 exact Uq (uo this.1) (uo this.2)
def EK{R W w:Nat}(hw:Ways w){a:Cell}(ha:On R W a):∀(n:Nat) {b:Cell},On R W b->gd w a b=n->Rr (Nx R W w) a n b
 |0,b,_,h=>C6 hw h
 |n+1,b,hb,h=>by
  obtain⟨c,e,h2⟩:=C5 hw ha hb h;exact .inr ⟨c,EK hw ha n e.1 h2,e⟩
def AU{R W w:Nat}(hw:Ways w){a b:Cell}(ha:On R W a)(hb:On R W b):Dr (Nx R W w) a b (gd w a b):=⟨EK hw ha _ hb rfl,λj r=>qL hw r⟩
section
variable{bd:List Str}{W w v:Nat}{f g:Cell->Nat}
def NumF(bd:List Str)(W w:Nat)(f:Cell->Nat):Prop:=∀x,On bd.length W x->∃P,(bb bd W w)[f x]? =some P/\x∈P
def NumF.eq(hw:Ways w)(hf:NumF bd W w f)(hg:NumF bd W w g){x:Cell}(hx:On bd.length W x):f x=g x:=by
 obtain⟨P,h1,h2⟩:=hf x hx;obtain⟨Q,h3,h4⟩:=hg x hx;exact sq hw h1 h3 h2 h4
def NumF.lt(hf:NumF bd W w f){x:Cell}(hx:On bd.length W x):f x<(bb bd W w).length:=by
 obtain⟨P,h1,_⟩:=hf x hx;exact(Pe.mp h1).1
def NumF.cn(hw:Ways w)(hf:NumF bd W w f){x y:Cell}(hx:On bd.length W x)(hy:On bd.length W y):f x=f y↔Cn bd W w x y:=by
 obtain⟨P,h1,h2⟩:=hf x hx;obtain⟨Q,h3,h4⟩:=hf y hy;obtain⟨m,e1,rfl⟩:=gQ h1;obtain⟨n,e2,rfl⟩:=gQ h3;have om:=c5 (oP e1);have on:=c5 (oP e2);constructor
 ·intro e;rw[e,h3] at h1;have h1:aY bd W w n=aY bd W w m:=Pz h1;rw[h1] at h4;exact((((bU hw om).mem x).mp h2).symm hw om).trans (((bU hw om).mem y).mp h4)
 ·intro e;have:y∈aY bd W w m:=((bU hw om).mem y).mpr ((((bU hw om).mem x).mp h2).trans e);exact sq hw h1 h3 this h4
def Ad(R W v:Nat)(f:Cell->Nat)(n m:Nat):Prop:=n≠m/\∃x y,Nx R W v x y/\f x=n/\f y=m
def Ad.symm{R W v:Nat}{f:Cell->Nat}(n m:Nat)(h:Ad R W v f n m):Ad R W v f m n:=let ⟨h1,x,y,h2,h3,h4⟩:=h;⟨λe=>h1 e.symm,y,x,h2.symm,h4,h3⟩
def tw{R W v:Nat}{f:Cell->Nat}{a:Cell}:∀{j:Nat}{x:Cell},Rr (Nx R W v) a j x->Rr (Ad R W v f) (f a) j (f x)
 |0,x,r=>by cases (show x=a from r);rfl
 |j+1,x, .inl r=> .inl (tw r)
 |j+1,x, .inr ⟨y,r,e⟩=>by
  by_cases q:f y=f x
  ·rw[<-q];exact .inl (tw r)
  ·exact .inr ⟨f y,tw r,q,y,x,e,rfl,rfl⟩
def Kz{R W v:Nat}{f:Cell->Nat}(hv:Ways v)(n m:Nat)(h:Ad R W 4 f n m):Ad R W v f n m:=by
 obtain⟨h1,x,y,⟨h2,h3,h4⟩,h5⟩:=h;refine⟨h1,x,y,⟨h2,h3,?_⟩,h5⟩;rcases hv with rfl | rfl
 ·exact h4
 ·exact Jn h4
end
end K1
namespace K1
open PySem L2 L3 HT
def ym(c:Nat):Dl ⟨#[c]⟩=decide (c∈[97,98,99,100,101,102]):=StrLaws.found_one "abcdef" c
abbrev Kx:List Nat:=[97,98,99,100,101,102]
def yT{W:Nat}{r:Str}(h:Row W r){c:Nat}(hc:c∈r.cps.toList):c∈[97,98,99,100,101,102]:=by
 have:=h.let' c hc;rw[ym] at this;exact UI this
end K1
namespace K1
open PySem L2 L3
section
variable{bd:List Str}{W w v:Nat}{f:Cell->Nat}
def mD(hg:Brd bd W)(hs:bd.length*W<64)(hw:Ways w):∃ks f,NumF bd W w f/\(∀x,On bd.length W x->x∈ks)/\bG [.lst ((bb bd W w).map cL)]=ab (n9 ks λy=>nI (f y)):=by
 obtain⟨ks,f,a1,a2,a3⟩:=iT (R:=bd.length) (W:=W) (by omega) (rk (bd:=bd) hw);have Af:∀x,On bd.length W x->x∈ks:=λx hx=>by
  obtain⟨P,hP,h⟩:=pe hg hw hx;exact a2 P hP x h
 exact⟨ks,f,λx hx=>a1.num x (Af x hx),Af,a3⟩
def gN(hg:Brd bd W)(hs:bd.length*W<64)(hw:Ways w)(hv:Ways v)(hf:NumF bd W w f):
 ∃l,NrS (λn=>∃x,On bd.length W x/\f x=n) (Ad bd.length W v f) l/\cj [brd bd, .int (v:Int), .lst ((bb bd W w).map cL)]=ab (rm (l.map dD)):=by
 obtain⟨ks,g,Iz,Af,e0⟩:=mD hg hs hw;have Mr:∀x,On bd.length W x->f x % 64=g x:=λx hx=>by
  have:=hf.lt hx;have:=wN (bd:=bd) (W:=W) (w:=w);rw[Nat.mod_eq_of_lt (by omega)];exact hf.eq hw Iz hx
 have HE:∀x,On bd.length W x->f x % 64=f x:=λx hx=>(Mr x hx).trans (Iz.eq hw hf hx);have ev:∀{Z:aP}{i:Nat}{x:Cell},Z[3]? =some (fz (n9 ks λy=>nI (g y)))->Z[i]? =some (fz (cD x))->On bd.length W x->d2 cz (dV 3) (dV i) Z=ab (nI (f x % 64)):=λh3 hi hx=>by
  rw[Mr _ hx];exact(aB (bu h3) (bu hi)).trans (oE (f:=λy=>nI (g y)) (Af _ hx))
 obtain⟨l,k1,k2⟩:=Bw (ci:=5) (oi:=7) (δk:=d2 cz (dV 3) (dV 5)) (δj:=de (aq 3 a8 (aC (dV 0) (aC (dV 5) (aC (dV 1) aN))))) (tc:=bH (d2 kr (d2 cz (dV 3) (dV 7)) (d2 cz (dV 3) (dV 5)))) (δk2:=d2 cz (dV 3) (dV 7))
  (Z:=[fz (brd bd),fz (.int (v:Int)),fz (.lst ((bb bd W w).map cL)),fz (n9 ks λy=>nI (g y)),none,none,none,none]) (f:=λx=>f x % 64) (nx:=f9 bd.length W v) (λy=>TL _ (by decide)) (aQ bd.length W) (T:=λ_=>False) (E:=λ_ _=>False) (l:=[])
  ⟨Q2,λn=>by simp,λp hp=>(nomatch hp),λn h=>h.elim,λn m h=>h.elim⟩ (λ_ _ h=>h.elim) λx hx=>by
   have hx:=aJ.mp hx;refine⟨ev rfl rfl hx,?_,λy hy=>?_⟩
   ·exact wM ((aj (ds:=[brd bd,cD x, .int (v:Int)]) rfl rfl).trans (fN hg hv hx))
   ·have hy:=((ft hv).mp hy).1;refine⟨cZ ((aB (ev rfl rfl hy) (ev rfl rfl hx)).trans ((E2 _ _).trans ?_)),ev rfl rfl hy⟩;by_cases e:f y % 64=f x % 64
    ·rw[e];simp
    ·rw[UH e,UL.mpr e]
 refine⟨l,k2.cong (λn=>?_) (λn m=>?_),aV (ai (Z':=[fz (brd bd),fz (.int (v:Int)),fz (.lst ((bb bd W w).map cL)),fz (n9 ks λy=>nI (g y)),none,none,none,none]) ((aF ((aj (ds:=[.lst ((bb bd W w).map cL)]) rfl rfl).trans e0)).trans rfl) (ai (Z':=[fz (brd bd),fz (.int (v:Int)),fz (.lst ((bb bd W w).map cL)),fz (n9 ks λy=>nI (g y)),some (.ow (.dci [] [])),none,none,none]) rfl (ai (Z':=[fz (brd bd),fz (.int (v:Int)),fz (.lst ((bb bd W w).map cL)),fz (n9 ks λy=>nI (g y)),fz (rm (l.map dD)),none,none,none]) (cX ?_) rfl)))⟩
 ·constructor
  ·rintro(z | ⟨x,hx,e⟩)
   ·exact z.elim
   ·have hx:=aJ.mp hx;exact⟨x,hx,(HE x hx).symm.trans e⟩
  ·rintro⟨x,hx,e⟩;exact .inr ⟨x,aJ.mpr hx,(HE x hx).trans e⟩
 ·constructor
  ·rintro(z | ⟨g6,x,hx,e,y,hy,e2⟩)
   ·exact z.elim
   ·have hx:=aJ.mp hx;have hy:=(ft hv).mp hy;exact⟨g6,x,y,⟨hx,hy.1,hy.2⟩,(HE x hx).symm.trans e,(HE y hy.1).symm.trans e2⟩
  ·rintro⟨g6,x,y,⟨hx,hy,q⟩,e,e2⟩;exact .inr ⟨g6,x,aJ.mpr hx,(HE x hx).trans e,y,(ft hv).mpr ⟨hy,q⟩,(HE y hy).trans e2⟩
 ·exact zU rfl rfl rfl (wM ((aj (ds:=[brd bd]) rfl rfl).trans (gj hg))) k1 k2.ok
def uW(hv:Ways v){l:NT}(hl:NrS (λn=>∃x,On bd.length W x/\f x=n) (Ad bd.length W v f) l){a b:Cell}(ha:On bd.length W a)(hb:On bd.length W b):
 ∃n,Dr (Ad bd.length W v f) (f a) (f b) n/\∃d,bt [rm (l.map dD),nI (f a)]=ab d/\cz d (nI (f b))=ab (nI n):=by
 have hP:∀y,(∃x,On bd.length W x/\f x=y)->∀x,x∈wU l y->∃z,On bd.length W z/\f z=x:=λy hy x hx=>by
  obtain⟨_,p,q,h1,_,h2⟩:=(hl.mem hy).mp hx;exact⟨q,h1.2.1,h2⟩
 have hE:∀y,(∃x,On bd.length W x/\f x=y)->∀x,x∈wU l y↔Ad bd.length W v f y x:=λy hy x=>hl.mem hy;have lI:(l.map (·.1)).length<=64:=le64 hl.nd λn hn=>hl.hT n ((hl.key n).mp hn);obtain⟨ks,vs,h1,h2,h3⟩:=oa (nb:=wU l) Gp lI (λy hy x hx=>(hl.key x).mpr (hP y ((hl.key y).mp hy) x hx)) hl.near ((hl.key (f a)).mpr ⟨a,ha,rfl⟩);have hr:=tw (f:=f) (AU hv ha hb).1;have v5:f b∈ks:=(h1 _).mpr ⟨_,(gV ⟨a,ha,rfl⟩ hP hE).1.mpr hr⟩;obtain⟨d,e1,e2⟩:=Gp.ix (ds:=vs.map nI) (by rw[Pb];exact h2.1) v5;obtain⟨n,rfl,e3⟩:=tR e1;exact⟨n,(EF ⟨a,ha,rfl⟩ hP hE).mp (h2.2 _ _ e3),_,h3,e2⟩
def fX(hg:Brd bd W)(hs:bd.length*W<64)(hw:Ways w)(hf:NumF bd W w f){a b:Cell}(ha:On bd.length W a)(hb:On bd.length W b):
 ∃n,Dr (Ad bd.length W w f) (f a) (f b) n/\aH [brd bd, .int (w:Int),cD a,cD b]=ab (nI n):=by
 obtain⟨l,hl,e1⟩:=gN (v:=w) hg hs hw hw hf;obtain⟨n,hn,d,e2,e3⟩:=uW hw hl ha hb;obtain⟨ks,g,Iz,Af,e0⟩:=mD hg hs hw;have ga:g a=f a:=Iz.eq hw hf ha;have gb:g b=f b:=Iz.eq hw hf hb;refine⟨n,hn,aV (ai (bA ((aj (ds:=[brd bd, .int (w:Int),cD a,cD b]) rfl rfl).trans (l8 hg hw ha hb))) (ai (Z':=[fz (brd bd),fz (.int (w:Int)),fz (cD a),fz (cD b),fz (.lst ((bb bd W w).map cL)),none]) ((aF ((aj (ds:=[brd bd, .int (w:Int)]) rfl rfl).trans ((eM hg hs hw).trans (by rw[kc])))).trans rfl) (ai (Z':=[fz (brd bd),fz (.int (w:Int)),fz (cD a),fz (cD b),fz (.lst ((bb bd W w).map cL)),fz (n9 ks λy=>nI (g y))]) ((aF ((aj (ds:=[.lst ((bb bd W w).map cL)]) rfl rfl).trans e0)).trans rfl) (aL ((aB (x:=d) (y:=nI (f b)) ((aj (ds:=[rm (l.map dD),nI (f a)]) (aI ((aj (ds:=[brd bd, .int (w:Int), .lst ((bb bd W w).map cL)]) rfl rfl).trans e1) (aI (((aB (x:=n9 ks λy=>nI (g y)) (y:=cD a) rfl rfl).trans (oE (f:=λy=>nI (g y)) (Af a ha))).trans (by rw[ga])) rfl)) rfl).trans e2) (((aB (x:=n9 ks λy=>nI (g y)) (y:=cD b) rfl rfl).trans (oE (f:=λy=>nI (g y)) (Af b hb))).trans (by rw[gb]))).trans e3)))))⟩
def m_{n i:Nat}(h:i<n):cK [nI n,nI i]=ab .non:=by
 refine k_ (Z:=[fz (nI n),fz (nI i)]) (eI (xZ (p:=false) (q:=false) (lD (b:=true) (lF ((aj (ds:=[nI i]) rfl rfl).trans ((l9 (d:=nI i) trivial).trans rfl)))) (lD (b:=true) (cZ ?_))) rfl);show (if decide ((0:Int)<=(i:Int))=true then ab (D.bl (decide ((i:Int)<(n:Int)))) else ab (D.bl false))=_;rw[UD (by rw[UJ];omega),UG (by omega)]
def DC(hw:Ways w)(hf:NumF bd W w f){E:Nat->Nat->Prop}{l:NT}(hl:NrS (λn=>∃x,On bd.length W x/\f x=n) E l):(bb bd W w).length<=l.length:=by
 have:=c6 (l:=PY (bb bd W w).length) (U:=l.map (·.1)) List.nodup_range λi hi=>by
  have hi:=Q3.mp hi;obtain⟨m,e1,e2⟩:=gQ (Pd hi);have hm:=oP e1;have ho:=c5 hm;obtain⟨r,hr⟩:=xi hw hm;obtain⟨P,h1,h2⟩:=hf m ho;have h3:(bb bd W w)[i]? =some (m::r):=by rw[Pd hi,e2,hr]
  exact(hl.key i).mpr ⟨m,ho,sq hw h1 h3 h2 Pa⟩
 simpa using this
def ue(hg:Brd bd W)(hs:bd.length*W<64)(hw:Ways w)(hf:NumF bd W w f){a b:Cell}(ha:On bd.length W a)(hb:On bd.length W b):
 ∃n,Dr (Ad bd.length W 4 f) (f a) (f b) n/\fq [brd bd, .int (w:Int),nI (f a),nI (f b)]=ab (nI n):=by
 obtain⟨l,hl,e1⟩:=gN (v:=4) hg hs hw (.inl rfl) hf;obtain⟨n,hn,d,e2,e3⟩:=uW (.inl rfl) hl ha hb;have P3:=DC hw hf hl;have la:=hf.lt ha;have lb:=hf.lt hb;have em:kC [brd bd, .int (w:Int)]=ab (rm (l.map dD)):=aV (ai (bA ((aj (ds:=[brd bd]) rfl rfl).trans hg.nb)) (ai (bA ((aj (ds:=[.int (w:Int)]) rfl rfl).trans hw.nw)) (aL ((aj (ds:=[brd bd, .int 4, .lst ((bb bd W w).map cL)]) (aI rfl (aI rfl (aI ((aj (ds:=[brd bd, .int (w:Int)]) rfl rfl).trans ((eM hg hs hw).trans (by rw[kc]))) rfl))) rfl).trans e1))));have el:qX [rm (l.map dD)]=ab (nI l.length):=by
  rw[BS];show ab (D.int (((l.map (·.1)).map kN).length:Int))=_;rw[Pb,Pb];rfl
 have nn:∀{i:Nat}{Z:aP}{k:Nat},Z[4]? =some (fz (rm (l.map dD)))->Z[k]? =some (fz (nI i))->i<(bb bd W w).length->fQ (aq 2 cK (aC (dA qX (aC (dV 4) aN)) (aC (dV k) aN))) Z=ab (.nx Z):=λh4 hk hi=>
  bA ((aj (ds:=[nI l.length,nI _]) (aI ((cS (xs:=[rm (l.map dD)]) (aI (bu h4) rfl)).trans el) (aI (bu hk) rfl)) rfl).trans (m_ (by omega)))
 exact⟨n,hn,aV (ai (Z':=[fz (brd bd),fz (.int (w:Int)),fz (nI (f a)),fz (nI (f b)),fz (rm (l.map dD))]) ((aF ((aj (ds:=[brd bd, .int (w:Int)]) rfl rfl).trans em)).trans rfl) (ai (nn rfl rfl la) (ai (nn rfl rfl lb) (aL ((aB (x:=d) (y:=nI (f b)) ((aj (ds:=[rm (l.map dD),nI (f a)]) rfl rfl).trans e2) rfl).trans e3)))))⟩
def ES(W w:Nat)(S:List Cell)(y x:Cell):Prop:=y∈S/\x∈S/\jI w y x=true
def lets(bd:List Str)(W:Nat)(ls:List Nat):List Cell:=(aQ bd.length W).filter λx=>decide (lt bd x∈ls)
def ck{ls:List Nat}{x:Cell}:x∈lets bd W ls↔On bd.length W x/\lt bd x∈ls:=by
 unfold lets;rw[Qr,aJ,UJ]
def uN{cs:List Nat}(h:∀c∈cs,c∈Kx)(hl:cs.length<=4096):dE [.lst (cs.map sg)]=ab .non:=by
 refine k_ (eI (xZ (p:=false) (q:=false) (lD (b:=true) (lF rfl)) (lD (b:=true) (lF ((Al (enc:=sg) (xs:=cs) (g:=λ_=>true) (MI rfl) (λc hc=>?_) hl).trans ?_)))) rfl)
 ·refine(aj (ds:=[sg c]) rfl rfl).trans ((jM (d:=sg c) trivial).trans ?_);show ab (D.bl (true&&Dl ⟨#[c]⟩))=_;rw[(ym c).trans (UG (h c hc))];rfl
 ·rw[PJ.mpr λ_ _=>rfl]
def FG(a b:Nat):m7 6 (sg a) (sg b)=some (decide (a=b)):=by
 show some ((⟨#[a]⟩:Str)==⟨#[b]⟩)=_;have:=EH a b;have h2:=CW 6 ⟨#[a]⟩ ⟨#[b]⟩;have:decide ((⟨#[a]⟩:Str)=⟨#[b]⟩)=decide (a=b):=by
  rw[UN];exact⟨λh=>by have h:=UM (λx:Str=>x.cps.toList) h;simpa using h,λh=>by rw[h]⟩
 rw[<-this];exact h2
def t_(c:Nat):∀l:List Nat,anyF (sg c) (l.map sg)=some (decide (c∈l))
 |[]=>by simp[anyF]
 |a::l=>by
  show (match m7 6 (sg a) (sg c),anyF (sg c) (l.map sg) with | some p,some q=>some (p||q) | _,_=>none)=_;rw[t_ c l,FG];refine UM some (show (decide (a=c)||decide (c∈l))=_ from ?_);by_cases e:c=a
  ·rw[UG e.symm,Bool.true_or,e,UG Pa]
  ·rw[UH (λz=>e z.symm),Bool.false_or,UN];exact⟨O_ _,λh=>(Pn.mp h).resolve_left e⟩
def rD{ls:List Nat}:(lets bd W ls).Nodup:=by
 unfold lets;exact RiseC.nodup ((fW _ _).filter _)
def j9(hg:Brd bd W)(hs:bd.length*W<64)(hw:Ways w){ls:List Nat}(h:∀c∈ls,c∈Kx)(hl:ls.length<=4096){a b:Cell}(ha:On bd.length W a)(hb:On bd.length W b)(NY:lt bd a∈ls):
 (∃n,Dr (ES W w (lets bd W ls)) a b n/\aG [brd bd, .int (w:Int), .lst (ls.map sg),cD a,cD b]=ab (nI n))\/
 ((∀j,¬Rr (ES W w (lets bd W ls)) a j b)/\aG [brd bd, .int (w:Int), .lst (ls.map sg),cD a,cD b]=ab .non):=by
 have hS:a∈lets bd W ls:=ck.mpr ⟨ha,NY⟩;have hJ:∀y∈lets bd W ls,On bd.length W y:=λy hy=>(ck.mp hy).1;have e1:=Bo hg hw rD hJ;have hP:∀y,y∈lets bd W ls->∀x,x∈qe bd.length W w (lets bd W ls) y->x∈lets bd W ls:=λy _ x hx=>((yt hw).mp hx).2.2;have hE:∀y,y∈lets bd W ls->∀x,x∈qe bd.length W w (lets bd W ls) y↔ES W w (lets bd W ls) y x:=λy hy x=>(yt hw).trans ⟨λq=>⟨hy,q.2.2,q.2.1⟩,λq=>⟨hJ x q.2.1,q.2.2,q.2.1⟩⟩;have lI:(lets bd W ls).length<=64:=by
  have:=kx rD hJ;omega
 have hN:lu cD (lets bd W ls) (qe bd.length W w (lets bd W ls)) (ra (lets bd W ls) (qe bd.length W w (lets bd W ls))):=λc hc=>⟨_,oE (f:=λy=>cL (qe bd.length W w (lets bd W ls) y)) hc,rfl⟩
 obtain⟨ks,vs,h1,h2,h3⟩:=oa (nb:=qe bd.length W w (lets bd W ls)) EV lI (λy hy x hx=>hP y hy x hx) hN hS;obtain⟨g1,g2⟩:=EV.get (ks:=ks) (ds:=vs.map nI) (x:=b) (v:= .non) (by rw[Pb];exact h2.1);have KZ:eO true (cD a) (ra (lets bd W ls) (qe bd.length W w (lets bd W ls)))=ab (.bl false):=(jz (neg:=true) (by simp)).trans (by rw[UG hS];rfl);have go:∀{r:D},getM (C.dct (ks.map keyOf) (vs.map nI)).d (cD b) .non=ab r->aG [brd bd, .int (w:Int), .lst (ls.map sg),cD a,cD b]=ab r:=λ{r} hr=>by
  refine aV (ai (bA ((aj (ds:=[brd bd]) rfl rfl).trans hg.nb)) (ai (bA ((aj (ds:=[.int (w:Int)]) rfl rfl).trans hw.nw)) (ai (bA ((aj (ds:=[.lst (ls.map sg)]) rfl rfl).trans (uN h hl))) (ai (bA ((aj (ds:=[brd bd,cD a]) rfl rfl).trans (hg.nc ha))) (ai (bA ((aj (ds:=[brd bd,cD b]) rfl rfl).trans (hg.nc hb)))
   (ai (Z':=[fz (brd bd),fz (.int (w:Int)),fz (.lst (ls.map sg)),fz (cD a),fz (cD b),fz (ra (lets bd W ls) (qe bd.length W w (lets bd W ls)))]) ((aF ((aj (ds:=[brd bd,cL (lets bd W ls), .int (w:Int)]) (aI rfl (aI ?_ (aI rfl rfl))) rfl).trans e1)).trans rfl)
   (ai (eI (cZ (b:=false) ((aB (x:=cD a) (y:=ra (lets bd W ls) (qe bd.length W w (lets bd W ls))) rfl rfl).trans KZ)) rfl) (aL ?_))))))))
  ·refine cg (ds:=(aQ bd.length W).map cD) ?_ (ju cD (λx=>decide (lt bd x∈ls)) _ λx hx=>?_) (by rw[Pb,cU];exact PM lI (by decide))
   ·exact wM ((aj (ds:=[brd bd]) rfl rfl).trans (gj hg))
   ·have hi:wB false (sg (lt bd x)) (.lst (ls.map sg))=ab (.bl (decide (lt bd x∈ls))):=by
     show (match anyF (sg (lt bd x)) (ls.map sg) with | some r=>ab (D.bl (if false then !r else r)) | none=>af)=_;rw[t_];rfl
    have ht:bH (d2 (wB false) (aq 2 bK (aC (dV 1) (aC (dV 0) aN))) (dV 3)) [fz (cD x),fz (brd bd),fz (.int (w:Int)),fz (.lst (ls.map sg)),fz (cD a),fz (cD b),none]=ab (decide (lt bd x∈ls)):=cZ ((aB (x:=sg (lt bd x)) (y:= .lst (ls.map sg)) ((aj (ds:=[brd bd,cD x]) rfl rfl).trans (ej hg (aJ.mp hx))) rfl).trans hi);rw[wk];show (bH (d2 (wB false) (aq 2 bK (aC (dV 1) (aC (dV 0) aN))) (dV 3)) [fz (cD x),fz (brd bd),fz (.int (w:Int)),fz (.lst (ls.map sg)),fz (cD a),fz (cD b),none]>>=_)=_;rw[ht];cases decide (lt bd x∈ls)<;>rfl
  ·show (aq 2 bt _ _>>=λd=>if A8 d then dV 4 _>>=λk=>getM d k .non else af)=_;rw[show aq 2 bt (aC (dV 5) (aC (dV 3) aN)) _=bt [ra (lets bd W ls) (qe bd.length W w (lets bd W ls)),cD a] from aj rfl rfl,h3];exact hr
 by_cases v5:b∈ks
 ·obtain⟨d,e2,e3⟩:=g1 v5;obtain⟨n,rfl,e4⟩:=tR e2;exact .inl ⟨n,(EF (P:=(· ∈lets bd W ls)) hS hP hE).mp (h2.2 _ _ e4),go e3⟩
 ·exact .inr ⟨λj r=>v5 ((h1 b).mpr ⟨j,(gV (P:=(· ∈lets bd W ls)) hS hP hE).1.mpr r⟩),go (g2 v5)⟩
end
section
variable{bd:List Str}{W w:Nat}{f:Cell->Nat}{a b c t:Cell}
def xq(hw:Ways w)(ha:On bd.length W a):∀{j:Nat}{x:Cell},Rb (aS bd W w) a j x->∃q,IsWay bd W w a x q/\q.length<=j+1
 |0,x,r=>by
  cases (show x=a from r);exact⟨[a],IsWay.one ha,Pm _⟩
 |j+1,x, .inl r=>let ⟨q,h1,h2⟩:=xq hw ha r;⟨q,h1,Nat.le_succ_of_le h2⟩
 |j+1,x, .inr ⟨y,r,e⟩=>by
  obtain⟨q,h1,h2⟩:=xq hw ha r;have hy:=yS hw ha r;obtain⟨e1,e2,e3⟩:=(cW hw).mp e;have h3:IsWay bd W w y x [y,x]:=⟨λz hz=>by
   have hz:z=y\/z=x:=by simpa using hz
   rcases hz with rfl | rfl
   ·exact hy
   ·exact e1,rfl,rfl,λz hz=>by
   have hz:z=y\/z=x:=by simpa using hz
   rcases hz with rfl | rfl
   ·rfl
   ·exact e3,by show (jI w y x&&true)=true;rw[e2];rfl⟩
  exact⟨_,h1.cat h3,by simp;omega⟩
def Hy(hw:Ways w)(ha:On bd.length W a)(hb:On bd.length W b){p:List Cell}(h:IsWay bd W w a b p)(hm:∀q,IsWay bd W w a b q->p.length<=q.length):Ds (aS bd W w) a b (p.length - 1):=
 ⟨nK hw hb (xJ hw h),λj r=>by
  obtain⟨q,h1,h2⟩:=xq hw ha r;have:=hm q h1;omega⟩
def xh(hw:Ways w)(ha:On bd.length W a){j:Nat}{x:Cell}:Rb (aS bd W w) a j x↔Rr (ES W w (lets bd W [lt bd a])) a j x:=
 (gV (P:=λy=>On bd.length W y/\lt bd y=lt bd a) ⟨ha,rfl⟩ (λy hy x hx=>let ⟨h1,_,h3⟩:=(cW hw).mp hx;⟨h1,h3.trans hy.2⟩) λy hy x=>(cW hw).trans
  ⟨λ⟨h1,h2,h3⟩=>⟨ck.mpr ⟨hy.1,by rw[hy.2];exact PQ.mpr rfl⟩,ck.mpr ⟨h1,by rw[h3,hy.2];exact PQ.mpr rfl⟩,h2⟩,
   λ⟨_,h2,h3⟩=>let ⟨h4,h5⟩:=ck.mp h2;⟨h4,h3,(PQ.mp h5).trans hy.2.symm⟩⟩).1
def GQ(hw:Ways w)(ha:On bd.length W a){n:Nat}{x:Cell}:Ds (aS bd W w) a x n↔Dr (ES W w (lets bd W [lt bd a])) a x n:=
 and_congr (xh hw ha) (forall_congr' λj=>imp_congr (xh hw ha) Sd)
def AL{ls:List Nat}(y x:Cell)(h:ES W w (lets bd W ls) y x):Nx bd.length W w y x:=⟨(ck.mp h.1).1,(ck.mp h.2.1).1,h.2.2⟩
def EZ(hg:Brd bd W){x:Cell}(hx:On bd.length W x):∃r∈bd,lt bd x∈r.cps.toList:=by
 have hr:=getD_mem hx.1;refine⟨_,hr,?_⟩;have hl:(bd.getD x.1 ⟨#[]⟩).cps.toList.length=W:=by rw[PO];exact(hg.rows _ hr).len
 show (bd.getD x.1 ⟨#[]⟩).cps.toList.getD x.2 0∈_;generalize bd.getD x.1 ⟨#[]⟩=q at*;rw[PV,Pd (by rw[hl];exact hx.2)];exact Q7 _
def Gz(hg:Brd bd W){x:Cell}(hx:On bd.length W x):lt bd x∈Kx:=by
 obtain⟨r,h1,h2⟩:=EZ hg hx;exact yT (hg.rows r h1) h2
def iQ(hg:Brd bd W)(hE:∀r∈bd,Fm r){x:Cell}(hx:On bd.length W x):lt bd x∈[97,98,99,102]:=by
 obtain⟨r,h1,h2⟩:=EZ hg hx;have h3:=yT (hg.rows r h1) h2;have h4:=hE r h1 _ h2;generalize lt bd x=n at*;simp at h3⊢;omega
def qE(ns:List Int)(hl:ns.length<=63)(hg:Brd bd W)(k:Nat):∃c,On bd.length W c/\bJ [.scr ns, .int (k:Int),brd bd]=ab (cD c):=by
 obtain⟨v,hv,e⟩:=fm ns hl k bd.length hg.r1;obtain⟨u,hu,e2⟩:=fm ns hl (k+1) W hg.w1;refine⟨(v,u),⟨hv,hu⟩,aV (aL ((cS (xs:=[.int (v:Int), .int (u:Int)]) (aI ?_ (aI ?_ rfl))).trans rfl))⟩
 ·exact(aj (ds:=[.scr ns, .int (k:Int), .int (bd.length:Int)]) (aI rfl (aI rfl (aI (Bf (i:=2) rfl) rfl))) rfl).trans e
 ·exact(aj (ds:=[.scr ns, .int ((k+1:Nat):Int), .int (W:Int)]) (aI rfl (aI rfl (aI (hg.len0 (i:=2) rfl) rfl))) rfl).trans e2
abbrev GA(R W:Nat)(f:Cell->Nat):D:= .lst ((PY R).map λr=> .lst ((bw W r).map λy=> .int (f y:Int)))
def yo{l:List D}{i:Nat}{d:D}(h:l[i]? =some d):eP (.lst l) (.int (i:Int))=ab d:=by
 show (match L2.atI l (i:Int) with | some d=>ab d | none=>af)=_;rw[gx h]
def Bx{R:Nat}{x:Cell}(hx:On R W x){Z:aP}{k:Nat}(h7:Z[7]? =some (fz (GA R W f)))(hk:Z[k]? =some (fz (cD x))):
 d2 eP (d2 eP (dV 7) (d2 aU (dV k) (dC (.int 0)))) (d2 aU (dV k) (dC (.int 1))) Z=ab (nI (f x)):=by
 refine(aB (x:= .lst ((bw W x.1).map λy=> .int (f y:Int))) (y:= .int (x.2:Int)) ((aB (x:=GA R W f) (y:= .int (x.1:Int)) (bu h7) ((aB (x:=cD x) (y:= .int 0) (bu hk) rfl).trans rfl)).trans (yo ?_)) ((aB (x:=cD x) (y:= .int 1) (bu hk) rfl).trans rfl)).trans (yo ?_)
 ·rw[Pq,RI hx.1];rfl
 ·rw[Pq];unfold bw;rw[Pq,RI hx.2];rfl
abbrev eA:D:= .lst [.str "a", .str "b", .str "c", .str "f"]
abbrev zS(ns:List Int)(bd:List Str)(W w:Nat)(f:Cell->Nat)(a t:Cell)(x8 x9 OV OW OX OY OZ O0:Option Sl):aP:=
 [fz (.scr ns),fz (brd bd),fz eA,fz (.int (w:Int)),fz (cD a),fz (cD t),fz (.lst [sg (lt bd a)]),fz (GA bd.length W f),x8,x9,OV,OW,OX,OY,OZ,O0]
def Jb:DS:=(b_ [8,9,10,11,12,13,14,15] (ay (bg 9 (aq 4 aH (aC (dV 1) (aC (dV 3) (aC (dV 4) (aC (dV 8) aN)))))) (ay (fb (bH (d2 kr (dV 9) (aq 4 aH (aC (dV 1) (aC (dV 3) (aC (dV 8) (aC (dV 4) aN))))))) (aX (dC (.bl false))) bY) (ay (fb (bH (d2 kr (d2 lH (dV 9) (dC (.int 0))) (aq 4 fo (aC (dV 1) (aC (dV 3) (aC (dV 4) (aC (dV 8) aN))))))) (aX (dC (.bl false))) bY) (ay (fb (bH (d2 C3 (dV 9) (d2 cy (aq 4 aH (aC (dV 1) (aC (dV 3) (aC (dV 4) (aC (dV 5) aN))))) (aq 4 aH (aC (dV 1) (aC (dV 3) (aC (dV 5) (aC (dV 8) aN)))))))) (aX (dC (.bl false))) bY) (ay (bg 10 (aq 4 fq (aC (dV 1) (aC (dV 3) (aC (d2 eP (d2 eP (dV 7) (d2 aU (dV 4) (dC (.int 0)))) (d2 aU (dV 4) (dC (.int 1)))) (aC (d2 eP (d2 eP (dV 7) (d2 aU (dV 8) (dC (.int 0)))) (d2 aU (dV 8) (dC (.int 1)))) aN)))))) (ay (fb (lq (bH (d2 C3 (dV 9) (dV 10))) (ky (bH (d2 lH (dV 3) (dC (.int 4)))) (bH (d2 kr (dV 9) (dV 10))))) (aX (dC (.bl false))) bY) (ay (bg 11 (aq 4 mj (aC (dV 1) (aC (dV 3) (aC (dV 4) (aC (dV 8) aN)))))) (ay (fb (bH (d2 kr (aq 5 aG (aC (dV 1) (aC (dV 3) (aC (dV 6) (aC (dV 4) (aC (dV 8) aN)))))) (Az (bH (d2 (g_ false) (dV 11) (dC .non))) (dC .non) (d2 gG (dA bh (aC (dV 11) aN)) (dC (.int 1)))))) (aX (dC (.bl false))) bY) (ay (bg 12 (dA rR (aC (d2 gG (d2 aU (dV 4) (dC (.int 0))) (d2 aU (dV 8) (dC (.int 0)))) aN))) (ay (bg 13 (dA rR (aC (d2 gG (d2 aU (dV 4) (dC (.int 1))) (d2 aU (dV 8) (dC (.int 1)))) aN))) (ay (bg 14 (Az (bH (d2 lH (dV 3) (dC (.int 4)))) (d2 cy (dV 12) (dV 13)) (dA qd (aC (dV 12) (aC (dV 13) aN))))) (ay (fb (bH (d2 kr (aq 5 aG (aC (dV 1) (aC (dV 3) (aC (dV 2) (aC (dV 4) (aC (dV 8) aN)))))) (dV 14))) (aX (dC (.bl false))) bY) (ay (bg 15 (aq 5 aG (aC (dV 1) (aC (dV 3) (aC (d2 qK (dV 6) (dA eF (aC (dC (.str "b")) aN))) (aC (dV 4) (aC (dV 8) aN))))))) (ay (fb (ky (bH (d2 (g_ true) (dV 11) (dC .non))) (lq (bH (d2 (g_ false) (dV 15) (dC .non))) (bH (d2 C3 (dV 15) (d2 gG (dA bh (aC (dV 11) aN)) (dC (.int 1))))))) (aX (dC (.bl false))) bY) (fb (ky (bH (d2 (g_ true) (dV 15) (dC .non))) (bH (d2 Ig (dV 15) (dV 14)))) (aX (dC (.bl false))) bY))))))))))))))))
def jk{T:DT}{Z:aP}(h:T Z=ab false):fb T (aX (dC (.bl false))) bY Z=ab (.nx Z):=eI h rfl
def nE(n:Nat):kr (nI n) (nI n)=ab (.bl false):=(E2 n n).trans (by simp)
def FL(hw:Ways w)(a c:Cell){Z:aP}(h3:Z[3]? =some (fz (.int (w:Int))))(Mb:Z[12]? =some (fz (.int (bo a.1 c.1:Int))))(Mc:Z[13]? =some (fz (.int (bo a.2 c.2:Int)))):
 Az (bH (d2 lH (dV 3) (dC (.int 4)))) (d2 cy (dV 12) (dV 13)) (dA qd (aC (dV 12) (aC (dV 13) aN))) Z=ab (nI (gd w a c)):=by
 rcases hw with rfl | rfl
 ·refine(xY (p:=true) (cZ ((aB (x:= .int 4) (y:= .int 4) (bu h3) rfl).trans rfl))).trans ((UD rfl).trans ((aB (bu Mb) (bu Mc)).trans ?_));show ab (D.int _)=ab (D.int ((bo a.1 c.1+bo a.2 c.2:Nat):Int));rw[Int.natCast_add]
 ·refine(xY (p:=false) (cZ ((aB (x:= .int 8) (y:= .int 4) (bu h3) rfl).trans rfl))).trans ((UE PH).trans ((cS (aI (bu Mb) (aI (bu Mc) rfl))).trans ?_));show ab (D.int (if (bo a.2 c.2:Int)>(bo a.1 c.1:Int) then(bo a.2 c.2:Int) else(bo a.1 c.1:Int)))=ab (D.int ((max (bo a.1 c.1) (bo a.2 c.2):Nat):Int));congr 2;split<;>omega
def Dk(ns:List Int)(hg:Brd bd W)(hs:bd.length*W<64)(hE:∀r∈bd,Fm r)(hw:Ways w)(hf:NumF bd W w f)(ha:On bd.length W a)(ht:On bd.length W t)(hc:On bd.length W c):
 Jb (zS ns bd W w f a t (fz (cD c)) none none none none none none none)=ab (.nx (zS ns bd W w f a t none none none none none none none none)):=by
 obtain⟨n1,d1,e1⟩:=fX hg hs hw hf ha hc;obtain⟨n2,M7,e2⟩:=fX hg hs hw hf hc ha;cases (M7.symm Ad.symm).one d1;obtain⟨n3,d3,e3⟩:=fX hg hs hw hf ha ht;obtain⟨n4,d4,e4⟩:=fX hg hs hw hf ht hc;obtain⟨n5,d5,e5⟩:=ue hg hs hw hf ha hc;obtain⟨r6,d6,e6⟩:=ua hg hw ha hc;have hz:(n1=0↔r6=true):=by
  rw[d1.zero,d6,<-hf.cn hw ha hc];exact eq_comm
 have Oj:n1<=n3+n4:=d1.of (d3.1.trans d4.1);have hle:n1<=n5:=d1.of (d5.1.sub (Kz hw));have heq:w=4->n1=n5:=λe=>by subst e;exact d1.one d5
 obtain⟨n7,d7,e7⟩:∃n,Dr (ES W w (lets bd W [97,98,99,102])) a c n/\aG [brd bd, .int (w:Int),eA,cD a,cD c]=ab (nI n):=by
  have j3:∀y x,Nx bd.length W w y x->ES W w (lets bd W [97,98,99,102]) y x:=λy x h=>⟨ck.mpr ⟨h.1,iQ hg hE h.1⟩,ck.mpr ⟨h.2.1,iQ hg hE h.2.1⟩,h.2.2⟩
  rcases j9 hg hs hw (ls:=[97,98,99,102]) (by decide) (by decide) ha hc (iQ hg hE ha) with⟨n,h1,h2⟩ | ⟨h1,_⟩
  ·exact⟨n,h1,h2⟩
  ·exact UK ((AU hw ha hc).1.sub j3) (h1 _)
 have h7:n7=gd w a c:=Rj (d7.of ((AU hw ha hc).1.sub λy x h=>⟨ck.mpr ⟨h.1,iQ hg hE h.1⟩,ck.mpr ⟨h.2.1,iQ hg hE h.2.1⟩,h.2.2⟩)) (qL hw (d7.1.sub AL));subst h7;have HD:=Gz hg ha;have o1:=j9 hg hs hw (ls:=[lt bd a]) (λc hc=>by cases PQ.mp hc;exact HD) (by simp) ha hc (PQ.mpr rfl);have o2:=j9 hg hs hw (ls:=[lt bd a,98]) (λc hc=>by
  have:c=lt bd a\/c=98:=by simpa using hc
  rcases this with rfl | rfl
  ·exact HD
  ·decide) (by simp) ha hc (Pa ..)
 have Fg:∀y x,ES W w (lets bd W [lt bd a]) y x->ES W w (lets bd W [lt bd a,98]) y x:=λy x h=>by
  have up:∀z,z∈lets bd W [lt bd a]->z∈lets bd W [lt bd a,98]:=λz hz=>by
   obtain⟨h1,h2⟩:=ck.mp hz;exact ck.mpr ⟨h1,by rw[PQ.mp h2];exact Pa ..⟩
  exact⟨up y h.1,up x h.2.1,h.2.2⟩
 obtain⟨row,more,so,e8,e9,M8,g1,g2,g3⟩:∃row more so:D,mj [brd bd, .int (w:Int),cD a,cD c]=ab row/\aG [brd bd, .int (w:Int), .lst [sg (lt bd a)],cD a,cD c]=ab so/\aG [brd bd, .int (w:Int), .lst [sg (lt bd a), .str "b"],cD a,cD c]=ab more/\
  (∀Z:aP,Z[11]? =some (fz row)->(Az (bH (d2 (g_ false) (dV 11) (dC .non))) (dC .non) (d2 gG (dA bh (aC (dV 11) aN)) (dC (.int 1))) Z>>=λy=>kr so y)=ab (.bl false))/\
  (∀Z:aP,Z[11]? =some (fz row)->Z[15]? =some (fz more)->ky (bH (d2 (g_ true) (dV 11) (dC .non))) (lq (bH (d2 (g_ false) (dV 15) (dC .non))) (bH (d2 C3 (dV 15) (d2 gG (dA bh (aC (dV 11) aN)) (dC (.int 1)))))) Z=ab false)/\
  (∀Z:aP,Z[14]? =some (fz (nI (gd w a c)))->Z[15]? =some (fz more)->ky (bH (d2 (g_ true) (dV 15) (dC .non))) (bH (d2 Ig (dV 15) (dV 14))) Z=ab false):=by
  have IW:∀{p:List Cell}{Z:aP},1<=p.length->Z[11]? =some (fz (cL p))->d2 gG (dA bh (aC (dV 11) aN)) (dC (.int 1)) Z=ab (nI (p.length - 1)):=λ{p Z} hp h=>by
   refine(aB (x:= .int (p.length:Int)) (y:= .int 1) ((cS (aI (bu h) rfl)).trans (Gy p)) rfl).trans ?_;show ab (D.int ((p.length:Int) - 1))=ab (D.int ((p.length - 1:Nat):Int));rw[Int.natCast_sub hp];rfl
  have last:∀{more:D},(∃n,more=nI n/\gd w a c<=n)\/more= .non->∀Z:aP,Z[14]? =some (fz (nI (gd w a c)))->Z[15]? =some (fz more)->ky (bH (d2 (g_ true) (dV 15) (dC .non))) (bH (d2 Ig (dV 15) (dV 14))) Z=ab false:=λhm Z Nh FN=>by
   rcases hm with⟨n,rfl,hn⟩ | rfl
   ·refine wq (p:=true) (q:=false) (cZ ((aB (x:=nI n) (y:= .non) (bu FN) rfl).trans rfl)) (cZ ((aB (bu FN) (bu Nh)).trans ?_));show ab (D.bl (decide ((n:Int)<(gd w a c:Int))))=_;rw[UH (by omega)]
   ·exact wo (cZ ((aB (x:= .non) (y:= .non) (bu FN) rfl).trans rfl))
  rcases Eu hg hw ha hc with⟨p,hp,wG,_,ew⟩ | ⟨hn,ew⟩
  ·have FT:=(GQ hw ha).mp (Hy hw ha hc hp wG);have IQ:=hp.pos;rcases o1 with⟨n,h1,h2⟩ | ⟨h1,_⟩
   ·cases h1.one FT;rcases o2 with⟨m,h3,h4⟩ | ⟨h3,_⟩
    ·have K8:m<=p.length - 1:=h3.of (FT.1.sub Fg);refine⟨cL p,nI m,nI (p.length - 1),ew,h2,h4,λZ C7=>?_,λZ C7 FN=>?_,last (.inl ⟨m,rfl,qL hw (h3.1.sub AL)⟩)⟩
     ·rw[show Az (bH (d2 (g_ false) (dV 11) (dC .non))) (dC .non) (d2 gG (dA bh (aC (dV 11) aN)) (dC (.int 1))) Z=ab (nI (p.length - 1)) from(xY (p:=false) (cZ ((aB (x:=cL p) (y:= .non) (bu C7) rfl).trans rfl))).trans (IW IQ C7)];exact nE _
     ·refine wq (p:=true) (q:=false) (cZ ((aB (x:=cL p) (y:= .non) (bu C7) rfl).trans rfl)) (xZ (p:=false) (q:=false) (cZ ((aB (x:=nI m) (y:= .non) (bu FN) rfl).trans rfl)) (cZ ((aB (bu FN) (IW IQ C7)).trans ((Bi m (p.length - 1)).trans ?_))));rw[UH (by omega)]
    ·exact UK (FT.1.sub Fg) (h3 _)
   ·exact UK FT.1 (h1 _)
  ·rcases o1 with⟨n,h1,h2⟩ | ⟨h1,h2⟩
   ·exact UK ⟨n,(xh hw ha).mpr h1.1⟩ hn
   ·obtain⟨more,hm,h4⟩:∃more:D,((∃n,more=nI n/\gd w a c<=n)\/more= .non)/\aG [brd bd, .int (w:Int), .lst [sg (lt bd a), .str "b"],cD a,cD c]=ab more:=by
     rcases o2 with⟨m,h3,h4⟩ | ⟨h3,h4⟩
     ·exact⟨nI m, .inl ⟨m,rfl,qL hw (h3.1.sub AL)⟩,h4⟩
     ·exact⟨.non, .inr rfl,h4⟩
    refine⟨.non,more, .non,ew,h2,h4,λZ C7=>?_,λZ C7 FN=>wo (cZ ((aB (x:= .non) (y:= .non) (bu C7) rfl).trans rfl)),last hm⟩;rw[show Az (bH (d2 (g_ false) (dV 11) (dC .non))) (dC .non) (d2 gG (dA bh (aC (dV 11) aN)) (dC (.int 1))) Z=ab .non from(xY (p:=true) (cZ ((aB (x:= .non) (y:= .non) (bu C7) rfl).trans rfl))).trans rfl];rfl
 have q1:kr (.bl (decide (n1=0))) (.bl r6)=ab (.bl false):=by
  rw[Ji];cases r6 with
  |true=>rw[UG (hz.mpr rfl)];rfl
  |false=>rw[UH λe=>PH (hz.mp e)];rfl
 refine(br (Z':=zS ns bd W w f a t (fz (cD c)) (fz (nI n1)) (fz (nI n5)) (fz row) (fz (.int (bo a.1 c.1:Int))) (fz (.int (bo a.2 c.2:Int))) (fz (nI (gd w a c))) (fz more)) ?_).trans rfl;refine ai (Z':=zS ns bd W w f a t (fz (cD c)) (fz (nI n1)) none none none none none none) ((aF ((aj (ds:=[brd bd, .int (w:Int),cD a,cD c]) rfl rfl).trans e1)).trans rfl) ?_;refine ai (jk (cZ ((aB (x:=nI n1) (y:=nI n1) rfl ((aj (ds:=[brd bd, .int (w:Int),cD c,cD a]) rfl rfl).trans e2)).trans (nE n1)))) ?_;refine ai (jk (cZ ((aB (x:= .bl (decide (n1=0))) (y:= .bl r6) ((aB (x:=nI n1) (y:= .int 0) rfl rfl).trans ?_) ((aj (ds:=[brd bd, .int (w:Int),cD a,cD c]) rfl rfl).trans e6)).trans q1))) ?_
 ·show ab (D.bl ((n1:Int)==((0:Nat):Int)))=_;rw[jQ];rfl
 refine ai (jk (cZ ((aB (x:=nI n1) (y:= .int ((n3+n4:Nat):Int)) rfl ((aB (x:=nI n3) (y:=nI n4) ((aj (ds:=[brd bd, .int (w:Int),cD a,cD t]) rfl rfl).trans e3) ((aj (ds:=[brd bd, .int (w:Int),cD t,cD c]) rfl rfl).trans e4)).trans ?_)).trans ((Bi n1 (n3+n4)).trans (by rw[UH (by omega)]))))) ?_
 ·show ab (D.int ((n3:Int)+(n4:Int)))=_;rw[Int.natCast_add]
 refine ai (Z':=zS ns bd W w f a t (fz (cD c)) (fz (nI n1)) (fz (nI n5)) none none none none none) ((aF ((aj (ds:=[brd bd, .int (w:Int),nI (f a),nI (f c)]) (aI rfl (aI rfl (aI (Bx ha rfl rfl) (aI (Bx hc rfl rfl) rfl)))) rfl).trans e5)).trans rfl) ?_;refine ai (jk (xZ (p:=false) (q:=false) (cZ ((aB (x:=nI n1) (y:=nI n5) rfl rfl).trans ((Bi n1 n5).trans (by rw[UH (by omega)])))) ?_)) ?_
 ·by_cases h4:w=4
  ·refine wq (p:=true) (q:=false) (cZ ((aB (x:= .int (w:Int)) (y:= .int 4) rfl rfl).trans (by rw[h4];rfl))) (cZ ((aB (x:=nI n1) (y:=nI n5) rfl rfl).trans ?_));rw[heq h4];exact nE n5
  ·refine wo (cZ ((aB (x:= .int (w:Int)) (y:= .int 4) rfl rfl).trans ?_));have:w=8:=hw.resolve_left h4;rw[this];rfl
 refine ai (Z':=zS ns bd W w f a t (fz (cD c)) (fz (nI n1)) (fz (nI n5)) (fz row) none none none none) ((aF ((aj (ds:=[brd bd, .int (w:Int),cD a,cD c]) rfl rfl).trans e8)).trans rfl) ?_;refine ai (jk (cZ ?_)) ?_
 ·show (aq 5 aG (aC (dV 1) (aC (dV 3) (aC (dV 6) (aC (dV 4) (aC (dV 8) aN))))) _>>=λx=>_>>=λy=>kr x y)=_;rw[show aq 5 aG (aC (dV 1) (aC (dV 3) (aC (dV 6) (aC (dV 4) (aC (dV 8) aN))))) (zS ns bd W w f a t (fz (cD c)) (fz (nI n1)) (fz (nI n5)) (fz row) none none none none)=ab so from(aj (ds:=[brd bd, .int (w:Int), .lst [sg (lt bd a)],cD a,cD c]) rfl rfl).trans e9];exact g1 _ rfl
 refine ai (Z':=zS ns bd W w f a t (fz (cD c)) (fz (nI n1)) (fz (nI n5)) (fz row) (fz (.int (bo a.1 c.1:Int))) none none none) ((aF ((cS (xs:=[.int ((a.1:Int) - (c.1:Int))]) rfl).trans (nv a.1 c.1))).trans rfl) ?_;refine ai (Z':=zS ns bd W w f a t (fz (cD c)) (fz (nI n1)) (fz (nI n5)) (fz row) (fz (.int (bo a.1 c.1:Int))) (fz (.int (bo a.2 c.2:Int))) none none) ((aF ((cS (xs:=[.int ((a.2:Int) - (c.2:Int))]) rfl).trans (nv a.2 c.2))).trans rfl) ?_;refine ai (Z':=zS ns bd W w f a t (fz (cD c)) (fz (nI n1)) (fz (nI n5)) (fz row) (fz (.int (bo a.1 c.1:Int))) (fz (.int (bo a.2 c.2:Int))) (fz (nI (gd w a c))) none) ((aF (FL hw a c rfl rfl rfl)).trans rfl) ?_;refine ai (jk (cZ ((aB (x:=nI (gd w a c)) (y:=nI (gd w a c)) ((aj (ds:=[brd bd, .int (w:Int),eA,cD a,cD c]) rfl rfl).trans e7) rfl).trans (nE _)))) ?_;refine ai (Z':=zS ns bd W w f a t (fz (cD c)) (fz (nI n1)) (fz (nI n5)) (fz row) (fz (.int (bo a.1 c.1:Int))) (fz (.int (bo a.2 c.2:Int))) (fz (nI (gd w a c))) (fz more)) ((aF ((aj (ds:=[brd bd, .int (w:Int), .lst [sg (lt bd a), .str "b"],cD a,cD c]) rfl rfl).trans M8)).trans rfl) ?_;refine ai (jk (g2 _ rfl rfl)) (jk (g3 _ rfl rfl))
def BF:DS:=(b_ [3,4,5,6,7,8,9,10,11,12,13,14,15] (ay (bg 4 (aq 3 bJ (aC (dV 0) (aC (d2 cy (dC (.int 60)) (dV 3)) (aC (dV 1) aN))))) (ay (bg 5 (aq 3 bJ (aC (dV 0) (aC (d2 cy (dC (.int 80)) (dV 3)) (aC (dV 1) aN))))) (ay (bg 6 (dA eF (aC (aq 2 dS (aC (dV 1) (aC (dV 4) aN))) aN))) (ay (bg 7 (aq 2 dU (aC (dV 1) (aC (dV 3) aN)))) (dq (putN 8) (de (aq 1 cT (aC (dV 1) aN))) Jb))))))
def vb(ns:List Int)(hl:ns.length<=63)(hG:Good bd W)(hs:bd.length*W<64)(hE:∀r∈bd,Fm r)(hw:Ways w):
 BF [fz (.scr ns),fz (brd bd),fz eA,fz (.int (w:Int)),none,none,none,none,none,none,none,none,none,none,none,none]=ab (.nx [fz (.scr ns),fz (brd bd),fz eA,none,none,none,none,none,none,none,none,none,none,none,none,none]):=by
 have hg:=hG.brd;obtain⟨f,hf,en⟩:=sD hg hs hw;obtain⟨a,ha,ea⟩:=qE ns hl hg (60+w);obtain⟨t,ht,et⟩:=qE ns hl hg (80+w);have es:dS [brd bd,cD a]=ab (sg (lt bd a)):=ej hg ha;refine(br (Z':=zS ns bd W w f a t none none none none none none none none) ?_).trans rfl;refine ai (Z':=[fz (.scr ns),fz (brd bd),fz eA,fz (.int (w:Int)),fz (cD a),none,none,none,none,none,none,none,none,none,none,none]) ((aF ((aj (ds:=[.scr ns, .int ((60+w:Nat):Int),brd bd]) rfl rfl).trans ea)).trans rfl) ?_;refine ai (Z':=[fz (.scr ns),fz (brd bd),fz eA,fz (.int (w:Int)),fz (cD a),fz (cD t),none,none,none,none,none,none,none,none,none,none]) ((aF ((aj (ds:=[.scr ns, .int ((80+w:Nat):Int),brd bd]) rfl rfl).trans et)).trans rfl) ?_;refine ai (Z':=[fz (.scr ns),fz (brd bd),fz eA,fz (.int (w:Int)),fz (cD a),fz (cD t),fz (.lst [sg (lt bd a)]),none,none,none,none,none,none,none,none,none]) ((aF ((cS (xs:=[sg (lt bd a)]) (aI ((aj (ds:=[brd bd,cD a]) rfl rfl).trans es) rfl)).trans rfl)).trans rfl) ?_;refine ai (Z':=zS ns bd W w f a t none none none none none none none none) ((aF ((aj (ds:=[brd bd, .int (w:Int)]) rfl rfl).trans en)).trans rfl) ?_;exact eS (wM ((aj (ds:=[brd bd]) rfl rfl).trans (qc hg))) (qJ cD _ _ λc hc=>⟨_,rfl,Dk ns hg hs hE hw hf ha ht (aJ.mp hc)⟩)
def Be(ns:List Int)(hl:ns.length<=63):jx [.scr ns]=ab (.bl true):=by
 obtain⟨bd,W,hG,hE,l1,l2,eb⟩:=wa ns hl 0 3 (by decide) (by decide);have hs:bd.length*W<64:=by have:=Q6 l1 l2;omega
 refine aV (ai (Z':=[fz (.scr ns),fz (brd bd),none,none,none,none,none,none,none,none,none,none,none,none,none,none]) ((aF ((aj (ds:=[.scr ns, .int ((0:Nat):Int), .int ((3:Nat):Int)]) rfl rfl).trans eb)).trans rfl) (ai (Z':=[fz (.scr ns),fz (brd bd),fz eA,none,none,none,none,none,none,none,none,none,none,none,none,none]) rfl (ai (Z':=[fz (.scr ns),fz (brd bd),fz eA,none,none,none,none,none,none,none,none,none,none,none,none,none]) ?_ rfl)));refine cX (eS (ds:=[D.int 4,D.int 8]) rfl ?_);exact(cM (body:=BF) rfl (vb (w:=4) ns hl hG hs hE (.inl rfl))).trans ((cM (body:=BF) rfl (vb (w:=8) ns hl hG hs hE (.inr rfl))).trans rfl)
end
end K1
namespace K1
open PySem PySem.Spec L2 L3
open PyProof.Rows hiding St
def DF(K:Ph)(x:Str)(s:Stmt):Prop:=∃(f:Addr) (oc:Value) (od an:Option Addr) (sl:Array (Option Value)) (kV dc pm cd ct:Value),Qa K PK x=some (some (.ref f))/\K.lookup f=some ⟨oc,od, .func (QF x x (ei s) (bQ s) (ak s) .none kV dc pm an cd ct),sl⟩/\Rn K cd x=true/\QO K (.ref f)=true
def DF.mk{K:Ph}{x:Str}{s:Stmt}{f:Addr}{oc:Value}{od an:Option Addr}{sl:Array (Option Value)}{kV dc pm cd ct:Value}(a:Qa K PK x=some (some (.ref f)))(l:K.lookup f=some ⟨oc,od, .func (QF x x (ei s) (bQ s) (ak s) .none kV dc pm an cd ct),sl⟩)(c:Rn K cd x=true)(k:QO K (.ref f)=true):DF K x s:=⟨f,oc,od,an,sl,kV,dc,pm,cd,ct,a,l,c,k⟩
def DF.at{K:Ph}{x:Str}{s:Stmt}{h:Heap}{mg:Str->Option Value}(X:K.In h)(G:h.Ns PK mg)(d:DF K x s):∃f,bj K mg x s f:=by
 obtain⟨f,oc,od,an,sl,kV,dc,pm,cd,ct,a,l,c,k⟩:=d;exact⟨f,R0 X G a,_,AO (st:=s) l c k⟩
def all_mk{P:PX}{w:World}{K:Ph}{h:Heap}{mg:Str->Option Value}{fa:Addr}(X:K.In h)(G:h.Ns PK mg)(NH:mg "law"=some (.ref fa))
 {j2:Addr}{w9 nS:Option Addr}{xA:Array (Option Value)}{w6 oG n0 pz jZ nZ:Value}
 {z3:Tok}
 {vK:Tok}
 {pP:Tok}
 (d_is_whole:DF K "is_whole" ki)
 (d_is_letter:DF K "is_letter" je)
 (d_cells_of_row:DF K "cells_of_row" dI)
 (d_letter_of:DF K "letter_of" jg)
 (d_are_next:DF K "are_next" kh)
 (d_keyed:DF K "keyed" tE)
 (d_numbers_of:DF K "numbers_of" iz)
 (d_distances:DF K "distances" jd)
 (d_law_cell:DF K "_law_cell" kj)
 (d_law_cells:DF K "_law_cells" gh)
 (d_law_sign:DF K "_law_sign" kl)
 (d_is_row:DF K "is_row" lg)
 (d_is_cell:DF K "is_cell" l6)
 (d_need_letters:DF K "need_letters" dJ)
 (d_need_ways:DF K "need_ways" ji)
 (d_all_cells:DF K "all_cells" jc)
 (d_next_cells:DF K "next_cells" iw)
 (d_need_number:DF K "need_number" gu)
 (d_law_drawn:DF K "_law_drawn" jf)
 (d_is_board:DF K "is_board" fR)
 (d_need_cell:DF K "need_cell" jh)
 (d_like_cells:DF K "like_cells" fc)
 (d_near_numbers:DF K "near_numbers" fS)
 (d_near_among:DF K "near_among" fe)
 (d_law_board:DF K "_law_board" gg)
 (d_law_cell_in:DF K "_law_cell_in" gr)
 (d_need_board:DF K "need_board" iu)
 (d_steps_back:DF K "steps_back" iA)
 (d_need_two_cells:DF K "need_two_cells" eg)
 (d_all_patches:DF K "all_patches" gq)
 (d_steps_over:DF K "steps_over" fg)
 (d_numbered:DF K "numbered" iy)
 (d_are_one:DF K "are_one" lZ)
 (d_way:DF K "way" Cb)
 (d_fewest_changes:DF K "fewest_changes" d_)
 (d_map_of:DF K "map_of" pG)
 (d_borders:DF K "borders" l5)
 (a_law_k75:Qa K PK "law"=some (some (.ref j2)))(l_law_k75:K.lookup j2=some ⟨w6,w9, .func (QF "law" "law" (ei aM) (bQ aM) (ak aM) .none oG n0 pz nS jZ nZ),xA⟩)(c_law_k75:Rn K jZ "law"=true)(k_law_k75:QO K (.ref j2)=true)
 (z_len:Qa K PK "len"=some none)
 (z_isinstance:Qa K PK "isinstance"=some none)
 (z_all:Qa K PK "all"=some none)
 (z_abs:Qa K PK "abs"=some none)
 (z_max:Qa K PK "max"=some none)
 (z_min:Qa K PK "min"=some none)
 (z_range:Qa K PK "range"=some none)
 (z_str:Qa K PK "str"=some none)
 (z_int:Qa K PK "int"=some none)
 (z_bool:Qa K PK "bool"=some none)
 (z_tuple:Qa K PK "tuple"=some none)
 (z_list:Qa K PK "list"=some none)
 (z_sorted:Qa K PK "sorted"=some none)
 (z_enumerate:Qa K PK "enumerate"=some none)
 (y_LETTERS:Qa K PK "LETTERS"=some (some (.str "abcdef" z3)))
 (y_MOST_ROWS:Qa K PK "MOST_ROWS"=some (some (.int 8 vK)))
 (y_MOST_COLUMNS:Qa K PK "MOST_COLUMNS"=some (some (.int 8 pP))):
 ∃(cv:Nat->Value) (fd:Q8),(∀(s:Pf) (u:Value),Ut s fd ⟨[u],[]⟩ [("_law_script",u)])/\∀base:Heap,K.In base->base.Ns PK mg->FnOk P w K mg base (qw P w cv) 8 fa fd ["_law_script"] (HG K cv 1 jx):=by
 have ea:=NH.symm.trans (R0 X G a_law_k75);cases ea;refine⟨λ_=> .none,QF "law" "law" (ei aM) (bQ aM) (ak aM) .none oG n0 pz nS jZ nZ,λs v=> .of_eq rfl,λbase KB GB=>?_⟩;have B:Bl K mg base (λ_=> .none) (λ_=>PK) PK:=⟨P4 X G z_len,P4 X G z_isinstance,P4 X G z_all,P4 X G z_abs,P4 X G z_max,P4 X G z_min,P4 X G z_range,P4 X G z_str,P4 X G z_int,P4 X G z_bool,P4 X G z_tuple,P4 X G z_list,P4 X G z_sorted,P4 X G z_enumerate,⟨_,R0 X G y_LETTERS⟩,⟨_,R0 X G y_MOST_ROWS⟩,⟨_,R0 X G y_MOST_COLUMNS⟩⟩
 have j8:=(DF.at X G d_is_whole).elim λ_ t=>u6 (P:=P) (w:=w) B t;have mE:=(DF.at X G d_is_letter).elim λ_ t=>sJ (P:=P) (w:=w) B t;have iV:=(DF.at X G d_cells_of_row).elim λ_ t=>ng (P:=P) (w:=w) B t;have mG:=(DF.at X G d_letter_of).elim λ_ t=>sO (P:=P) (w:=w) B t;have wV:=(DF.at X G d_are_next).elim λ_ t=>u4 (P:=P) (w:=w) B t;have yA:=(DF.at X G d_keyed).elim λ_ t=>BA (P:=P) (w:=w) B t;have il:=(DF.at X G d_numbers_of).elim λ_ t=>ql (P:=P) (w:=w) B t;have iW:=(DF.at X G d_distances).elim λ_ t=>sI (P:=P) (w:=w) B t;have wX:=(DF.at X G d_law_cell).elim λ_ t=>u7 (P:=P) (w:=w) B t;have uY:=(DF.at X G d_law_cells).elim λ_ t=>sM (P:=P) (w:=w) B t;have wY:=(DF.at X G d_law_sign).elim λ_ t=>u9 (P:=P) (w:=w) B t;have By:=(DF.at X G d_is_row).elim λ_ t=>zG (P:=P) (w:=w) B mE t;have zE:=(DF.at X G d_is_cell).elim λ_ t=>xb (P:=P) (w:=w) B j8 t;have oZ:=(DF.at X G d_need_letters).elim λ_ t=>nj (P:=P) (w:=w) B mE t;have f_:=(DF.at X G d_need_ways).elim λ_ t=>sQ (P:=P) (w:=w) B j8 t;have iU:=(DF.at X G d_all_cells).elim λ_ t=>sH (P:=P) (w:=w) B iV t;have ik:=(DF.at X G d_next_cells).elim λ_ t=>qk (P:=P) (w:=w) B wV t;have qg:=(DF.at X G d_need_number).elim λ_ t=>o5 (P:=P) (w:=w) B j8 t;have mF:=(DF.at X G d_law_drawn).elim λ_ t=>sN (P:=P) (w:=w) B wX t;have wW:=(DF.at X G d_is_board).elim λ_ t=>u5 (P:=P) (w:=w) B By t;have mH:=(DF.at X G d_need_cell).elim λ_ t=>sP (P:=P) (w:=w) B zE t;have sE:=(DF.at X G d_like_cells).elim λ_ t=>qh (P:=P) (w:=w) B mG ik t;have iX:=(DF.at X G d_near_numbers).elim λ_ t=>nh (P:=P) (w:=w) B il iU ik t;have sF:=(DF.at X G d_near_among).elim λ_ t=>qi (P:=P) (w:=w) B yA ik t;have uX:=(DF.at X G d_law_board).elim λ_ t=>sL (P:=P) (w:=w) B mF t;have qf:=(DF.at X G d_law_cell_in).elim λ_ t=>o4 (P:=P) (w:=w) B mF t;have eZ:=(DF.at X G d_need_board).elim λ_ t=>qj (P:=P) (w:=w) B wW t;have ip:=(DF.at X G d_steps_back).elim λ_ t=>qm (P:=P) (w:=w) B sE t;have d8:=(DF.at X G d_need_two_cells).elim λ_ t=>kT (P:=P) (w:=w) B eZ f_ mH t;have gk:=(DF.at X G d_all_patches).elim λ_ t=>o3 (P:=P) (w:=w) B iU ip yA t;have sG:=(DF.at X G d_steps_over).elim λ_ t=>qo (P:=P) (w:=w) B eZ f_ oZ mH sF iW iU mG t;have wZ:=(DF.at X G d_numbered).elim λ_ t=>u_ (P:=P) (w:=w) B eZ f_ il gk iV t;have zC:=(DF.at X G d_are_one).elim λ_ t=>w_ (P:=P) (w:=w) B d8 ip t;have Jo:=(DF.at X G d_way).elim λ_ t=>GD (P:=P) (w:=w) B d8 ip t;have lO:=(DF.at X G d_fewest_changes).elim λ_ t=>kS (P:=P) (w:=w) B d8 gk il iW iX t;have Bz:=(DF.at X G d_map_of).elim λ_ t=>zH (P:=P) (w:=w) B eZ f_ iX gk t;have zD:=(DF.at X G d_borders).elim λ_ t=>xa (P:=P) (w:=w) B Bz qg iW t;exact uZ B uX qf wZ uY wY lO zD Jo sG zC (AO (st:=aM) l_law_k75 c_law_k75 k_law_k75)
end K1
open PySem PySem.W PyProof.Rows
theorem PySem.Challenge.cw_cellpatches_k75_whole_roads_holds : PySem.Challenge.rw_cellpatches_k75_whole_roads.Holds := by
 w_on;o_law
 refine holds_open (q:=K1.vN) (loose:=[]) (Xt:=λs=>xlAt K1.vN [] s&&recOk (RowW.records (OpenRow.toRowW _)) s) (XP:=XL K1.vN []) (Yf:=Hook.obs (kHook K1.oz K1.oy (λ_=>by kernel_rfl))) (Ya:=Hook.val (kHook K1.oz K1.oy (λ_=>by kernel_rfl))) (YP:=Hook.says (kHook K1.oz K1.oy (λ_=>by kernel_rfl))) (N:=5130) ?hl (Hook.of (kHook K1.oz K1.oy (λ_=>by kernel_rfl))) (Hook.keeps (kHook K1.oz K1.oy (λ_=>by kernel_rfl))) (λs e=>xl_of s (QI.mp e).1) XL.keeps (by rfl) (by rfl) (by rfl) (λs e=>recFacts_of (QI.mp e).2) (by rfl) (by first | assumption | decide+kernel) (by decide+kernel) ⟨rfl,rfl,rfl,rfl,rfl,by decide+kernel⟩ ?hw ?hc
 case hl=>exact K1.IG
 (case hw=>w_witness2)
 k_fill
 refine L3.JX (l:=PySem.Challenge.rw_cellpatches_k75_whole_roads) (k:=8) (n:=63) (x:="_law_script") (g:=K1.jx) rfl (by decide) rfl ⟨rfl,by decide,by decide⟩ (λw h Y=>PySem.W.kIn_of Y) K1.Be ?F
 case F=>
  intro w mg fa h KX G F7;refine' K1.all_mk KX G F7 ?d_is_whole ?d_is_letter ?d_cells_of_row ?d_letter_of ?d_are_next ?d_keyed ?d_numbers_of ?d_distances ?d_law_cell ?d_law_cells ?d_law_sign ?d_is_row ?d_is_cell ?d_need_letters ?d_need_ways ?d_all_cells ?d_next_cells ?d_need_number ?d_law_drawn ?d_is_board ?d_need_cell ?d_like_cells ?d_near_numbers ?d_near_among ?d_law_board ?d_law_cell_in ?d_need_board ?d_steps_back ?d_need_two_cells ?d_all_patches ?d_steps_over ?d_numbered ?d_are_one ?d_way ?d_fewest_changes ?d_map_of ?d_borders ?a_law_k75 ?l_law_k75 ?c_law_k75 ?k_law_k75 ?z_len ?z_isinstance ?z_all ?z_abs ?z_max ?z_min ?z_range ?z_str ?z_int ?z_bool ?z_tuple ?z_list ?z_sorted ?z_enumerate ?y_LETTERS ?y_MOST_ROWS ?y_MOST_COLUMNS
  any_goals (refine' K1.DF.mk ?a ?l ?c ?k;(case a=>k_is);(case l=>k_is);(case c=>k_is);(case k=>k_is))
  any_goals first | k_is | kit_is | k_exc | rfl
