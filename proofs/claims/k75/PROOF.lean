import PyProof.Rows.All
import Wide.All
import OpenK.AllK
import Wide.FinOn
import Lean
import PyProof.EqAt
import PyProof.EqKinds
import PyProof.TupleCall
import KE.KTryMore
import KE.KRevIter
import KE.KSortTup
import KE.KDictSum
import KE.KRevSl
import PyProof.Rows.TupDisplay
import PyProof.EnumFor
import PyProof.EnumMake
import PyProof.EnumStmt
import PyProof.DictUpdate
import PyProof.AttrMissSeq
import KE.KDictOf
import PyProof.ListStr
import PyProof.SetScanFacts
import PyProof.Rows.SetFrom
import PyProof.TupleKey
import KE.LcSums
import PyProof.ListRange
import PyProof.SeqI3
import KE.KItemsList
import PyProof.ZipIter
import PyProof.Draws
import PyProof.DictItems
import KE.KDictLaws
import PySem.Challenge.RW_cellpatches_k75_whole_roads
open List renaming mem_cons_of_mem->OU,mem_cons_self->OV,length_map->OW,getElem?_eq_getElem->OY,getElem?_eq_some_iff->OZ,getElem?_set_ne->O1,map_cons->O3,length_cons->O5,mem_cons->O6,size_toArray->O7,length_append->O8,getElem?_map->O_,getElem?_set_self->Pa,mem_map->Pd,mem_of_getElem?->Pj,all_eq_true->Pl,mem_singleton->Pp,mem_append->Pq,getD_eq_getElem?_getD->Pu,range->Px,map_append->Pz,map_map->PH,getElem?_append_left->PJ,mem_append_right->PO,replicate->PV,getElem?_append_right->PY,getElem?_cons_zero->PZ,nodup_cons->P1,nil_append->P2,nodup_append->P4,range'->P9,getElem?_cons_succ->Qa,mem_filter->Qd,pairwise_cons->Qg,append_nil->Qj,toArray->Ql,map_congr_left->Qn,lookup_cons->Qr,zip_cons_cons->Qs,length_nil->Qv,Nodup->Qw,getElem?_replicate->Qz,length_filter_le->QF,getElem?_concat_length->QG,flatMap_cons->QJ,pairwise_iff_getElem->QM,nodup_nil->QN,mem_range->QO,getElem_mem->QS,map_nil->QU,getLast?_cons_cons->QY,find?_cons->QZ,append_assoc->Q9,all_map->Rf,cons_append->Rh,mem_iff_getElem->Rk,mem_append_left->Rl,any_cons->Rn,all_cons->Ro,getElem_of_mem->Rq,getElem?_range->Rt,getElem?_eq_none_iff->RB,drop_eq_getElem_cons->RC,pairwise_map->RN,length_eq_zero_iff->RQ,range'_succ->RT,drop_length->RU,zip_append->R1,length_zip->R3,length_replicate->R4,getElem?_eq_none->R5,foldl_cons->R6,tail_cons->Sa,length_pos_iff->Se,filterMap_cons->Sf,sum_cons->Sq,set_cons_zero->Sr,set_cons_succ->Ss,length_range'->Su,getElem?_inj->Sy,map_flatMap->SG,any_eq_true->SH,mem_zipIdx_iff_getElem?->SR,of_mem_zip->SV,forIn_cons->SW,length_erase_of_mem->Ti,range_succ_eq_map->Tw,range_eq_range'->TH,pairwise_append->TJ,getElem?_mapIdx->TK,length_flatMap->TV,length->TX,mem_filterMap->T5,length_range->Ud,ext_getElem?->Ue
open PySem renaming wpAny_bind->OX,Shared->O0,wpAny_pure->Pb,sizeLine->Pe,starEach->Ph,mainGlobals->Pm,Program->Pw,compareOp->P6,behindInMarks->P8,Around->P_,wpAny_mono->Qf,bootBuiltins->Qi,sysModules->Qk,mem_of_lookup->Qm,wpAny_truthy_bool->Qo,wpAny_dictEntries->Qp,DictEntry->QA,wpAny_typeNameOfWhole_keyiter->QD,tupleKind->QE,wpAny_passesOwn->QK,foldedSetIterable->QP,FuncData->QT,sizeLine_eq->Q0,wpAny_typeNameOf_keyiter->Q2,backTo->Q4,tupleKind_room_in1->Q_,attributeBase->Ra,wpAny_call_entry->Rv,Keyword->Rw,binaryOp->Rx,wpAny_dictEpoch->RE,swapsWith->RF,keywordEach->RG,NameKind->RP,wpAny_newObj_type->RY,assignEach->RZ,wpAny_holding->R7,storedH->R8,wpAny_execs_nil->Sg,letOwnedTupleGo->Sh,swapsWithSole->SI,dictSetHashed->SJ,backToKw->SK,Paired->SO,wpAny_assign_Name->S1,wpAny_Call_method->S2,callerA->S3,noFill_tuple_add->Te,wpAny_specialOf->Tp,valueAt->Tq,size_of_entries->Tr,codeAny->Ts,PassesOwn->Tv,recursionLimit->TB,wpAny_comprehension_free->TM,pyNext->TN,entryOfKey->TQ,wpAny_callSpecial?_slot->TY,seq_tuple_add->TZ,notedBy->T1,call->T3,BindsTo->T6
open PySem.W renaming Frag->O2,mg_none_of->PF,nsIn->PR,kia_one->Qe,fnOf->Qq,keepIn->Qy,codeIn->Q5,mg_of->RJ,methodObj->Si,instObj->SD,lookIn->SM,kitOne->SN,cellsFrom_some->Ta,kitx_list->TC,kitx_dict->TF,plainGet->TR,OpenLaw->T4,findIn->T9
open PySem.Heap renaming get?_push_of_some->O4,lt_size->Pc,get?_push_size->Pt,SameBut->QV,get?_update_self->Rg,get?_none_of_le->TL
open Nat renaming le_refl->O9,lt_of_lt_of_le->Py,zero_le->PB,ne_of_lt->PL,le_trans->PM,lt_irrefl->Qb,le_of_lt->QI,mul_le_mul->QR,lt_trans->QW,le_antisymm->Q1,ne_of_gt->R9,zero_add->SF,lt_succ_self->SQ,mod_lt->Tn,div_div_eq_div_mul->Tz,mul_le_mul_right->TU,lt_of_le_of_lt->Ua,add_right_comm->Ub
open PySem.Data renaming fields->Pf,dict->Ru,cls->SS
open Option.some renaming inj->Pg
open Bool renaming false_ne_true->Pk,and_eq_true->PK,false_eq_true->P7,and_eq_true_iff->Qt,not_false->Sd,true_and->Sv,eq_iff_iff->S0,and_true->To
open PySem.PassesOwn renaming never->Pn
open Array renaming length_toList->Po,getElem?_toList->Rc,getElem?_eq_getElem->RA,append_assoc->Sm,isEmpty_iff->T7
open PySem.Value renaming ref->PQ,none->Qh,bool->RI,str->Tt,int->Tu,type->T2
open PySem.Heap.SameBut renaming update->PU,refl->Tc
open Ne renaming symm->PX
open PySem.Str renaming ofString->P5
open ForInStep renaming yield->Qc
open True renaming intro->Qu
open PySem.Paired renaming length->Qx
open False renaming elim->QB
open PySem.Obj renaming mapSeq->QC,data_mapDictKeys->Rm,isFreed_of_dict->Sj,data_mapFields->T_
open PySem.F renaming slot_dict_keyiterator_next->QH,args_tuple_add_2->Ry,plainAttrs_dict->RK,entry_tuple_add->RL,slot_tuple_add->RO,slot_dict_get->RS,slot_dict_setdefault->Sx,slot_dict_update->SU,args_dict_keyiterator_next_1->SX,plainAttrs_list->S6,args_dict_get_2->S7,entry_dict_keyiterator_next->S_,entry_dict_get->Tb
open PySem.Builtin.Str renaming occurrences->QL
open Option renaming isSome_iff_exists->QQ,isSome_map->So,map_eq_some_iff->Th
open PySem.Calls renaming spliced_cons->QX,callWith_builtin->Q6,evalArgs_plain->Rj,spliced_nil->RM,Name_function_global->SY
open PyProof.Rows renaming seqObj->Q3,callWith_type1->Q8,envOfC->RH,IntsAre->RV,kindOf->R_,AllBare->Sn,subscriptTail_builtinR->T8
open PUnit renaming unit->Q7
open PySem.Builtin.List renaming listTooLong->Rp
open Int.ofNat renaming inj->Rz
open PySem.Builtin.Dict renaming showsAll->RD,entriesForEmpty->Sb,updateFrom->Sz,mergeDict->SE
open Iff renaming rfl->RW
open PySem.Builtin.Dict_items renaming ownsTuple->RX
open List.Pairwise renaming imp->R0,nil->S8
open PySem.Builtin.Tuple renaming tupleHashOf->Sk
open Int renaming emod_lt_of_pos->Sw,emod_nonneg->S9
open Sum renaming inl->SA,inr->S5
open Classical renaming not_forall->Td,not_imp->Tx
open PySem.SeqAt.EqAt renaming str_int->Tf,int_str->Tg
open Prod renaming ext->Tj
open PySem.NameKind renaming free->Uc
open Function renaming comp->Ug
set_option maxHeartbeats 0
set_option Elab.async false
set_option linter.all false
set_option maxRecDepth 100000
namespace L2
open PySem
def ei(s:Stmt):Arguments:=match s with
 | .FunctionDef _ a _ _ _ _ _ _ _ _=>a
 |_=>{posonlyargs:=[],args:=[],vararg:=none,kwonlyargs:=[],kw_defaults:=[],kwarg:=none,defaults:=[]}
def bQ(s:Stmt):List Stmt:=match s with
 | .FunctionDef _ _ b _ _ _ _ _ _ _=>b
 |_=>[]
def ak(s:Stmt):Scope:=match s with
 | .FunctionDef _ _ _ _ _ _ sc _ _ _=>sc
 |_=>{kind:= .function,names:=[],isGenerator:=false,isCoroutine:=false}
end L2
namespace K1
open PySem PySem.Spec
def top(i:Nat):Stmt:=PySem.Challenge.pw_cellpatches_k75_whole_roads.main.body.getD i (.Pass ⟨0,0,0,0⟩)
abbrev hS(s:String)(t:Tok):Value:= .str (P5 s) t
abbrev hE(P:Params)(s:String)(t:Tok)(v:Value):QA:={hash:=PyData.keyHash P (P5 s),key:=hS s t,val:=v}
abbrev hT(xs:Array Value):Obj:={cls:= .type "tuple",data:=Data.seq xs}
abbrev hF(s:String)(t:Stmt)(m:Value)(c:Addr):Obj:={cls:= .type "function",data:=Data.func {name:=P5 s,qualname:=P5 s,params:=L2.ei t,body:=FuncBody.stmts (L2.bQ t),scope:=L2.ak t,globals:=3,closure:=[],defaults:= .none,kwdefaults:= .none,pyModule:=m,code:= .ref c} }
def oa:Params->O2:=fun P=>(nat_lit 2,{cls:= .none,data:=Ru #[]})::
 (nat_lit 3,{cls:= .type "dict",data:=Ru #[hE P "__name__" 165 (hS "law_cellpatches_k75_whole_roads" 579),hE P "__doc__" 166 .none,hE P "__package__" 167 .none,hE P "__loader__" 168 (.builtin "__main__.__loader__#opaque"),hE P "__spec__" 169 .none,hE P "__annotations__" 170 (.ref 6),hE P "__builtins__" 171 (.ref 4),hE P "__file__" 173 (hS "/claim/cut.py" 172),hE P "__cached__" 174 .none,hE P "PatchError" 206 (.ref 24),hE P "NoBoard" 222 (.ref 37),hE P "NoWays" 238 (.ref 49),hE P "NoCell" 254 (.ref 61),hE P "NoLetter" 270 (.ref 73),hE P "NoNumber" 286 (.ref 85),hE P "LETTERS" 290 (hS "abcdef" 289),hE P "MOST_ROWS" 292 (.int 8 291),hE P "MOST_COLUMNS" 294 (.int 8 293),hE P "is_whole" 301 (.ref 94),hE P "is_letter" 308 (.ref 101),hE P "is_row" 314 (.ref 106),hE P "is_board" 320 (.ref 111),hE P "is_cell" 328 (.ref 118),hE P "need_board" 335 (.ref 125),hE P "need_cell" 343 (.ref 132),hE P "need_letters" 349 (.ref 137),hE P "need_ways" 356 (.ref 144),hE P "cells_of_row" 362 (.ref 149),hE P "all_cells" 371 (.ref 156),hE P "letter_of" 379 (.ref 163),hE P "are_next" 390 (.ref 170),hE P "next_cells" 402 (.ref 177),hE P "keyed" 411 (.ref 184),hE P "need_two_cells" 423 (.ref 191),hE P "like_cells" 429 (.ref 196),hE P "steps_back" 443 (.ref 203),hE P "all_patches" 455 (.ref 210),hE P "numbers_of" 466 (.ref 217),hE P "near_numbers" 480 (.ref 224),hE P "near_among" 486 (.ref 229),hE P "distances" 499 (.ref 236),hE P "numbered" 505 (.ref 241),hE P "are_one" 515 (.ref 248),hE P "way" 527 (.ref 255),hE P "fewest_changes" 541 (.ref 262),hE P "steps_over" 547 (.ref 267),hE P "need_number" 557 (.ref 274),hE P "map_of" 567 (.ref 281),hE P "borders" 578 (.ref 288),hE P "_law_cell" 588 (.ref 295),hE P "_law_drawn" 598 (.ref 302),hE P "_law_board" 604 (.ref 307),hE P "_law_cells" 610 (.ref 312),hE P "_law_sign" 618 (.ref 319),hE P "_law_cell_in" 627 (.ref 326),hE P "law" 649 (.ref 333)] 56})::
 (nat_lit 15,hT #[.type "ValueError"])::
 (nat_lit 22,hT #[])::
 (nat_lit 23,{cls:= .type "dict",data:=Ru #[hE P "__module__" 196 (hS "cellpatches.errors" 187),hE P "__firstlineno__" 200 (.int 2 199),hE P "__static_attributes__" 201 (.ref 22),hE P "__weakref__" 203 (.ref 25),hE P "__doc__" 204 .none] 3})::
 (nat_lit 24,{cls:= .type "type",data:=SS {name:=P5 "PatchError",bases:=[.type "ValueError"],mro:=[.ref 24, .type "ValueError", .type "Exception", .type "BaseException", .type "object"],ns:=23,qualname:=P5 "PatchError",subclasses:=[.ref 37, .ref 49, .ref 61, .ref 73, .ref 85]},slots:= #[some (.ref 15),none,some (hS "PatchError" 189),some (hS "PatchError" 197),some (.builtin "ValueError.__new__"),some (.bool true)]})::
 (nat_lit 25,{cls:= .type "getset_descriptor",data:=Pf #[hS "__weakref__" 202, .ref 24, .builtin "ExceptionGroup.__weakref__", .none]})::
 (nat_lit 28,hT #[.ref 24])::
 (nat_lit 35,hT #[])::
 (nat_lit 36,{cls:= .type "dict",data:=Ru #[hE P "__module__" 214 (hS "cellpatches.errors" 187),hE P "__firstlineno__" 218 (.int 4 217),hE P "__static_attributes__" 219 (.ref 35),hE P "__doc__" 220 .none] 2})::
 (nat_lit 37,{cls:= .type "type",data:=SS {name:=P5 "NoBoard",bases:=[.ref 24],mro:=[.ref 37, .ref 24, .type "ValueError", .type "Exception", .type "BaseException", .type "object"],ns:=36,qualname:=P5 "NoBoard"},slots:= #[some (.ref 28),none,some (hS "NoBoard" 207),some (hS "NoBoard" 215),some (.builtin "ValueError.__new__"),some (.bool true)]})::
 (nat_lit 40,hT #[.ref 24])::
 (nat_lit 47,hT #[])::
 (nat_lit 48,{cls:= .type "dict",data:=Ru #[hE P "__module__" 230 (hS "cellpatches.errors" 187),hE P "__firstlineno__" 234 (.int 6 233),hE P "__static_attributes__" 235 (.ref 47),hE P "__doc__" 236 .none] 2})::
 (nat_lit 49,{cls:= .type "type",data:=SS {name:=P5 "NoWays",bases:=[.ref 24],mro:=[.ref 49, .ref 24, .type "ValueError", .type "Exception", .type "BaseException", .type "object"],ns:=48,qualname:=P5 "NoWays"},slots:= #[some (.ref 40),none,some (hS "NoWays" 223),some (hS "NoWays" 231),some (.builtin "ValueError.__new__"),some (.bool true)]})::
 (nat_lit 52,hT #[.ref 24])::
 (nat_lit 59,hT #[])::
 (nat_lit 60,{cls:= .type "dict",data:=Ru #[hE P "__module__" 246 (hS "cellpatches.errors" 187),hE P "__firstlineno__" 250 (.int 8 249),hE P "__static_attributes__" 251 (.ref 59),hE P "__doc__" 252 .none] 2})::
 (nat_lit 61,{cls:= .type "type",data:=SS {name:=P5 "NoCell",bases:=[.ref 24],mro:=[.ref 61, .ref 24, .type "ValueError", .type "Exception", .type "BaseException", .type "object"],ns:=60,qualname:=P5 "NoCell"},slots:= #[some (.ref 52),none,some (hS "NoCell" 239),some (hS "NoCell" 247),some (.builtin "ValueError.__new__"),some (.bool true)]})::
 (nat_lit 64,hT #[.ref 24])::
 (nat_lit 71,hT #[])::
 (nat_lit 72,{cls:= .type "dict",data:=Ru #[hE P "__module__" 262 (hS "cellpatches.errors" 187),hE P "__firstlineno__" 266 (.int 10 265),hE P "__static_attributes__" 267 (.ref 71),hE P "__doc__" 268 .none] 2})::
 (nat_lit 73,{cls:= .type "type",data:=SS {name:=P5 "NoLetter",bases:=[.ref 24],mro:=[.ref 73, .ref 24, .type "ValueError", .type "Exception", .type "BaseException", .type "object"],ns:=72,qualname:=P5 "NoLetter"},slots:= #[some (.ref 64),none,some (hS "NoLetter" 255),some (hS "NoLetter" 263),some (.builtin "ValueError.__new__"),some (.bool true)]})::
 (nat_lit 76,hT #[.ref 24])::
 (nat_lit 83,hT #[])::
 (nat_lit 84,{cls:= .type "dict",data:=Ru #[hE P "__module__" 278 (hS "cellpatches.errors" 187),hE P "__firstlineno__" 282 (.int 12 281),hE P "__static_attributes__" 283 (.ref 83),hE P "__doc__" 284 .none] 2})::
 (nat_lit 85,{cls:= .type "type",data:=SS {name:=P5 "NoNumber",bases:=[.ref 24],mro:=[.ref 85, .ref 24, .type "ValueError", .type "Exception", .type "BaseException", .type "object"],ns:=84,qualname:=P5 "NoNumber"},slots:= #[some (.ref 76),none,some (hS "NoNumber" 271),some (hS "NoNumber" 279),some (.builtin "ValueError.__new__"),some (.bool true)]})::
 (nat_lit 88,hT #[])::
 (nat_lit 90,hT #[hS "thing" 298])::
 (nat_lit 91,hT #[])::
 (nat_lit 93,{cls:= .type "code",data:=Pf #[hS "is_whole" 295,hS "is_whole" 296,hS "/claim/cut.py" 297, .int 18 0, .int 1 0, .int 0 0, .int 0 0, .int 3 0, .ref 88, .bool true, .int 181 0, .ref 89, .none, .ref 90, .ref 91, .ref 92, .int 299 0, .int 18 0,hS "/claim/cut.py" 300]})::
 (nat_lit 94,hF "is_whole" (top 11) (hS "cellpatches.boards" 287) 93)::
 (nat_lit 95,hT #[])::
 (nat_lit 97,hT #[hS "thing" 305])::
 (nat_lit 98,hT #[])::
 (nat_lit 100,{cls:= .type "code",data:=Pf #[hS "is_letter" 302,hS "is_letter" 303,hS "/claim/cut.py" 304, .int 20 0, .int 1 0, .int 0 0, .int 0 0, .int 3 0, .ref 95, .bool true, .int 181 0, .ref 96, .none, .ref 97, .ref 98, .ref 99, .int 306 0, .int 20 0,hS "/claim/cut.py" 307]})::
 (nat_lit 101,hF "is_letter" (top 12) (hS "cellpatches.boards" 287) 100)::
 (nat_lit 102,hT #[])::
 (nat_lit 105,{cls:= .type "code",data:=Pf #[hS "is_row" 309,hS "is_row" 310,hS "/claim/cut.py" 311, .int 22 0, .int 1 0, .int 0 0, .int 0 0, .int 3 0, .ref 102, .bool true, .int 181 0, .ref 103, .none, .none, .none, .ref 104, .int 312 0, .int 22 0,hS "/claim/cut.py" 313]})::
 (nat_lit 106,hF "is_row" (top 13) (hS "cellpatches.boards" 287) 105)::
 (nat_lit 107,hT #[])::
 (nat_lit 110,{cls:= .type "code",data:=Pf #[hS "is_board" 315,hS "is_board" 316,hS "/claim/cut.py" 317, .int 26 0, .int 1 0, .int 0 0, .int 0 0, .int 3 0, .ref 107, .bool true, .int 181 0, .ref 108, .none, .none, .none, .ref 109, .int 318 0, .int 26 0,hS "/claim/cut.py" 319]})::
 (nat_lit 111,hF "is_board" (top 14) (hS "cellpatches.boards" 287) 110)::
 (nat_lit 112,hT #[])::
 (nat_lit 114,hT #[hS "board" 324,hS "thing" 325])::
 (nat_lit 115,hT #[])::
 (nat_lit 117,{cls:= .type "code",data:=Pf #[hS "is_cell" 321,hS "is_cell" 322,hS "/claim/cut.py" 323, .int 32 0, .int 2 0, .int 0 0, .int 0 0, .int 3 0, .ref 112, .bool true, .int 181 0, .ref 113, .none, .ref 114, .ref 115, .ref 116, .int 326 0, .int 32 0,hS "/claim/cut.py" 327]})::
 (nat_lit 118,hF "is_cell" (top 15) (hS "cellpatches.boards" 287) 117)::
 (nat_lit 119,hT #[])::
 (nat_lit 121,hT #[hS "thing" 332])::
 (nat_lit 122,hT #[])::
 (nat_lit 124,{cls:= .type "code",data:=Pf #[hS "need_board" 329,hS "need_board" 330,hS "/claim/cut.py" 331, .int 38 0, .int 1 0, .int 0 0, .int 0 0, .int 3 0, .ref 119, .bool true, .int 181 0, .ref 120, .none, .ref 121, .ref 122, .ref 123, .int 333 0, .int 38 0,hS "/claim/cut.py" 334]})::
 (nat_lit 125,hF "need_board" (top 16) (hS "cellpatches.boards" 287) 124)::
 (nat_lit 126,hT #[])::
 (nat_lit 128,hT #[hS "board" 339,hS "thing" 340])::
 (nat_lit 129,hT #[])::
 (nat_lit 131,{cls:= .type "code",data:=Pf #[hS "need_cell" 336,hS "need_cell" 337,hS "/claim/cut.py" 338, .int 41 0, .int 2 0, .int 0 0, .int 0 0, .int 3 0, .ref 126, .bool true, .int 181 0, .ref 127, .none, .ref 128, .ref 129, .ref 130, .int 341 0, .int 41 0,hS "/claim/cut.py" 342]})::
 (nat_lit 132,hF "need_cell" (top 17) (hS "cellpatches.boards" 287) 131)::
 (nat_lit 133,hT #[])::
 (nat_lit 136,{cls:= .type "code",data:=Pf #[hS "need_letters" 344,hS "need_letters" 345,hS "/claim/cut.py" 346, .int 44 0, .int 1 0, .int 0 0, .int 0 0, .int 3 0, .ref 133, .bool true, .int 181 0, .ref 134, .none, .none, .none, .ref 135, .int 347 0, .int 44 0,hS "/claim/cut.py" 348]})::
 (nat_lit 137,hF "need_letters" (top 18) (hS "cellpatches.boards" 287) 136)::
 (nat_lit 138,hT #[])::
 (nat_lit 140,hT #[hS "thing" 353])::
 (nat_lit 141,hT #[])::
 (nat_lit 143,{cls:= .type "code",data:=Pf #[hS "need_ways" 350,hS "need_ways" 351,hS "/claim/cut.py" 352, .int 47 0, .int 1 0, .int 0 0, .int 0 0, .int 3 0, .ref 138, .bool true, .int 181 0, .ref 139, .none, .ref 140, .ref 141, .ref 142, .int 354 0, .int 47 0,hS "/claim/cut.py" 355]})::
 (nat_lit 144,hF "need_ways" (top 19) (hS "cellpatches.boards" 287) 143)::
 (nat_lit 145,hT #[])::
 (nat_lit 148,{cls:= .type "code",data:=Pf #[hS "cells_of_row" 357,hS "cells_of_row" 358,hS "/claim/cut.py" 359, .int 50 0, .int 2 0, .int 0 0, .int 0 0, .int 3 0, .ref 145, .bool true, .int 181 0, .ref 146, .none, .none, .none, .ref 147, .int 360 0, .int 50 0,hS "/claim/cut.py" 361]})::
 (nat_lit 149,hF "cells_of_row" (top 20) (hS "cellpatches.boards" 287) 148)::
 (nat_lit 150,hT #[])::
 (nat_lit 152,hT #[hS "board" 366,hS "found" 367,hS "row" 368])::
 (nat_lit 153,hT #[])::
 (nat_lit 155,{cls:= .type "code",data:=Pf #[hS "all_cells" 363,hS "all_cells" 364,hS "/claim/cut.py" 365, .int 52 0, .int 1 0, .int 0 0, .int 0 0, .int 3 0, .ref 150, .bool true, .int 181 0, .ref 151, .none, .ref 152, .ref 153, .ref 154, .int 369 0, .int 52 0,hS "/claim/cut.py" 370]})::
 (nat_lit 156,hF "all_cells" (top 21) (hS "cellpatches.boards" 287) 155)::
 (nat_lit 157,hT #[])::
 (nat_lit 159,hT #[hS "board" 375,hS "cell" 376])::
 (nat_lit 160,hT #[])::
 (nat_lit 162,{cls:= .type "code",data:=Pf #[hS "letter_of" 372,hS "letter_of" 373,hS "/claim/cut.py" 374, .int 57 0, .int 2 0, .int 0 0, .int 0 0, .int 3 0, .ref 157, .bool true, .int 181 0, .ref 158, .none, .ref 159, .ref 160, .ref 161, .int 377 0, .int 57 0,hS "/claim/cut.py" 378]})::
 (nat_lit 163,hF "letter_of" (top 22) (hS "cellpatches.boards" 287) 162)::
 (nat_lit 164,hT #[])::
 (nat_lit 166,hT #[hS "one" 383,hS "other" 384,hS "ways" 385,hS "down" 386,hS "along" 387])::
 (nat_lit 167,hT #[])::
 (nat_lit 169,{cls:= .type "code",data:=Pf #[hS "are_next" 380,hS "are_next" 381,hS "/claim/cut.py" 382, .int 59 0, .int 3 0, .int 0 0, .int 0 0, .int 3 0, .ref 164, .bool true, .int 181 0, .ref 165, .none, .ref 166, .ref 167, .ref 168, .int 388 0, .int 59 0,hS "/claim/cut.py" 389]})::
 (nat_lit 170,hF "are_next" (top 23) (hS "cellpatches.boards" 287) 169)::
 (nat_lit 171,hT #[])::
 (nat_lit 173,hT #[hS "board" 394,hS "cell" 395,hS "ways" 396,hS "found" 397,hS "row" 398,hS "column" 399])::
 (nat_lit 174,hT #[])::
 (nat_lit 176,{cls:= .type "code",data:=Pf #[hS "next_cells" 391,hS "next_cells" 392,hS "/claim/cut.py" 393, .int 65 0, .int 3 0, .int 0 0, .int 0 0, .int 3 0, .ref 171, .bool true, .int 181 0, .ref 172, .none, .ref 173, .ref 174, .ref 175, .int 400 0, .int 65 0,hS "/claim/cut.py" 401]})::
 (nat_lit 177,hF "next_cells" (top 24) (hS "cellpatches.boards" 287) 176)::
 (nat_lit 178,hT #[])::
 (nat_lit 180,hT #[hS "things" 406,hS "found" 407,hS "thing" 408])::
 (nat_lit 181,hT #[])::
 (nat_lit 183,{cls:= .type "code",data:=Pf #[hS "keyed" 403,hS "keyed" 404,hS "/claim/cut.py" 405, .int 72 0, .int 1 0, .int 0 0, .int 0 0, .int 3 0, .ref 178, .bool true, .int 181 0, .ref 179, .none, .ref 180, .ref 181, .ref 182, .int 409 0, .int 72 0,hS "/claim/cut.py" 410]})::
 (nat_lit 184,hF "keyed" (top 25) (hS "cellpatches.boards" 287) 183)::
 (nat_lit 185,hT #[])::
 (nat_lit 187,hT #[hS "board" 417,hS "ways" 418,hS "one" 419,hS "other" 420])::
 (nat_lit 188,hT #[])::
 (nat_lit 190,{cls:= .type "code",data:=Pf #[hS "need_two_cells" 414,hS "need_two_cells" 415,hS "/claim/cut.py" 416, .int 78 0, .int 4 0, .int 0 0, .int 0 0, .int 3 0, .ref 185, .bool true, .int 181 0, .ref 186, .none, .ref 187, .ref 188, .ref 189, .int 421 0, .int 78 0,hS "/claim/cut.py" 422]})::
 (nat_lit 191,hF "need_two_cells" (top 27) (hS "cellpatches.patches" 412) 190)::
 (nat_lit 192,hT #[])::
 (nat_lit 195,{cls:= .type "code",data:=Pf #[hS "like_cells" 424,hS "like_cells" 425,hS "/claim/cut.py" 426, .int 83 0, .int 3 0, .int 0 0, .int 0 0, .int 3 0, .ref 192, .bool true, .int 181 0, .ref 193, .none, .none, .none, .ref 194, .int 427 0, .int 83 0,hS "/claim/cut.py" 428]})::
 (nat_lit 196,hF "like_cells" (top 28) (hS "cellpatches.patches" 412) 195)::
 (nat_lit 197,hT #[])::
 (nat_lit 199,hT #[hS "board" 433,hS "start" 434,hS "ways" 435,hS "back" 436,hS "ring" 437,hS "further" 438,hS "cell" 439,hS "near" 440])::
 (nat_lit 200,hT #[])::
 (nat_lit 202,{cls:= .type "code",data:=Pf #[hS "steps_back" 430,hS "steps_back" 431,hS "/claim/cut.py" 432, .int 86 0, .int 3 0, .int 0 0, .int 0 0, .int 3 0, .ref 197, .bool true, .int 181 0, .ref 198, .none, .ref 199, .ref 200, .ref 201, .int 441 0, .int 86 0,hS "/claim/cut.py" 442]})::
 (nat_lit 203,hF "steps_back" (top 29) (hS "cellpatches.patches" 412) 202)::
 (nat_lit 204,hT #[])::
 (nat_lit 206,hT #[hS "board" 447,hS "ways" 448,hS "found" 449,hS "seen" 450,hS "cell" 451,hS "patch" 452])::
 (nat_lit 207,hT #[])::
 (nat_lit 209,{cls:= .type "code",data:=Pf #[hS "all_patches" 444,hS "all_patches" 445,hS "/claim/cut.py" 446, .int 98 0, .int 2 0, .int 0 0, .int 0 0, .int 3 0, .ref 204, .bool true, .int 181 0, .ref 205, .none, .ref 206, .ref 207, .ref 208, .int 453 0, .int 98 0,hS "/claim/cut.py" 454]})::
 (nat_lit 210,hF "all_patches" (top 30) (hS "cellpatches.patches" 412) 209)::
 (nat_lit 211,hT #[])::
 (nat_lit 213,hT #[hS "found" 459,hS "numbers" 460,hS "number" 461,hS "patch" 462,hS "cell" 463])::
 (nat_lit 214,hT #[])::
 (nat_lit 216,{cls:= .type "code",data:=Pf #[hS "numbers_of" 456,hS "numbers_of" 457,hS "/claim/cut.py" 458, .int 107 0, .int 1 0, .int 0 0, .int 0 0, .int 3 0, .ref 211, .bool true, .int 181 0, .ref 212, .none, .ref 213, .ref 214, .ref 215, .int 464 0, .int 107 0,hS "/claim/cut.py" 465]})::
 (nat_lit 217,hF "numbers_of" (top 31) (hS "cellpatches.patches" 412) 216)::
 (nat_lit 218,hT #[])::
 (nat_lit 220,hT #[hS "board" 470,hS "ways" 471,hS "found" 472,hS "numbers" 473,hS "near" 474,hS "cell" 475,hS "mine" 476,hS "other" 477])::
 (nat_lit 221,hT #[])::
 (nat_lit 223,{cls:= .type "code",data:=Pf #[hS "near_numbers" 467,hS "near_numbers" 468,hS "/claim/cut.py" 469, .int 113 0, .int 3 0, .int 0 0, .int 0 0, .int 3 0, .ref 218, .bool true, .int 181 0, .ref 219, .none, .ref 220, .ref 221, .ref 222, .int 478 0, .int 113 0,hS "/claim/cut.py" 479]})::
 (nat_lit 224,hF "near_numbers" (top 32) (hS "cellpatches.patches" 412) 223)::
 (nat_lit 225,hT #[])::
 (nat_lit 228,{cls:= .type "code",data:=Pf #[hS "near_among" 481,hS "near_among" 482,hS "/claim/cut.py" 483, .int 122 0, .int 3 0, .int 0 0, .int 0 0, .int 3 0, .ref 225, .bool true, .int 181 0, .ref 226, .none, .none, .none, .ref 227, .int 484 0, .int 122 0,hS "/claim/cut.py" 485]})::
 (nat_lit 229,hF "near_among" (top 33) (hS "cellpatches.patches" 412) 228)::
 (nat_lit 230,hT #[])::
 (nat_lit 232,hT #[hS "near" 490,hS "start" 491,hS "far" 492,hS "ring" 493,hS "further" 494,hS "thing" 495,hS "other" 496])::
 (nat_lit 233,hT #[])::
 (nat_lit 235,{cls:= .type "code",data:=Pf #[hS "distances" 487,hS "distances" 488,hS "/claim/cut.py" 489, .int 128 0, .int 2 0, .int 0 0, .int 0 0, .int 3 0, .ref 230, .bool true, .int 181 0, .ref 231, .none, .ref 232, .ref 233, .ref 234, .int 497 0, .int 128 0,hS "/claim/cut.py" 498]})::
 (nat_lit 236,hF "distances" (top 34) (hS "cellpatches.patches" 412) 235)::
 (nat_lit 237,hT #[])::
 (nat_lit 240,{cls:= .type "code",data:=Pf #[hS "numbered" 500,hS "numbered" 501,hS "/claim/cut.py" 502, .int 140 0, .int 2 0, .int 0 0, .int 0 0, .int 3 0, .ref 237, .bool true, .int 181 0, .ref 238, .none, .none, .none, .ref 239, .int 503 0, .int 140 0,hS "/claim/cut.py" 504]})::
 (nat_lit 241,hF "numbered" (top 35) (hS "cellpatches.patches" 412) 240)::
 (nat_lit 242,hT #[])::
 (nat_lit 244,hT #[hS "board" 509,hS "ways" 510,hS "one" 511,hS "other" 512])::
 (nat_lit 245,hT #[])::
 (nat_lit 247,{cls:= .type "code",data:=Pf #[hS "are_one" 506,hS "are_one" 507,hS "/claim/cut.py" 508, .int 148 0, .int 4 0, .int 0 0, .int 0 0, .int 3 0, .ref 242, .bool true, .int 181 0, .ref 243, .none, .ref 244, .ref 245, .ref 246, .int 513 0, .int 148 0,hS "/claim/cut.py" 514]})::
 (nat_lit 248,hF "are_one" (top 36) (hS "cellpatches.patches" 412) 247)::
 (nat_lit 249,hT #[])::
 (nat_lit 251,hT #[hS "board" 519,hS "ways" 520,hS "one" 521,hS "other" 522,hS "back" 523,hS "told" 524])::
 (nat_lit 252,hT #[])::
 (nat_lit 254,{cls:= .type "code",data:=Pf #[hS "way" 516,hS "way" 517,hS "/claim/cut.py" 518, .int 151 0, .int 4 0, .int 0 0, .int 0 0, .int 3 0, .ref 249, .bool true, .int 181 0, .ref 250, .none, .ref 251, .ref 252, .ref 253, .int 525 0, .int 151 0,hS "/claim/cut.py" 526]})::
 (nat_lit 255,hF "way" (top 37) (hS "cellpatches.patches" 412) 254)::
 (nat_lit 256,hT #[])::
 (nat_lit 258,hT #[hS "board" 533,hS "ways" 534,hS "one" 535,hS "other" 536,hS "found" 537,hS "numbers" 538])::
 (nat_lit 259,hT #[])::
 (nat_lit 261,{cls:= .type "code",data:=Pf #[hS "fewest_changes" 530,hS "fewest_changes" 531,hS "/claim/cut.py" 532, .int 161 0, .int 4 0, .int 0 0, .int 0 0, .int 3 0, .ref 256, .bool true, .int 181 0, .ref 257, .none, .ref 258, .ref 259, .ref 260, .int 539 0, .int 161 0,hS "/claim/cut.py" 540]})::
 (nat_lit 262,hF "fewest_changes" (top 39) (hS "cellpatches.roads" 528) 261)::
 (nat_lit 263,hT #[])::
 (nat_lit 266,{cls:= .type "code",data:=Pf #[hS "steps_over" 542,hS "steps_over" 543,hS "/claim/cut.py" 544, .int 166 0, .int 5 0, .int 0 0, .int 0 0, .int 3 0, .ref 263, .bool true, .int 181 0, .ref 264, .none, .none, .none, .ref 265, .int 545 0, .int 166 0,hS "/claim/cut.py" 546]})::
 (nat_lit 267,hF "steps_over" (top 40) (hS "cellpatches.roads" 528) 266)::
 (nat_lit 268,hT #[])::
 (nat_lit 270,hT #[hS "many" 553,hS "thing" 554])::
 (nat_lit 271,hT #[])::
 (nat_lit 273,{cls:= .type "code",data:=Pf #[hS "need_number" 550,hS "need_number" 551,hS "/claim/cut.py" 552, .int 177 0, .int 2 0, .int 0 0, .int 0 0, .int 3 0, .ref 268, .bool true, .int 181 0, .ref 269, .none, .ref 270, .ref 271, .ref 272, .int 555 0, .int 177 0,hS "/claim/cut.py" 556]})::
 (nat_lit 274,hF "need_number" (top 42) (hS "cellpatches.measures" 548) 273)::
 (nat_lit 275,hT #[])::
 (nat_lit 277,hT #[hS "board" 563,hS "ways" 564])::
 (nat_lit 278,hT #[])::
 (nat_lit 280,{cls:= .type "code",data:=Pf #[hS "map_of" 560,hS "map_of" 561,hS "/claim/cut.py" 562, .int 181 0, .int 2 0, .int 0 0, .int 0 0, .int 3 0, .ref 275, .bool true, .int 181 0, .ref 276, .none, .ref 277, .ref 278, .ref 279, .int 565 0, .int 181 0,hS "/claim/cut.py" 566]})::
 (nat_lit 281,hF "map_of" (top 44) (hS "cellpatches.maps" 558) 280)::
 (nat_lit 282,hT #[])::
 (nat_lit 284,hT #[hS "board" 571,hS "ways" 572,hS "one" 573,hS "other" 574,hS "near" 575])::
 (nat_lit 285,hT #[])::
 (nat_lit 287,{cls:= .type "code",data:=Pf #[hS "borders" 568,hS "borders" 569,hS "/claim/cut.py" 570, .int 185 0, .int 4 0, .int 0 0, .int 0 0, .int 3 0, .ref 282, .bool true, .int 181 0, .ref 283, .none, .ref 284, .ref 285, .ref 286, .int 576 0, .int 185 0,hS "/claim/cut.py" 577]})::
 (nat_lit 288,hF "borders" (top 45) (hS "cellpatches.maps" 558) 287)::
 (nat_lit 289,hT #[])::
 (nat_lit 291,hT #[hS "_law_script" 584,hS "_law_k" 585])::
 (nat_lit 292,hT #[])::
 (nat_lit 294,{cls:= .type "code",data:=Pf #[hS "_law_cell" 581,hS "_law_cell" 582,hS "/claim/cut.py" 583, .int 191 0, .int 2 0, .int 0 0, .int 0 0, .int 3 0, .ref 289, .bool true, .int 181 0, .ref 290, .none, .ref 291, .ref 292, .ref 293, .int 586 0, .int 191 0,hS "/claim/cut.py" 587]})::
 (nat_lit 295,hF "_law_cell" (top 47) (hS "law_cellpatches_k75_whole_roads" 579) 294)::
 (nat_lit 296,hT #[])::
 (nat_lit 298,hT #[hS "_law_script" 592,hS "_law_k" 593,hS "_law_many" 594,hS "_law_cell_here" 595])::
 (nat_lit 299,hT #[])::
 (nat_lit 301,{cls:= .type "code",data:=Pf #[hS "_law_drawn" 589,hS "_law_drawn" 590,hS "/claim/cut.py" 591, .int 195 0, .int 3 0, .int 0 0, .int 0 0, .int 3 0, .ref 296, .bool true, .int 181 0, .ref 297, .none, .ref 298, .ref 299, .ref 300, .int 596 0, .int 195 0,hS "/claim/cut.py" 597]})::
 (nat_lit 302,hF "_law_drawn" (top 48) (hS "law_cellpatches_k75_whole_roads" 579) 301)::
 (nat_lit 303,hT #[])::
 (nat_lit 306,{cls:= .type "code",data:=Pf #[hS "_law_board" 599,hS "_law_board" 600,hS "/claim/cut.py" 601, .int 199 0, .int 3 0, .int 0 0, .int 0 0, .int 3 0, .ref 303, .bool true, .int 181 0, .ref 304, .none, .none, .none, .ref 305, .int 602 0, .int 199 0,hS "/claim/cut.py" 603]})::
 (nat_lit 307,hF "_law_board" (top 49) (hS "law_cellpatches_k75_whole_roads" 579) 306)::
 (nat_lit 308,hT #[])::
 (nat_lit 311,{cls:= .type "code",data:=Pf #[hS "_law_cells" 605,hS "_law_cells" 606,hS "/claim/cut.py" 607, .int 208 0, .int 1 0, .int 0 0, .int 0 0, .int 3 0, .ref 308, .bool true, .int 181 0, .ref 309, .none, .none, .none, .ref 310, .int 608 0, .int 208 0,hS "/claim/cut.py" 609]})::
 (nat_lit 312,hF "_law_cells" (top 50) (hS "law_cellpatches_k75_whole_roads" 579) 311)::
 (nat_lit 313,hT #[])::
 (nat_lit 315,hT #[hS "_law_board_here" 614,hS "_law_cell_here" 615])::
 (nat_lit 316,hT #[])::
 (nat_lit 318,{cls:= .type "code",data:=Pf #[hS "_law_sign" 611,hS "_law_sign" 612,hS "/claim/cut.py" 613, .int 213 0, .int 2 0, .int 0 0, .int 0 0, .int 3 0, .ref 313, .bool true, .int 181 0, .ref 314, .none, .ref 315, .ref 316, .ref 317, .int 616 0, .int 213 0,hS "/claim/cut.py" 617]})::
 (nat_lit 319,hF "_law_sign" (top 51) (hS "law_cellpatches_k75_whole_roads" 579) 318)::
 (nat_lit 320,hT #[])::
 (nat_lit 322,hT #[hS "_law_script" 622,hS "_law_at" 623,hS "_law_board_here" 624])::
 (nat_lit 323,hT #[])::
 (nat_lit 325,{cls:= .type "code",data:=Pf #[hS "_law_cell_in" 619,hS "_law_cell_in" 620,hS "/claim/cut.py" 621, .int 215 0, .int 3 0, .int 0 0, .int 0 0, .int 3 0, .ref 320, .bool true, .int 181 0, .ref 321, .none, .ref 322, .ref 323, .ref 324, .int 625 0, .int 215 0,hS "/claim/cut.py" 626]})::
 (nat_lit 326,hF "_law_cell_in" (top 52) (hS "law_cellpatches_k75_whole_roads" 579) 325)::
 (nat_lit 327,hT #[])::
 (nat_lit 329,hT #[hS "_law_script" 631,hS "_law_board_here" 632,hS "_law_whole" 633,hS "_law_ways" 634,hS "_law_one" 635,hS "_law_third" 636,hS "_law_own" 637,hS "_law_numbers" 638,hS "_law_other" 639,hS "_law_here" 640,hS "_law_far" 641,hS "_law_row" 642,hS "_law_down" 643,hS "_law_right" 644,hS "_law_least" 645,hS "_law_more" 646])::
 (nat_lit 330,hT #[])::
 (nat_lit 332,{cls:= .type "code",data:=Pf #[hS "law" 628,hS "law" 629,hS "/claim/cut.py" 630, .int 217 0, .int 1 0, .int 0 0, .int 0 0, .int 3 0, .ref 327, .bool true, .int 181 0, .ref 328, .none, .ref 329, .ref 330, .ref 331, .int 647 0, .int 217 0,hS "/claim/cut.py" 648]})::
 (nat_lit 333,hF "law" (top 53) (hS "law_cellpatches_k75_whole_roads" 579) 332)::[]
def n_:List Nat:=[2,3,15,22,23,24,25,28,35,36,37,40,47,48,49,52,59,60,61,64,71,72,73,76,83,84,85,88,90,91,93,94,95,97,98,100,101,102,105,106,107,110,111,112,114,115,117,118,119,121,122,124,125,126,128,129,131,132,133,136,137,138,140,141,143,144,145,148,149,150,152,153,155,156,157,159,160,162,163,164,166,167,169,170,171,173,174,176,177,178,180,181,183,184,185,187,188,190,191,192,195,196,197,199,200,202,203,204,206,207,209,210,211,213,214,216,217,218,220,221,223,224,225,228,229,230,232,233,235,236,237,240,241,242,244,245,247,248,249,251,252,254,255,256,258,259,261,262,263,266,267,268,270,271,273,274,275,277,278,280,281,282,284,285,287,288,289,291,292,294,295,296,298,299,301,302,303,306,307,308,311,312,313,315,316,318,319,320,322,323,325,326,327,329,330,332,333]
def vD:Pw:={PySem.Challenge.pw_cellpatches_k75_whole_roads with main:={PySem.Challenge.pw_cellpatches_k75_whole_roads.main with body:=[top 1,top 2,top 3,top 4,top 5,top 6,top 8,top 9,top 10,top 11,top 12,top 13,top 14,top 15,top 16,top 17,top 18,top 19,top 20,top 21,top 22,top 23,top 24,top 25,top 27,top 28,top 29,top 30,top 31,top 32,top 33,top 34,top 35,top 36,top 37,top 39,top 40,top 42,top 44,top 45,top 47,top 48,top 49,top 50,top 51,top 52,top 53]} }
open PySem.W PyProof.Rows in
def Im:LeftO PySem.Challenge.rw_cellpatches_k75_whole_roads.row.prog vD [] (fun s=>xlAt vD [] s&&recOk PySem.Challenge.rw_cellpatches_k75_whole_roads.row.records s) (kHook oa n_ (fun _=>by kernel_rfl)).obs (kHook oa n_ (fun _=>by kernel_rfl)).val 5130:=fun w=>by kernel_rfl
end K1
namespace L2
open PySem PySem.Spec PyProof.Rows
abbrev Key:=Sum Int Str
def oA:Key->Value->Bool
 | .inl k,v=>Value.isInt k v
 | .inr x,v=>Value.isStrOf x v
def IQ(w:World):Key->Int
 | .inl k=>hashInt k
 | .inr x=>hashStr w x
def bM:∀{k:Key}{v:Value},oA k v=true->(∃i t,k=SA i/\v=Tu i t)\/(∃x t,k=S5 x/\v=Tt x t)
 | .inl i,v,h=>by
   obtain⟨t,e⟩:=Value.isInt_shape (k:=i) (v:=v) h
   exact .inl ⟨i,t,rfl,e⟩
 | .inr x,v,h=>by
   obtain⟨t,e⟩:=Value.isStrOf_shape (x:=x) (v:=v) h
   exact .inr ⟨x,t,rfl,e⟩
def zd(i:Int)(t:Tok):oA (.inl i) (.int i t)=true:=by simp[oA,Value.isInt]
def ze(x:Str)(t:Tok):oA (.inr x) (.str x t)=true:=by simp[oA,Value.isStrOf]
def Ga(a b:Int):decide ((SA a:Key)=SA b)=(a==b):=by
 by_cases e:a=b
 ·subst e;simp
 ·have h:¬(SA a:Key)=SA b:=fun q=>e (Sum.inl.inj q)
  rw[decide_eq_false h]
  exact(beq_eq_false_iff_ne.mpr e).symm
def Ge(a b:Str):decide ((S5 a:Key)=S5 b)=decide (a=b):=by
 by_cases e:a=b
 ·subst e;simp
 ·have h:¬(S5 a:Key)=S5 b:=fun q=>e (Sum.inr.inj q)
  rw[decide_eq_false h,decide_eq_false e]
def Gb(a:Int)(b:Str):decide ((SA a:Key)=S5 b)=false:=decide_eq_false (fun q=>nomatch q)
def Gd(a:Str)(b:Int):decide ((S5 a:Key)=SA b)=false:=decide_eq_false (fun q=>nomatch q)
def a9(prog:Pw)(w:World):PySem.KeyKind prog w Key where
 is:=oA
 hash:=IQ w
 inj:=fun v a b ha hb=>by
  rcases bM ha with⟨i,t,rfl,rfl⟩ | ⟨x,t,rfl,rfl⟩
  ·rcases bM hb with⟨j,u,rfl,e⟩ | ⟨y,u,rfl,e⟩
   ·injection e with e1 _;rw[e1]
   ·exact nomatch e
  ·rcases bM hb with⟨j,u,rfl,e⟩ | ⟨y,u,rfl,e⟩
   ·exact nomatch e
   ·injection e with e1 _;rw[e1]
 byValue:=fun k v h=>by
  rcases bM h with⟨i,t,rfl,rfl⟩ | ⟨x,t,rfl,rfl⟩<;>rfl
 pyHash:=fun hv h=>by
  rcases bM hv with⟨i,t,rfl,rfl⟩ | ⟨x,t,rfl,rfl⟩
  ·exact wpAny_pyHash_int h
  ·exact wpAny_pyHash_str h
 eqBool:=fun hu hv h=>by
  rcases bM hu with⟨i,t,rfl,rfl⟩ | ⟨x,t,rfl,rfl⟩
  ·rcases bM hv with⟨j,u,rfl,rfl⟩ | ⟨y,u,rfl,rfl⟩
   ·rw[Ga] at h;exact wpAny_eqBool_int h
   ·rw[Gb] at h;exact Tg i t y u _ _ _ _ h
  ·rcases bM hv with⟨j,u,rfl,rfl⟩ | ⟨y,u,rfl,rfl⟩
   ·rw[Gd] at h;exact Tf x t j u _ _ _ _ h
   ·rw[Ge] at h;exact wpAny_eqBool_str h
 «strs» :=fun k x t v h=>by
  rcases bM h with⟨i,u,rfl,e⟩ | ⟨y,u,rfl,e⟩
  ·exact nomatch e
  ·injection e with e1 _
   subst e1
   cases v<;>rfl
def uH(prog:Pw)(w:World)(i:Int)(t:Tok):(a9 prog w).is (.inl i) (.int i t)=true:=zd i t
def uI(prog:Pw)(w:World)(x:Str)(t:Tok):(a9 prog w).is (.inr x) (.str x t)=true:=ze x t
inductive V where
 |non | bl (b:Bool) | int (i:Int) | str (x:Str) | byt (b:Array UInt8) | flt (b:UInt64) | ref (a:Addr) | ty (n:String)
 deriving DecidableEq
def RelV:V->Value->Prop
 | .non,u=>u=Qh
 | .bl b,u=>u=RI b
 | .int i,u=>∃t,u=Tu i t
 | .str x,u=>∃t,u=Tt x t
 | .byt b,u=>∃t,u=Value.bytes b t
 | .flt b,u=>∃t,u=Value.float b t
 | .ref a,u=>u=PQ a
 | .ty n,u=>u=T2 n
abbrev Vals:List V->List Value->Prop:=SO RelV
def Vals.length{xs:List V}{us:List Value}(r:Vals xs us):xs.length=us.length:=Qx r
def Vals.get:∀{xs:List V}{us:List Value}{i:Nat}{x:V},Vals xs us->xs[i]? =some x->∃u,us[i]? =some u/\RelV x u
 |_,_,_,_, .nil,e=>by simp at e
 |_,_,0,_, .cons r _,e=>by simp at e;subst e;exact⟨_,rfl,r⟩
 |_,_,i+1,x, .cons _ t,e=>by
  obtain⟨u,h1,h2⟩:=Vals.get (i:=i) (x:=x) t (by simpa using e)
  exact⟨u,by simpa using h1,h2⟩
def Vals.append:∀{xs ys:List V}{us ws:List Value},Vals xs us->Vals ys ws->Vals (xs++ys) (us++ws)
 |_,_,_,_, .nil,s=>s
 |_,_,_,_, .cons r t,s=> .cons r (Vals.append t s)
def RelO:Option V->Option Value->Prop
 |some v,some u=>RelV v u
 |none,none=>True
 |_,_=>False
def KV{κ:Type}:List (κ×V)->List (κ×Value)->Prop:=SO fun(p:κ×V) (q:κ×Value)=>p.1=q.1/\RelV p.2 q.2
def kV:Key->V
 | .inl i=> .int i
 | .inr x=> .str x
inductive HO where
 |lst (xs:List V)
 |tup (xs:List V)
 |dK (ax:List (Key×V)) | dT (ax:List (List Key×V))
 |set (S:Int->Bool) (n:Nat)
 |ins (C dx:Addr) (fs:List (Str×V))
 |own (x:Addr)
 |xd (fs:List (Str×V))
 |met (f x:Addr)
 |rng (lo hi:Int)
 |frz (o:Obj) (u:HO)
 |tbl (ps:Array Value)
 |ext (φ:Heap->Prop)
abbrev Hp:=Addr->Option HO
def upd(H:Hp)(a:Addr)(o:HO):Hp:=fun b=>if b=a then some o else H b
def aD{H:Hp}{a:Addr}{o:HO}:upd H a o a=some o:=by unfold upd;rw[if_pos rfl]
def aw{H:Hp}{a b:Addr}{o:HO}(h:b≠a):upd H a o b=H b:=by unfold upd;rw[if_neg h]
def A8{H:Hp}{a b:Addr}{o u:HO}(h:H a=some o)(h':H b=some u)(d:o≠u):a≠b:=by
 intro e;subst e;rw[h] at h';exact d (Pg h')
def ba{H:Hp}{a b:Addr}{o:HO}(h:H a=some o)(h':H b=none):a≠b:=by
 intro e;subst e;rw[h] at h';cases h'
section
variable(P:Pw)(w:World)
def ObjOk(H:Hp)(h:Heap)(a:Addr):HO->Prop
 | .lst xs=>xs.length<=Pe/\∃(aK:List Value) (n:Nat),Vals xs aK/\h.get? a=some {cls:= .type "list",data:= .seq aK.toArray n}
 | .tup xs=>xs.length<=Pe/\∃aK:List Value,Vals xs aK/\IsTup h a aK.toArray
 | .dK ax=>ax.length<=Pe/\(a==Qk)=false/\∃vs,KV ax vs/\h.DictOf (a9 P w) a vs
 | .dT ax=>ax.length<=Pe/\(a==Qk)=false/\∃xs:List (List Key×Addr×Value),
    SO (fun (p:List Key×V) (q:List Key×Addr×Value)=>p.1=q.1/\H q.2.1=some (.tup (p.1.map kV))/\RelV p.2 q.2.2) ax xs/\
    ∃o es ep,h.get? a=some o/\o.ExactDict/\o.data= .dict es ep/\es.toList=xs.map (TQ (QE (a9 P w)))/\(xs.map (·.1)).Nodup
 | .set S n=>h.SetOf (intKind P w) a S n
 | .ins C dx fs=>H dx=some (.own a)/\fs.length<=1000/\dx≠a/\h.get? a=some (SD C dx)/\
    ∃mA,h.Ns1 dx mA/\(∀f,RelO (fs.lookup f) (mA f))/\PySem.Within mA (fs.map (·.1))
 | .own _=>∃o,h.get? a=some o
 | .xd fs=>∃mA,h.Ns1 a mA/\∀f,RelO (fs.lookup f) (mA f)
 | .rng lo hi=>∃t u v,h.get? a=some {cls:= .type "range",data:= .fields #[.int lo t, .int hi u, .int 1 v]}
 | .frz o u=>h.get? a=some o/\ObjOk H h a u
 | .tbl ps=>h.get? a=some {cls:= .none,data:= .fields ps}
 | .met f x=>h.get? a=some (Si (.ref f) (.ref x))
 | .ext φ=>φ h/\(∃o,h.get? a=some o)/\∀h1 h2:Heap,φ h1->(∀o,h1.get? a=some o->h2.get? a=some o)->φ h2
def HOk(H:Hp)(h:Heap):Prop:=∀a o,H a=some o->ObjOk P w H h a o
end
section
variable{P:Pw}{w:World}{H H':Hp}{h h':Heap}{a:Addr}{o:HO}
def ObjOk.lt(x:ObjOk P w H h a o):a<h.objs.size:=by
 cases o with
 |lst xs=>obtain⟨_,_,_,_,e⟩:=x;exact Pc e
 |tup xs=>obtain⟨_,_,_,p⟩:=x;exact p.lt
 |dK ax=>obtain⟨_,_,_,_,o,_,_,e,_⟩:=x;exact Pc e
 |dT ax=>obtain⟨_,_,_,_,o,_,_,e,_⟩:=x;exact Pc e
 |set S n=>obtain⟨o,_,_,_,e,_⟩:=x;exact Pc e
 |ins C dx fs=>obtain⟨_,_,_,e,_⟩:=x;exact Pc e
 |own y=>obtain⟨_,e⟩:=x;exact Pc e
 |xd fs=>obtain⟨_,⟨_,_,_,e,_⟩,_⟩:=x;exact Pc e
 |rng lo hi=>obtain⟨_,_,_,e⟩:=x;exact Pc e
 |frz ob u=>obtain⟨e,_⟩:=x;exact Pc e
 |tbl ps=>exact Pc (show h.get? a=some _ from x)
 |met f y=>exact Pc (show h.get? a=some _ from x)
 |ext φ=>obtain⟨_,⟨_,e⟩,_⟩:=x;exact Pc e
def Paired.mapP{α β:Type}{F G:α->β->Prop}:∀{l₁:List α}{l₂:List β},SO F l₁ l₂->(∀a b,F a b->G a b)->SO G l₁ l₂
 |_,_, .nil,_=> .nil
 |_,_, .cons r t,f=> .cons (f _ _ r) (Paired.mapP t f)
def ObjOk.stay(x:ObjOk P w H h a o)(k:∀b u,(b=a\/H b=some (.own a))->h.get? b=some u->h'.get? b=some u)
 (ho:∀b,H b=some (.own a)->H' b=some (.own a))(ht:∀b xs,H b=some (.tup xs)->H' b=some (.tup xs)):ObjOk P w H' h' a o:=by
 induction o with
 |lst xs=>obtain⟨z,aK,n,r,e⟩:=x;exact⟨z,aK,n,r,k _ _ (.inl rfl) e⟩
 |tup xs=>obtain⟨z,aK,r,ob,e,c⟩:=x;exact⟨z,aK,r,ob,k _ _ (.inl rfl) e,c⟩
 |dK ax=>obtain⟨z,y,vs,r,ob,es,ep,e,c⟩:=x;exact⟨z,y,vs,r,ob,es,ep,k _ _ (.inl rfl) e,c⟩
 |dT ax=>
  obtain⟨z,y,xs,r,ob,es,ep,e,c⟩:=x
  exact⟨z,y,xs,Paired.mapP r fun p q z=>⟨z.1,ht _ _ z.2.1,z.2.2⟩,ob,es,ep,k _ _ (.inl rfl) e,c⟩
 |set S n=>obtain⟨ob,es,ep,t,e,c⟩:=x;exact⟨ob,es,ep,t,k _ _ (.inl rfl) e,c⟩
 |ins C dx fs=>
  obtain⟨d,z,ne,e,mA,⟨od,es,ep,e2,c⟩,r⟩:=x
  exact⟨ho _ d,z,ne,k _ _ (.inl rfl) e,mA,⟨od,es,ep,k _ _ (.inr d) e2,c⟩,r⟩
 |own y=>obtain⟨ob,e⟩:=x;exact⟨ob,k _ _ (.inl rfl) e⟩
 |xd fs=>obtain⟨mA,⟨od,es,ep,e,c⟩,r⟩:=x;exact⟨mA,⟨od,es,ep,k _ _ (.inl rfl) e,c⟩,r⟩
 |rng lo hi=>obtain⟨t,u,v,e⟩:=x;exact⟨t,u,v,k _ _ (.inl rfl) e⟩
 |frz ob u ih=>obtain⟨e,q⟩:=x;exact⟨k _ _ (.inl rfl) e,ih q⟩
 |tbl ps=>
  have e:h.get? a=some {cls:= .none,data:= .fields ps}:=x
  show h'.get? a=some {cls:= .none,data:= .fields ps}
  exact k a _ (.inl rfl) e
 |met f y=>
  have e:h.get? a=some (Si (.ref f) (.ref y)):=x
  show h'.get? a=some (Si (.ref f) (.ref y))
  exact k a _ (.inl rfl) e
 |ext φ=>obtain⟨p,⟨o,e⟩,st⟩:=x;exact⟨st _ _ p fun o q=>k _ _ (.inl rfl) q,⟨o,k _ _ (.inl rfl) e⟩,st⟩
def HOk.lt(x:HOk P w H h)(e:H a=some o):a<h.objs.size:=(x a o e).lt
def HOk.fresh(x:HOk P w H h)(e:h.objs.size<=a):H a=none:=by
 cases q:H a with
 |none=>rfl
 |some u=>exact absurd (Py (x.lt q) e) (Qb _)
def HOk.kept(x:HOk P w H h)(k:∀b u,h.get? b=some u->h'.get? b=some u):HOk P w H h':=fun a o e=>
 (x a o e).stay (fun b u _ q=>k b u q) (fun _ q=>q) fun _ _ q=>q
def HOk.laid(x:HOk P w H h)(k:∀b u,h.get? b=some u->h'.get? b=some u)(hp:h.objs.size<=a)(new:ObjOk P w (upd H a o) h' a o):HOk P w (upd H a o) h':=fun b u e=>by
 have hn:=x.fresh hp
 by_cases hb:b=a
 ·subst hb;rw[aD] at e;cases e;exact new
 ·rw[aw hb] at e
  exact(x b u e).stay (fun c v _ q=>k c v q) (fun c q=>by rw[aw (ba q hn)];exact q) fun c xs q=>by rw[aw (ba q hn)];exact q
end
def Rd(H:Hp)(a:Addr)(u:HO):Prop:=H a=some u\/∃o,H a=some (.frz o u)
def Rd.ok{P:Pw}{w:World}{H:Hp}{h:Heap}{a:Addr}{u:HO}(r:Rd H a u)(x:HOk P w H h):ObjOk P w H h a u:=by
 rcases r with r | ⟨o,r⟩
 ·exact x a u r
 ·obtain⟨_,q⟩:=x a _ r
  exact q
def Hz:Option HO->Prop
 |some (.lst _)=>True
 |some (.dK _)=>True
 |some (.dT _)=>True
 |some (.set _ _)=>True
 |some (.ins _ _ _)=>True
 |some (.ext _)=>True
 |_=>False
section
variable{P:Pw}{w:World}{H:Hp}{h h':Heap}{x e:Addr}{o':HO}
def HOk.write(ok:HOk P w H h)(mu:Hz (H x))(he:e=x\/H e=some (.own x))(k:∀b u,b≠e->h.get? b=some u->h'.get? b=some u)(zZ:∃u,h'.get? e=some u)
 (new:ObjOk P w (upd H x o') h' x o'):HOk P w (upd H x o') h':=fun b u q=>by
 have IY:∀c y,H c=some (.own y)->c≠x:=fun c y r z=>by subst z;rw[r] at mu;exact mu
 have Lh:∀c xs,H c=some (.tup xs)->c≠x:=fun c xs r z=>by subst z;rw[r] at mu;exact mu
 by_cases hb:b=x
 ·subst hb;rw[aD] at q;cases q;exact new
 ·rw[aw hb] at q
  by_cases FA:b=e
  ·have q':H b=some (.own x):=by
    rcases he with z | z
    ·exact absurd (FA.trans z) hb
    ·rw[FA];exact z
   rw[q] at q';cases q'
   obtain⟨v,hv⟩:=zZ
   exact⟨v,by rw[FA];exact hv⟩
  ·refine(ok b u q).stay (fun c v hc r=>k c v ?_ r) (fun c r=>by rw[aw (IY c b r)];exact r) fun c xs r=>by rw[aw (Lh c xs r)];exact r
   rcases hc with rfl | hc
   ·exact FA
   ·rintro rfl
    rcases he with z | z
    ·exact IY c b hc z
    ·rw[hc] at z;cases z;exact hb rfl
end
structure Un (fs ex:List Addr) (H H':Hp) (h h':Heap):Prop where
 keep:∀b o,h.get? b=some o->H b=none->b∉fs->b∉ex->h'.get? b=some o
 slot:∀b o,h.get? b=some o->H b=none->b∈fs->b∉ex->∃sl,h'.get? b=some {o with slots:=sl}
 free:∀b o,h.get? b=some o->H b=none->b∉ex->H' b=none
 there:∀b o,h.get? b=some o->b∉ex->∃o',h'.get? b=some o'
 tups:∀b xs,H b=some (.tup xs)->H' b=some (.tup xs)
 frzs:∀b o u,H b=some (.frz o u)->H' b=some (.frz o u)
 tbls:∀b ps,H b=some (.tbl ps)->∃more,H' b=some (.tbl (ps++more))
section
variable{fs LR ex we:List Addr}{H H1 H2:Hp}{h h1 h2 h':Heap}{a x e:Addr}{o:HO}
def Un.any(u:Un fs ex H H1 h h1){b:Addr}{ob:Obj}(q:h.get? b=some ob)(n:H b=none)(hx:b∉ex):∃sl,h1.get? b=some {ob with slots:=sl}:=by
 by_cases hb:b∈fs
 ·exact u.slot b ob q n hb hx
 ·exact⟨ob.slots,u.keep b ob q n hb hx⟩
def Un.trans(a:Un fs ex H H1 h h1)(b:Un fs ex H1 H2 h1 h2):Un fs ex H H2 h h2 where
 keep:=fun c ob q n hc hx=>b.keep c ob (a.keep c ob q n hc hx) (a.free c ob q n hx) hc hx
 slot:=fun c ob q n hc hx=>by
  obtain⟨sl,e1⟩:=a.slot c ob q n hc hx
  obtain⟨G_,e2⟩:=b.slot c _ e1 (a.free c ob q n hx) hc hx
  exact⟨G_,e2⟩
 free:=fun c ob q n hx=>by
  obtain⟨o',e1⟩:=a.there c ob q hx
  exact b.free c o' e1 (a.free c ob q n hx) hx
 there:=fun c ob q hx=>by
  obtain⟨o',e1⟩:=a.there c ob q hx
  exact b.there c o' e1 hx
 tups:=fun c xs q=>b.tups c xs (a.tups c xs q)
 frzs:=fun c ob xs q=>b.frzs c ob xs (a.frzs c ob xs q)
 tbls:=fun c ps q=>by
  obtain⟨m1,e1⟩:=a.tbls c ps q
  obtain⟨m2,e2⟩:=b.tbls c _ e1
  exact⟨m1++m2,by rw[e2,Sm]⟩
def Un.kept(k:∀b u,h.get? b=some u->h'.get? b=some u):Un fs ex H H h h':=
 ⟨fun b ob q _ _ _=>k b ob q,fun b ob q _ _ _=>⟨ob.slots,k b ob q⟩,fun _ _ _ n _=>n,fun b ob q _=>⟨ob,k b ob q⟩,fun _ _ q=>q,fun _ _ _ q=>q,fun _ ps q=>⟨#[],by rw[q];simp⟩⟩
def Un.refl:Un fs ex H H h h:=Un.kept fun _ _ q=>q
def Un.laid(k:∀b u,h.get? b=some u->h'.get? b=some u)(hp:h.objs.size<=a)(hn:H a=none):Un fs ex H (upd H a o) h h' where
 keep:=fun b u q _ _ _=>k b u q
 slot:=fun b u q _ _ _=>⟨u.slots,k b u q⟩
 free:=fun b u q n _=>by rw[aw (PL (Py (Pc q) hp))];exact n
 there:=fun b u q _=>⟨u,k b u q⟩
 tups:=fun b xs q=>by rw[aw (ba q hn)];exact q
 frzs:=fun b u xs q=>by rw[aw (ba q hn)];exact q
 tbls:=fun b ps q=>⟨#[],by rw[aw (ba q hn),q];simp⟩
def Un.write(mu:Hz (H x))(he:e=x\/H e=some (.own x))(k:∀b u,b≠e->h.get? b=some u->h'.get? b=some u)(zZ:∃u,h'.get? e=some u):Un fs ex H (upd H x o) h h':=by
 have hx:∀b,H b=none->b≠x:=fun b n z=>by subst z;rw[n] at mu;exact mu
 have hb:∀b,H b=none->b≠e:=fun b n z=>by
  subst z
  rcases he with r | r
  ·exact hx b n r
  ·rw[n] at r;cases r
 have hm:∀b u,H b=some u->¬Hz (some u)->b≠x:=fun b u q nm z=>by subst z;rw[q] at mu;exact nm mu
 refine⟨fun b u q n _ _=>k b u (hb b n) q,fun b u q n _ _=>⟨u.slots,k b u (hb b n) q⟩,fun b u q n _=>by rw[aw (hx b n)];exact n,fun b u q _=>?_,
  fun b xs q=>by rw[aw (hm b _ q fun z=>z)];exact q,fun b u xs q=>by rw[aw (hm b _ q fun z=>z)];exact q,fun b ps q=>⟨#[],by rw[aw (hm b _ q fun z=>z),q];simp⟩⟩
 by_cases FA:b=e
 ·subst FA;exact zZ
 ·exact⟨u,k b u FA q⟩
def Un.mono(u:Un fs ex H H1 h h1)(hs:∀b∈fs,b∈LR)(hx:∀b∈ex,b∈we):Un LR we H H1 h h1:=
 ⟨fun b ob q n hb he=>u.keep b ob q n (fun z=>hb (hs b z)) fun z=>he (hx b z),fun _ _ q n _ he=>u.any q n fun z=>he (hx _ z),fun b ob q n he=>u.free b ob q n fun z=>he (hx b z),fun b ob q he=>u.there b ob q fun z=>he (hx b z),u.tups,u.frzs,u.tbls⟩
end
def J5(h:Heap)(H:Hp):List Addr:=(Px h.objs.size).filter fun a=>(H a).isSome
def r0(h:Heap)(H:Hp):Heap:=PySem.W.hideAll h (J5 h H)
def y8(h:Heap)(H:Hp):(r0 h H).objs.size=h.objs.size:=PySem.W.hideAll_size _ _
def AM{h:Heap}{H:Hp}{b:Addr}{o:Obj}(e:h.get? b=some o)(n:H b=none):(r0 h H).get? b=some o:=
 PySem.W.hideAll_get _ e fun hm=>by
  have q:(H b).isSome=true:=(Qd.mp hm).2
  rw[n] at q;simp at q
def Dl{h:Heap}{H:Hp}{b:Addr}{o:Obj}(e:(r0 h H).get? b=some o):h.get? b=some o/\H b=none:=by
 have e':h.get? b=some o:=PySem.W.of_hideAll (J5 h H) e
 refine⟨e',?_⟩
 cases q:H b with
 |none=>rfl
 |some x=>
  have hm:b∈J5 h H:=Qd.mpr ⟨QO.mpr (Pc e'),by simp[q]⟩
  have z:(r0 h H).get? b=none:=PySem.W.hideAll_none (J5 h H) hm
  rw[z] at e;cases e
def Cv(g h:Heap)(L:Addr):List (Addr×Obj):=(Px h.objs.size).filterMap fun a=>if a=L\/(g.get? a).isSome=true then none else(h.get? a).map fun o=>(a,o)
def rest(g h:Heap)(L d:Addr):List (Addr×Obj):=(Cv g h L).filter fun p=>decide (p.1≠d)
structure Mod (K:O2) (mg:Str->Option Value) (base:Heap):Prop where
 kin:K.In base
 glob:base.Ns Pm mg
 blt:∃mb,base.Ns builtinsNs mb/\∀x:Str,x≠"__name__"->mb x=Qi x
 nolimit:base.NoLimit
structure Cx where
 prog:Pw
 w:World
 K:O2
 mg:Str->Option Value
 base:Heap
 A:P_
 N:List Str
 s₀:O0
 H₀:Hp
 env:Env
 outer:List Env
 stack:List Env
 ex:List Addr
 fn:Str->Bool
 calm:Bool
 pn:List (Addr×Obj)
 xe:Value->O0->Prop
def ng(l:List Env):List Addr:=l.filterMap (·.frame)
abbrev Cx.fs(X:Cx):List Addr:=ng X.outer
def Kg(sc:Scope)(x:Str):Prop:=sc.names.lookup x=some .local\/sc.names.lookup x=some .cell\/sc.names.lookup x=some .free
def Loc(sc:Scope)(x:Str):Prop:=sc.names.lookup x=some .local\/sc.names.lookup x=some .cell
def Look(env:Env)(h:Heap)(m:Str->Option Value)(x:Str)(u:Value):Prop:=
 (env.kindOf x=some .local/\m x=some u)\/((env.kindOf x=some .cell\/env.kindOf x=some .free)/\∃c,env.cells.lookup x=some c/\h.IsCell c (some u))
structure Cx.Ok (X:Cx):Prop where
 mod:Mod X.K X.mg X.base
 kind:X.env.scope.kind= .function
 glob:X.env.globals=Pm
 blt:X.env.builtins=builtinsNs
 above:X.s₀.heap.objs.size<=X.env.locals
 inj:∀x y c,X.env.cells.lookup x=some c->X.env.cells.lookup y=some c->x=y
 has:∀x,(X.env.kindOf x=some .cell\/X.env.kindOf x=some .free)->∃c,X.env.cells.lookup x=some c
 cab:∀x c,X.fn x=true->X.env.cells.lookup x=some c->X.s₀.heap.objs.size<=c
 hd:X.calm=true->X.A.handled=none
 frames:X.A.frames=some X.stack
 stk:X.stack=X.outer\/(X.stack=X.env::X.outer/\X.env.frame=some X.env.locals)
 exf:∀b∈X.ex,b≠X.env.locals/\∀x c,X.env.cells.lookup x=some c->c≠b
 bs:∀b o,X.base.get? b=some o->X.s₀.heap.get? b=some o/\X.H₀ b=none
 bsz:X.base.objs.size<=X.s₀.heap.objs.size
 noex:∀b o,X.base.get? b=some o->b∉X.ex
 exfs:∀b∈X.ex,b∉X.fs
 funs:X.s₀.heap.FunFrames X.base X.outer
 frf:∀b∈X.fs,X.H₀ b=none
structure Inv (X:Cx) (pins:List (Addr×Obj)) (σ:List (Option V)) (H:Hp) (s:O0):Prop where
 ok:X.Ok
 os:s.os=X.s₀.os
 bare:Sn s.gens
 base:Un X.fs X.ex X.H₀ H X.s₀.heap s.heap
 loc:∃m,s.heap.Ns X.env.locals m/\∀(i:Nat) (x:Str) (v:V),X.N[i]? =some x->σ[i]? =some (some v)->Kg X.env.scope x->∃u,RelV v u/\Look X.env s.heap m x u
 cell:∀x c,X.env.cells.lookup x=some c->∃v,s.heap.IsCell c v
 free:H X.env.locals=none
 freeC:∀x c,X.env.cells.lookup x=some c->H c=none
 pin:∀p∈X.pn++pins,s.heap.get? p.1=some p.2/\H p.1=none/\p.1≠X.env.locals/\p.1∉X.fs/\∀v,p.2.data≠ .cell v
 hok:HOk X.prog X.w H s.heap
 len:σ.length=X.N.length
section
variable{X:Cx}{pins:List (Addr×Obj)}{σ:List (Option V)}{H H':Hp}{s:O0}{h':Heap}
def Cx.Ok.nofr(ok:X.Ok){b:Addr}{o:Obj}(e:X.base.get? b=some o):b∉X.fs:=fun hb=>by
 have:=(ok.funs.mem hb).1
 rw[e] at this;cases this
def Inv.bs(I:Inv X pins σ H s):∀b o,X.base.get? b=some o->s.heap.get? b=some o/\H b=none:=fun b o e=>
 ⟨I.base.keep b o (I.ok.bs b o e).1 (I.ok.bs b o e).2 (I.ok.nofr e) (I.ok.noex b o e),I.base.free b o (I.ok.bs b o e).1 (I.ok.bs b o e).2 (I.ok.noex b o e)⟩
def Inv.bk(I:Inv X pins σ H s):∀b o,X.base.get? b=some o->s.heap.get? b=some o:=fun b o e=>(I.bs b o e).1
def Inv.mod(I:Inv X pins σ H s):Mod X.K X.mg X.base:=I.ok.mod
def Inv.kIn(I:Inv X pins σ H s):X.K.In s.heap:=I.ok.mod.kin.keeps I.bk
def Inv.nolimit(I:Inv X pins σ H s):s.heap.NoLimit:=I.ok.mod.nolimit.keeps I.bk
def Inv.lt(I:Inv X pins σ H s):X.env.locals<s.heap.objs.size:=let ⟨_,hn,_⟩:=I.loc;hn.lt
def Inv.sz(I:Inv X pins σ H s):X.s₀.heap.objs.size<=s.heap.objs.size:=PM I.ok.above (QI I.lt)
def Inv.nofs(I:Inv X pins σ H s){a:Addr}(h:s.heap.objs.size<=a):a∉X.fs:=fun hb=>by
 obtain⟨_,o,ho,_⟩:=I.ok.funs.mem hb
 exact absurd (Py (Pc ho) (PM I.sz h)) (Qb _)
def Inv.cne(I:Inv X pins σ H s):∀x c,X.env.cells.lookup x=some c->c≠X.env.locals:=fun x c e z=>by
 obtain⟨v,o,ho,hd⟩:=I.cell x c e
 obtain⟨m,⟨o',es,ep,qF,vQ,_⟩,_⟩:=I.loc
 rw[z,qF] at ho;cases ho;rw[vQ] at hd;cases hd
def Inv.funs(I:Inv X pins σ H s):s.heap.FunFrames X.base X.outer:=by
 have all:∀(l:List Env),(∀b∈ng l,b∈X.fs)->X.s₀.heap.FunFrames X.base l->s.heap.FunFrames X.base l:=by
  intro l
  induction l with
  |nil=>intro _ _;trivial
  |cons env r ih=>
   intro hs hl
   obtain⟨hk,⟨L,o,hf,hn,ho,hd⟩,hr⟩:=hl
   have hL:L∈X.fs:=hs L (by unfold ng;rw[Sf,hf];exact OV)
   obtain⟨sl,e⟩:=I.base.slot L o ho (I.ok.frf L hL) hL fun z=>I.ok.exfs L z hL
   exact⟨hk,⟨L,_,hf,hn,e,hd⟩,ih (fun b hb=>hs b (by unfold ng;rw[Sf,hf];exact OU _ hb)) hr⟩
 exact all X.outer (fun _ hb=>hb) I.ok.funs
def Inv.stack(I:Inv X pins σ H s):s.heap.FunFrames X.base X.stack:=by
 rcases I.ok.stk with e | ⟨e,hf⟩
 ·rw[e];exact I.funs
 ·rw[e]
  obtain⟨m,hn,_⟩:=I.loc
  refine .cons (by rw[I.ok.kind];decide) hf hn ?_ I.funs
  exact TL (PM I.ok.bsz I.ok.above)
def Inv.stkSub(I:Inv X pins σ H s):∀b∈ng X.stack,b∈X.env.locals::X.fs:=fun b hb=>by
 rcases I.ok.stk with e | ⟨e,hf⟩
 ·rw[e] at hb;exact OU _ hb
 ·rw[e] at hb
  unfold ng at hb
  rw[Sf,hf] at hb
  exact hb
def Inv.stkFree(I:Inv X pins σ H s):∀b∈ng X.stack,H b=none:=fun b hb=>by
 rcases O6.mp (I.stkSub b hb) with e | hb
 ·rw[e];exact I.free
 ·obtain⟨_,o,ho,_⟩:=I.ok.funs.mem hb
  exact I.base.free b o ho (I.ok.frf b hb) fun z=>I.ok.exfs b z hb
def Inv.step{g':Array GenState}{t':Nat}{d':Drawn}{ch:List Addr}(I:Inv X pins σ H s)
 (Cq:∀b∈ch,(b∈X.ex\/X.s₀.heap.objs.size<=b)/\b≠X.env.locals/\(∀x c,X.env.cells.lookup x=some c->c≠b)/\∀p∈X.pn++pins,p.1≠b)
 (keep:∀b o,b≠X.env.locals->b∉X.fs->b∉ch->s.heap.get? b=some o->H b=none->h'.get? b=some o)
 (slot:∀b o,b≠X.env.locals->b∈X.fs->b∉ch->s.heap.get? b=some o->H b=none->∃sl,h'.get? b=some {o with slots:=sl})(free:∀b o,b∉ch->s.heap.get? b=some o->H b=none->H' b=none)
 (there:∀b o,b∉ch->s.heap.get? b=some o->∃o',h'.get? b=some o')
 (tups:∀b xs,H b=some (.tup xs)->H' b=some (.tup xs))(frzs:∀b o u,H b=some (.frz o u)->H' b=some (.frz o u))(tbls:∀b ps,H b=some (.tbl ps)->∃more,H' b=some (.tbl (ps++more)))
 (ns:∀m,s.heap.Ns X.env.locals m->h'.Ns X.env.locals m)(hok:HOk X.prog X.w H' h')(hg:Sn g'):
 Inv X pins σ H' {s with heap:=h',gens:=g',drawn:=d',toks:=t'}:=by
 have Mx:∀b o,X.s₀.heap.get? b=some o->b≠X.env.locals:=fun b o e=>PL (Py (Pc e) I.ok.above)
 have J1:∀b o,X.s₀.heap.get? b=some o->b∉X.ex->b∉ch:=fun b o e hx hb=>by
  rcases(Cq b hb).1 with z | z
  ·exact hx z
  ·exact absurd (Py (Pc e) z) (Qb _)
 have cellK:∀x c,X.env.cells.lookup x=some c->∀v,s.heap.IsCell c v->h'.IsCell c v:=fun x c e v ⟨o,ho,hd⟩=>by
  have IU:c∉ch:=fun z=>(Cq c z).2.2.1 x c e rfl
  by_cases hc:c∈X.fs
  ·obtain⟨sl,q⟩:=slot c o (I.cne x c e) hc IU ho (I.freeC x c e)
   exact⟨_,q,hd⟩
  ·exact⟨o,keep c o (I.cne x c e) hc IU ho (I.freeC x c e),hd⟩
 refine⟨I.ok,I.os,hg,⟨fun b o e n hb hx=>?_,fun b o e n hb hx=>?_,fun b o e n hx=>?_,fun b o e hx=>?_,fun b xs e=>tups b xs (I.base.tups b xs e),fun b o xs e=>frzs b o xs (I.base.frzs b o xs e),fun b ps e=>?_⟩,?_,fun x c e=>?_,?_,fun x c e=>?_,fun p hp=>?_,hok,I.len⟩
 ·exact keep b o (Mx b o e) hb (J1 b o e hx) (I.base.keep b o e n hb hx) (I.base.free b o e n hx)
 ·obtain⟨sl,e1⟩:=I.base.slot b o e n hb hx
  obtain⟨G_,e2⟩:=slot b _ (Mx b o e) hb (J1 b o e hx) e1 (I.base.free b o e n hx)
  exact⟨G_,e2⟩
 ·obtain⟨o',e1⟩:=I.base.there b o e hx
  exact free b o' (J1 b o e hx) e1 (I.base.free b o e n hx)
 ·obtain⟨o',e1⟩:=I.base.there b o e hx
  exact there b o' (J1 b o e hx) e1
 ·obtain⟨m1,e1⟩:=I.base.tbls b ps e
  obtain⟨m2,e2⟩:=tbls b _ e1
  exact⟨m1++m2,by rw[e2,Sm]⟩
 ·obtain⟨m,hn,hl⟩:=I.loc
  refine⟨m,ns m hn,fun i x v e1 e2 e3=>?_⟩
  obtain⟨u,r,l⟩:=hl i x v e1 e2 e3
  refine⟨u,r,?_⟩
  rcases l with l | ⟨k,c,e,z⟩
  ·exact .inl l
  ·exact .inr ⟨k,c,e,cellK x c e _ z⟩
 ·obtain⟨v,z⟩:=I.cell x c e
  exact⟨v,cellK x c e v z⟩
 ·obtain⟨m,⟨o,_,_,ho,_⟩,_⟩:=I.loc
  exact free _ o (fun z=>(Cq _ z).2.1 rfl) ho I.free
 ·obtain⟨v,o,ho,hd⟩:=I.cell x c e
  exact free c o (fun z=>(Cq c z).2.2.1 x c e rfl) ho (I.freeC x c e)
 ·obtain⟨e,n,ne,nf,d⟩:=I.pin p hp
  have IU:p.1∉ch:=fun z=>(Cq p.1 z).2.2.2 p hp rfl
  exact⟨keep p.1 p.2 ne nf IU e n,free p.1 p.2 IU e n,ne,nf,d⟩
def Inv.un{t':Nat}(I:Inv X pins σ H s)(u:Un X.fs [] H H' s.heap h')(hok:HOk X.prog X.w H' h'):Inv X pins σ H' {s with heap:=h',toks:=t'}:=by
 obtain⟨m,⟨o,es,ep,ho,r⟩,_⟩:=id I.loc
 obtain⟨sl,hL⟩:=u.any ho I.free (by simp)
 exact I.step (g':=s.gens) (d':=s.drawn) (ch:=[]) (fun _ z=>nomatch z) (fun b o _ hb _ e n=>u.keep b o e n hb (by simp)) (fun b o _ hb _ e n=>u.slot b o e n hb (by simp)) (fun b o _ e n=>u.free b o e n (by simp)) (fun b o _ e=>u.there b o e (by simp)) u.tups u.frzs u.tbls (fun m' hm=>by
  obtain⟨o',Hm,CJ,qF,r'⟩:=hm
  rw[ho] at qF;cases qF
  exact⟨_,Hm,CJ,hL,r'⟩) hok I.bare
def Inv.call{g':Array GenState}{t':Nat}{d':Drawn}{ch:List Addr}(I:Inv X pins σ H s)(u:Un (ng X.stack) ch H H' s.heap h')(hok:HOk X.prog X.w H' h')(hg:Sn g')
 (Cq:∀b∈ch,(b∈X.ex\/X.s₀.heap.objs.size<=b)/\b≠X.env.locals/\(∀x c,X.env.cells.lookup x=some c->c≠b)/\∀p∈X.pn++pins,p.1≠b):
 Inv X pins σ H' {s with heap:=h',gens:=g',drawn:=d',toks:=t'}:=by
 obtain⟨m,⟨o,es,ep,ho,r⟩,_⟩:=id I.loc
 obtain⟨sl,hL⟩:=u.any ho I.free fun z=>(Cq _ z).2.1 rfl
 exact I.step (ch:=ch) Cq (fun b o hL hb hc e n=>u.keep b o e n (fun z=>(O6.mp (I.stkSub b z)).elim hL hb) hc) (fun b o _ _ hc e n=>u.any e n hc) (fun b o hc e n=>u.free b o e n hc) (fun b o hc e=>u.there b o e hc) u.tups u.frzs u.tbls (fun m' hm=>by
  obtain⟨o',Hm,CJ,qF,r'⟩:=hm
  rw[ho] at qF;cases qF
  exact⟨_,Hm,CJ,hL,r'⟩) hok hg
def Inv.turned{t':Nat}{it:Addr}(I:Inv X pins σ H s)(k:∀b o,b≠it->s.heap.get? b=some o->h'.get? b=some o)(hn:H it=none)(hL:it≠X.env.locals)
 (h1:it∈X.ex\/X.s₀.heap.objs.size<=it)(h2:∀x c,X.env.cells.lookup x=some c->c≠it)(h3:∀p∈X.pn++pins,p.1≠it):Inv X pins σ H {s with heap:=h',toks:=t'}:=by
 have EL:∀b u,H b=some u->b≠it:=fun b u e z=>by rw[z,hn] at e;cases e
 refine I.step (g':=s.gens) (d':=s.drawn) (ch:=[it]) (fun b hb=>?_) (fun b o _ _ hc e _=>k b o (fun z=>hc (by simp[z])) e) (fun b o _ _ hc e _=>⟨o.slots,k b o (fun z=>hc (by simp[z])) e⟩) (fun _ _ _ _ n=>n)
  (fun b o hc e=>⟨o,k b o (fun z=>hc (by simp[z])) e⟩) (fun _ _ e=>e) (fun _ _ _ e=>e) (fun b ps e=>⟨#[],by rw[e];simp⟩) (fun m hm=>?_) (fun b u e=>?_) I.bare
 ·have e:b=it:=by simpa using hb
  subst e
  exact⟨h1,hL,h2,h3⟩
 ·obtain⟨o,es,ep,ho,r⟩:=hm
  exact⟨o,es,ep,k _ o (PX hL) ho,r⟩
 ·refine(I.hok b u e).stay (fun c v hc q=>k c v ?_ q) (fun _ q=>q) fun _ _ q=>q
  rcases hc with z | z
  ·rw[z];exact EL b u e
  ·exact EL c _ z
def Inv.tok(I:Inv X pins σ H s)(t:Nat):Inv X pins σ H {s with toks:=t}:=I.un (h':=s.heap) (t':=t) Un.refl I.hok
def Inv.kept{t':Nat}(I:Inv X pins σ H s)(k:∀b u,s.heap.get? b=some u->h'.get? b=some u):Inv X pins σ H {s with heap:=h',toks:=t'}:=I.un (Un.kept k) (I.hok.kept k)
def Inv.laid{a:Addr}{o:HO}{t':Nat}(I:Inv X pins σ H s)(k:∀b u,s.heap.get? b=some u->h'.get? b=some u)(hp:s.heap.objs.size<=a)(new:ObjOk X.prog X.w (upd H a o) h' a o):
 Inv X pins σ (upd H a o) {s with heap:=h',toks:=t'}:=I.un (Un.laid k hp (I.hok.fresh hp)) (I.hok.laid k hp new)
def Inv.write{x e:Addr}{o:HO}{t':Nat}(I:Inv X pins σ H s)(mu:Hz (H x))(he:e=x\/H e=some (.own x))(k:∀b u,b≠e->s.heap.get? b=some u->h'.get? b=some u)(zZ:∃u,h'.get? e=some u)
 (new:ObjOk X.prog X.w (upd H x o) h' x o):Inv X pins σ (upd H x o) {s with heap:=h',toks:=t'}:=I.un (Un.write mu he k zZ) (I.hok.write mu he k zZ new)
def Inv.pins_of{EV:List (Addr×Obj)}(I:Inv X pins σ H s)(h:∀p∈EV,s.heap.get? p.1=some p.2/\H p.1=none/\p.1≠X.env.locals/\p.1∉X.fs/\∀v,p.2.data≠ .cell v):Inv X EV σ H s:=
 ⟨I.ok,I.os,I.bare,I.base,I.loc,I.cell,I.free,I.freeC,fun p hp=>(Pq.mp hp).elim (fun z=>I.pin p (Rl _ z)) (h p),I.hok,I.len⟩
def uM{N:List Str}(hN:N.Nodup){i j:Nat}{x:Str}(a:N[i]? =some x)(b:N[j]? =some x):i=j:=by
 obtain⟨h1,e1⟩:=OZ.mp a
 obtain⟨h2,e2⟩:=OZ.mp b
 exact(List.getElem_inj hN).mp (e1.trans e2.symm)
def rB{M:Model}{A:P_}{E:Value->O0->Prop}{i:Nat}{x:Str}{v:V}{u:Value}{Q:Unit->O0->Prop}(I:Inv X pins σ H s)(hN:X.N.Nodup)(hi:X.N[i]? =some x)(hx:Loc X.env.scope x)(r:RelV v u)
 (h:∀s',Inv X pins (σ.set i (some v)) H s'->(∃a,QV a s.heap s'.heap/\(a=X.env.locals\/X.env.cells.lookup x=some a))->Q () s')(hf:X.fn x=true\/X.env.scope.names.lookup x=some .local:=by first | exact .inl rfl | exact .inr rfl | assumption):wpAny M A (storeName X.env x u) Q E s:=by
 obtain⟨m,hn,hl⟩:=id I.loc
 have Ks:(X.env.scope.kind== .class||(X.env.scope.kind== .module&&X.env.locals !=X.env.globals))=false:=by rw[I.ok.kind];rfl
 have Mc:i<σ.length:=by rw[I.len];exact(OZ.mp hi).1
 have cne:=I.cne
 have tracked:∀{a:Addr}{h':Heap},(∃o,s.heap.get? a=some o/\H a=none)->QV a s.heap h'->HOk X.prog X.w H h':=fun {a h'} ha hs b ob e=>by
  obtain⟨_,_,EB⟩:=ha
  refine(I.hok b ob e).stay (fun c w' hc q=>(hs.2 c ?_).trans q) (fun _ q=>q) fun _ _ q=>q
  rintro rfl
  rcases hc with rfl | hc
  ·rw[EB] at e;cases e
  ·rw[EB] at hc;cases hc
 rcases hx with hk | hk
 ·refine wpAny_storeName_local hk hn (fun h' NM hs=>?_) Ks
  obtain⟨oL,_,_,JT,_⟩:=id hn
  refine h _ ⟨I.ok,I.os,I.bare,⟨fun b o e n hb hx=>?_,fun b o e n hb hx=>?_,I.base.free,fun b o e hx=>?_,I.base.tups,I.base.frzs,I.base.tbls⟩,⟨_,NM,fun j y v' e1 e2 e3=>?_⟩,fun y c e=>?_,I.free,I.freeC,fun p hp=>?_,tracked ⟨oL,JT,I.free⟩ hs,by simpa using I.len⟩ ⟨_,hs, .inl rfl⟩
  ·exact(hs.2 b (PL (Py (Pc e) I.ok.above))).trans (I.base.keep b o e n hb hx)
  ·obtain⟨sl,e1⟩:=I.base.slot b o e n hb hx
   exact⟨sl,(hs.2 b (PL (Py (Pc e) I.ok.above))).trans e1⟩
  ·obtain⟨o',e1⟩:=I.base.there b o e hx
   exact⟨o',(hs.2 b (PL (Py (Pc e) I.ok.above))).trans e1⟩
  ·by_cases hj:j=i
   ·subst hj
    rw[hi] at e1;cases e1
    rw[Pa Mc] at e2
    cases e2
    exact⟨u,r, .inl ⟨hk,by simp⟩⟩
   ·rw[O1 (PX hj)] at e2
    obtain⟨u',r',q⟩:=hl j y v' e1 e2 e3
    refine⟨u',r',?_⟩
    rcases q with⟨k,e⟩ | ⟨k,c,e,z⟩
    ·refine .inl ⟨k,?_⟩
     have:y≠x:=fun e=>hj (uM hN e1 (e▸hi))
     simp[this,e]
    ·exact .inr ⟨k,c,e,z.sameBut hs (cne y c e)⟩
  ·obtain⟨w',z⟩:=I.cell y c e
   exact⟨w',z.sameBut hs (cne y c e)⟩
  ·obtain⟨e,n,ne,nf,d⟩:=I.pin p hp
   exact⟨(hs.2 p.1 ne).trans e,n,ne,nf,d⟩
 ·have Kw:X.fn x=true:=by
   rcases hf with z | z
   ·exact z
   ·rw[z] at hk;cases hk
  obtain⟨c,hc⟩:=I.ok.has x (.inl hk)
  obtain⟨w',z⟩:=I.cell x c hc
  refine wpAny_storeName_cell I.ok.kind hk hc z (fun h' AK hs=>?_)
  obtain⟨oc,FR,KS⟩:=id z
  refine h {s with heap:=h'} ⟨I.ok,I.os,I.bare,⟨fun b o e n hb hx=>?_,fun b o e n hb hx=>?_,I.base.free,fun b o e hx=>?_,I.base.tups,I.base.frzs,I.base.tbls⟩,⟨m,hn.sameBut hs (PX (cne x c hc)),fun j y v' e1 e2 e3=>?_⟩,fun y c' e=>?_,I.free,I.freeC,fun p hp=>?_,tracked ⟨oc,FR,I.freeC x c hc⟩ hs,by simpa using I.len⟩ ⟨c,hs, .inr hc⟩
  ·exact(hs.2 b (PL (Py (Pc e) (I.ok.cab x c Kw hc)))).trans (I.base.keep b o e n hb hx)
  ·obtain⟨sl,e1⟩:=I.base.slot b o e n hb hx
   exact⟨sl,(hs.2 b (PL (Py (Pc e) (I.ok.cab x c Kw hc)))).trans e1⟩
  ·obtain⟨o',e1⟩:=I.base.there b o e hx
   exact⟨o',(hs.2 b (PL (Py (Pc e) (I.ok.cab x c Kw hc)))).trans e1⟩
  ·by_cases hj:j=i
   ·subst hj
    rw[hi] at e1;cases e1
    rw[Pa Mc] at e2
    cases e2
    exact⟨u,r, .inr ⟨.inl hk,c,hc,AK⟩⟩
   ·rw[O1 (PX hj)] at e2
    obtain⟨u',r',q⟩:=hl j y v' e1 e2 e3
    refine⟨u',r',?_⟩
    rcases q with q | ⟨k,c',e,z'⟩
    ·exact .inl q
    ·refine .inr ⟨k,c',e,z'.sameBut hs ?_⟩
     rintro rfl
     exact hj (uM hN e1 (I.ok.inj _ _ _ e hc▸hi))
  ·by_cases JO:c'=c
   ·subst JO;exact⟨_,AK⟩
   ·obtain⟨w2,z2⟩:=I.cell y c' e
    exact⟨w2,z2.sameBut hs JO⟩
  ·obtain⟨e,n,ne,nf,d⟩:=I.pin p hp
   refine⟨(hs.2 p.1 ?_).trans e,n,ne,nf,d⟩
   intro q
   rw[q,FR] at e
   have q':oc=p.2:=Pg e
   exact d w' (by rw[<-q'];exact KS)
def vx{M:Model}{A:P_}{E:Value->O0->Prop}{i:Nat}{x:Str}{v:V}{u:Value}{Q:Unit->O0->Prop}(I:Inv X pins σ H s)(hN:X.N.Nodup)(hi:X.N[i]? =some x)(hx:Loc X.env.scope x)(r:RelV v u)
 (h:∀s',Inv X pins (σ.set i (some v)) H s'->Q () s')(hf:X.fn x=true\/X.env.scope.names.lookup x=some .local:=by first | exact .inl rfl | exact .inr rfl | assumption):wpAny M A (storeName X.env x u) Q E s:=
 rB I hN hi hx r (fun s' I' _=>h s' I') hf
def Inv.call'{s':O0}{ch:List Addr}(I:Inv X pins σ H s)(ho:s'.os=s.os)(u:Un (ng X.stack) ch H H' s.heap s'.heap)(hok:HOk X.prog X.w H' s'.heap)(hg:Sn s'.gens)
 (Cq:∀b∈ch,(b∈X.ex\/X.s₀.heap.objs.size<=b)/\b≠X.env.locals/\(∀x c,X.env.cells.lookup x=some c->c≠b)/\∀p∈X.pn++pins,p.1≠b):Inv X pins σ H' s':=by
 obtain⟨h',g',d',t',o'⟩:=s'
 have e:o'=s.os:=ho
 subst e
 exact I.call (g':=g') (t':=t') (d':=d') u hok hg Cq
end
abbrev XK:=Value->Option Addr->Hp->Prop
abbrev St:=List (Option V)
abbrev VK:=V->Hp->Prop
abbrev TE:=St->Hp->VK->Prop
abbrev TT:=St->Hp->(Bool->Hp->Prop)->Prop
abbrev TA:=St->Hp->(List V->Hp->Prop)->Prop
structure Ends where
 nx:St->Hp->Prop
 rt:VK
 bk:St->Hp->Prop:=fun _ _=>False
 ct:St->Hp->Prop:=fun _ _=>False
abbrev TS:=Ends->St->Hp->Prop
def EP(X:Cx)(pins:List (Addr×Obj))(σ:St)(Q:VK)(u:Value)(s':O0):Prop:=∃v H',Inv X pins σ H' s'/\RelV v u/\Q v H'
def TP(X:Cx)(pins:List (Addr×Obj))(σ:St)(Q:Bool->Hp->Prop)(b:Bool)(s':O0):Prop:=∃H',Inv X pins σ H' s'/\Q b H'
def AP(X:Cx)(pins:List (Addr×Obj))(σ:St)(Q:List V->Hp->Prop)(us:List Value)(s':O0):Prop:=∃vs H',Inv X pins σ H' s'/\Vals vs us/\Q vs H'
def SP(X:Cx)(pins:List (Addr×Obj))(D:Ends)(f:Flow)(s':O0):Prop:=
 match f with
 | .next=>∃σ' H',Inv X pins σ' H' s'/\D.nx σ' H'
 | .brk=>∃σ' H',Inv X pins σ' H' s'/\D.bk σ' H'
 | .cont=>∃σ' H',Inv X pins σ' H' s'/\D.ct σ' H'
 | .ret u=>∃v σ' H',Inv X pins σ' H' s'/\RelV v u/\D.rt v H'
def PE(X:Cx)(e:Expr)(t:TE):Prop:=
 ∀(pins:List (Addr×Obj)) (s:O0) (σ:St) (H:Hp) (Q:VK),Inv X pins σ H s->t σ H Q->wpAny (model X.prog X.w) X.A (eval e X.env) (EP X pins σ Q) X.xe s
def PT(X:Cx)(e:Expr)(t:TT):Prop:=
 ∀(pins:List (Addr×Obj)) (s:O0) (σ:St) (H:Hp) (Q:Bool->Hp->Prop),Inv X pins σ H s->t σ H Q->wpAny (model X.prog X.w) X.A (isTrue e X.env (eval e X.env)) (TP X pins σ Q) X.xe s
def PW(X:Cx)(e:Expr)(t:TT):Prop:=
 ∀(whole:Sem Value) (pins:List (Addr×Obj)) (s:O0) (σ:St) (H:Hp) (Q:Bool->Hp->Prop),Inv X pins σ H s->t σ H Q->wpAny (model X.prog X.w) X.A (isTrue e X.env whole) (TP X pins σ Q) X.xe s
def PW.pt{X:Cx}{e:Expr}{t:TT}(h:PW X e t):PT X e t:=h _
def PA(X:Cx)(es:List Expr)(t:TA):Prop:=
 ∀(pos:Pos) (pins:List (Addr×Obj)) (s:O0) (σ:St) (H:Hp) (Q:List V->Hp->Prop),Inv X pins σ H s->t σ H Q->wpAny (model X.prog X.w) X.A (spliced (Q4 pos (Ph es X.env))) (AP X pins σ Q) X.xe s
def PS(X:Cx)(st:Stmt)(t:TS):Prop:=
 ∀(pins:List (Addr×Obj)) (s:O0) (σ:St) (H:Hp) (D:Ends),Inv X pins σ H s->t D σ H->wpAny (model X.prog X.w) X.A (exec st X.env) (SP X pins D) X.xe s
def PSs(X:Cx)(st:List Stmt)(t:TS):Prop:=
 ∀(pins:List (Addr×Obj)) (s:O0) (σ:St) (H:Hp) (D:Ends),Inv X pins σ H s->t D σ H->wpAny (model X.prog X.w) X.A (execs st X.env) (SP X pins D) X.xe s
def b7{α:Type}{t:Sem α}{Q Q':α->O0->Prop}{M:Model}{A:P_}{E:Value->O0->Prop}{s:O0}(h:wpAny M A t Q E s)(hQ:∀a s,Q a s->Q' a s):wpAny M A t Q' E s:=Qf h hQ fun _ _ x=>x
section
variable{X:Cx}
def bin{a b:Expr}{ta tb:TE}(ha:PE X a ta)(hb:PE X b tb){pins:List (Addr×Obj)}{s:O0}{σ:St}{H:Hp}{R:V->V->Hp->Prop}(I:Inv X pins σ H s)(h:ta σ H fun x H1=>tb σ H1 fun y H2=>R x y H2)
 {α:Type}{Q:α->O0->Prop}{f:Value->Value->Sem α}
 (hf:∀v u s2 x y H2,Inv X pins σ H2 s2->RelV x v->RelV y u->R x y H2->wpAny (model X.prog X.w) X.A (f v u) Q X.xe s2):
 wpAny (model X.prog X.w) X.A (eval a X.env) (fun v s₁=>wpAny (model X.prog X.w) X.A (eval b X.env) (fun u s₂=>wpAny (model X.prog X.w) X.A (f v u) Q X.xe s₂) X.xe s₁) X.xe s:=by
 refine b7 (ha pins s σ H _ I h) fun v s1 ⟨x,H1,I1,r1,q1⟩=>?_
 refine b7 (hb pins s1 σ H1 _ I1 q1) fun u s2 ⟨y,H2,I2,r2,q2⟩=>?_
 exact hf v u s2 x y H2 I2 r1 r2 q2
def kg(i:Nat):TE:=fun σ H Q=>∃v,σ[i]? =some (some v)/\Q v H
def tC(v:V):TE:=fun _ H Q=>Q v H
def GR{i:Nat}{x:Str}{pos:Pos}(hN:X.N[i]? =some x)(hv:Kg X.env.scope x)(hd:(x==("__debug__":Str))=false:=by decide)(vP:(x==("__classdict__":Str))=false:=by decide):PE X (.Name x pos) (kg i):=by
 intro pins s σ H Q I h
 obtain⟨v,e,h⟩:=h
 obtain⟨m,hn,hl⟩:=I.loc
 obtain⟨u,r,l⟩:=hl i x v hN e hv
 have fin:EP X pins σ Q u s:=⟨v,H,I,r,h⟩
 rcases l with⟨hk,hm⟩ | ⟨hk,c,hc,Ez⟩
 ·exact wpAny_Name (wpAny_loadName_local I.ok.kind hk hn hm fin) hd
 ·rcases hk with hk | hk
  ·exact wpAny_Name (wpAny_loadName_cell I.ok.kind hk hc Ez fin) hd
  ·exact wpAny_Name (wpAny_loadName_free I.ok.kind hk hc Ez fin vP) hd
def GJ{i j pos}:PE X (.Constant (.int i) j pos) (tC (.int i)):=fun _ _ _ H _ I h=>wpAny_Constant_int ⟨.int i,H,I.tok _,⟨_,rfl⟩,h⟩
def EU{b j pos}:PE X (.Constant (.bool b) j pos) (tC (.bl b)):=fun _ _ _ H _ I h=>Constant_bool ⟨.bl b,H,I,rfl,h⟩
def GK{j pos}:PE X (.Constant .none j pos) (tC .non):=fun _ _ _ H _ I h=>Constant_none ⟨.non,H,I,rfl,h⟩
def GO{x j pos}:PE X (.Constant (.str x) j pos) (tC (.str x)):=fun _ _ _ H _ I h=>Calls.Constant_str ⟨.str x,H,I.tok _,⟨_,rfl⟩,h⟩
def Gl(X:Cx)(x:Str):Prop:=X.env.kindOf x=some .globalImplicit
def yf{E:Value->O0->Prop}{pins:List (Addr×Obj)}{s:O0}{σ:St}{H:Hp}{x:Str}{u:Value}{pos:Pos}{Q:Value->O0->Prop}(I:Inv X pins σ H s)(hg:Gl X x)(hm:X.mg x=some u)(h:Q u s)
 (hd:(x==("__debug__":Str))=false:=by decide):wpAny (model X.prog X.w) X.A (eval (.Name x pos) X.env) Q E s:=
 SY I.ok.kind hg (Calls.loadGlobal_global (by rw[I.ok.glob];exact I.mod.glob.keeps I.bk) hm h) hd
def oC{E:Value->O0->Prop}{pins:List (Addr×Obj)}{s:O0}{σ:St}{H:Hp}{x:Str}{u:Value}{pos:Pos}{Q:Value->O0->Prop}(I:Inv X pins σ H s)(hg:Gl X x)(hm:X.mg x=none)(hv:Qi x=some u)(h:Q u s)
 (hn:x≠"__name__":=by decide)(hd:(x==("__debug__":Str))=false:=by decide):wpAny (model X.prog X.w) X.A (eval (.Name x pos) X.env) Q E s:=by
 obtain⟨mb,h1,h2⟩:=I.mod.blt
 exact SY I.ok.kind hg (Calls.loadGlobal_builtin (by rw[I.ok.glob];exact I.mod.glob.keeps I.bk) hm (by rw[I.ok.blt];exact h1.keeps I.bk) ((h2 x hn).trans hv) h) hd
def DR{x:Str}{v:V}{u:Value}{pos:Pos}(hg:Gl X x)(hm:X.mg x=some u)(r:RelV v u)(hd:(x==("__debug__":Str))=false:=by decide):PE X (.Name x pos) (tC v):=
 fun _ _ _ H _ I h=>yf I hg hm ⟨v,H,I,r,h⟩ hd
def DM{x:Str}{v:V}{u:Value}{pos:Pos}(hg:Gl X x)(hm:X.mg x=none)(hv:Qi x=some u)(r:RelV v u)(hn:x≠"__name__":=by decide)(hd:(x==("__debug__":Str))=false:=by decide):PE X (.Name x pos) (tC v):=
 fun _ _ _ H _ I h=>oC I hg hm hv ⟨v,H,I,r,h⟩ hn hd
variable{a b:Expr}{ta tb:TE}{pos:Pos}
def PC(X:Cx)(op:CmpOp)(a b:Expr)(t:TE):Prop:=
 ∀(pins:List (Addr×Obj)) (s:O0) (σ:St) (H:Hp) (Q:VK),Inv X pins σ H s->t σ H Q->
  wpAny (model X.prog X.w) X.A (eval a X.env) (fun v s₁=>wpAny (model X.prog X.w) X.A (eval b X.env) (fun u s₂=>wpAny (model X.prog X.w) X.A (P6 op v u) (EP X pins σ Q) X.xe s₂) X.xe s₁) X.xe s
def Bb(b:Expr){op:CmpOp}(h:op≠ .In)(h2:op≠ .NotIn):P8 op b=false:=by
 have e1:(op==CmpOp.In)=false:=by cases op<;>first | rfl | exact absurd rfl h
 have e2:(op==CmpOp.NotIn)=false:=by cases op<;>first | rfl | exact absurd rfl h2
 cases b<;>simp[P8,e1,e2]
def GI{op:CmpOp}{t:TE}(h:PC X op a b t)(h1:P8 op b=false:=by first | exact Bb _ (by decide) (by decide) | rfl):PE X (.Compare a [op] [b] pos) t:=fun pins s σ H Q I hw=>wpAny_Compare1 (h pins s σ H Q I hw) h1
variable{tA bH:TT}{rest:List Expr}
def Lq(t u:TT):TT:=fun σ H Q=>t σ H fun c H1=>if c=true then u σ H1 Q else Q false H1
def OA(t u:TT):TT:=fun σ H Q=>t σ H fun c H1=>if c=true then Q true H1 else u σ H1 Q
def Lv(t:TT):TT:=fun σ H Q=>t σ H fun c H1=>Q (!c) H1
def D4(ha:PT X a tA):PW X (.BoolOp .And [a] pos) tA:=by
 intro wh pins s σ H Q I h
 refine isTrue_and (b7 (ha pins s σ H Q I h) fun c s1 e=>?_)
 cases c with
 |true=>exact isTrue_and_nil e
 |false=>exact e
def G2(ha:PT X a tA):PW X (.BoolOp .Or [a] pos) tA:=by
 intro wh pins s σ H Q I h
 refine isTrue_or (b7 (ha pins s σ H Q I h) fun c s1 e=>?_)
 cases c with
 |false=>exact isTrue_or_nil e
 |true=>exact e
def G1(ha:PT X a tA)(hb:PW X (.BoolOp .And (b::rest) pos) bH):PW X (.BoolOp .And (a::b::rest) pos) (Lq tA bH):=by
 intro wh pins s σ H Q I h
 refine isTrue_and (b7 (ha pins s σ H _ I h) fun c s1 ⟨H1,I1,q1⟩=>?_)
 cases c with
 |true=>exact hb wh pins s1 σ H1 Q I1 q1
 |false=>exact⟨H1,I1,q1⟩
def Jj(ha:PT X a tA)(hb:PW X (.BoolOp .Or (b::rest) pos) bH):PW X (.BoolOp .Or (a::b::rest) pos) (OA tA bH):=by
 intro wh pins s σ H Q I h
 refine isTrue_or (b7 (ha pins s σ H _ I h) fun c s1 ⟨H1,I1,q1⟩=>?_)
 cases c with
 |true=>exact⟨H1,I1,q1⟩
 |false=>exact hb wh pins s1 σ H1 Q I1 q1
def GZ(ha:PT X a tA):PT X (.UnaryOp .Not a pos) (Lv tA):=by
 intro pins s σ H Q I h
 exact isTrue_not (ha pins s σ H (fun c H1=>Q (!c) H1) I h)
def Jx(ta tb:TE):TE:=fun σ H Q=>ta σ H fun x H1=>∃c,x= .bl c/\if c=true then tb σ H1 Q else Q (.bl false) H1
def JD(ta:TE):TE:=fun σ H Q=>ta σ H fun x H1=>∃c,x= .bl c/\Q (.bl (!c)) H1
def GN{op}{t:TE}(h:PE X a t):PE X (.BoolOp op [a] pos) t:=fun pins s σ H Q I hw=>BoolOp_one (h pins s σ H Q I hw)
def GH(ha:PE X a ta)(hb:PE X (.BoolOp .And (b::rest) pos) tb):PE X (.BoolOp .And (a::b::rest) pos) (Jx ta tb):=by
 intro pins s σ H Q I h
 refine BoolOp_and (b7 (ha pins s σ H _ I h) fun v s1 ⟨x,H1,I1,r1,q1⟩=>?_)
 obtain⟨c,rfl,q1⟩:=q1
 cases r1
 refine Qo ?_
 cases c with
 |true=>exact hb pins s1 σ H1 Q I1 q1
 |false=>exact⟨.bl false,H1,I1,rfl,q1⟩
def GL(ha:PE X a ta):PE X (.UnaryOp .Not a pos) (JD ta):=by
 intro pins s σ H Q I h
 refine UnaryOp_ (b7 (ha pins s σ H _ I h) fun v s1 ⟨x,H1,I1,r1,q1⟩=>?_)
 obtain⟨c,rfl,q1⟩:=q1
 cases r1
 exact not_of (Qo ⟨.bl (!c),H1,I1,rfl,q1⟩)
def Oz(t:TT)(ta tb:TE):TE:=fun σ H Q=>t σ H fun c H1=>if c=true then ta σ H1 Q else tb σ H1 Q
def BD{c:Expr}(hc:PT X c tA)(ha:PE X a ta)(hb:PE X b tb):PE X (.IfExp c a b pos) (Oz tA ta tb):=by
 intro pins s σ H Q I h
 refine wpAny_IfExp (b7 (hc pins s σ H _ I h) fun d s1 ⟨H1,I1,q1⟩=>?_)
 cases d with
 |true=>exact ha pins s1 σ H1 Q I1 q1
 |false=>exact hb pins s1 σ H1 Q I1 q1
end
def SqL(K:O2)(H:Hp)(a:Addr)(xs:List V):Prop:=
 Rd H a (.lst xs)\/
  ∃(o:Obj) (aK:Array Value) (n:Nat),K.lookup a=some o/\o.cls= .type "list"/\o.dict=none/\o.data= .seq aK n/\aK.size<=Pe/\Vals xs aK.toList
def SqT(K:O2)(H:Hp)(a:Addr)(xs:List V):Prop:=
 Rd H a (.tup xs)\/
  ∃(o:Obj) (aK:Array Value) (n:Nat),K.lookup a=some o/\o.cls= .type "tuple"/\o.data= .seq aK n/\aK.size<=Pe/\Vals xs aK.toList
def Ki:Value->Option V
 | .none=>some .non
 | .bool b=>some (.bl b)
 | .int i _=>some (.int i)
 | .str x _=>some (.str x)
 | .bytes b _=>some (.byt b)
 | .float b _=>some (.flt b)
 | .ref a=>some (.ref a)
 | .type n=>some (.ty n)
 |_=>none
def RelV.abs{x:V}{u:Value}(r:RelV x u):Ki u=some x:=by
 cases x with
 |non=>cases r;rfl
 |bl _=>cases r;rfl
 |int _=>obtain⟨t,rfl⟩:=r;rfl
 |str _=>obtain⟨t,rfl⟩:=r;rfl
 |byt _=>obtain⟨t,rfl⟩:=r;rfl
 |flt _=>obtain⟨t,rfl⟩:=r;rfl
 |ref _=>cases r;rfl
 |ty _=>cases r;rfl
def RelV.inj{x y:V}{u:Value}(r:RelV x u)(q:RelV y u):x=y:=Pg (r.abs.symm.trans q.abs)
def Vals.inj:∀{xs ys:List V}{us:List Value},Vals xs us->Vals ys us->xs=ys
 |_,_,_, .nil, .nil=>rfl
 |_,_,_, .cons r t, .cons r' t'=>by rw[r.inj r',Vals.inj t t']
section
variable{X:Cx}{pins:List (Addr×Obj)}{σ:St}{H:Hp}{s:O0}{a:Addr}{xs ys:List V}
def SqL.of{K:O2}(h:H a=some (.lst xs)):SqL K H a xs:= .inl (.inl h)
def SqT.of{K:O2}(h:H a=some (.tup xs)):SqT K H a xs:= .inl (.inl h)
def Inv.list(I:Inv X pins σ H s)(h:SqL X.K H a xs):∃aK:List Value,Vals xs aK/\PlainL s.heap a aK.toArray/\xs.length<=Pe:=by
 rcases h with h | ⟨o,aK,n,hk,hc,hd,hs,hz,r⟩
 ·obtain⟨z,aK,n,r,e⟩:=h.ok I.hok
  exact⟨aK,r,⟨_,n,e,rfl,rfl,rfl⟩,z⟩
 ·refine⟨aK.toList,r,⟨o,n,I.kIn a o hk,hc,hd,by simpa using hs⟩,?_⟩
  have e:=r.length
  simp only[Po] at e
  omega
def Inv.tuple(I:Inv X pins σ H s)(h:SqT X.K H a xs):∃aK:List Value,Vals xs aK/\IsTup s.heap a aK.toArray/\xs.length<=Pe:=by
 rcases h with h | ⟨o,aK,n,hk,hc,hs,hz,r⟩
 ·obtain⟨z,aK,r,p⟩:=h.ok I.hok
  exact⟨aK,r,p,z⟩
 ·refine⟨aK.toList,r,⟨o,I.kIn a o hk,hc,n,by simpa using hs⟩,?_⟩
  have e:=r.length
  simp only[Po] at e
  omega
def Inv.list_inj(I:Inv X pins σ H s)(h:SqL X.K H a xs)(h':SqL X.K H a ys):xs=ys:=by
 obtain⟨aK,r,⟨o,n,e,_,_,d⟩,_⟩:=I.list h
 obtain⟨its',r',⟨o',n',e',_,_,d'⟩,_⟩:=I.list h'
 rw[e] at e';cases e'
 rw[d] at d'
 injection d' with d1 _
 have:aK=its':=by simpa using congrArg Array.toList d1
 subst this
 exact r.inj r'
def Inv.tuple_inj(I:Inv X pins σ H s)(h:SqT X.K H a xs)(h':SqT X.K H a ys):xs=ys:=by
 obtain⟨aK,r,⟨o,e,_,n,d⟩,_⟩:=I.tuple h
 obtain⟨its',r',⟨o',e',_,n',d'⟩,_⟩:=I.tuple h'
 rw[e] at e';cases e'
 rw[d] at d'
 injection d' with d1 _
 have:aK=its':=by simpa using congrArg Array.toList d1
 subst this
 exact r.inj r'
end
abbrev Cx.wish(X:Cx)(E:Value->O0->Prop):Cx:={X with xe:=E}
abbrev Cx.nox(X:Cx):Cx:=X.wish fun _ _=>False
def Cx.Ok.wish{X:Cx}(ok:X.Ok)(E:Value->O0->Prop):(X.wish E).Ok:=
 ⟨ok.mod,ok.kind,ok.glob,ok.blt,ok.above,ok.inj,ok.has,ok.cab,ok.hd,ok.frames,ok.stk,ok.exf,ok.bs,ok.bsz,ok.noex,ok.exfs,ok.funs,ok.frf⟩
def Cx.Ok.unwish{X:Cx}{E:Value->O0->Prop}(ok:(X.wish E).Ok):X.Ok:=
 ⟨ok.mod,ok.kind,ok.glob,ok.blt,ok.above,ok.inj,ok.has,ok.cab,ok.hd,ok.frames,ok.stk,ok.exf,ok.bs,ok.bsz,ok.noex,ok.exfs,ok.funs,ok.frf⟩
section
variable{X:Cx}{pins:List (Addr×Obj)}{σ:St}{H:Hp}{s:O0}{E:Value->O0->Prop}
def Inv.wish(I:Inv X pins σ H s)(E:Value->O0->Prop):Inv (X.wish E) pins σ H s:=⟨I.ok.wish E,I.os,I.bare,I.base,I.loc,I.cell,I.free,I.freeC,I.pin,I.hok,I.len⟩
def Inv.unwish(I:Inv (X.wish E) pins σ H s):Inv X pins σ H s:=⟨I.ok.unwish,I.os,I.bare,I.base,I.loc,I.cell,I.free,I.freeC,I.pin,I.hok,I.len⟩
def SP.unwish{D:Ends}{f:Flow}{s':O0}(h:SP (X.wish E) pins D f s'):SP X pins D f s':=by
 cases f with
 |next=>obtain⟨σ',H',I,q⟩:=h;exact⟨σ',H',I.unwish,q⟩
 |brk=>obtain⟨σ',H',I,q⟩:=h;exact⟨σ',H',I.unwish,q⟩
 |cont=>obtain⟨σ',H',I,q⟩:=h;exact⟨σ',H',I.unwish,q⟩
 |ret u=>obtain⟨v,σ',H',I,r,q⟩:=h;exact⟨v,σ',H',I.unwish,r,q⟩
def PE.nox{e:Expr}{t:TE}(h:PE X.nox e t):PE X e t:=fun pins s σ H Q I hw=>
 Qf (h pins s σ H Q (I.wish _) hw) (fun _ _ ⟨v,H',I',r,q⟩=>⟨v,H',I'.unwish,r,q⟩) fun _ _ z=>QB z
def PT.nox{e:Expr}{t:TT}(h:PT X.nox e t):PT X e t:=fun pins s σ H Q I hw=>
 Qf (h pins s σ H Q (I.wish _) hw) (fun _ _ ⟨H',I',q⟩=>⟨H',I'.unwish,q⟩) fun _ _ z=>QB z
def PSs.nox{st:List Stmt}{t:TS}(h:PSs X.nox st t):PSs X st t:=fun pins s σ H D I hw=>
 Qf (h pins s σ H D (I.wish _) hw) (fun _ _ q=>q.unwish) fun _ _ z=>QB z
end
section
variable{X:Cx}{st:Stmt}{rest:List Stmt}{t u:TS}{e:Expr}{te:TE}{pos:Pos}
def E4:TS:=fun D σ H=>D.nx σ H
def JG(t u:TS):TS:=fun D σ H=>t {D with nx:=u D} σ H
def yz:PSs X [] E4:=fun _ _ σ H _ I h=>Sg ⟨σ,H,I,h⟩
def va(h1:PS X st t)(h2:PSs X rest u):PSs X (st::rest) (JG t u):=by
 intro pins s σ H D I h
 refine wpAny_execs_cons (b7 (h1 pins s σ H {D with nx:=u D} I h) fun f s1 q=>?_)
 cases f with
 |next=>
  obtain⟨σ',H',I',q⟩:=q
  exact h2 pins s1 σ' H' D I' q
 |ret v=>exact q
 |brk=>exact q
 |cont=>exact q
def nv(h1:PS X st t):PSs X [st] t:=by
 intro pins s σ H D I h
 refine wpAny_execs_cons (b7 (h1 pins s σ H D I h) fun f s1 q=>?_)
 cases f with
 |next=>exact Sg q
 |ret v=>exact q
 |brk=>exact q
 |cont=>exact q
def Inv.quiet{pins:List (Addr×Obj)}{σ:St}{H:Hp}{s:O0}(I:Inv X pins σ H s):interactive X.env=false:=by simp[interactive,I.ok.kind]
def Cb(te:TE):TS:=fun D σ H=>te σ H fun _ H1=>D.nx σ H1
def nu(he:PE X e te)(hs:RF e none pos.line X.env=pure false:=by rfl):PS X (.Expr e pos) (Cb te):=by
 intro pins s σ H D I h
 exact wpAny_Expr_any (b7 (he pins s σ H _ I h) fun v s1 ⟨x,H1,I1,r1,q1⟩=>⟨σ,H1,I1,q1⟩) I.quiet hs
def Lx(te:TE):TS:=fun D σ H=>te σ H D.rt
def GW(he:PE X e te):PS X (.Return (some e) pos) (Lx te):=by
 intro pins s σ H D I h
 exact wpAny_Return_some (b7 (he pins s σ H _ I h) fun v s1 ⟨x,H1,I1,r1,q1⟩=>⟨x,σ,H1,I1,r1,q1⟩)
def JC(c:TT)(t u:TS):TS:=fun D σ H=>c σ H fun b H1=>if b=true then t D σ H1 else u D σ H1
def EW{c:Expr}{a b:List Stmt}{tc:TT}(hc:PT X c tc)(ha:PSs X a t)(hb:PSs X b u):PS X (.If c a b pos) (JC tc t u):=by
 intro pins s σ H D I h
 refine wpAny_If (b7 (hc pins s σ H _ I h) fun d s1 ⟨H1,I1,q1⟩=>?_)
 cases d with
 |true=>exact ha pins s1 σ H1 D I1 q1
 |false=>exact hb pins s1 σ H1 D I1 q1
end
abbrev TG:=V->St->Hp->(St->Hp->Prop)->Prop
abbrev Ek:=List V->St->Hp->(St->Hp->Prop)->Prop
def PG(X:Cx)(target:Expr)(t:TG):Prop:=
 ∀(pins:List (Addr×Obj)) (s:O0) (σ:St) (H:Hp) (v:V) (u:Value) (Q:St->Hp->Prop),Inv X pins σ H s->RelV v u->t v σ H Q->
  wpAny (model X.prog X.w) X.A (assign target X.env u) (fun _ s'=>∃σ' H',Inv X pins σ' H' s'/\Q σ' H') X.xe s
def JJ(X:Cx)(ts:List Expr)(t:Ek):Prop:=
 ∀(pins:List (Addr×Obj)) (s:O0) (σ:St) (H:Hp) (vs:List V) (us:List Value) (Q:St->Hp->Prop),Inv X pins σ H s->Vals vs us->t vs σ H Q->
  wpAny (model X.prog X.w) X.A (assignInOrder ((RZ ts X.env).map (·.2)) us) (fun _ s'=>∃σ' H',Inv X pins σ' H' s'/\Q σ' H') X.xe s
abbrev Kd:=V->V->V->Hp->(Hp->Prop)->Prop
section
variable{X:Cx}{pos:Pos}
def jF(i:Nat):TG:=fun v σ H Q=>Q (σ.set i (some v)) H
def a5{i:Nat}{x:Str}(hN:X.N.Nodup)(hi:X.N[i]? =some x)(hx:Loc X.env.scope x)(hf:X.fn x=true\/X.env.scope.names.lookup x=some .local:=by first | exact .inl rfl | exact .inr rfl | assumption):PG X (.Name x pos) (jF i):=by
 intro pins s σ H v u Q I r h
 exact S1 (vx I hN hi hx r (fun s' I'=>⟨_,H,I',h⟩) hf)
def HS:Ek:=fun vs σ H Q=>vs=[]/\Q σ H
def Ew(t:TG)(u:Ek):Ek:=fun vs σ H Q=>∃v r,vs=v::r/\t v σ H fun σ' H'=>u r σ' H' Q
def DU:JJ X [] HS:=by
 intro pins s σ H vs us Q I r h
 obtain⟨e,h⟩:=h
 subst e
 cases r
 exact assignInOrder_nil ⟨σ,H,I,h⟩
def u9{e:Expr}{es:List Expr}{t:TG}{u:Ek}(h1:PG X e t)(h2:JJ X es u)
 (hs:(RZ (e::es) X.env).map (·.2)=assign e X.env::(RZ es X.env).map (·.2):=by rfl):JJ X (e::es) (Ew t u):=by
 intro pins s σ H vs us Q I r h
 obtain⟨v,vr,e1,h⟩:=h
 subst e1
 cases r with
 |cons r rr=>
  rw[hs]
  refine assignInOrder_cons (b7 (h1 pins s σ H _ _ _ I r h) fun _ s1 ⟨σ1,H1,I1,q1⟩=>?_)
  exact h2 pins s1 σ1 H1 _ _ Q I1 rr q1
def HU(K:O2)(n:Nat)(t:Ek):TG:=fun v σ H Q=>∃a xs,v= .ref a/\SqT K H a xs/\xs.length=n/\t xs σ H Q
def GS{es:List Expr}{k:Nat}{t:Ek}{n:Nat}(hc:X.calm=true)(h:JJ X es t)
 (hn:(RZ es X.env).length=n:=by rfl)(C4:(RZ es X.env).findIdx? (·.1)=none:=by rfl):PG X (.Tuple es k pos) (HU X.K n t):=by
 intro pins s σ H v u Q I r hw
 obtain⟨a,xs,e1,hq,hl,hw⟩:=hw
 subst e1
 cases r
 obtain⟨aK,rv,ht,hz⟩:=I.tuple hq
 refine assign_Tuple_tuple (I.ok.hd hc) ht (by simp[hn,<-hl,rv.length]) C4 fun h' hx=>?_
 have I1:Inv X pins σ H {s with heap:=h'}:=I.kept (t':=s.toks) fun b o e=>hx b o (PL (Pc e)) e
 exact h pins _ σ H xs _ Q I1 (by simpa using rv) hw
def gB(to ti:TE)(t:Kd):TG:=fun v σ H Q=>to σ H fun o H1=>ti σ H1 fun i H2=>t o i v H2 fun H3=>Q σ H3
def Jy(te:TE)(g:TG):TS:=fun D σ H=>te σ H fun x H1=>g x σ H1 D.nx
def lN{tg e:Expr}{te:TE}{g:TG}(he:PE X e te)(hg:PG X tg g)(hs:SI [tg] e pos.line X.env=pure false:=by rfl)(hw:swappedStores [tg] e X.env=pure none:=by rfl)
 (h1:(RZ [tg] X.env).map (·.2)=[assign tg X.env]:=by rfl):PS X (.Assign [tg] e pos) (Jy te g):=by
 intro pins s σ H D I h
 refine wpAny_Assign_stores (b7 (he pins s σ H _ I h) fun v s1 ⟨x,H1,I1,r1,q1⟩=>?_) hs hw
 rw[h1]
 exact b7 (hg pins s1 σ H1 x v _ I1 r1 q1) fun _ s2 q=>q
end
section
variable{X:Cx}{pos:Pos}
def Hf(c:TT)(tb:TS):TS:=fun D σ H=>∃W:Nat->St->Hp->Prop,(∃m,W m σ H)/\∀m σ H,W m σ H->
 c σ H fun b H1=>if b=true then∃N:St->Hp->Prop,(∀σ' H',N σ' H'->∃m',m'<m/\W m' σ' H')/\tb {D with nx:=N,ct:=N,bk:=D.nx} σ H1 else D.nx σ H1
def BG{c:Expr}{body:List Stmt}{tc:TT}{tb:TS}(hp:Tv (model X.prog X.w) X.A X.env X.xe)(hc:PT X c tc)(hb:PSs X body tb):PS X (.While c body [] pos) (Hf tc tb):=by
 intro pins s σ H D I h
 obtain⟨W,⟨m0,w0⟩,turn⟩:=h
 refine wpAny_While (codeAny_whileLoop (fun n s'=>∃σ' H',Inv X pins σ' H' s'/\W n σ' H') ?_ m0 ⟨σ,H,I,w0⟩)
 rintro n s1 ⟨σ1,H1,I1,w1⟩
 refine QK hp (b7 (hc pins s1 σ1 H1 _ I1 (turn n σ1 H1 w1)) fun b s2 ⟨H2,I2,q2⟩=>?_)
 cases b with
 |true=>
  obtain⟨N,hN,q2⟩:=q2
  rw[if_pos rfl]
  refine QK hp (b7 (hb pins s2 σ1 H2 _ I2 q2) fun f s3 q3=>?_)
  cases f with
  |next=>
   obtain⟨σ3,H3,I3,n3⟩:=q3
   obtain⟨m',hm,w3⟩:=hN σ3 H3 n3
   exact⟨m',hm,σ3,H3,I3,w3⟩
  |cont=>
   obtain⟨σ3,H3,I3,n3⟩:=q3
   obtain⟨m',hm,w3⟩:=hN σ3 H3 n3
   exact⟨m',hm,σ3,H3,I3,w3⟩
  |brk=>exact q3
  |ret v=>exact q3
 |false=>
  rw[if_neg Pk]
  exact Sg ⟨σ1,H2,I2,q2⟩
end
structure It where
 go:Nat->Hp->Prop
 yld:Nat->Hp->V->Hp->Prop
 stop:Nat->Hp->Prop
def pU(X:Cx)(pins:List (Addr×Obj))(H:Hp)(b:Addr):Prop:=
 H b=none/\b≠X.env.locals/\b∉X.fs/\(b∈X.ex\/X.s₀.heap.objs.size<=b)/\(∀x c,X.env.cells.lookup x=some c->c≠b)/\∀p∈X.pn++pins,p.1≠b
def Inv.fpOk{X:Cx}{pins:List (Addr×Obj)}{σ:St}{H H':Hp}{s:O0}{b:Addr}(I:Inv X pins σ H s)(hb:s.heap.objs.size<=b)(hn:H' b=none):pU X pins H' b:=by
 refine⟨hn,R9 (Py I.lt hb),I.nofs hb, .inr (PM I.sz hb),fun x c e z=>?_,fun p hp z=>?_⟩
 ·obtain⟨v,q⟩:=I.cell x c e
  exact absurd (Py q.lt (by rw[z];exact hb)) (Qb _)
 ·exact absurd (Py (Pc (I.pin p hp).1) (by rw[z];exact hb)) (Qb _)
structure Turn (P:Pw) (w:World) (K:O2) (tg:Expr) (J:It) (fp:List Addr) (it:Addr) (tn:Nat->Heap->Prop):Prop where
 mem:it∈fp
 obj:∀i h,tn i h->∀b∈fp,∃o,h.get? b=some o/\∀v,o.data≠ .cell v
 keep:∀i h h',tn i h->(∀b∈fp,∀o,h.get? b=some o->h'.get? b=some o)->tn i h'
 item:∀(X:Cx),X.prog=P->X.w=w->X.K=K->X.calm=true->∀(i:Nat) (pins:List (Addr×Obj)) (s:O0) (σ:St) (H:Hp) (E:Value->O0->Prop),Inv X pins σ H s->(∀b∈fp,pU X pins H b)->tn i s.heap->J.go i H->
  wpAny (model P w) X.A (TN (.ref it)) (fun r s1=>∃u,r=some u/\
   wpAny (model P w) X.A (Sh tg (.ref it) u) (fun _ s2=>∃x H',Inv X pins σ H' s2/\RelV x u/\J.yld i H x H'/\tn (i+1) s2.heap/\∀b∈fp,H' b=none) E s1) E s
 done:∀(X:Cx),X.prog=P->X.w=w->X.K=K->X.calm=true->∀(i:Nat) (pins:List (Addr×Obj)) (s:O0) (σ:St) (H:Hp) (E:Value->O0->Prop),Inv X pins σ H s->(∀b∈fp,pU X pins H b)->tn i s.heap->J.stop i H->
  wpAny (model P w) X.A (TN (.ref it)) (fun r s1=>r=none/\Inv X pins σ H s1) E s
 self:∀(A:P_) (i:Nat) (s:O0) (Q:Value->O0->Prop) (E:Value->O0->Prop),tn i s.heap->Q (.ref it) s->wpAny (model P w) A (pyIter (.ref it)) Q E s
abbrev TI:=St->Hp->(It->Hp->Prop)->Prop
def LI(X:Cx)(pins:List (Addr×Obj))(σ:St)(tg:Expr)(R:It->Hp->Prop)(Mu:Value)(s2:O0):Prop:=
 ∃(it:Addr) (fp:List Addr) (tn:Nat->Heap->Prop) (J:It) (H':Hp),Mu= .ref it/\Inv X pins σ H' s2/\Turn X.prog X.w X.K tg J fp it tn/\tn 0 s2.heap/\(∀b∈fp,pU X pins H' b)/\R J H'
def PI(X:Cx)(tg iter:Expr)(wi:TI):Prop:=
 ∀(pins:List (Addr×Obj)) (s:O0) (σ:St) (H:Hp) (R:It->Hp->Prop),Inv X pins σ H s->wi σ H R->
  wpAny (model X.prog X.w) X.A (eval iter X.env) (fun v s1=>wpAny (model X.prog X.w) X.A (pyIter v) (LI X pins σ tg R) X.xe s1) X.xe s
def qE{M:Model}{A:P_}{E:Value->O0->Prop}{s:O0}{tg:Expr}{it:Addr}{u:Value}{o:Obj}{n:String}{vs:Array Value}{Q:Unit->O0->Prop}(ho:s.heap.get? it=some o)(hc:o.cls= .type n)(hd:o.data= .fields vs)
 (hn:["enumerate","zip","dict_itemiterator","dict_reverseitemiterator","odict_iterator","itertools.zip_longest","itertools.pairwise"].contains n=false)(hQ:Q () s):wpAny M A (Sh tg (.ref it) u) Q E s:=by
 unfold Sh
 cases tg<;>first
  |exact Pb hQ
  |(cases u<;>first
    |exact Pb hQ
    |(refine OX (wpAny_load ho ?_)
      rw[hc,hd]
      show wpAny M A (if (["enumerate","zip","dict_itemiterator","dict_reverseitemiterator","odict_iterator","itertools.zip_longest","itertools.pairwise"].contains n&&vs[0]? ==some (rawInt _))=true then _ else _) Q E s
      rw[if_neg (by intro h;rw[hn,Bool.false_and] at h;cases h)]
      exact Pb hQ))
def J9(K:O2)(a:Addr):It:=
 ⟨fun i H=>∃xs x,SqL K H a xs/\xs[i]? =some x,fun i H x H'=>H'=H/\∀xs,SqL K H a xs->xs[i]? =some x,fun i H=>∃xs,SqL K H a xs/\xs.length<=i⟩
def J_(K:O2)(a:Addr):It:=
 ⟨fun i H=>∃xs x,SqT K H a xs/\xs[i]? =some x,fun i H x H'=>H'=H/\∀xs,SqT K H a xs->xs[i]? =some x,fun i H=>∃xs,SqT K H a xs/\xs.length<=i⟩
def Hx(lo:Int)(n:Nat):It:=⟨fun i _=>i<n,fun i H x H'=>H'=H/\x= .int (lo+i),fun i _=>n<=i⟩
def zS{P:Pw}{w:World}{K:O2}{tg:Expr}(a it:Addr):Turn P w K tg (J9 K a) [it] it (fun i h=>h.IsListIter it a i) where
 mem:=by simp
 obj:=fun i h st b hb=>by
  have e:b=it:=by simpa using hb
  subst e
  obtain⟨o,e,c,d⟩:=st
  exact⟨o,e,fun v z=>by rw[d] at z;cases z⟩
 keep:=fun i h h' st k=>st.at fun o e=>k it (by simp) o e
 item:=by
  intro X hP hw hK hc i pins s σ H E I hf st hg
  subst hP hw hK
  obtain⟨xs,x,hq,hx⟩:=hg
  obtain⟨aK,rv,p,hz⟩:=I.list hq
  obtain⟨u,hu,ru⟩:=rv.get hx
  obtain⟨f0,f1,f2,f3,f4,f5⟩:=hf it (by simp)
  refine wpAny_pyNext_list_item st p.isList (x:=u) (by simpa using hu) fun h' pG sb=>?_
  have I1:Inv X pins σ H {s with heap:=h'}:=I.turned (t':=s.toks) (fun b o hb e=>(sb.2 b hb).trans e) f0 f1 f3 f4 f5
  obtain⟨o,e,c,d⟩:=id pG
  exact⟨u,rfl,qE (s:={s with heap:=h'}) e c d (by decide) ⟨x,H,I1,ru,⟨rfl,fun ys hy=>by rw[I.list_inj hy hq];exact hx⟩,pG,fun b hb=>(hf b hb).1⟩⟩
 done:=by
  intro X hP hw hK hc i pins s σ H E I hf st hg
  subst hP hw hK
  obtain⟨xs,hq,hx⟩:=hg
  obtain⟨aK,rv,p,hz⟩:=I.list hq
  obtain⟨f0,f1,f2,f3,f4,f5⟩:=hf it (by simp)
  have hl:=rv.length
  exact wpAny_pyNext_list_end (I.ok.hd hc) st p.isList (by simp;omega) fun h' eb=>⟨rfl,I.turned (t':=s.toks) (fun b o hb e=>eb b o hb e) f0 f1 f3 f4 f5⟩
 self:=fun _ _ _ _ _ st h=>wpAny_pyIter_listiter st h
def xt{P:Pw}{w:World}{K:O2}{tg:Expr}(a it:Addr):Turn P w K tg (J_ K a) [it] it (fun i h=>h.IsTupleIter it a i) where
 mem:=by simp
 obj:=fun i h st b hb=>by
  have e:b=it:=by simpa using hb
  subst e
  obtain⟨o,e,c,d⟩:=st
  exact⟨o,e,fun v z=>by rw[d] at z;cases z⟩
 keep:=fun i h h' st k=>st.at fun o e=>k it (by simp) o e
 item:=by
  intro X hP hw hK hc i pins s σ H E I hf st hg
  subst hP hw hK
  obtain⟨xs,x,hq,hx⟩:=hg
  obtain⟨aK,rv,p,hz⟩:=I.tuple hq
  obtain⟨u,hu,ru⟩:=rv.get hx
  obtain⟨f0,f1,f2,f3,f4,f5⟩:=hf it (by simp)
  refine wpAny_pyNext_tuple_item st (show s.heap.IsTuple a aK.toArray from p) (x:=u) (by simpa using hu) fun h' pG sb=>?_
  have I1:Inv X pins σ H {s with heap:=h'}:=I.turned (t':=s.toks) (fun b o hb e=>(sb.2 b hb).trans e) f0 f1 f3 f4 f5
  obtain⟨o,e,c,d⟩:=id pG
  exact⟨u,rfl,qE (s:={s with heap:=h'}) e c d (by decide) ⟨x,H,I1,ru,⟨rfl,fun ys hy=>by rw[I.tuple_inj hy hq];exact hx⟩,pG,fun b hb=>(hf b hb).1⟩⟩
 done:=by
  intro X hP hw hK hc i pins s σ H E I hf st hg
  subst hP hw hK
  obtain⟨xs,hq,hx⟩:=hg
  obtain⟨aK,rv,p,hz⟩:=I.tuple hq
  obtain⟨f0,f1,f2,f3,f4,f5⟩:=hf it (by simp)
  have hl:=rv.length
  exact wpAny_pyNext_tuple_end (I.ok.hd hc) st (show s.heap.IsTuple a aK.toArray from p) (by simp;omega) fun h' eb=>⟨rfl,I.turned (t':=s.toks) (fun b o hb e=>eb b o hb e) f0 f1 f3 f4 f5⟩
 self:=fun _ _ _ _ _ st h=>wpAny_pyIter_tupleiter st h
def xr{P:Pw}{w:World}{K:O2}{tg:Expr}(it:Addr)(lo:Int)(n:Nat):Turn P w K tg (Hx lo n) [it] it (fun i h=>IsRangeIter h it (lo+(i:Nat)*1) ((n:Int) - (i:Nat)) 1) where
 mem:=by simp
 obj:=fun i h st b hb=>by
  have e:b=it:=by simpa using hb
  subst e
  exact⟨_,st,fun v z=>by
   have z':Pf _=Data.cell v:=z
   cases z'⟩
 keep:=fun i h h' st k=>k it (by simp) _ st
 item:=by
  intro X hP hw hK hc i pins s σ H E I hf st hg
  subst hP hw hK
  obtain⟨f0,f1,f2,f3,f4,f5⟩:=hf it (by simp)
  have W:=Walks.range (prog:=X.prog) (w:=X.w) (I.ok.hd hc) it lo 1 n
  refine W.item i s _ _ hg st fun v h' tk hv pG kk=>?_
  obtain⟨t,rfl⟩:=hv
  have I1:Inv X pins σ H {s with heap:=h',toks:=tk}:=I.turned (fun b o hb e=>kk b o (by simpa using hb) e) f0 f1 f3 f4 f5
  refine⟨_,rfl,qE (s:={s with heap:=h',toks:=tk}) (n:="range_iterator") pG rfl rfl (by decide) ⟨.int (lo+i),H,I1,⟨t,?_⟩,⟨rfl,rfl⟩,pG,fun b hb=>(hf b hb).1⟩⟩
  rw[Int.mul_one]
 done:=by
  intro X hP hw hK hc i pins s σ H E I hf st hg
  subst hP hw hK
  obtain⟨f0,f1,f2,f3,f4,f5⟩:=hf it (by simp)
  exact wpAny_pyNext_range_end (I.ok.hd hc) st (by have:n<=i:=hg;omega) fun h' eb=>⟨rfl,I.turned (t':=s.toks) (fun b o hb e=>eb b o hb e) f0 f1 f3 f4 f5⟩
 self:=fun _ _ _ _ _ st h=>wpAny_pyIter_rangeiter st h
section
variable{X:Cx}{tg:Expr}
def II(K:O2)(tl:TE):TI:=fun σ H R=>tl σ H fun x H1=>∃a,x= .ref a/\(∃xs,SqL K H1 a xs)/\R (J9 K a) H1
def K9(K:O2)(tl:TE):TI:=fun σ H R=>tl σ H fun x H1=>∃a,x= .ref a/\(∃xs,SqT K H1 a xs)/\R (J_ K a) H1
def DV{l:Expr}{tl:TE}(hl:PE X l tl):PI X tg l (II X.K tl):=by
 intro pins s σ H R I h
 refine b7 (hl pins s σ H _ I h) fun v s1 ⟨x,H1,I1,r1,q1⟩=>?_
 obtain⟨a,e,⟨xs,hq⟩,q⟩:=q1
 subst e
 cases r1
 obtain⟨aK,rv,p,hz⟩:=I1.list hq
 refine wpAny_pyIter_list p.isList ?_
 refine⟨s1.heap.objs.size,[s1.heap.objs.size],_,_,H1,rfl,I1.kept (t':=s1.toks) fun b o e=>O4 _ e,zS a _,⟨_,Pt _ rfl,rfl,rfl⟩,fun b hb=>?_,q⟩
 have e:b=s1.heap.objs.size:=by simpa using hb
 subst e
 exact I1.fpOk (O9 _) (I1.hok.fresh (O9 _))
def GV{l:Expr}{tl:TE}(hl:PE X l tl):PI X tg l (K9 X.K tl):=by
 intro pins s σ H R I h
 refine b7 (hl pins s σ H _ I h) fun v s1 ⟨x,H1,I1,r1,q1⟩=>?_
 obtain⟨a,e,⟨xs,hq⟩,q⟩:=q1
 subst e
 cases r1
 obtain⟨aK,rv,p,hz⟩:=I1.tuple hq
 refine wpAny_pyIter_tuple (show s1.heap.IsTuple a aK.toArray from p) ?_
 refine⟨s1.heap.objs.size,[s1.heap.objs.size],_,_,H1,rfl,I1.kept (t':=s1.toks) fun b o e=>O4 _ e,xt a _,⟨_,Pt _ rfl,rfl,rfl⟩,fun b hb=>?_,q⟩
 have e:b=s1.heap.objs.size:=by simpa using hb
 subst e
 exact I1.fpOk (O9 _) (I1.hok.fresh (O9 _))
def ve{pins:List (Addr×Obj)}{σ:St}{H:Hp}{s:O0}{R:It->Hp->Prop}{E:Value->O0->Prop}{lo hi:Int}{t u v:Tok}{tk:Nat}(I:Inv X pins σ H s)(h1: -(2 ^ 62)<=lo)(h2:lo<2 ^ 62)(h3: -(2 ^ 62)<=hi)(h4:hi<2 ^ 62)
 (q:R (Hx lo (hi - lo).toNat) H):wpAny (model X.prog X.w) X.A (pyIter (.ref s.heap.objs.size)) (LI X pins σ tg R) E {s with heap:=s.heap.push {cls:= .type "range",data:= .fields #[.int lo t, .int hi u, .int 1 v]},toks:=tk}:=by
 refine wpAny_pyIter_range (IsRange.new ..) (small_one h1 h2 h3 h4) ?_
 have I1:Inv X pins σ H {s with heap:=s.heap.push {cls:= .type "range",data:= .fields #[.int lo t, .int hi u, .int 1 v]},toks:=tk}:=I.kept fun b o e=>O4 _ e
 refine⟨(s.heap.push {cls:= .type "range",data:= .fields #[.int lo t, .int hi u, .int 1 v]}).objs.size,[(s.heap.push {cls:= .type "range",data:= .fields #[.int lo t, .int hi u, .int 1 v]}).objs.size],_,_,H,rfl,
  I1.kept (t':=tk) fun b o e=>O4 _ e,xr _ lo (hi - lo).toNat,?_,fun b hb=>?_,q⟩
 ·have e1:lo+((0:Nat):Int)*1=lo:=by simp
  have e2:(((hi - lo).toNat:Nat):Int) - ((0:Nat):Int)=Builtin.Range.rangeSize lo hi 1:=by rw[rangeSize_one];split<;>omega
  show IsRangeIter _ _ (lo+((0:Nat):Int)*1) ((((hi - lo).toNat:Nat):Int) - ((0:Nat):Int)) 1
  rw[e1,e2]
  exact Pt _ rfl
 ·have e:b=(s.heap.push {cls:= .type "range",data:= .fields #[.int lo t, .int hi u, .int 1 v]}).objs.size:=by simpa using hb
  subst e
  exact I1.fpOk (O9 _) (I1.hok.fresh (O9 _))
def IJ(ta:TA):TI:=fun σ H R=>ta σ H fun vs H1=>∃j:Int,vs=[.int j]/\ -(2 ^ 62)<=j/\j<2 ^ 62/\R (Hx 0 j.toNat) H1
def IK(ta:TA):TI:=fun σ H R=>ta σ H fun vs H1=>∃i j:Int,vs=[.int i, .int j]/\(-(2 ^ 62)<=i/\i<2 ^ 62/\ -(2 ^ 62)<=j/\j<2 ^ 62)/\R (Hx i (j - i).toNat) H1
def zB{a:Expr}{ta:TA}{p pos:Pos}(hg:Gl X "range")(hm:X.mg "range"=none)(ha:PA X [a] ta)(hs:Ph [a] X.env=[(false,eval a X.env)]:=by rfl):PI X tg (.Call (.Name "range" p) [a] [] pos) (IJ ta):=by
 intro pins s σ H R I h
 refine Call_ (oC I hg hm boot_range (Q8 (b7 (ha pos pins s σ H _ I h) fun us s1 ⟨vs,H1,I1,r1,q1⟩=>?_) hs rfl))
 obtain⟨j,e,q1,q2,q⟩:=q1
 subst e
 cases r1 with
 |cons r rr=>
  cases rr
  obtain⟨t,rfl⟩:=r
  exact call_range_1 (ve I1 (by omega) (by omega) q1 q2 (by simpa using q))
def zC{a b:Expr}{ta:TA}{p pos:Pos}(hg:Gl X "range")(hm:X.mg "range"=none)(ha:PA X [a,b] ta)(hs:Ph [a,b] X.env=[(false,eval a X.env),(false,eval b X.env)]:=by rfl)(Hq:Ph [b] X.env=[(false,eval b X.env)]:=by rfl):
 PI X tg (.Call (.Name "range" p) [a,b] [] pos) (IK ta):=by
 intro pins s σ H R I h
 refine Call_ (oC I hg hm boot_range (Q8 (b7 (ha pos pins s σ H _ I h) fun us s1 ⟨vs,H1,I1,r1,q1⟩=>?_) (by rw[hs,Hq]) (by rw[Hq];rfl)))
 obtain⟨i,j,e,⟨q1,q2,q3,q4⟩,q⟩:=q1
 subst e
 cases r1 with
 |cons r rr=>
  cases rr with
  |cons r' rr=>
   cases rr
   obtain⟨t,rfl⟩:=r
   obtain⟨t',rfl⟩:=r'
   exact call_range_2 (ve I1 q1 q2 q3 q4 q)
def JB(wi:TI)(g:TG)(tb:TS):TS:=fun D σ H=>wi σ H fun J H1=>∃W:Nat->Nat->St->Hp->Prop,(∃m,W 0 m σ H1)/\∀i m σ H,W i m σ H->
 (J.stop i H/\D.nx σ H)\/(J.go i H/\∃N:St->Hp->Prop,(∀σ' H',N σ' H'->∃m',m'<m/\W (i+1) m' σ' H')/\∀x H',J.yld i H x H'->g x σ H' fun σ2 H2=>tb {D with nx:=N,ct:=N,bk:=D.nx} σ2 H2)
def pb(fp:List Addr)(h:Heap):List (Addr×Obj):=fp.filterMap fun b=>(h.get? b).map fun o=>(b,o)
def g_{fp:List Addr}{h:Heap}{b:Addr}{o:Obj}(hb:b∈fp)(e:h.get? b=some o):(b,o)∈pb fp h:=T5.mpr ⟨b,hb,by rw[e];rfl⟩
def zr{fp:List Addr}{h:Heap}{p:Addr×Obj}(hp:p∈pb fp h):p.1∈fp/\h.get? p.1=some p.2:=by
 obtain⟨b,hb,e⟩:=T5.mp hp
 cases q:h.get? b with
 |none=>rw[q] at e;cases e
 |some o=>
  rw[q] at e
  have e':(b,o)=p:=Pg e
  subst e'
  exact⟨hb,q⟩
def Inv.pinned{pins:List (Addr×Obj)}{σ:St}{H:Hp}{s:O0}{fp:List Addr}(I:Inv X pins σ H s)(hf:∀b∈fp,pU X pins H b)(ho:∀b∈fp,∃o,s.heap.get? b=some o/\∀v,o.data≠ .cell v):Inv X (pins++pb fp s.heap) σ H s:=
 I.pins_of fun p hp=>(Pq.mp hp).elim (fun z=>I.pin p (PO _ z)) fun z=>by
  obtain⟨hb,e⟩:=zr z
  obtain⟨f0,f1,f2,_⟩:=hf p.1 hb
  obtain⟨o,e',d⟩:=ho p.1 hb
  rw[e] at e';cases e'
  exact⟨e,f0,f1,f2,d⟩
def Inv.unpinned{pins pl:List (Addr×Obj)}{σ:St}{H:Hp}{s:O0}(I:Inv X (pins++pl) σ H s):Inv X pins σ H s:=I.pins_of fun p hp=>I.pin p (PO _ (Rl _ hp))
def xb{iter:Expr}{body:List Stmt}{wi:TI}{g:TG}{tb:TS}{pos:Pos}(hp:Tv (model X.prog X.w) X.A X.env X.xe)(hc:X.calm=true)(hi:PI X tg iter wi)(hg:PG X tg g)(hb:PSs X body tb)
 (hs:∀x,QP iter X.env x=pure x:=by intro _;rfl):PS X (.For tg iter body [] pos) (JB wi g tb):=by
 intro pins s σ H D I h
 refine wpAny_For (b7 (hi pins s σ H _ I h) fun v s1 h1=>b7 h1 fun Mu s2 h2=>?_) hs
 obtain⟨it,fp,tn,J,H2,e,I2,T,xn,f2,W,⟨m0,w0⟩,turn⟩:=h2
 subst e
 have Ha:∀{H':Hp},(∀b∈fp,H' b=none)->∀b∈fp,pU X pins H' b:=fun hn b hb=>⟨hn b hb,(f2 b hb).2⟩
 refine codeAny_forLoop_any (fun n s'=>∃i σ' H',Inv X pins σ' H' s'/\tn i s'.heap/\(∀b∈fp,H' b=none)/\W i n σ' H') ?_ m0 ⟨0,σ,H2,I2,xn,fun b hb=>(f2 b hb).1,w0⟩
 rintro n s3 ⟨i,σ3,H3,I3,Hs,JN,w3⟩
 rcases turn i n σ3 H3 w3 with⟨stop,qn⟩ | ⟨go,N,hN,step⟩
 ·refine QK hp (b7 (T.done X rfl rfl rfl hc i pins s3 σ3 H3 X.xe I3 (Ha JN) Hs stop) fun r s4 ⟨hr,I4⟩=>?_)
  subst hr
  exact Sg ⟨σ3,H3,I4,qn⟩
 ·refine QK hp (b7 (T.item X rfl rfl rfl hc i pins s3 σ3 H3 X.xe I3 (Ha JN) Hs go) fun r s4 ⟨u,hr,h4⟩=>?_)
  subst hr
  refine QK hp (b7 h4 fun _ s5 ⟨x,H5,I5,r5,y5,Lp,MX⟩=>?_)
  have I5':=I5.pinned (Ha MX) (T.obj _ _ Lp)
  refine QK hp (b7 (hg _ s5 σ3 H5 x u _ I5' r5 (step x H5 y5)) fun _ s6 ⟨σ6,H6,I6,q6⟩=>?_)
  refine QK hp (b7 (hb _ s6 σ6 H6 _ I6 q6) fun f s7 q7=>?_)
  have again:∀{σ7:St}{H7:Hp},Inv X (pins++pb fp s5.heap) σ7 H7 s7->N σ7 H7->∃m,m<n/\∃i σ' H',Inv X pins σ' H' s7/\tn i s7.heap/\(∀b∈fp,H' b=none)/\W i m σ' H':=fun {σ7 H7} I7 n7=>by
   obtain⟨m',hm,w7⟩:=hN σ7 H7 n7
   refine⟨m',hm,i+1,σ7,H7,I7.unpinned,T.keep _ _ _ Lp fun b hb o e=>(I7.pin (b,o) (PO _ (PO _ (g_ hb e)))).1,fun b hb=>?_,w7⟩
   obtain⟨o,e,d⟩:=T.obj _ _ Lp b hb
   exact(I7.pin (b,o) (PO _ (PO _ (g_ hb e)))).2.1
  cases f with
  |next=>obtain⟨σ7,H7,I7,n7⟩:=q7;exact again I7 n7
  |cont=>obtain⟨σ7,H7,I7,n7⟩:=q7;exact again I7 n7
  |brk=>obtain⟨σ7,H7,I7,q7⟩:=q7;exact⟨σ7,H7,I7.unpinned,q7⟩
  |ret v=>obtain⟨x7,σ7,H7,I7,r7,q7⟩:=q7;exact⟨x7,σ7,H7,I7.unpinned,r7,q7⟩
end
abbrev R2:=V->V->Hp->VK->Prop
def OpR(X:Cx)(f:Value->Value->Sem Value)(r:R2):Prop:=
 ∀(pins:List (Addr×Obj)) (s:O0) (σ:St) (H:Hp) (x y:V) (v u:Value) (Q:VK),Inv X pins σ H s->RelV x v->RelV y u->r x y H Q->
  wpAny (model X.prog X.w) X.A (f v u) (EP X pins σ Q) X.xe s
def Kf(X:Cx)(f:Value->Sem Value)(r:V->Hp->VK->Prop):Prop:=
 ∀(pins:List (Addr×Obj)) (s:O0) (σ:St) (H:Hp) (x:V) (v:Value) (Q:VK),Inv X pins σ H s->RelV x v->r x H Q->
  wpAny (model X.prog X.w) X.A (f v) (EP X pins σ Q) X.xe s
def CallR(X:Cx)(f:Value)(r:List V->Hp->VK->Prop):Prop:=
 ∀(pins:List (Addr×Obj)) (s:O0) (σ:St) (H:Hp) (xs:List V) (us:List Value) (Q:VK),Inv X pins σ H s->Vals xs us->r xs H Q->
  wpAny (model X.prog X.w) X.A (call f us) (EP X pins σ Q) X.xe s
def Ke(X:Cx)(r:V->Hp->(Bool->Hp->Prop)->Prop):Prop:=
 ∀(pins:List (Addr×Obj)) (s:O0) (σ:St) (H:Hp) (x:V) (v:Value) (Q:Bool->Hp->Prop),Inv X pins σ H s->RelV x v->r x H Q->
  wpAny (model X.prog X.w) X.A (truthy v) (TP X pins σ Q) X.xe s
def JF(r:R2)(ta tb:TE):TE:=fun σ H Q=>ta σ H fun x H1=>tb σ H1 fun y H2=>r x y H2 Q
def OC(r:V->Hp->VK->Prop)(ta:TE):TE:=fun σ H Q=>ta σ H fun x H1=>r x H1 Q
def rI(C:Int->Int->Prop)(g:Int->Int->V):R2:=fun x y H Q=>∃i j,x= .int i/\y= .int j/\C i j/\Q (g i j) H
def yF(g:Int->Int->V):R2:=fun x y H Q=>∃i j,x= .int i/\y= .int j/\Q (g i j) H
def rU(g:Int->V):V->Hp->VK->Prop:=fun x H Q=>∃i,x= .int i/\Q (g i) H
section
variable{X:Cx}{a b:Expr}{ta tb:TE}{pos:Pos}
def Fc(ha:PE X a ta)(hb:PE X b tb){pins:List (Addr×Obj)}{s:O0}{σ:St}{H:Hp}{R:V->V->Hp->Prop}(I:Inv X pins σ H s)
 (h:ta σ H fun x H1=>tb σ H1 fun y H2=>R x y H2){Q:Value->O0->Prop}{f:Value->Value->Sem Value}
 (hf:∀v u s2 x y H2,Inv X pins σ H2 s2->RelV x v->RelV y u->R x y H2->wpAny (model X.prog X.w) X.A (f v u) Q X.xe s2):
 wpAny (model X.prog X.w) X.A (eval a X.env) (fun v s₁=>wpAny (model X.prog X.w) X.A (eval b X.env) (fun u s₂=>wpAny (model X.prog X.w) X.A (f v u) Q X.xe s₂) X.xe s₁) X.xe s:=by
 refine b7 (ha pins s σ H _ I h) fun v s1 ⟨x,H1,I1,r1,q1⟩=>?_
 refine b7 (hb pins s1 σ H1 _ I1 q1) fun u s2 ⟨y,H2,I2,r2,q2⟩=>?_
 exact hf v u s2 x y H2 I2 r1 r2 q2
def Jg{op:Operator}{r:R2}(ho:OpR X (Rx op) r)(ha:PE X a ta)(hb:PE X b tb):PE X (.BinOp a op b pos) (JF r ta tb):=by
 intro pins s σ H Q I h
 exact wpAny_BinOp (Fc ha hb I h fun v u s2 x y H2 I2 rx ry q=>ho pins s2 σ H2 x y v u Q I2 rx ry q)
def Jh{op:UnaryOp}{r:V->Hp->VK->Prop}(ho:Kf X (unaryOp op) r)(ha:PE X a ta):PE X (.UnaryOp op a pos) (OC r ta):=by
 intro pins s σ H Q I h
 exact UnaryOp_ (b7 (ha pins s σ H _ I h) fun v s1 ⟨x,H1,I1,r1,q1⟩=>ho pins s1 σ H1 x v Q I1 r1 q1)
def Li{f:Value->Value->Sem Value}{C:Int->Int->Prop}{g:Int->Int->Int}
 (rule:∀(i j:Int) (t u:Tok) (s:O0) (Q:Value->O0->Prop) (E:Value->O0->Prop),C i j->Q (.int (g i j) s.toks) {s with toks:=s.toks+1}->wpAny (model X.prog X.w) X.A (f (.int i t) (.int j u)) Q E s):
 OpR X f (rI C fun i j=> .int (g i j)):=by
 intro pins s σ H x y v u Q I rx ry h
 obtain⟨i,j,rfl,rfl,hc,q⟩:=h
 obtain⟨t,rfl⟩:=rx
 obtain⟨t',rfl⟩:=ry
 exact rule i j t t' s _ _ hc ⟨.int (g i j),H,I.tok _,⟨_,rfl⟩,q⟩
def Ja{f:Value->Value->Sem Value}{g:Int->Int->Int}
 (rule:∀(i j:Int) (t u:Tok) (s:O0) (Q:Value->O0->Prop) (E:Value->O0->Prop),Q (.int (g i j) s.toks) {s with toks:=s.toks+1}->wpAny (model X.prog X.w) X.A (f (.int i t) (.int j u)) Q E s):
 OpR X f (yF fun i j=> .int (g i j)):=by
 intro pins s σ H x y v u Q I rx ry h
 obtain⟨i,j,rfl,rfl,q⟩:=h
 obtain⟨t,rfl⟩:=rx
 obtain⟨t',rfl⟩:=ry
 exact rule i j t t' s _ _ ⟨.int (g i j),H,I.tok _,⟨_,rfl⟩,q⟩
def Gn{f:Value->Value->Sem Value}{g:Int->Int->Bool}
 (rule:∀(i j:Int) (t u:Tok) (s:O0) (Q:Value->O0->Prop) (E:Value->O0->Prop),Q (.bool (g i j)) s->wpAny (model X.prog X.w) X.A (f (.int i t) (.int j u)) Q E s):
 OpR X f (yF fun i j=> .bl (g i j)):=by
 intro pins s σ H x y v u Q I rx ry h
 obtain⟨i,j,rfl,rfl,q⟩:=h
 obtain⟨t,rfl⟩:=rx
 obtain⟨t',rfl⟩:=ry
 exact rule i j t t' s _ _ ⟨.bl (g i j),H,I,rfl,q⟩
def Hu(i j:Int):Prop:=0<j/\j<1073741824
def CMul(i j:Int):Prop:=(-(2 ^ 64)<i/\i<2 ^ 64)\/(-(2 ^ 64)<j/\j<2 ^ 64)
def CMul.ok{i j:Int}(h:CMul i j):IntMulOk i j:=by
 rcases h with⟨h1,h2⟩ | ⟨h1,h2⟩
 ·exact .of_left (intBits_le_64 h1 h2)
 ·exact .of_right (intBits_le_64 h1 h2)
def Gp:OpR X (Rx .Add) (yF fun i j=> .int (i+j)):=Ja fun _ _ _ _ _ _ _ q=>add_int q
def Gx:OpR X (Rx .Sub) (yF fun i j=> .int (i - j)):=Ja fun _ _ _ _ _ _ _ q=>sub_int q
def Gv:OpR X (Rx .Mult) (rI CMul fun i j=> .int (i*j)):=Li fun _ _ _ _ _ _ _ hc q=>mul_int q hc.ok
def Dq:OpR X (Rx .FloorDiv) (rI Hu fun i j=> .int (i / j)):=Li fun i j _ _ _ _ _ hc q=>by
 have h1:(0:Int)<j:=hc.1
 have h2:j<1073741824:=hc.2
 exact floordiv_int (by omega) (by rw[Int.fdiv_eq_ediv_of_nonneg i (by omega)];exact q) (.inl (PyProof.noPylong_small (by omega)))
def Gu:OpR X (Rx .Mod) (rI (fun _ j=>0<j) fun i j=> .int (i % j)):=Li fun i j _ _ _ _ _ hc q=>by
 have h1:(0:Int)<j:=hc
 exact mod_int' (by omega) (by rw[Int.fmod_eq_emod_of_nonneg i (by omega)];exact q)
def OD{f:Value->Sem Value}{g:Int->Int}
 (rule:∀(i:Int) (t:Tok) (s:O0) (Q:Value->O0->Prop) (E:Value->O0->Prop),Q (.int (g i) s.toks) {s with toks:=s.toks+1}->wpAny (model X.prog X.w) X.A (f (.int i t)) Q E s):
 Kf X f (rU fun i=> .int (g i)):=by
 intro pins s σ H x v Q I rx h
 obtain⟨i,rfl,q⟩:=h
 obtain⟨t,rfl⟩:=rx
 exact rule i t s _ _ ⟨.int (g i),H,I.tok _,⟨_,rfl⟩,q⟩
def Hi:Kf X (unaryOp .USub) (rU fun i=> .int (-i)):=OD fun _ _ _ _ _ q=>neg_int q
end
section
variable{X:Cx}{a b c:Expr}{ta tb tc:TE}{pos:Pos}
def wg{pins:List (Addr×Obj)}{σ:St}{H:Hp}{s:O0}{Q:VK}{k k':Bool}(I:Inv X pins σ H s)(q:Q (.bl k) H)(e:k=k'):EP X pins σ Q (.bool k') s:=by
 subst e
 exact⟨.bl k,H,I,rfl,q⟩
def yn:OpR X (P6 .Lt) (yF fun i j=> .bl (decide (i<j))):=Gn fun _ _ _ _ _ _ _ q=>lt_int q
def oV:OpR X (P6 .LtE) (yF fun i j=> .bl (decide (i<=j))):=Gn fun _ _ _ _ _ _ _ q=>le_int q
def Jb:OpR X (P6 .Gt) (yF fun i j=> .bl (decide (j<i))):=Gn fun _ _ _ _ _ _ _ q=>gt_int q
def zv:OpR X (P6 .In) (fun x y H Q=>∃i j,x= .str i/\y= .str j/\Q (.bl (!(QL j i 0 j.length 1).isEmpty)) H):=by
 intro pins s σ H x y v u Q I rx ry h
 obtain⟨i,j,rfl,rfl,q⟩:=h
 obtain⟨t,rfl⟩:=rx
 obtain⟨t',rfl⟩:=ry
 exact in_str (wg I q rfl)
def Gs:OpR X (P6 .Is) (fun x y H Q=>y= .non/\Q (.bl (decide (x= .non))) H):=by
 intro pins s σ H x y v u Q I rx ry h
 obtain⟨rfl,q⟩:=h
 cases ry
 refine is_none_gen (wg I q ?_)
 cases x<;>first
  |(cases rx;rfl)
  |(obtain ⟨t,rfl⟩:=rx;rfl)
def Dt:OpR X (P6 .IsNot) (fun x y H Q=>y= .non/\Q (.bl (!decide (x= .non))) H):=by
 intro pins s σ H x y v u Q I rx ry h
 obtain⟨rfl,q⟩:=h
 cases ry
 refine isnot_none_gen (wg I q ?_)
 cases x<;>first
  |(cases rx;rfl)
  |(obtain ⟨t,rfl⟩:=rx;rfl)
def OpR.or{f:Value->Value->Sem Value}{r r':R2}(h:OpR X f r)(h':OpR X f r'):OpR X f (fun x y H Q=>r x y H Q\/r' x y H Q):=by
 intro pins s σ H x y v u Q I rx ry q
 rcases q with q | q
 ·exact h pins s σ H x y v u Q I rx ry q
 ·exact h' pins s σ H x y v u Q I rx ry q
def Be(b:Expr){op:CmpOp}(h:op≠ .In:=by decide)(h2:op≠ .NotIn:=by decide):P8 op b=false:=by
 have e1:(op==CmpOp.In)=false:=by cases op<;>first | rfl | exact absurd rfl h
 have e2:(op==CmpOp.NotIn)=false:=by cases op<;>first | rfl | exact absurd rfl h2
 cases b<;>simp[P8,e1,e2]
def DO{op:CmpOp}{r:R2}(ho:OpR X (P6 op) r)(ha:PE X a ta)(hb:PE X b tb)(hm:P8 op b=false):PE X (.Compare a [op] [b] pos) (JF r ta tb):=by
 intro pins s σ H Q I h
 exact wpAny_Compare1 (Fc ha hb I h fun v u s2 x y H2 I2 rx ry q=>ho pins s2 σ H2 x y v u Q I2 rx ry q) hm
def E5(t:TE):TT:=fun σ H Q=>t σ H fun x H'=>∃k,x= .bl k/\Q k H'
def D0{op:CmpOp}{r:R2}(ho:OpR X (P6 op) r)(ha:PE X a ta)(hb:PE X b tb)(hm:P8 op b=false):PT X (.Compare a [op] [b] pos) (E5 (JF r ta tb)):=by
 intro pins s σ H Q I h
 refine wpAny_isTrue_Compare1 (b7 (ha pins s σ H _ I h) fun v s1 ⟨x,H1,I1,r1,q1⟩=>b7 (hb pins s1 σ H1 _ I1 q1) fun u s2 ⟨y,H2,I2,r2,q2⟩=>
  b7 (ho pins s2 σ H2 x y v u _ I2 r1 r2 q2) fun c s3 ⟨z,H3,I3,r3,k,e,q3⟩=>?_) hm
 subst e
 cases r3
 exact Qo ⟨H3,I3,q3⟩
def xo(r r':R2)(ta tb tc:TE):TE:=fun σ H Q=>ta σ H fun x H1=>tb σ H1 fun y H2=>r x y H2 fun z H3=>∃k,z= .bl k/\
 (if k=true then tc σ H3 fun w' H4=>r' y w' H4 Q else Q (.bl false) H3)
def BA{op wU:CmpOp}{r r':R2}(ho:OpR X (P6 op) r)(qF:OpR X (P6 wU) r')(ha:PE X a ta)(hb:PE X b tb)(hc:PE X c tc)
 (hm:lastMarks [op,wU] [b,c]=false:=by with_unfolding_all rfl):PE X (.Compare a [op,wU] [b,c] pos) (xo r r' ta tb tc):=by
 intro pins s σ H Q I h
 refine Compare_chain (b7 (ha pins s σ H _ I h) fun v s1 ⟨x,H1,I1,r1,q1⟩=>chain_link (b7 (hb pins s1 σ H1 _ I1 q1) fun u s2 ⟨y,H2,I2,r2,q2⟩=>
  b7 (ho pins s2 σ H2 x y v u _ I2 r1 r2 q2) fun d s3 ⟨z,H3,I3,r3,k,e,q3⟩=>?_)) hm
 subst e
 cases r3
 refine Qo ?_
 cases k with
 |false=>exact ite_ff ⟨.bl false,H3,I3,rfl,q3⟩
 |true=>exact ite_tt (chain_last (b7 (hc pins s3 σ H3 _ I3 q3) fun w' s4 ⟨z',H4,I4,r4,q4⟩=>qF pins s4 σ H4 y z' u w' Q I4 r2 r4 q4))
def BJ{op wU:CmpOp}{r r':R2}(ho:OpR X (P6 op) r)(qF:OpR X (P6 wU) r')(ha:PE X a ta)(hb:PE X b tb)(hc:PE X c tc)
 (hm:lastMarks [op,wU] [b,c]=false:=by with_unfolding_all rfl):PT X (.Compare a [op,wU] [b,c] pos) (E5 (xo r r' ta tb tc)):=by
 intro pins s σ H Q I h
 refine isTrue_chain (b7 (ha pins s σ H _ I h) fun v s1 ⟨x,H1,I1,r1,q1⟩=>test_link (b7 (hb pins s1 σ H1 _ I1 q1) fun u s2 ⟨y,H2,I2,r2,q2⟩=>
  b7 (ho pins s2 σ H2 x y v u _ I2 r1 r2 q2) fun d s3 ⟨z,H3,I3,r3,k,e,q3⟩=>?_)) hm
 subst e
 cases r3
 refine Qo ?_
 cases k with
 |false=>
  obtain⟨k',e',q'⟩:=q3
  cases e'
  exact ite_ff ⟨H3,I3,q'⟩
 |true=>
  refine ite_tt (test_last (b7 (hc pins s3 σ H3 _ I3 q3) fun w' s4 ⟨z',H4,I4,r4,q4⟩=>b7 (qF pins s4 σ H4 y z' u w' _ I4 r2 r4 q4) fun d' s5 ⟨z2,H5,I5,r5,k2,e2,q5⟩=>?_))
  subst e2
  cases r5
  exact Qo ⟨H5,I5,q5⟩
def HA(K:O2)(x:V)(H:Hp)(k:Bool):Prop:=
 match x with
 | .non=>k=false
 | .bl b=>k=b
 | .int i=>k=(i !=0)
 | .str y=>y.length<=Pe/\k=((y.length:Int) !=0)
 | .byt y=>y.size<=Pe/\k=((y.size:Int) !=0)
 | .ref p=>(∃xs,SqL K H p xs/\k=!xs.isEmpty)\/(∃xs,SqT K H p xs/\k=!xs.isEmpty)\/∃ax,H p=some (.dK ax)/\k=!ax.isEmpty
 |_=>False
def wy{κ:Type}{ax:List (κ×V)}{vs:List (κ×Value)}(r:KV ax vs):(!vs.isEmpty)=!ax.isEmpty:=by
 cases r<;>rfl
def oj{xs:List V}{aK:List Value}(r:Vals xs aK):(!aK.toArray.isEmpty)=!xs.isEmpty:=by
 cases r<;>simp
def lG:(Pe:Nat)<2 ^ 63:=by rw[Q0];decide
def Hg:Ke X (fun x H Q=>∃k,HA X.K x H k/\Q k H):=by
 intro pins s σ H x v Q I rx h
 obtain⟨k,e,q⟩:=h
 have hl:=lG
 have hs:Pe=16777216:=Q0
 cases x with
 |non=>
  cases rx
  have e':k=false:=e
  subst e'
  exact truthy_none ⟨H,I,q⟩
 |bl b=>
  cases rx
  have e':k=b:=e
  subst e'
  exact Qo ⟨H,I,q⟩
 |int i=>
  obtain⟨t,rfl⟩:=rx
  have e':k=(i !=0):=e
  subst e'
  exact PySem.P.truthy_int ⟨H,I,q⟩
 |str y=>
  obtain⟨t,rfl⟩:=rx
  obtain⟨hy,e'⟩:y.length<=Pe/\k=((y.length:Int) !=0):=e
  subst e'
  exact PySem.P.truthy_str (by omega) ⟨H,I.tok _,q⟩
 |byt y=>
  obtain⟨t,rfl⟩:=rx
  obtain⟨hy,e'⟩:y.size<=Pe/\k=((y.size:Int) !=0):=e
  subst e'
  exact PySem.W.truthy_bytes (by omega) ⟨H,I.tok _,q⟩
 |ref p=>
  cases rx
  have e':(∃xs,SqL X.K H p xs/\k=!xs.isEmpty)\/(∃xs,SqT X.K H p xs/\k=!xs.isEmpty)\/∃ax,H p=some (.dK ax)/\k=!ax.isEmpty:=e
  rcases e' with⟨xs,hx,e'⟩ | ⟨xs,hx,e'⟩ | ⟨ax,hx,e'⟩
  ·subst e'
   obtain⟨aK,r,pl,hz⟩:=I.list hx
   have hlen:=r.length
   exact wpAny_truthy_list pl.isList (by simp only[O7];omega) ⟨H,I.tok _,by rw[oj r];exact q⟩
  ·subst e'
   obtain⟨aK,r,pl,hz⟩:=I.tuple hx
   have hlen:=r.length
   exact truthy_tuple pl (by simp only[O7];omega) ⟨H,I.tok _,by rw[oj r];exact q⟩
  ·subst e'
   obtain⟨hz,hS,vs,r,m⟩:ax.length<=Pe/\(p==Qk)=false/\∃vs,KV ax vs/\s.heap.DictOf (a9 X.prog X.w) p vs:=I.hok p _ hx
   have hlen:ax.length=vs.length:=Qx r
   exact wpAny_truthy_dict hS m (by omega) ⟨H,I.tok _,by rw[wy r];exact q⟩
 |_=>exact(show False from e).elim
def BM(ha:PE X a ta)(he:∀whole,isTrue a X.env whole=(do let v<-whole;standAt a.pos;holding [v] (truthy v))):
 PT X a (fun σ H Q=>ta σ H fun x H'=>∃k,HA X.K x H' k/\Q k H'):=by
 intro pins s σ H Q I h
 exact isTrue_plain (b7 (ha pins s σ H _ I h) fun v s1 ⟨x,H1,I1,r1,q1⟩=>Hg pins s1 σ H1 x v Q I1 r1 q1) (he _)
def vals1{x:V}{us:List Value}(r:Vals [x] us):∃u,us=[u]/\RelV x u:=by
 cases r with
 |cons r1 r2=>cases r2;exact⟨_,rfl,r1⟩
def vals2{x y:V}{us:List Value}(r:Vals [x,y] us):∃u w',us=[u,w']/\RelV x u/\RelV y w':=by
 cases r with
 |cons r1 r2=>
  cases r2 with
  |cons r3 r4=>cases r4;exact⟨_,_,rfl,r1,r3⟩
def Ag:CallR X (.builtin "abs") (fun xs H Q=>∃i,xs=[.int i]/\Q (.int (if i<0 then -i else i)) H):=by
 intro pins s σ H xs us Q I r h
 obtain⟨i,rfl,q⟩:=h
 obtain⟨u,rfl,t,rfl⟩:=vals1 r
 exact call_abs_int fun u tk=>⟨.int (if i<0 then -i else i),H,I.tok _,⟨_,rfl⟩,q⟩
def yT(hc:X.calm=true):CallR X (.builtin "max") (fun xs H Q=>∃i j,xs=[.int i, .int j]/\Q (.int (if j>i then j else i)) H):=by
 intro pins s σ H xs us Q I r h
 obtain⟨i,j,rfl,q⟩:=h
 obtain⟨u,w',rfl,⟨t,rfl⟩,⟨t',rfl⟩⟩:=vals2 r
 refine max_two_ints (I.ok.hd hc) fun h' tk k=>⟨_,H,I.kept k,?_,q⟩
 by_cases hj:j>i
 ·rw[if_pos hj,if_pos hj];exact⟨_,rfl⟩
 ·rw[if_neg hj,if_neg hj];exact⟨_,rfl⟩
def yU(hc:X.calm=true):CallR X (.builtin "min") (fun xs H Q=>∃i j,xs=[.int i, .int j]/\Q (.int (if j<i then j else i)) H):=by
 intro pins s σ H xs us Q I r h
 obtain⟨i,j,rfl,q⟩:=h
 obtain⟨u,w',rfl,⟨t,rfl⟩,⟨t',rfl⟩⟩:=vals2 r
 refine min_two_ints (I.ok.hd hc) fun h' tk k=>⟨_,H,I.kept k,?_,q⟩
 by_cases hj:j<i
 ·rw[if_pos hj,if_pos hj];exact⟨_,rfl⟩
 ·rw[if_neg hj,if_neg hj];exact⟨_,rfl⟩
end
structure ObjM (h:Heap) (x dx C:Addr) (mA:Str->Option Value):Prop where
 obj:h.get? x=some (SD C dx)
 ns:h.Ns1 dx mA
 ne:dx≠x
def zi{h:Heap}{dx:Addr}{mA:Str->Option Value}(n:h.Ns1 dx mA):∃od,h.get? dx=some od/\∀name,SM name od=some (mA name):=by
 obtain⟨o,es,ep,ho,hd,hk,_,hm⟩:=n
 refine⟨o,ho,fun name=>?_⟩
 have e:=hm name
 unfold nsFind findBy at e
 rw[<-Array.find?_toList] at e
 unfold SM
 rw[hd]
 dsimp only
 split
 ·rename_i y q
  rw[q] at e
  exact congrArg some e
 ·rename_i q
  rw[q] at e
  have a:es.toList.any (·.refKey)=false:=by
   rw[List.any_eq_false]
   intro y hy
   obtain⟨z,t,CZ⟩:=hk y (Array.mem_toList_iff.mp hy)
   simp[DictEntry.refKey,CZ]
  have a':¬es.toList.any (·.refKey)=true:=by rw[a];exact Pk
  rw[if_neg a']
  exact congrArg some e
def ObjM.look{h:Heap}{x dx C:Addr}{mA:Str->Option Value}(I:ObjM h x dx C mA):∃od,PySem.W.InstAt h x (SD C dx) C (some od)/\∀name,SM name od=some (mA name):=
 let ⟨od,ho,hl⟩:=zi I.ns
 ⟨od,⟨I.obj,rfl,rfl,ho⟩,hl⟩
def RelO.some_of{v:V}{o:Option Value}(r:RelO (some v) o):∃u,o=some u/\RelV v u:=by
 cases o with
 |none=>exact(show False from r).elim
 |some u=>exact⟨u,rfl,r⟩
def RelO.none_of{o:Option Value}(r:RelO none o):o=none:=by
 cases o with
 |none=>rfl
 |some u=>exact(show False from r).elim
section
variable{P:Pw}{w:World}{H:Hp}{h:Heap}{a C dx:Addr}{fs:List (Str×V)}
def C9(hok:HOk P w H h)(e:H a=some (.ins C dx fs)):∃mA,ObjM h a dx C mA/\(∀f,RelO (fs.lookup f) (mA f))/\PySem.Within mA (fs.map (·.1))/\fs.length<=1000/\H dx=some (.own a):=by
 obtain⟨d,z,ne,ob,mA,n,r,q⟩:=(show ObjOk P w H h a (.ins C dx fs) from hok a _ e)
 exact⟨mA,⟨ob,n,ne⟩,r,q,z,d⟩
end
structure Cls (K:O2) (C:Addr):Prop where
 pg:TR K C Str.empty=true
 hd:PySem.W.hasDictIn K C=true
 po:PySem.W.plainOver K C=true
 sa:T9 K (.ref C) "__setattr__"=some (some (.builtin "object.__setattr__"))
def Cls.get{K:O2}{C:Addr}(c:Cls K C)(f:Str):TR K C f=true:=c.pg
section
variable{X:Cx}{pins:List (Addr×Obj)}{σ:St}{H:Hp}{s:O0}{A:P_}{E:Value->O0->Prop}{Q:Value->O0->Prop}{c:Value}{b:Bool}
inductive TyOf (K:O2) (H:Hp):V->Value->Prop where
 |non:TyOf K H .non (.type "NoneType")
 |bl (x:Bool):TyOf K H (.bl x) (.type "bool")
 |int (i:Int):TyOf K H (.int i) (.type "int")
 |str (x:Str):TyOf K H (.str x) (.type "str")
 |flt (x:UInt64):TyOf K H (.flt x) (.type "float")
 |lst {a:Addr}{xs:List V}(e:H a=some (.lst xs)):TyOf K H (.ref a) (.type "list")
 |frz {a:Addr}{o:Obj}{xs:List V}(e:H a=some (.frz o (.lst xs))):TyOf K H (.ref a) (.type "list")
 |tup {a:Addr}{xs:List V}(e:H a=some (.tup xs)):TyOf K H (.ref a) (.type "tuple")
 |dK {a:Addr}{ax:List (Key×V)}(e:H a=some (.dK ax)):TyOf K H (.ref a) (.type "dict")
 |dT {a:Addr}{ax:List (List Key×V)}(e:H a=some (.dT ax)):TyOf K H (.ref a) (.type "dict")
 |ins {a C dx:Addr}{fs:List (Str×V)}(e:H a=some (.ins C dx fs)) (cl:Cls K C) (ha:T9 K (.ref C) "__class__"=some (some (.builtin "object.__class__")))
   (hn:PySem.W.specialIn K (.builtin "object.__class__") "__get__"=some (some (.builtin "getset_descriptor.__get__"))) (Ml:PySem.W.takesIn K (.builtin "object.__class__")=some true)
   (hm:PySem.W.mroIn K C (.type "object")=some true):TyOf K H (.ref a) (.ref C)
def zb{x:V}{u t:Value}(I:Inv X pins σ H s)(rx:RelV x u)(ty:TyOf X.K H x t)(e:SN X.K t c=some b)(h:∀tk,Q (.bool b) {s with toks:=tk}):
 wpAny (model X.prog X.w) A (call (.builtin "isinstance") [u,c]) Q E s:=by
 cases ty with
 |non=>cases (show u=Qh from rx);exact Qe PySem.W.kitx_none I.kIn Qu e (fun z=>nomatch z) h
 |bl y=>cases (show u=RI y from rx);exact Qe PySem.W.kitx_bool I.kIn Qu e (fun z=>nomatch z) h
 |int i=>obtain⟨t,q⟩:=(show∃t,u=Tu i t from rx);cases q;exact Qe PySem.W.kitx_int I.kIn Qu e (fun z=>nomatch z) h
 |str y=>obtain⟨t,q⟩:=(show∃t,u=Tt y t from rx);cases q;exact Qe PySem.W.kitx_str I.kIn Qu e (fun z=>nomatch z) h
 |flt y=>obtain⟨t,q⟩:=(show∃t,u=Value.float y t from rx);cases q;exact Qe PySem.W.kitx_float I.kIn Qu e (fun z=>nomatch z) h
 | @lst a xs ea=>
   cases (show u=PQ a from rx)
   obtain⟨_,_,n,_,h1⟩:=(show ObjOk X.prog X.w H s.heap a (.lst xs) from I.hok a _ ea)
   exact Qe TC I.kIn ⟨_,h1,rfl⟩ e (fun z=>nomatch z) h
 | @frz a ob xs ea=>
   cases (show u=PQ a from rx)
   obtain⟨_,_,_,n,_,h1⟩:=(show ObjOk X.prog X.w H s.heap a (.frz ob (.lst xs)) from I.hok a _ ea)
   exact Qe TC I.kIn ⟨_,h1,rfl⟩ e (fun z=>nomatch z) h
 | @tup a xs ea=>
   cases (show u=PQ a from rx)
   obtain⟨_,_,_,p⟩:=(show ObjOk X.prog X.w H s.heap a (.tup xs) from I.hok a _ ea)
   obtain⟨o,h1,h2,_⟩:=p
   exact Qe PySem.W.kitx_tuple I.kIn ⟨o,h1,h2⟩ e (fun z=>nomatch z) h
 | @dK a ax ea=>
   cases (show u=PQ a from rx)
   obtain⟨_,_,vs,_,p⟩:=(show ObjOk X.prog X.w H s.heap a (.dK ax) from I.hok a _ ea)
   obtain⟨o,es,ep,h1,h2,_⟩:=p
   exact Qe TF I.kIn ⟨o,h1,h2.1⟩ e (fun z=>nomatch z) h
 | @dT a ax ea=>
   cases (show u=PQ a from rx)
   obtain⟨_,_,xs,_,o,es,ep,h1,h2,_⟩:=(show ObjOk X.prog X.w H s.heap a (.dT ax) from I.hok a _ ea)
   exact Qe TF I.kIn ⟨o,h1,h2.1⟩ e (fun z=>nomatch z) h
 | @ins a C dx fs ea cl ha hn Ml hm=>
   cases (show u=PQ a from rx)
   obtain⟨mA,O,_⟩:=C9 I.hok ea
   obtain⟨od,J,_⟩:=O.look
   exact Qe (PySem.W.kitx_own (cl.get _) cl.hd ha hn Ml hm) I.kIn J e (fun z=>nomatch z) h
end
structure Room (k:Nat) (A:P_):Prop where
 hd:A.handled=none
 dp:A.depth+3*k+5<TB
 un:A.units+16*k+200<cLine
def Room.mono{j k:Nat}{A:P_}(r:Room k A)(h:j<=k):Room j A:=⟨r.hd,by have:=r.dp;omega,by have:=r.un;omega⟩
def Room.deeper{k:Nat}{A:P_}(r:Room (k+1) A)(env:Env):Room k (A.deeper env):=
 ⟨r.hd,by have:=r.dp;show A.depth+1+3*k+5<_;omega,by have:=r.un;show A.units+3+16*k+200<_;omega⟩
def Room.depth{k:Nat}{A:P_}(r:Room k A):A.depth<TB:=by have:=r.dp;omega
def Room.units{k:Nat}{A:P_}(r:Room k A):A.units+64<cLine:=by have:=r.un;omega
def He:TA:=fun _ H Q=>Q [] H
def B_(ta:TE)(tr:TA):TA:=fun σ H Q=>ta σ H fun x H1=>tr σ H1 fun xs H2=>Q (x::xs) H2
section
variable{X:Cx}{e:Expr}{es:List Expr}{te:TE}{t:TA}{pos:Pos}
def sM:PA X [] He:=fun _ _ _ _ H Q I h=>RM ⟨[],H,I, .nil,h⟩
def sL(ha:PE X e te)(hr:PA X es t)(hs:Ph (e::es) X.env=(false,eval e X.env)::Ph es X.env:=by rfl):PA X (e::es) (B_ te t):=by
 intro pos pins s σ H Q I h
 rw[hs]
 show wpAny _ _ (spliced ((false,eval e X.env)::Q4 pos (Ph es X.env))) _ _ s
 refine QX (b7 (ha pins s σ H _ I h) fun u s1 ⟨x,H1,I1,r1,q1⟩=>?_)
 exact b7 (hr pos pins s1 σ H1 _ I1 q1) fun us s2 ⟨xs,H2,I2,r2,q2⟩=>⟨x::xs,H2,I2, .cons r1 r2,q2⟩
def Ly(t:TA):TE:=fun σ H Q=>t σ H fun xs H1=>xs.length<=Pe/\∀p,H1 p=none->Q (.ref p) (upd H1 p (.tup xs))
def Lu(t:TA):TE:=fun σ H Q=>t σ H fun xs H1=>xs.length<=Pe/\∀p,H1 p=none->Q (.ref p) (upd H1 p (.lst xs))
def GP{x1}(h:PA X es t):PE X (.Tuple es x1 pos) (Ly t):=by
 intro pins s σ H Q I hq
 refine wpAny_Tuple_spliced (b7 (h pos pins s σ H _ I hq) fun us s1 ⟨xs,H1,I1,r,z,q⟩=>⟨by rw[<-r.length];exact z,?_⟩)
 have hf:H1 s1.heap.objs.size=none:=I1.hok.fresh (O9 _)
 refine⟨.ref s1.heap.objs.size,upd H1 s1.heap.objs.size (.tup xs),I1.laid (t':=s1.toks) (fun b u e=>O4 _ e) (O9 _) ?_,rfl,q _ hf⟩
 exact⟨z,us,r,⟨_,Pt _ rfl,rfl,_,rfl⟩⟩
def w_(h:PA X es t):PE X (.List es pos) (Lu t):=by
 intro pins s σ H Q I hq
 refine wpAny_List_spliced (b7 (h pos pins s σ H _ I hq) fun us s1 ⟨xs,H1,I1,r,z,q⟩=>⟨by rw[<-r.length];exact z,?_⟩)
 have hf:H1 s1.heap.objs.size=none:=I1.hok.fresh (O9 _)
 refine⟨.ref s1.heap.objs.size,upd H1 s1.heap.objs.size (.lst xs),I1.laid (t':=s1.toks) (fun b u e=>O4 _ e) (O9 _) ?_,rfl,q _ hf⟩
 exact⟨z,us,0,r,Pt _ rfl⟩
end
abbrev Sp:=List V->Hp->VK->XK->Prop
abbrev xD:=List Env->Hp->O0->XK->Value->O0->Prop
structure Env0 (P:Pw) (w:World) (K:O2) (mg:Str->Option Value) (base:Heap) (A:P_) (outer:List Env) (s:O0) (H:Hp):Prop where
 frames:A.frames=some outer
 mod:Mod K mg base
 bs:∀b o,base.get? b=some o->s.heap.get? b=some o/\H b=none
 bsz:base.objs.size<=s.heap.objs.size
 funs:s.heap.FunFrames base outer
 frf:∀b∈ng outer,H b=none
 hok:HOk P w H s.heap
 bare:Sn s.gens
def CE(outer:List Env)(P:Pw)(w:World)(H:Hp)(s:O0)(Q:VK)(u:Value)(s':O0):Prop:=
 ∃v H',s'.os=s.os/\Sn s'.gens/\Un (ng outer) [] H H' s.heap s'.heap/\HOk P w H' s'.heap/\RelV v u/\Q v H'
def CR(CX:xD)(outer:List Env)(P:Pw)(w:World)(H:Hp)(s:O0)(Q:VK)(E:XK)(r:Result)(s':O0):Prop:=
 match r with
 | .ok (.ret u)=>CE outer P w H s Q u s'
 | .ok _=>False
 | .error e=>CX outer H s E e s'
structure FnOk (P:Pw) (w:World) (K:O2) (mg:Str->Option Value) (base:Heap) (CX:xD) (k:Nat) (f:Addr) (fd:QT) (ps:List Str) (sp:Sp):Prop where
 len:∀vs H Q E,sp vs H Q E->vs.length=ps.length
 run:∀(A:P_) (outer:List Env) (s:O0) (H:Hp) (args:Args) (us:List Value) (vs:List V) (Q:VK) (E:XK),Room k A->Env0 P w K mg base A outer s H->T6 s fd args (ps.zip us)->Vals vs us->sp vs H Q E->
  Ts (model P w) A (.call (.ref f) args) (CR CX outer P w H s Q E) s
def FnOk.mono{P:Pw}{w:World}{K:O2}{mg:Str->Option Value}{base:Heap}{CX:xD}{j k:Nat}{f:Addr}{fd:QT}{ps:List Str}{sp:Sp}(F:FnOk P w K mg base CX j f fd ps sp)(h:j<=k):
 FnOk P w K mg base CX k f fd ps sp:=⟨F.len,fun A outer s H args us vs Q E hr=>F.run A outer s H args us vs Q E (hr.mono h)⟩
section
variable{X:Cx}{pins:List (Addr×Obj)}{σ:St}{H:Hp}{s s':O0}
def Inv.env0(I:Inv X pins σ H s):Env0 X.prog X.w X.K X.mg X.base X.A X.stack s H:=
 ⟨I.ok.frames,I.ok.mod,I.bs,PM I.ok.bsz I.sz,I.stack,I.stkFree,I.hok,I.bare⟩
def Inv.after{Q:VK}{u:Value}(I:Inv X pins σ H s)(h:CE X.stack X.prog X.w H s Q u s'):EP X pins σ Q u s':=by
 obtain⟨v,H',os,bare,un,hok,r,q⟩:=h
 obtain⟨hh,g,d,t,Ow⟩:=s'
 obtain rfl:Ow=s.os:=os
 exact⟨v,H',I.call (h':=hh) (g':=g) (d':=d) (t':=t) (ch:=[]) un hok bare (fun b z=>absurd z (by simp)),r,q⟩
end
def Jz(sp:Sp)(Es:List V)(E:XK)(t:TA):TE:=fun σ H Q=>t σ H fun vs H1=>sp (vs++Es) H1 Q E
def Binds(K:O2)(fd:QT)(ps:List Str)(ds:List Value):Prop:=
 ∀(s:O0) (us:List Value),K.In s.heap->(us++ds).length=ps.length->T6 s fd ⟨us,[]⟩ (ps.zip (us++ds))
def Binds.all{K:O2}{fd:QT}{ps:List Str}(h:∀us:List Value,us.length=ps.length->bindArgs fd ⟨us,[]⟩=pure (ps.zip us)):Binds K fd ps []:=fun s us _ hl=>by
 rw[Qj] at hl⊢
 exact .of_eq (h us hl)
def Passes(CX:xD)(X:Cx)(E:XK):Prop:=∀(pins:List (Addr×Obj)) (σ:St) (H:Hp) (s:O0) (e:Value) (s':O0),Inv X pins σ H s->CX X.stack H s E e s'->X.xe e s'
section
variable{X:Cx}{CX:xD}{k:Nat}{f:Addr}{fd:QT}{ps:List Str}{sp:Sp}{Es:List V}{ds:List Value}{E:XK}{x:Str}{p pos:Pos}{e:Expr}{es:List Expr}{t:TA}
def G5{pins:List (Addr×Obj)}{σ:St}{H:Hp}{s:O0}{Q:VK}{us:List Value}{vs:List V}(F:FnOk X.prog X.w X.K X.mg X.base CX k f fd ps sp)(hr:Room k X.A)(hb:Binds X.K fd ps ds)(hd:Vals Es ds)(hx:Passes CX X E)
 (I:Inv X pins σ H s)(r:Vals vs us)(h:sp (vs++Es) H Q E):wpAny (model X.prog X.w) X.A (call (.ref f) us) (EP X pins σ Q) X.xe s:=by
 have r2:Vals (vs++Es) (us++ds):=r.append hd
 have hl:(us++ds).length=ps.length:=by rw[<-r2.length];exact F.len _ _ _ _ h
 refine wpAny_call (codeAny_mono (F.run X.A X.stack s H ⟨us,[]⟩ (us++ds) (vs++Es) Q E hr I.env0 (hb s us I.kIn hl) r2 h) fun r s' hq=>?_)
 cases r with
 |error e=>exact hx pins σ H s e s' I hq
 |ok fl=>
  cases fl with
  |ret u=>exact I.after hq
  |next=>exact QB hq
  |brk=>exact QB hq
  |cont=>exact QB hq
def DN(F:FnOk X.prog X.w X.K X.mg X.base CX k f fd ps sp)(hr:Room k X.A)(hg:Gl X x)(hm:X.mg x=some (.ref f))(hk:Qy X.K (.ref f)=true)(hb:Binds X.K fd ps ds)(hd:Vals Es ds)(hx:Passes CX X E)
 (ha:PA X (e::es) t)(wo:(x==("__debug__":Str))=false:=by decide)(he:Ph (e::es) X.env=(false,eval e X.env)::Ph es X.env:=by rfl)(vS:(Q4 pos (Ph es X.env)).any (·.1)=false:=by rfl):
 PE X (.Call (.Name x p) (e::es) [] pos) (Jz sp Es E t):=by
 intro pins s σ H Q I h
 refine wpAny_Call_Name_kw (yf I hg hm ?_ wo)
 refine PySem.W.callWith_K (h₀:=X.base) I.ok.mod.kin hk (b7 (ha pos pins s σ H _ I h) fun us s1 ⟨vs,H1,I1,r,q⟩=>⟨I1.kIn,?_⟩) he vS
 exact G5 F hr hb hd hx I1 r q
end
section
variable{ks:List Str}
end
structure FnScope (N P:List Str) (sc:Scope):Prop where
 kind:sc.kind= .function
 co:sc.isCoroutine=false
 gen:sc.isGenerator=false
 nd:N.Nodup
 pre:N.take P.length=P
 par:∀x∈P,sc.names.lookup x=some .local\/sc.names.lookup x=some .cell
 nofree:∀y∈sc.names,y.2≠ .free
def qt{R_:Str->Option RP}{x:Str}:∀{binds:List (Str×Value)}{m:Str->Option Value},(∀v,(x,v)∉binds)->bindL R_ binds m x=m x
 |[],_,_=>rfl
 |(n,v)::r,m,h=>by
  unfold bindL
  rw[qt fun w hw=>h w (OU _ hw)]
  split
  ·have:x≠n:=by rintro rfl;exact h v OV
   simp[this]
  ·rfl
def qq{R_:Str->Option RP}{x:Str}:∀{binds:List (Str×Value)}{m:Str->Option Value},(∀v,(x,v)∉binds)->bindC R_ binds m x=m x
 |[],_,_=>rfl
 |(n,v)::r,m,h=>by
  unfold bindC
  rw[qq fun w hw=>h w (OU _ hw)]
  split
  ·rfl
  ·have:x≠n:=by rintro rfl;exact h v OV
   simp[this]
def qr{R_:Str->Option RP}{x:Str}{v:Value}:∀{P:List Str}{vs:List Value}{i:Nat}{m:Str->Option Value},P.Nodup->P[i]? =some x->vs[i]? =some v->R_ x=some .local->
 bindL R_ (P.zip vs) m x=some v
 |[],_,_,_,_,h,_,_=>by simp at h
 |_::_,[],_,_,_,_,h,_=>by simp at h
 |p::P,w::vs,0,m,nd,h1,h2,hk=>by
  simp at h1 h2;subst h1;subst h2
  show bindL R_ ((p,w)::P.zip vs) m p=_
  unfold bindL
  rw[qt fun v hv=>(P1.mp nd).1 (SV hv).1,if_pos hk]
  simp
 |p::P,w::vs,i+1,m,nd,h1,h2,hk=>by
  show bindL R_ ((p,w)::P.zip vs) m x=_
  unfold bindL
  exact qr (i:=i) (P1.mp nd).2 (by simpa using h1) (by simpa using h2) hk
def qp{R_:Str->Option RP}{x:Str}{v:Value}:∀{P:List Str}{vs:List Value}{i:Nat}{m:Str->Option Value},P.Nodup->P[i]? =some x->vs[i]? =some v->R_ x≠some .local->
 bindC R_ (P.zip vs) m x=some v
 |[],_,_,_,_,h,_,_=>by simp at h
 |_::_,[],_,_,_,_,h,_=>by simp at h
 |p::P,w::vs,0,m,nd,h1,h2,hk=>by
  simp at h1 h2;subst h1;subst h2
  show bindC R_ ((p,w)::P.zip vs) m p=_
  unfold bindC
  rw[qq fun v hv=>(P1.mp nd).1 (SV hv).1,if_neg hk]
  simp
 |p::P,w::vs,i+1,m,nd,h1,h2,hk=>by
  show bindC R_ ((p,w)::P.zip vs) m x=_
  unfold bindC
  exact qp (i:=i) (P1.mp nd).2 (by simpa using h1) (by simpa using h2) hk
def start(N:List Str)(vs:List V):St:=vs.map some++PV (N.length - vs.length) none
def gx(CX:xD)(P:Pw)(w:World)(K:O2)(mg:Str->Option Value)(base:Heap)(N:List Str)(qual:Str)(scope:Scope)(f:Addr)(cd:Value)(A:P_)(outer:List Env)(s:O0)(H:Hp)(E:XK):Cx where
 prog:=P
 w:=w
 K:=K
 mg:=mg
 base:=base
 A:=A.deeper (RH qual scope s.heap.objs.size f cd)
 N:=N
 s₀:=s
 H₀:=H
 env:=RH qual scope s.heap.objs.size f cd
 outer:=outer
 stack:=RH qual scope s.heap.objs.size f cd::outer
 ex:=[]
 calm:=true
 fn:=fun _=>true
 pn:=[]
 xe:=fun e s'=>wpAny (model P w) (A.deeper (RH qual scope s.heap.objs.size f cd)) (leaving (RH qual scope s.heap.objs.size f cd) e) (fun _ Lo=>CX outer H s E e Lo) (fun e' Lo=>CX outer H s E e' Lo) s'
def t8{sc:Scope}{n:Nat}{x:Str}(h:sc.names.lookup x=some .cell):∃c,(cellsFrom n sc.names []).lookup x=some c:=by
 have q:=Ta sc.names n [] (.inl h)
 exact QQ.mp q
def y_{CX:xD}{P:Pw}{w:World}{K:O2}{mg:Str->Option Value}{base:Heap}{N ps:List Str}{qual:Str}{scope:Scope}{f:Addr}{cd:Value}{A:P_}{outer:List Env}{s s1:O0}{H:Hp}{E:XK}{us:List Value}{vs:List V}
 (S:FnScope N ps scope)(hd:A.handled=none)(e0:Env0 P w K mg base A outer s H)(hl:vs.length=ps.length)(r:Vals vs us)
 (x:InCallC s s.heap.objs.size (bindL (RH qual scope s.heap.objs.size f cd).kindOf (ps.zip us) fun _=>none) (cellsFrom (s.heap.objs.size+1) scope.names []) (bindC (RH qual scope s.heap.objs.size f cd).kindOf (ps.zip us) fun _=>none) s1):
 Inv (gx CX P w K mg base N qual scope f cd A outer s H E) [] (start N vs) H s1:=by
 have vS:ps.length<=N.length:=by have:=congrArg TX S.pre;rw[List.length_take] at this;omega
 obtain⟨h1,tk,rfl,hk⟩:=x.done
 have IW:∀b:Addr,b∉(gx CX P w K mg base N qual scope f cd A outer s H E).ex:=fun b z=>absurd (show b∈([]:List Addr) from z) (by simp)
 refine⟨⟨e0.mod,S.kind,rfl,rfl,O9 _,fun y z c h1 h2=>?_,fun y hy=>?_,fun y c _ h=>?_,fun _=>hd,Around.frames_deeper e0.frames, .inr ⟨rfl,rfl⟩,fun b z=>absurd z (IW b),e0.bs,e0.bsz,fun b _ _=>IW b,fun b z=>absurd z (IW b),e0.funs,e0.frf⟩,
  rfl,e0.bare,Un.kept hk,⟨_,x.toInCall.ns,fun i y v h1 h2 h3=>?_⟩,fun y c h=>⟨_,x.cell y c h⟩,e0.hok.fresh (O9 _),fun y c h=>?_,fun p hp=>absurd (show p∈([]:List (Addr×Obj)) from hp) (by simp),e0.hok.kept hk,?_⟩
 ·exact name_of_addr x.apart (Qm h1) (Qm h2)
 ·have hy:scope.names.lookup y=some .cell\/scope.names.lookup y=some .free:=hy
  rcases hy with hy | hy
  ·exact t8 hy
  ·exact absurd rfl (S.nofree _ (Qm hy))
 ·exact QI (x.above y c (Qm h))
 ·have hi:i<vs.length:=by
   unfold start at h2
   by_cases hi:i<vs.length
   ·exact hi
   ·rw[PY (by simpa using hi)] at h2
    rw[Qz] at h2
    split at h2<;>cases h2
  have ha:vs[i]? =some v:=by
   unfold start at h2
   rw[PJ (by simpa using hi),O_] at h2
   cases e:vs[i]? with
   |none=>rw[e] at h2;cases h2
   |some a=>rw[e] at h2;cases h2;rfl
  obtain⟨u,hu,rv⟩:=r.get ha
  have hp:ps[i]? =some y:=by
   rw[<-S.pre,List.getElem?_take_of_lt (by omega)];exact h1
  have Mw:ps.Nodup:=by rw[<-S.pre];exact S.nd.sublist (List.take_sublist _ _)
  refine⟨u,rv,?_⟩
  rcases S.par y (Pj hp) with k | k
  ·exact .inl ⟨k,qr Mw hp hu k⟩
  ·obtain⟨c,e⟩:=t8 (n:=s.heap.objs.size+1) k
   refine .inr ⟨.inl k,c,e,?_⟩
   have q:=x.cell y c e
   rw[qp Mw hp hu (by show scope.names.lookup y≠_;rw[k];decide)] at q
   exact q
 ·exact e0.hok.fresh (QI (x.above y c (Qm h)))
 ·unfold start
  show _=N.length
  rw[O8,OW,R4]
  omega
def Eu{CX:xD}{P:Pw}{w:World}{K:O2}{mg:Str->Option Value}{base:Heap}{k:Nat}{f:Addr}{name qual:Str}{params:Arguments}{body:List Stmt}{scope:Scope}{dV kV doc pm b9 ct oc:Value}{an od:Option Addr}
 {Dz:Array (Option Value)}{N ps:List Str}{sp:Sp}(lk:K.lookup f=some ⟨oc,od, .func (Qq name qual params body scope dV kV doc pm an b9 ct),Dz⟩)(vP:Q5 K b9 qual=true)(S:FnScope N ps scope)
 (len:∀vs H Q E,sp vs H Q E->vs.length=ps.length)
 (n9:∀(A:P_) (outer:List Env) (s:O0) (H:Hp) (vs:List V) (Q:VK) (E:XK),Room k (A.deeper (RH qual scope s.heap.objs.size f b9))->sp vs H Q E->
  ∃t,PSs (gx CX P w K mg base N qual scope f b9 A outer s H E) body t/\t {nx:=fun _ H'=>Q .non H',rt:=Q} (start N vs) H):
 FnOk P w K mg base CX (k+1) f (Qq name qual params body scope dV kV doc pm an b9 ct) ps sp:=by
 refine⟨len,fun A outer s H args us vs Q E hr e0 hb r Cs=>?_⟩
 have hl:=len _ _ _ _ Cs
 have KX:K.In s.heap:=e0.mod.kin.keeps fun b o e=>(e0.bs b o e).1
 have lim:s.heap.NoLimit:=e0.mod.nolimit.keeps fun b o e=>(e0.bs b o e).1
 have Ik:∀y∈ps.zip us,scope.names.lookup y.1=some .local\/(scope.names.lookup y.1=some .cell/\((cellsFrom (s.heap.objs.size+1) scope.names []).lookup y.1).isSome=true):=fun⟨n,v⟩ hy=>by
  rcases S.par n (SV hy).1 with q | q
  ·exact .inl q
  ·exact .inr ⟨q,Ta _ _ _ (.inl q)⟩
 refine codeAny_call_function hr.depth (KX _ _ lk) rfl S.co S.gen rfl (PySem.W.codeRec_of KX vP) (hb _ _ _ _ ?_)
 refine wpAny_newFunctionEnv_cells S.kind Ik fun env he s1 x=>?_
 subst he
 refine⟨lim.keeps x.toInCall.keep,codeAny_func ?_⟩
 obtain⟨t,ht,hq⟩:=n9 A outer s H vs Q E (hr.deeper _) Cs
 have I:Inv (gx CX P w K mg base N qual scope f b9 A outer s H E) [] (start N vs) H s1:=y_ S hr.hd e0 hl r x
 refine Qf (ht [] s1 (start N vs) H _ I hq) (fun fl s' hs=>?_) fun e s' hs=>hs
 have fin:∀{σ':St}{H':Hp}{v:V}{u:Value},Inv (gx CX P w K mg base N qual scope f b9 A outer s H E) [] σ' H' s'->RelV v u->Q v H'->CE outer P w H s Q u s':=
  fun {σ' H' v u} J rv q=>⟨v,H',J.os,J.bare,J.base,J.hok,rv,q⟩
 cases fl with
 |ret u=>
  obtain⟨v,σ',H',J,rv,q⟩:=hs
  exact fin J rv q
 |next=>
  obtain⟨σ',H',J,q⟩:=hs
  exact fin (v:=V.non) (u:=Qh) J rfl q
 |brk=>
  obtain⟨_,_,_,q⟩:=hs
  exact QB q
 |cont=>
  obtain⟨_,_,_,q⟩:=hs
  exact QB q
section
variable{X:Cx}{x:Str}{p pos:Pos}{e:Expr}{es:List Expr}{t:TA}{id:String}{r:List V->Hp->VK->Prop}
def MF(r:List V->Hp->VK->Prop)(t:TA):TE:=fun σ H Q=>t σ H fun vs H1=>r vs H1 Q
def Bz(hc:CallR X (.builtin id) r)(hg:Gl X x)(hm:X.mg x=none)(hv:Qi x=some (.builtin id))(ha:PA X (e::es) t)(hn:x≠"__name__":=by decide)(wo:(x==("__debug__":Str))=false:=by decide)
 (he:Ph (e::es) X.env=(false,eval e X.env)::Ph es X.env:=by rfl)(vS:(Q4 pos (Ph es X.env)).any (·.1)=false:=by rfl):PE X (.Call (.Name x p) (e::es) [] pos) (MF r t):=by
 intro pins s σ H Q I h
 refine wpAny_Call_Name_kw (oC I hg hm hv ?_ hn wo)
 exact PyProof.Rows.callWith_builtin1 (b7 (ha pos pins s σ H _ I h) fun us s1 ⟨vs,H1,I1,r1,q1⟩=>hc pins s1 σ H1 vs us Q I1 r1 q1) he vS
end
end L2
namespace HT
open PySem PyProof.Rows
section
variable{prog:Pw}{w:World}{A:P_}{E:Value->O0->Prop}{s:O0}
def cat_tup{t b:Addr}{vs ws:List Value}{Q:Value->O0->Prop}(ht:IsTup s.heap t vs.toArray)(hb:IsTup s.heap b ws.toArray)(hv:vs≠[])
 (h1:ws=[]->Q (.ref t) s)(h2:ws≠[]->Q (.ref s.heap.objs.size) {s with heap:=s.heap.push {cls:= .type "tuple",data:= .seq (vs++ws).toArray} })
 (hsz:vs.length+ws.length<=Pe):wpAny (model prog w) A (Rx .Add (.ref t) (.ref b)) Q E s:=by
 obtain⟨⟨cls,dd,data,sl⟩,ho,hc,n,hd⟩:=id ht
 obtain⟨⟨Kk,CD,data2,J3⟩,FP,FC,n2,hd2⟩:=id hb
 simp only at hc hd FC hd2
 subst hc hd FC hd2
 have e:vs.toArray++ws.toArray=(vs++ws).toArray:=by simp
 by_cases hw:ws=[]
 ·exact concat_meets ⟨_,ho,rfl⟩ ⟨_,FP,rfl⟩ Te TZ RO RL (Ry _ _)
   (tuple_addW1 t b vs.toArray ws.toArray n n2 dd CD sl J3 (by simpa using hv) (by simp[hw])) ⟨ho,FP,h1 hw⟩
 ·refine concat_meets ⟨_,ho,rfl⟩ ⟨_,FP,rfl⟩ Te TZ RO RL (Ry _ _)
   (tuple_addW2 t b vs.toArray ws.toArray n n2 dd CD sl J3 (by simpa using hv) (by simpa using hw) (by rw[O7,O7];exact hsz)) ⟨ho,FP,?_⟩
  rw[e]
  exact h2 hw
end
end HT
namespace L2
open PySem PySem.Spec PyProof.Rows
abbrev TO:=St->Hp->(Option Int->Hp->Prop)->Prop
def intsAre_of{ns:List Int}:∀{us:List Value},Vals (ns.map V.int) us->RV us ns:=by
 induction ns with
 |nil=>intro us r;rw[QU] at r;cases r;exact .nil
 |cons n ns ih=>
  intro us r
  rw[O3] at r
  cases r with
  |cons r1 r2=>
   obtain⟨t,e⟩:=r1
   subst e
   exact .cons n t (ih r2)
section
variable{X:Cx}{p2:Pos}
def Jl(K:O2):R2:=fun x y H Q=>∃a b xs ys,x= .ref a/\y= .ref b/\SqT K H a xs/\SqT K H b ys/\xs≠[]/\xs.length+ys.length<=Pe/\
 (ys=[]->Q (.ref a) H)/\(ys≠[]->∀p,H p=none->Q (.ref p) (upd H p (.tup (xs++ys))))
def Vals.nil_iff{xs:List V}{us:List Value}(r:Vals xs us):us=[]↔xs=[]:=by
 cases r with
 |nil=>simp
 |cons _ _=>simp
def Dp:OpR X (Rx .Add) (Jl X.K):=by
 intro pins s σ H x y v u Q I rx ry h
 obtain⟨a,b,xs,ys,rfl,rfl,ha,hb,hx,hz,q1,q2⟩:=h
 cases rx
 cases ry
 obtain⟨aK,r1,p1,_⟩:=I.tuple ha
 obtain⟨fI,r2,p2,_⟩:=I.tuple hb
 refine HT.cat_tup p1 p2 (fun z=>hx (r1.nil_iff.mp z)) (fun z=>⟨.ref a,H,I,rfl,q1 (r2.nil_iff.mp z)⟩) (fun z=>?_) (by rw[<-r1.length,<-r2.length];exact hz)
 refine⟨.ref s.heap.objs.size,_,I.laid (t':=s.toks) (o:= .tup (xs++ys)) (fun b ob q=>O4 _ q) (O9 _) ?_,rfl,q2 (fun w=>z (r2.nil_iff.mpr w)) _ (I.hok.fresh (O9 _))⟩
 exact⟨by rw[O8];exact hz,_,r1.append r2,IsTup.new _ _⟩
end
def Cu(n:Nat)(i:Int):Option Nat:=if 0<=i then(if i<n then some i.toNat else none) else if -(n:Int)<=i then some (i+n).toNat else none
def atI{α:Type}(xs:List α)(i:Int):Option α:=(Cu xs.length i).bind fun j=>xs[j]?
def De{n:Nat}{i:Int}{j:Nat}(h:Cu n i=some j):seqIndex? i n=some j/\j<n/\ -(n:Int)<=i/\i<n:=by
 unfold Cu at h
 by_cases h0:0<=i
 ·rw[if_pos h0] at h
  by_cases h1:i<n
  ·rw[if_pos h1] at h
   have e:i.toNat=j:=Pg h
   exact⟨by rw[seqIndex_of h0 h1,e],by omega,by omega,h1⟩
  ·rw[if_neg h1] at h;cases h
 ·rw[if_neg h0] at h
  by_cases h1: -(n:Int)<=i
  ·rw[if_pos h1] at h
   have e:(i+n).toNat=j:=Pg h
   exact⟨by rw[seqIndex_neg (by omega) h1,e],by omega,h1,by omega⟩
  ·rw[if_neg h1] at h;cases h
def rO{α:Type}{xs:List α}{i:Int}{v:α}(h:atI xs i=some v):∃j,seqIndex? i xs.length=some j/\xs[j]? =some v/\j<xs.length/\ -(xs.length:Int)<=i/\i<xs.length:=by
 unfold atI at h
 cases e:Cu xs.length i with
 |none=>rw[e] at h;cases h
 |some j=>
  rw[e] at h
  obtain⟨h1,h2,h3,h4⟩:=De e
  exact⟨j,h1,h,h2,h3,h4⟩
def t5{α:Type}(xs:List α)(v:α):atI (xs++[v]) (-1)=some v:=by
 have hl:(xs++[v]).length=xs.length+1:=by simp
 have e:Cu (xs++[v]).length (-1)=some xs.length:=by
  unfold Cu
  rw[hl,if_neg (by decide),if_pos (by omega)]
  congr 1
  omega
 unfold atI
 rw[e]
 show (xs++[v])[xs.length]? =some v
 simp
def jl(b:Expr):Prop:=∀o i,subscripted b false o i=operate [o,i] (getItem o i)
def Hy(X:Cx)(r:R2):Prop:=
 ∀(value slice:Expr) (pins:List (Addr×Obj)) (s:O0) (σ:St) (H:Hp) (x y:V) (v u:Value) (Q:VK),Inv X pins σ H s->RelV x v->RelV y u->r x y H Q->
  subscripted slice false v u=operate [v,u] (getItem v u)->wpAny (model X.prog X.w) X.A (subscriptTail value slice v u) (EP X pins σ Q) X.xe s
def Kb(X:Cx)(id:String)(r:V->List V->Hp->VK->Prop):Prop:=
 ∀(pins:List (Addr×Obj)) (s:O0) (σ:St) (H:Hp) (x:V) (xs:List V) (v:Value) (us:List Value) (Q:VK),Inv X pins σ H s->RelV x v->Vals xs us->r x xs H Q->
  wpAny (model X.prog X.w) X.A (call (.builtin id) (v::us)) (EP X pins σ Q) X.xe s
section
variable{X:Cx}{a b:Expr}{ta tb:TE}{pos:Pos}
def Jf{r:R2}(hr:Hy X r)(ha:PE X a ta)(hb:PE X b tb)(hs:jl b):PE X (.Subscript a b pos) (JF r ta tb):=by
 intro pins s σ H Q I h
 exact Subscript_ (Fc ha hb I h fun v u s2 x y H2 I2 rx ry q=>hr a b pins s2 σ H2 x y v u Q I2 rx ry q (hs _ _))
def G4(K:O2):R2:=fun x y H Q=>∃p xs i v,x= .ref p/\y= .int i/\SqL K H p xs/\atI xs i=some v/\Q v H
def Jq(K:O2):R2:=fun x y H Q=>∃p xs i v,x= .ref p/\y= .int i/\SqT K H p xs/\atI xs i=some v/\Q v H
def Jp:R2:=fun x y H Q=>∃z i c,x= .str z/\y= .int i/\z.length<=Pe/\atI z.cps.toList i=some c/\Q (.str ⟨#[c]⟩) H
def yd:Hy X (G4 X.K):=by
 intro value slice pins s σ H x y v u Q I rx ry h hs
 obtain⟨p,xs,i,z,rfl,rfl,hq,he,q⟩:=h
 cases rx
 obtain⟨t,rfl⟩:=ry
 obtain⟨aK,r,pl,hz⟩:=I.list hq
 obtain⟨j,h1,h2,h3,h4,h5⟩:=rO he
 obtain⟨w,ew,vT⟩:=r.get h2
 have hl:=r.length
 have hn:=lG
 have fin:EP X pins σ Q w s:=⟨z,H,I,vT,q⟩
 by_cases h0:0<=i
 ·have hj:i.toNat=j:=by
   rw[seqIndex_of h0 h5] at h1
   exact Pg h1
  exact item_listR pl.isList h0 (by omega) (by rw[hj];simpa using ew) fin hs
 ·have hj:(i+(aK.toArray.size:Int)).toNat=j:=by
   rw[seqIndex_neg (by omega) h4] at h1
   rw[O7,<-hl]
   exact Pg h1
  exact T8 (x:=w) pl.isList.typeIs slot_list_getitem.lookup
   (wpAny_getItem_list_neg (Q:=fun r s'=>r=w/\EP X pins σ Q r s') pl.isList (by omega) (by rw[O7]<;>omega) (by omega) (by rw[hj];simpa using ew) ⟨rfl,fin⟩) hs
def F7:Hy X (Jq X.K):=by
 intro value slice pins s σ H x y v u Q I rx ry h hs
 obtain⟨p,xs,i,z,rfl,rfl,hq,he,q⟩:=h
 cases rx
 obtain⟨t,rfl⟩:=ry
 obtain⟨aK,r,pl,hz⟩:=I.tuple hq
 obtain⟨j,h1,h2,h3,h4,h5⟩:=rO he
 obtain⟨w,ew,vT⟩:=r.get h2
 have hl:=r.length
 have hn:=lG
 have fin:EP X pins σ Q w s:=⟨z,H,I,vT,q⟩
 exact T8 (x:=w) pl.typeIs slot_tuple_getitem.lookup
  (getItem_tuple (j:=j) (Q:=fun r s'=>r=w/\EP X pins σ Q r s') pl (by omega) (by omega) (by rw[O7,<-hl];exact h1) (by simpa using ew) ⟨rfl,fin⟩) hs
def F4:Hy X Jp:=by
 intro value slice pins s σ H x y v u Q I rx ry h hs
 obtain⟨z,i,c,rfl,rfl,hz,he,q⟩:=h
 obtain⟨t,rfl⟩:=rx
 obtain⟨t',rfl⟩:=ry
 obtain⟨j,h1,h2,h3,h4,h5⟩:=rO he
 have hl:z.cps.toList.length=z.length:=by simp[Str.length]
 rw[hl] at h1 h4 h5
 have hn:=lG
 exact tail_any (typeIs_str s z t) slot_str_getitem.lookup (getItem_str (c:=c) (by
  have e1:decide (i< -(2 ^ 63:Int))=false:=decide_eq_false (by omega)
  have e2:decide (i>=2 ^ 63)=false:=decide_eq_false (by omega)
  rw[e1,e2,Bool.or_false]) (by rw[h1];simpa using h2) ⟨.str ⟨#[c]⟩,H,I.tok _,⟨_,rfl⟩,q⟩) hs
def Inv.lst{pins:List (Addr×Obj)}{σ:St}{H:Hp}{s:O0}{p:Addr}{xs:List V}(I:Inv X pins σ H s)(h:H p=some (.lst xs)):
 ∃(aK:List Value) (n:Nat),Vals xs aK/\s.heap.get? p=some {cls:= .type "list",data:= .seq aK.toArray n}/\xs.length<=Pe:=by
 obtain⟨z,aK,n,r,e⟩:=I.hok p _ h
 exact⟨aK,n,r,e,z⟩
def l_:V->Bool
 | .non=>true
 | .bl _=>true
 | .int _=>true
 | .str _=>true
 |_=>false
def Cm:V->V->Bool
 | .non, .non=>true
 | .bl a, .bl b=>a==b
 | .bl a, .int b=>(if a then 1 else 0)==b
 | .int a, .bl b=>a==(if b then 1 else 0)
 | .int a, .int b=>a==b
 | .str a, .str b=>a==b
 |_,_=>false
def Fp{A:P_}{s:O0}{y x:V}{u v:Value}(ry:RelV y u)(rx:RelV x v)(fy:l_ y=true)(fx:l_ x=true):SeqAt.EqAt A s u v (Cm y x):=by
 cases y with
 |non=>
  cases ry
  cases x with
  |non=>cases rx;exact SeqAt.EqAt.same _
  |bl b=>cases rx;exact SeqAt.EqAt.none_bool b
  |int b=>obtain⟨t,rfl⟩:=rx;exact SeqAt.EqAt.none_int b t
  |str b=>obtain⟨t,rfl⟩:=rx;exact SeqAt.EqAt.none_str b t
  |_=>exact absurd (show false=true from fx) Pk
 |bl a=>
  cases ry
  cases x with
  |non=>cases rx;exact SeqAt.EqAt.bool_none a
  |bl b=>cases rx;exact SeqAt.EqAt.bool_bool a b
  |int b=>obtain⟨t,rfl⟩:=rx;exact SeqAt.EqAt.bool_int a b t
  |str b=>obtain⟨t,rfl⟩:=rx;exact SeqAt.EqAt.bool_str a b t
  |_=>exact absurd (show false=true from fx) Pk
 |int a=>
  obtain⟨t',rfl⟩:=ry
  cases x with
  |non=>cases rx;exact SeqAt.EqAt.int_none a t'
  |bl b=>cases rx;exact SeqAt.EqAt.int_bool a t' b
  |int b=>obtain⟨t,rfl⟩:=rx;exact SeqAt.EqAt.int_int a t' b t
  |str b=>obtain⟨t,rfl⟩:=rx;exact Tg a t' b t
  |_=>exact absurd (show false=true from fx) Pk
 |str a=>
  obtain⟨t',rfl⟩:=ry
  cases x with
  |non=>cases rx;exact SeqAt.EqAt.str_none a t'
  |bl b=>cases rx;exact SeqAt.EqAt.str_bool a t' b
  |int b=>obtain⟨t,rfl⟩:=rx;exact Tf a t' b t
  |str b=>obtain⟨t,rfl⟩:=rx;exact SeqAt.EqAt.str_str a t' b t
  |_=>exact absurd (show false=true from fx) Pk
 |_=>exact absurd (show false=true from fy) Pk
def CM(x:V)(u:Value):Bool:=match u with
 | .none=>Cm .non x
 | .bool b=>Cm (.bl b) x
 | .int i _=>Cm (.int i) x
 | .str z _=>Cm (.str z) x
 |_=>false
def Ax{x y:V}{u:Value}(r:RelV y u)(f:l_ y=true):CM x u=Cm y x:=by
 cases y with
 |non=>cases r;rfl
 |bl b=>cases r;rfl
 |int i=>obtain⟨t,rfl⟩:=r;rfl
 |str z=>obtain⟨t,rfl⟩:=r;rfl
 |_=>exact absurd (show false=true from f) Pk
def rK{x:V}:∀{xs:List V}{us:List Value},Vals xs us->xs.all l_=true->us.any (CM x)=xs.any fun y=>Cm y x
 |_,_, .nil,_=>rfl
 |y::xs,u::us, .cons r t,f=>by
  rw[Ro,PK] at f
  rw[Rn,Rn,Ax r f.1,rK t f.2]
def oH{A:P_}{s:O0}{x:V}{v:Value}(rx:RelV x v)(fx:l_ x=true):∀{xs:List V}{us:List Value},Vals xs us->xs.all l_=true->∀u∈us,SeqAt.EqAt A s u v (CM x u)
 |_,_, .nil,_=>fun u hu=>by cases hu
 |y::xs,u::us, .cons r t,f=>fun u' hu=>by
  rw[Ro,PK] at f
  rcases O6.mp hu with rfl | hu
  ·rw[Ax r f.1];exact Fp r rx f.1 fx
  ·exact oH rx fx t f.2 u' hu
def JZ(x:V)(xs:List V):Bool:=xs.any fun y=>Cm y x
def MC(K:O2)(neg:Bool):R2:=fun x y H Q=>∃p xs,y= .ref p/\(SqL K H p xs\/SqT K H p xs)/\l_ x=true/\xs.all l_=true/\Q (.bl (if neg then !JZ x xs else JZ x xs)) H
def sI:OpR X (P6 .NotIn) (MC X.K true):=by
 intro pins s σ H x y v u Q I rx ry h
 obtain⟨p,xs,rfl,hq,fx,fs,q⟩:=h
 cases ry
 rcases hq with hq | hq
 ·obtain⟨aK,r,pl,hz⟩:=I.list hq
  refine SeqAt.notIn_listAt (CM x) pl.isList (fun w hw=>oH rx fx r fs w (by simpa using hw)) ⟨.bl _,H,I,rfl,?_⟩
  rw[show aK.toArray.any (CM x)=aK.any (CM x) by simp,rK r fs]
  exact q
 ·obtain⟨aK,r,pl,hz⟩:=I.tuple hq
  refine SeqAt.notIn_tupleAt (CM x) pl (fun w hw=>oH rx fx r fs w (by simpa using hw)) ⟨.bl _,H,I,rfl,?_⟩
  rw[show aK.toArray.any (CM x)=aK.any (CM x) by simp,rK r fs]
  exact q
def rS:CallR X (.builtin "len") (fun xs H Q=>∃p ys,xs=[.ref p]/\(SqL X.K H p ys\/SqT X.K H p ys)/\Q (.int ys.length) H):=by
 intro pins s σ H xs us Q I r h
 obtain⟨p,ys,rfl,hq,q⟩:=h
 obtain⟨u,rfl,rx⟩:=vals1 r
 cases rx
 have hn:=lG
 rcases hq with hq | hq
 ·obtain⟨aK,r',pl,hz⟩:=I.list hq
  have hlen:=r'.length
  exact Calls.call_len_list pl.isList (by simp only[O7]<;>omega) ⟨.int ys.length,H,I.tok _,⟨s.toks+1,by rw[O7,hlen]⟩,q⟩
 ·obtain⟨aK,r',pl,hz⟩:=I.tuple hq
  have hlen:=r'.length
  exact len_tuple pl (by simp only[O7]<;>omega) ⟨.int ys.length,H,I.tok _,⟨s.toks+1,by rw[O7,hlen]⟩,q⟩
def rT:CallR X (.builtin "len") (fun xs H Q=>∃z,xs=[.str z]/\z.length<=Pe/\Q (.int z.length) H):=by
 intro pins s σ H xs us Q I r h
 obtain⟨z,rfl,hz,q⟩:=h
 obtain⟨u,rfl,t,rfl⟩:=vals1 r
 have hn:=lG
 exact len_str (by omega) ⟨.int z.length,H,I.tok _,⟨_,rfl⟩,q⟩
def CallR.or{f:Value}{r r':List V->Hp->VK->Prop}(h:CallR X f r)(h':CallR X f r'):CallR X f (fun xs H Q=>r xs H Q\/r' xs H Q):=by
 intro pins s σ H xs us Q I rs q
 rcases q with q | q
 ·exact h pins s σ H xs us Q I rs q
 ·exact h' pins s σ H xs us Q I rs q
def J7(K:O2)(T:String)(x:V)(H:Hp):Prop:=match x with
 | .str _=>T="str"
 | .int _=>T="int"
 | .ref p=>(T="list"/\∃xs,SqL K H p xs)\/(T="tuple"/\∃o,K.lookup p=some o/\o.cls= .type "tuple"/\o.dict=none)\/
    (T="dict"/\((∃ax,H p=some (.dK ax))\/∃ax,H p=some (.dT ax)))\/(T="set"/\∃S n,H p=some (.set S n))
 |_=>False
def Hh{pins:List (Addr×Obj)}{σ:St}{H:Hp}{s:O0}{T:String}{x:V}{v:Value}(I:Inv X pins σ H s)(r:RelV x v)(ty:J7 X.K T x H):
 s.TypeIs v T/\∀a,v= .ref a->∃ob,s.heap.get? a=some ob/\ob.dict=none:=by
 cases x with
 |str z=>
  obtain⟨t,rfl⟩:=r
  cases (show T="str" from ty)
  exact⟨typeIs_str s z t,fun _ e=>nomatch e⟩
 |int i=>
  obtain⟨t,rfl⟩:=r
  cases (show T="int" from ty)
  exact⟨typeIs_int s i t,fun _ e=>nomatch e⟩
 |ref p=>
  cases r
  rcases ty with⟨rfl,xs,hq⟩ | ⟨rfl,o,hk,hc,hd⟩ | ⟨rfl,hk⟩ | ⟨rfl,S,n,hk⟩
  ·obtain⟨aK,_,pl,_⟩:=I.list hq
   refine⟨pl.isList.typeIs,fun a e=>?_⟩
   cases e
   obtain⟨o,n,e,c,hd,_⟩:=pl
   exact⟨o,e,hd⟩
  ·refine⟨⟨o,I.kIn p o hk,hc⟩,fun a e=>?_⟩
   cases e
   exact⟨o,I.kIn _ o hk,hd⟩
  ·have z:∃o,s.heap.get? p=some o/\o.ExactDict:=by
    rcases hk with⟨ax,hk⟩ | ⟨ax,hk⟩
    ·obtain⟨_,_,_,_,o,_,_,e,ex,_⟩:=I.hok p _ hk
     exact⟨o,e,ex⟩
    ·obtain⟨_,_,_,_,o,_,_,e,ex,_⟩:=I.hok p _ hk
     exact⟨o,e,ex⟩
   obtain⟨o,e,ex⟩:=z
   refine⟨⟨o,e,ex.1⟩,fun a e2=>?_⟩
   cases e2
   exact⟨o,e,ex.2.1⟩
  ·obtain⟨o,_,_,_,e,ex,_⟩:=I.hok p _ hk
   refine⟨⟨o,e,ex.1⟩,fun a e2=>?_⟩
   cases e2
   exact⟨o,e,ex.2.1⟩
 |_=>exact QB ty
def Lr(K:O2)(T:String)(r:V->List V->Hp->VK->Prop)(to:TE)(t:TA):TE:=fun σ H Q=>to σ H fun x H1=>J7 K T x H1/\t σ H1 fun xs H2=>r x xs H2 Q
variable{o e:Expr}{es:List Expr}{to:TE}{t:TA}{name:Str}{apos bc:Pos}{T id:String}{r:V->List V->Hp->VK->Prop}
def By(pa:PlainAttrs T)(slot:Slot T name id)(K2:typeOf (.builtin id)=pure (.type "method_descriptor"))(hm:Kb X id r)(ho:PE X o to)(ha:PA X (e::es) t)
 (kB:Ra o name X.env (eval o X.env)=eval o X.env:=by rfl)
 (rZ:((Q4 bc (Ph (e::es) X.env)).all (fun x=>!x.1)&&(SK bc (RG [] X.env)).all (fun x=>x.1.isSome)
  &&decide ((e::es).length+([]:List Rw).length+(if ([]:List Rw).isEmpty then 0 else 1)<30))=true:=by rfl)
 (kC:(apos.endLine==bc.line)=true:=by rfl) (hs:Ph (e::es) X.env=(false,eval e X.env)::Ph es X.env:=by rfl) (wt:(Q4 bc (Ph es X.env)).any (·.1)=false:=by rfl):
 PE X (.Call (.Attribute o name apos) (e::es) [] bc) (Lr X.K T r to t):=by
 intro pins s σ H Q I h
 refine wpAny_Call_method_late kB rZ kC rfl (b7 (ho pins s σ H _ I h) fun v s1 ⟨x,H1,I1,r1,ty,q1⟩=>?_)
 obtain⟨h1,h2⟩:=Hh I1 r1 ty
 refine⟨T,id,pa,slot,K2,h1,h2,?_⟩
 have hA:=ha bc pins s1 σ H1 _ I1 q1
 rw[hs] at hA⊢
 refine Q6 (by show (false||(Q4 bc (Ph es X.env)).any (·.1))=false;rw[wt]<;>rfl) (Rj ?_)
 exact b7 hA fun us s2 ⟨vs,H2,I2,r2,q2⟩=>hm pins s2 σ H2 x vs v us Q I2 r1 r2 q2
end
def LH(X:Cx)(id:String)(r:V->List V->Hp->VK->Prop):Prop:=
 ∀(pins:List (Addr×Obj)) (s:O0) (σ:St) (H:Hp) (x:V) (xs:List V) (v:Value) (us:List Value) (Q:VK),Inv X pins σ H s->RelV x v->Vals xs us->r x xs H Q->
  wpAny (model X.prog X.w) X.A (call (.builtin id) (v::us)) (EP X pins σ Q) X.xe s
def Vals.one:∀{x:V}{us:List Value},Vals [x] us->∃u,us=[u]/\RelV x u
 |_,_, .cons r .nil=>⟨_,rfl,r⟩
section
variable{X:Cx}{pins:List (Addr×Obj)}{σ:St}{H:Hp}{s:O0}{l:Addr}{xs ys:List V}
def Inv.lset{aK its':List Value}{n:Nat}{f:Array Value->Array Value}{t':Nat}(I:Inv X pins σ H s)(hH:H l=some (.lst xs))
 (e:s.heap.get? l=some {cls:= .type "list",data:= .seq aK.toArray n})(hf:f aK.toArray=its'.toArray)(hv:Vals ys its')(hz:ys.length<=Pe):
 Inv X pins σ (upd H l (.lst ys)) {s with heap:=s.heap.update l (QC f),toks:=t'}:=by
 have q:=PySem.IsL.update e f
 rw[hf] at q
 refine I.write (x:=l) (e:=l) (by rw[hH];exact trivial) (.inl rfl) (fun b' u hb hu=>(Heap.get?_update_other s.heap (QC f) (PX hb)).trans hu) ⟨_,q⟩ ?_
 exact⟨hz,its',_,hv,q⟩
def Inv.lnew{aK:List Value}{t':Nat}(I:Inv X pins σ H s)(hv:Vals ys aK)(hz:ys.length<=Pe):
 Inv X pins σ (upd H s.heap.objs.size (.lst ys)) {s with heap:=s.heap.push {cls:= .type "list",data:= .seq aK.toArray},toks:=t'}:=
 I.laid (fun _ _ q=>O4 _ q) (O9 _) ⟨hz,aK,0,hv,Pt _ rfl⟩
def Inv.fresh(I:Inv X pins σ H s):H s.heap.objs.size=none:=I.hok.fresh (O9 _)
def Inv.lstM(I:Inv X pins σ H s)(hH:H l=some (.lst xs)):xs.length<=Pe/\∃(aK:List Value) (n:Nat),Vals xs aK/\xs.length=aK.length/\s.heap.get? l=some {cls:= .type "list",data:= .seq aK.toArray n}:=by
 obtain⟨z,aK,n,r,e⟩:=I.hok l _ hH
 exact⟨z,aK,n,r,r.length,e⟩
def Bf{n:Nat}(h:n<=Pe):Rp n=false:=by
 unfold Rp
 exact decide_eq_false (by omega)
end
section
variable{X:Cx}
def yD:V->List V->Hp->VK->Prop:=fun x vs H Q=>∃l xs y,x= .ref l/\vs=[y]/\H l=some (.lst xs)/\xs.length<Pe/\Q .non (upd H l (.lst (xs++[y])))
def qR:LH X "list.append" yD:=by
 intro pins s σ H x vs v us Q I rx rv h
 obtain⟨l,xs,y,rfl,rfl,hH,hz,q⟩:=h
 cases rx
 obtain⟨u,rfl,ru⟩:=rv.one
 obtain⟨z,aK,n,r,hl,e⟩:=I.lstM hH
 refine call_meets F.slot_list_append ⟨_,e,rfl⟩ F.entry_list_append (F.args_list_append_2 _ _) (PySem.list_append l aK.toArray n u (by rw[O7];omega)) ⟨e,?_⟩
 refine⟨.non,_,I.lset (its':=aK++[u]) hH e (by simp) (r.append (.cons ru .nil)) ?_,rfl,q⟩
 rw[O8,List.length_singleton]
 omega
def yE:V->List V->Hp->VK->Prop:=fun x vs H Q=>∃l b xs zs,x= .ref l/\vs=[.ref b]/\H l=some (.lst xs)/\H b=some (.lst zs)/\xs.length+zs.length<=Pe/\Q .non (upd H l (.lst (xs++zs)))
def zm:LH X "list.extend" yE:=by
 intro pins s σ H x vs v us Q I rx rv h
 obtain⟨l,b,xs,zs,rfl,rfl,hH,hB,hz,q⟩:=h
 cases rx
 obtain⟨u,rfl,ru⟩:=rv.one
 cases ru
 obtain⟨z,aK,n,r,hl,e⟩:=I.lstM hH
 obtain⟨z2,fI,n2,r2,FH,e2⟩:=I.lstM hB
 have hsz:aK.toArray.size+fI.toArray.size<=Pe:=by rw[O7,O7];omega
 have Io:¬(!aK.toArray.isEmpty&&Rp (aK.toArray.size+fI.toArray.size))=true:=by
  rw[Bf hsz,Bool.and_false]
  exact Pk
 refine call_meets F.slot_list_extend ⟨_,e,rfl⟩ F.entry_list_extend (F.args_list_extend_2 _ _)
  (AutoSeq1.list_extend_list_list_0 l aK.toArray n b fI.toArray n2 Io (by rw[O7];omega) (by omega)) ⟨e,e2,?_⟩
 refine⟨.non,_,I.lset (its':=aK++fI) hH e (by simp) (r.append r2) ?_,rfl,q⟩
 rw[O8]
 omega
def Lm:R2:=fun x y H Q=>∃l b xs zs,x= .ref l/\y= .ref b/\H l=some (.lst xs)/\H b=some (.lst zs)/\xs.length+zs.length<=Pe/\∀p,H p=none->Q (.ref p) (upd H p (.lst (xs++zs)))
def Gq:OpR X (Rx .Add) Lm:=by
 intro pins s σ H x y v u Q I rx ry h
 obtain⟨l,b,xs,zs,rfl,rfl,hH,hB,hz,q⟩:=h
 cases rx
 cases ry
 obtain⟨z,aK,n,r,hl,e⟩:=I.lstM hH
 obtain⟨z2,fI,n2,r2,FH,e2⟩:=I.lstM hB
 refine PySem.P.add_list e e2 ?_ (by rw[O7,O7];omega)
 have ea:aK.toArray++fI.toArray=(aK++fI).toArray:=by simp
 rw[ea]
 exact⟨.ref _,_,I.lnew (t':=s.toks) (r.append r2) (by rw[O8];omega),rfl,q _ I.fresh⟩
end
end L2
namespace Att
open PySem PySem.W PySem.Calls PyProof.Rows
def ints_of_wellAll{P:Params}{h:Heap}:∀(ns:List Int) (vs:List Value),WellAll P h vs (ns.map WData.int)->RV vs ns:=by
 intro ns
 induction ns with
 |nil=>
  intro vs w
  rw[QU] at w
  cases w
  exact .nil
 |cons n ns ih=>
  intro vs w
  rw[O3] at w
  cases w with
  |cons a b=>
   cases a
   exact .cons _ _ (ih _ b)
def script_of{l:OpenLaw}{n:Nat}(hn:l.most=some n){P:Params}{h:Heap}{args:List WData}{vals:List Value}
 (C1:l.row.toRowW.claim.pre args=true)(K3:WellAll P h vals args):
 ∃a vs ns,vals=[PQ a]/\args=[WData.list (ns.map WData.int)]/\h.get? a=some {cls:= .type "list",data:= .seq vs.toArray}/\RV vs ns/\ns.length<=n:=by
 have NY:WShape.hasAll [] args [.list .int]=true:=(pre_splitW C1).1
 have hc:l.pre.holds [] {args:=args}=true:=(pre_splitW C1).2
 obtain⟨d,r,rfl,h1,h2⟩:=hasAllW_cons NY
 obtain rfl:=hasAllW_nil h2
 obtain⟨xs,rfl,h3⟩:=hasW_list h1
 obtain⟨ns,rfl⟩:=items_int h3
 have hlen:ns.length<=n:=by
  unfold OpenLaw.pre at hc
  have h4:(WTm.not (.lt (.lit (.int (n:Int))) (.len (.arg 0)))).holds [] {args:=[.list (ns.map .int)]}=true:=by
   have h4:=(holds_andW hc).1
   rw[hn] at h4
   exact h4
  have h5:=condW_of h4 (w_not (w_lt w_lit (w_len_list (w_arg rfl))))
  rw[OW] at h5
  refine Nat.le_of_not_lt fun q=>?_
  have q':(n:Int)<((ns.length:Nat):Int):=by omega
  first
   |(rw [decide_eq_true q'] at h5;exact absurd h5 (by decide))
   |(simp at h5;omega)
 cases K3 with
 |cons w1 w2=>
  cases w2
  cases w1 with
  |list ho jW=>exact⟨_,_,ns,rfl,rfl,ho,ints_of_wellAll ns _ jW,hlen⟩
def post_true(l:OpenLaw)(args:List WData):l.row.toRowW.claim.post args (.bool true) args=true:=
 postW_of (r:=l.row.toRowW) (X:=(true==true))
  (show WShape.has [] (.bool true) .bool=true by first | rfl | decide | simp[WShape.has,WShape.arms,WShape.armsAll])
  (show (WTm.eq .res (.lit (.bool true))).value [] {args:=args,res:=some (.bool true),after:=args}=some (.bool (true==true)) from w_eq_bool (w_res rfl) w_lit) rfl
def attach_call{l:OpenLaw}{n:Nat}{q:Pw}{loose:List Str}{XP:(Str->Option Value)->Heap->Prop}{YP:World->Heap->Prop}{d:DefRec}
 (hn:l.most=some n)(H_:d.params.defaults=[])
 (call:∀(w:World) (s₀ s₁:O0) (mg mb:Str->Option Value) (fa:Addr) (o:Obj) (pm cd doc:Value) (a:Addr) (vs:List Value) (ns:List Int),
  Ground q loose [] XP w s₀ mg mb s₁.heap->YP w s₁.heap->
  s₁.heap.get? fa=some o->o.data= .func (docDef d.name d.params d.body d.scope pm cd doc)->s₁.heap.CodeRec cd d.name->mg d.name=some (.ref fa)->
  s₁.heap.get? a=some {cls:= .type "list",data:= .seq vs.toArray}->RV vs ns->ns.length<=n->s₁.gens= #[]->
  Ts (model l.prog w) S3 (.call (.ref fa) ⟨[.ref a],[]⟩) (fun r s'=>r= .ok (.ret (.bool true))/\OldK s₁.heap s'.heap/\s'.os=s₁.os/\Sn s'.gens) s₁):
 WalkO q loose XP YP l.row.toRowW d [] (fun f vs=>T3 f vs):=by
 intro w s₀ s₁ mg mb G Y fa o pm cd doc dV kV ho hd vP hD FN hg args vals as C1 NI OR K3 OQ
 obtain rfl:dV= .none:=Dflts.none hD H_
 obtain rfl:kV= .none:=Dflts.noKw hD
 obtain⟨a,vs,ns,rfl,rfl,AN,hints,hlen⟩:=script_of hn C1 K3
 refine enter_call (codeAny_mono (call w s₀ s₁ mg mb fa o pm cd doc a vs ns G Y ho (fd_plain hd) vP FN AN hints hlen hg) fun r s' hq=>?_)
 obtain⟨rfl,h2,h3,h4⟩:=hq
 exact⟨.inl ⟨.bool true, .bool true,[],rfl,fun _=>rfl, .bool true,post_true l _,fun _=>⟨S8,fun _ hm=>(nomatch hm)⟩⟩,h2,h3,h4⟩
section
def ledger(h:Heap)(L d:Addr):List (Addr×Obj):=(Px h.objs.size).filterMap fun a=>if a=L\/a=d then none else(h.get? a).map fun o=>(a,o)
end
end Att
namespace L2
open PySem PySem.Spec PyProof.Rows
def rF:∀{vs:List Value}{ns:List Int},RV vs ns->Vals (ns.map V.int) vs
 |_,_, .nil=> .nil
 |_,_, .cons n t h=> .cons ⟨t,rfl⟩ (rF h)
def E9(H:Hp):Prop:=∀b,H b=none\/∃o xs,H b=some (.frz o (.lst xs))
def uA{P:Pw}{w:World}{K:O2}{mg mb:Str->Option Value}{CX:xD}{k:Nat}{fa a:Addr}{fd:QT}{x:Str}{sp:Sp}{s₁:O0}{vs:List Value}{ns:List Int}
 (KX:K.In s₁.heap)(Mh:s₁.heap.Ns Pm mg)(hb:s₁.heap.Ns builtinsNs mb)(Kr:∀x:Str,x≠"__name__"->mb x=Qi x)(FJ:s₁.heap.NoLimit)(hg:s₁.gens= #[])
 (ha:s₁.heap.get? a=some {cls:= .type "list",data:= .seq vs.toArray})(hi:RV vs ns)(hl:ns.length<=Pe)(hr:Room k S3)
 (F:∀base:Heap,K.In base->base.Ns Pm mg->FnOk P w K mg base CX k fa fd [x] sp)(H0:∀(s:O0) (u:Value),T6 s fd ⟨[u],[]⟩ [(x,u)])
 (Cs:∀H:Hp,E9 H->SqL K H a (ns.map V.int)->sp [.ref a] H (fun v _=>v= .bl true) fun _ _ _=>False)
 (Km:∀H e s',CX [] H s₁ (fun _ _ _=>False) e s'->False):
 Ts (model P w) S3 (.call (.ref fa) ⟨[.ref a],[]⟩) (fun r s'=>r= .ok (.ret (.bool true))/\OldK s₁.heap s'.heap/\s'.os=s₁.os/\Sn s'.gens) s₁:=by
 have rv:=rF hi
 have Le:=hi.length
 have core:∀H:Hp,E9 H->SqL K H a (ns.map V.int)->HOk P w H s₁.heap->(∀b,H b≠none->b=a)->(H a≠none->K.lookup a=none)->
  Ts (model P w) S3 (.call (.ref fa) ⟨[.ref a],[]⟩) (fun r s'=>r= .ok (.ret (.bool true))/\OldK s₁.heap s'.heap/\s'.os=s₁.os/\Sn s'.gens) s₁:=by
  intro H hO hS hok hA hK
  have xJ:∀{b:Addr}{o:Obj},s₁.heap.get? b=some o->H b=none->(r0 s₁.heap H).get? b=some o:=fun e n=>AM e n
  have IW:∀{b:Addr}{o:Obj}{es:Array QA}{ep:Nat},s₁.heap.get? b=some o->o.data= .dict es ep->H b=none:=fun {b o es ep} e d=>by
   cases q:H b with
   |none=>rfl
   |some u=>
    have e':b=a:=hA b (by rw[q];simp)
    subst e'
    rw[ha] at e;cases e
    have d':Data.seq vs.toArray _=Ru es ep:=d
    cases d'
  have J2:∀{b:Addr}{m:Str->Option Value},s₁.heap.Ns b m->(r0 s₁.heap H).Ns b m:=fun {b m} ⟨o,es,ep,e,d,r⟩=>⟨o,es,ep,xJ e (IW e d),d,r⟩
  have L0:K.In (r0 s₁.heap H):=fun b o e=>xJ (KX b o e) (by
   cases q:H b with
   |none=>rfl
   |some u=>
    have e':b=a:=hA b (by rw[q];simp)
    subst e'
    rw[hK (by rw[q];simp)] at e;cases e)
  have hM:Mod K mg (r0 s₁.heap H):=⟨L0,J2 Mh,⟨mb,J2 hb,Kr⟩,let ⟨mc,h1,h2⟩:=FJ;⟨mc,J2 h1,h2⟩⟩
  have e0:Env0 P w K mg (r0 s₁.heap H) S3 [] s₁ H:=⟨rfl,hM,fun b o e=>Dl e,Nat.le_of_eq (y8 _ _),trivial,fun b hb=>absurd (show b∈([]:List Addr) from hb) (by simp),hok, .of_eq hg⟩
  refine codeAny_mono ((F _ L0 (J2 Mh)).run S3 [] s₁ H ⟨[.ref a],[]⟩ [.ref a] [.ref a] _ _ hr e0 (H0 s₁ (.ref a)) (.cons rfl .nil) (Cs H hO hS)) fun r s' h=>?_
  cases r with
  |error e=>exact(Km H e s' h).elim
  |ok fl=>
   cases fl with
   |next=>exact QB h
   |brk=>exact QB h
   |cont=>exact QB h
   |ret u=>
    obtain⟨v,H',os,bare,un,KU,r',q⟩:=h
    have q':v= .bl true:=q
    subst q'
    obtain rfl:u=RI true:=r'
    refine⟨rfl,OldK.of_keep fun b o e=>?_,os,bare⟩
    cases q:H b with
    |none=>exact un.keep b o e q (by intro z;exact absurd (show b∈([]:List Addr) from z) (by simp)) (by simp)
    |some u=>
     rcases hO b with z | ⟨ob,xs,z⟩
     ·rw[q] at z;cases z
     ·have z2:=un.frzs b ob _ z
      obtain⟨e1,_⟩:=hok b _ z
      obtain⟨e2,_⟩:=KU b _ z2
      rw[e] at e1;cases e1
      exact e2
 cases hk:K.lookup a with
 |some o=>
  have e:=KX a o hk
  rw[ha] at e
  cases e
  refine core (fun _=>none) (fun _=> .inl rfl) (.inr ⟨_,vs.toArray,_,hk,rfl,rfl,rfl,by rw[O7,Le];exact hl,by simpa using rv⟩) (fun b u z=>by have z':(none:Option HO)=some u:=z;cases z') (fun b z=>absurd rfl z) fun z=>absurd rfl z
 |none=>
  refine core (fun b=>if b=a then some (.frz {cls:= .type "list",data:= .seq vs.toArray} (.lst (ns.map V.int))) else none) (fun b=>?_) (.inl (.inr ⟨{cls:= .type "list",data:= .seq vs.toArray},if_pos rfl⟩)) (fun b u z=>?_) (fun b z=>?_) fun _=>hk
  ·by_cases hb:b=a
   ·exact .inr ⟨_,_,if_pos hb⟩
   ·exact .inl (if_neg hb)
  ·by_cases hb:b=a
   ·have z':=(if_pos hb).symm.trans z
    cases z'
    subst hb
    exact⟨ha,by rw[OW];exact hl,vs,_,rv,ha⟩
   ·have z':=(if_neg hb).symm.trans z
    cases z'
  ·by_cases hb:b=a
   ·exact hb
   ·exact absurd (if_neg hb) z
abbrev OL{K:O2}{h:Heap}(_:K.In h):O2:=K
def J8{l:T4}{n k:Nat}{q:Pw}{loose:List Str}{XP:(Str->Option Value)->Heap->Prop}{YP:World->Heap->Prop}{d:DefRec}{K:Params->O2}{CX:World->xD}{sp:World->Sp}{x:Str}
 (hn:l.most=some n)(JR:n<=Pe)(H_:d.params.defaults=[])(hr:Room k S3)
 (hY:∀(w:World) (h:Heap),YP w h->(K w.params).In h)
 (F:∀(w:World) (mg:Str->Option Value) (fa:Addr) (h:Heap),(K w.params).In h->h.Ns Pm mg->mg d.name=some (.ref fa)->
  ∃fd:QT,(∀(s:O0) (u:Value),T6 s fd ⟨[u],[]⟩ [(x,u)])/\
   ∀base:Heap,(K w.params).In base->base.Ns Pm mg->FnOk l.prog w (K w.params) mg base (CX w) k fa fd [x] (sp w))
 (Cs:∀(w:World) (H:Hp) (a:Addr) (ns:List Int),ns.length<=n->E9 H->SqL (K w.params) H a (ns.map V.int)->sp w [.ref a] H (fun v _=>v= .bl true) fun _ _ _=>False)
 (Km:∀(w:World) (H:Hp) (s:O0) (e:Value) (s':O0),CX w [] H s (fun _ _ _=>False) e s'->False):
 PySem.W.WalkO q loose XP YP l.row.toRowW d [] (fun f vs=>T3 f vs):=by
 refine Att.attach_call hn H_ fun w s₀ s₁ mg mb fa o pm cd doc a vs ns G Y ho hd vP FN AN hints hlen hg=>?_
 have KX:=hY w _ Y
 obtain⟨fd,hb,hF⟩:=F w mg fa _ KX G.T.g FN
 exact uA KX G.T.g G.T.b G.T.builtins G.T.nolimit hg AN hints (PM hlen JR) hr hF hb (fun H hO hS=>Cs w H a ns hlen hO hS) fun H e s'=>Km w H s₁ e s'
abbrev LD:xD:=fun _ _ _ _ _ _=>False
structure Fun (K:O2) (x qual:Str) (st:Stmt) (f:Addr) (fd:QT):Prop where
 ex:∃(oc:Value) (od:Option Addr) (kV doc pm:Value) (an:Option Addr) (b9 ct:Value) (Dz:Array (Option Value)),
  fd=Qq x qual (ei st) (bQ st) (ak st) .none kV doc pm an b9 ct/\K.lookup f=some ⟨oc,od, .func fd,Dz⟩/\Q5 K b9 qual=true
 kp:Qy K (.ref f)=true
section
variable{P:Pw}{w:World}{K:O2}{mg:Str->Option Value}{base:Heap}
def Fun.ok{x qual:Str}{st:Stmt}{f:Addr}{fd:QT}{N ps:List Str}{k:Nat}{sp:Sp}(F:Fun K x qual st f fd)(S:FnScope N ps (ak st))(len:∀vs H Q E,sp vs H Q E->vs.length=ps.length)
 (n9:∀(b9:Value) (A:P_) (outer:List Env) (s:O0) (H:Hp) (vs:List V) (Q:VK) (E:XK),Room k (A.deeper (RH qual (ak st) s.heap.objs.size f b9))->sp vs H Q E->
  ∃t,PSs (gx LD P w K mg base N qual (ak st) f b9 A outer s H E).nox (bQ st) t/\t {nx:=fun _ H'=>Q .non H',rt:=Q} (start N vs) H):FnOk P w K mg base LD (k+1) f fd ps sp:=by
 obtain⟨oc,od,kV,doc,pm,an,b9,ct,Dz,rfl,lk,vP⟩:=F.ex
 refine Eu lk vP S len fun A outer s H vs Q E hr Cs=>?_
 obtain⟨t,h,q⟩:=n9 b9 A outer s H vs Q E hr Cs
 exact⟨t,h.nox,q⟩
def Fun.binds{x qual:Str}{st:Stmt}{f:Addr}{fd:QT}{ps:List Str}(F:Fun K x qual st f fd)
 (h:∀(kV doc pm:Value) (an:Option Addr) (b9 ct:Value) (us:List Value),us.length=ps.length->bindArgs (Qq x qual (ei st) (bQ st) (ak st) .none kV doc pm an b9 ct) ⟨us,[]⟩=pure (ps.zip us)):Binds K fd ps []:=by
 obtain⟨oc,od,kV,doc,pm,an,b9,ct,Dz,rfl,lk,vP⟩:=F.ex
 exact .all (h kV doc pm an b9 ct)
def AB{x qual:Str}{st:Stmt}{f:Addr}{oc:Value}{od an:Option Addr}{Dz:Array (Option Value)}{kV doc pm b9 ct:Value}(l:K.lookup f=some ⟨oc,od, .func (Qq x qual (ei st) (bQ st) (ak st) .none kV doc pm an b9 ct),Dz⟩)
 (c:Q5 K b9 qual=true)(k:Qy K (.ref f)=true):Fun K x qual st f (Qq x qual (ei st) (bQ st) (ak st) .none kV doc pm an b9 ct):=⟨⟨oc,od,kV,doc,pm,an,b9,ct,Dz,rfl,l,c⟩,k⟩
end
section
variable{X:Cx}
def pv(i:Nat){x:Str}{pos:Pos}(hN:X.N[i]? =some x:=by rfl)(hv:Kg X.env.scope x:=by first | exact Or.inl rfl | exact Or.inr (Or.inl rfl) | exact Or.inr (Or.inr rfl))(hd:(x==("__debug__":Str))=false:=by decide)
 (vP:(x==("__classdict__":Str))=false:=by decide):PE X (.Name x pos) (kg i):=GR hN hv hd vP
end
def Same(H H':Hp):Prop:=∀b o,H b=some o->H' b=some o
def Same.refl(H:Hp):Same H H:=fun _ _ h=>h
def Same.trans{H H1 H2:Hp}(a:Same H H1)(b:Same H1 H2):Same H H2:=fun c o h=>b c o (a c o h)
def Same.free{H H':Hp}(e:Same H H'){l:Addr}(h:H' l=Option.none):H l=Option.none:=by
 cases q:H l with
 |none=>rfl
 |some o=>
  rw[e l o q] at h
  cases h
def Same.seq{K:O2}{H H':Hp}{a:Addr}{xs:List V}(e:Same H H')(h:SqL K H a xs):SqL K H' a xs:=by
 rcases h with(h | ⟨o,h⟩) | h
 ·exact .inl (.inl (e _ _ h))
 ·exact .inl (.inr ⟨o,e _ _ h⟩)
 ·exact .inr h
section
variable{κ:Type}[DecidableEq κ]
def eK(ax:List (κ×V))(k:κ):Option V:=(ax.find? fun kv=>decide (kv.1=k)).map (·.2)
def putK(ax:List (κ×V))(k:κ)(v:V):List (κ×V):=
 if (ax.any fun kv=>decide (kv.1=k))=true then ax.map (fun kv=>if kv.1=k then(kv.1,v) else kv) else ax++[(k,v)]
def jk{p:κ×V}{r:List (κ×V)}{k:κ}(e:p.1=k):eK (p::r) k=some p.2:=by simp[eK,QZ,e]
def jj{p:κ×V}{r:List (κ×V)}{k:κ}(e:¬p.1=k):eK (p::r) k=eK r k:=by simp[eK,QZ,e]
def ji(k:κ):∀ax:List (κ×V),(ax.any fun kv=>decide (kv.1=k))=(eK ax k).isSome
 |[]=>rfl
 |p::r=>by
  rw[Rn]
  by_cases e:p.1=k
  ·simp only[jk e,decide_eq_true e,Bool.true_or,Option.isSome_some]
  ·rw[jj e,decide_eq_false e,Bool.false_or];exact ji k r
def dm(ax:List (κ×V))(k:κ)(v:V):(putK ax k v).length<=ax.length+1:=by
 unfold putK
 split
 ·rw[OW];omega
 ·rw[O8,O5,Qv];omega
def vc{ax:List (κ×V)}{k:κ}(v:V)(h:eK ax k=none):putK ax k v=ax++[(k,v)]:=by
 unfold putK
 rw[ji,h]
 exact if_neg (by decide)
def RelO.isSome_eq{o:Option V}{u:Option Value}(r:RelO o u):o.isSome=u.isSome:=by
 cases o with
 |none=>cases u with
  |none=>rfl
  |some _=>exact(show False from r).elim
 |some _=>cases u with
  |none=>exact(show False from r).elim
  |some _=>rfl
def RelO.getD{o:Option V}{u:Option Value}{d:V}{d':Value}(r:RelO o u)(rd:RelV d d'):RelV (o.getD d) (u.getD d'):=by
 cases o with
 |none=>cases u with
  |none=>exact rd
  |some _=>exact(show False from r).elim
 |some _=>cases u with
  |none=>exact(show False from r).elim
  |some _=>exact r
def KV.val{ax:List (κ×V)}{vs:List (κ×Value)}(r:KV ax vs)(k:κ):RelO (eK ax k) (Tq vs k):=by
 unfold KV at r
 induction r with
 |nil=>exact Qu
 | @cons p q ps qs h t ih=>
   obtain⟨h1,h2⟩:=h
   by_cases e:p.1=k
   ·have e':q.1=k:=h1.symm.trans e
    have b:Tq (q::qs) k=some q.2:=by simp[Tq,QZ,e']
    rw[jk e,b];exact h2
   ·have e':¬q.1=k:=fun z=>e (h1.trans z)
    have b:Tq (q::qs) k=Tq qs k:=by simp[Tq,QZ,e']
    rw[jj e,b];exact ih
def KV.any{ax:List (κ×V)}{vs:List (κ×Value)}(r:KV ax vs)(k:κ):(ax.any fun kv=>decide (kv.1=k))=vs.any fun kv=>decide (kv.1=k):=by
 unfold KV at r
 induction r with
 |nil=>rfl
 |cons h t ih=>rw[Rn,Rn,ih,h.1]
def KV.repl{ax:List (κ×V)}{vs:List (κ×Value)}(r:KV ax vs)(k:κ){y:V}{u:Value}(ry:RelV y u):
 KV (ax.map fun kv=>if kv.1=k then(kv.1,y) else kv) (vs.map fun kv=>if kv.1=k then(kv.1,u) else kv):=by
 unfold KV at r⊢
 induction r with
 |nil=>exact .nil
 | @cons p q ps qs h t ih=>
   rw[O3,O3]
   refine .cons ?_ ih
   obtain⟨h1,h2⟩:=h
   by_cases e:p.1=k
   ·rw[if_pos e,if_pos (h1.symm.trans e)];exact⟨h1,ry⟩
   ·rw[if_neg e,if_neg (fun z=>e (h1.trans z))];exact⟨h1,h2⟩
def KV.put{ax:List (κ×V)}{vs:List (κ×Value)}(r:KV ax vs)(k:κ){y:V}{u:Value}(ry:RelV y u):KV (putK ax k y) (stored vs k u):=by
 unfold putK stored
 rw[r.any k]
 by_cases e:(vs.any fun kv=>decide (kv.1=k))=true
 ·rw[if_pos e,if_pos e];exact r.repl k ry
 ·rw[if_neg e,if_neg e];exact Paired.snoc r ⟨rfl,ry⟩
def KV.length{ax:List (κ×V)}{vs:List (κ×Value)}(r:KV ax vs):ax.length=vs.length:=Qx r
end
def md{P:Pw}{w:World}{k:Key}{u:Value}(r:RelV (kV k) u):(a9 P w).is k u=true:=by
 cases k with
 |inl i=>obtain⟨t,e⟩:=(show∃t,u=Tu i t from r);subst e;exact uH P w i t
 |inr x=>obtain⟨t,e⟩:=(show∃t,u=Tt x t from r);subst e;exact uI P w x t
def qJ{P:Pw}{w:World}:∀{ks:List Key}{us:List Value},Vals (ks.map kV) us->ItemsAre (a9 P w) ks us
 |[],_,r=>by rw[QU] at r;cases r;exact .nil
 |k::ks,_,r=>by
  rw[O3] at r
  cases r with
  |cons h t=>exact .cons (md h) (qJ t)
abbrev KT(H:Hp):List (List Key×V)->List (List Key×Addr×Value)->Prop:=SO fun p q=>p.1=q.1/\H q.2.1=some (.tup (p.1.map kV))/\RelV p.2 q.2.2
def KT.val{H:Hp}{ax:List (List Key×V)}{xs:List (List Key×Addr×Value)}(r:KT H ax xs)(k:List Key):RelO (eK ax k) ((atKey xs k).map (·.2)):=by
 induction r with
 |nil=>exact Qu
 | @cons p q ps qs h t ih=>
   obtain⟨h1,_,h2⟩:=h
   by_cases e:p.1=k
   ·have e':q.1=k:=h1.symm.trans e
    have b:atKey (q::qs) k=some q.2:=by simp[atKey,QZ,e']
    rw[jk e,b];exact h2
   ·have e':¬q.1=k:=fun z=>e (h1.trans z)
    have b:atKey (q::qs) k=atKey qs k:=by simp[atKey,QZ,e']
    rw[jj e,b];exact ih
def KT.repl{H:Hp}{ax:List (List Key×V)}{xs:List (List Key×Addr×Value)}(r:KT H ax xs)(k:List Key){y:V}{u:Value}(ry:RelV y u):
 KT H (ax.map fun kv=>if kv.1=k then(kv.1,y) else kv) (xs.map (putAt k u)):=by
 induction r with
 |nil=>exact .nil
 | @cons p q ps qs h t ih=>
   rw[O3,O3]
   refine .cons ?_ ih
   obtain⟨h1,h2,h3⟩:=h
   unfold putAt
   by_cases e:p.1=k
   ·rw[if_pos e,if_pos (h1.symm.trans e)];exact⟨h1,h2,ry⟩
   ·rw[if_neg e,if_neg (fun z=>e (h1.trans z))];exact⟨h1,h2,h3⟩
def KT.put{H:Hp}{ax:List (List Key×V)}{xs:List (List Key×Addr×Value)}(r:KT H ax xs)(k:List Key){b:Addr}{y:V}{u:Value}(hb:H b=some (.tup (k.map kV)))(ry:RelV y u):
 KT H (putK ax k y) (R8 xs k b u):=by
 have e:(ax.any fun kv=>decide (kv.1=k))=(atKey xs k).isSome:=by
  rw[ji,(r.val k).isSome_eq,So]
 unfold putK R8
 rw[e]
 by_cases q:(atKey xs k).isSome=true
 ·rw[if_pos q,if_pos q];exact r.repl k ry
 ·rw[if_neg q,if_neg q];exact Paired.snoc r ⟨rfl,hb,ry⟩
def KT.keeps{H H':Hp}{ax:List (List Key×V)}{xs:List (List Key×Addr×Value)}(r:KT H ax xs)(ht:∀b ys,H b=some (.tup ys)->H' b=some (.tup ys)):KT H' ax xs:=
 Paired.mapP r fun _ _ z=>⟨z.1,ht _ _ z.2.1,z.2.2⟩
section
variable{P:Pw}{w:World}{H:Hp}{h:Heap}{a:Addr}
def EY{u:HO}(ok:HOk P w H h)(e:Rd H a u):ObjOk P w H h a u:=e.ok ok
def l7{ax:List (Key×V)}(ok:HOk P w H h)(e:Rd H a (.dK ax)):ax.length<=Pe/\(a==Qk)=false/\∃vs,KV ax vs/\h.DictOf (a9 P w) a vs:=
 show ObjOk P w H h a (.dK ax) from EY ok e
def Ar{ax:List (Key×V)}(ok:HOk P w H h)(e:H a=some (.dK ax)):ax.length<=Pe/\(a==Qk)=false/\∃vs,KV ax vs/\h.DictOf (a9 P w) a vs:=l7 ok (.inl e)
def jY{ks:List Key}(ok:HOk P w H h)(e:H a=some (.tup (ks.map kV))):(QE (a9 P w)).is h ks a:=by
 obtain⟨_,aK,r,o,h1,h2,n,h3⟩:=(show ObjOk P w H h a (.tup (ks.map kV)) from ok a _ e)
 exact⟨o,aK.toArray,n,h1,h2,h3,by simpa using qJ r⟩
def l8{ax:List (List Key×V)}(ok:HOk P w H h)(e:Rd H a (.dT ax)):ax.length<=Pe/\(a==Qk)=false/\
 ∃xs,KT H ax xs/\h.DictOfH (QE (a9 P w)) a xs:=by
 obtain⟨z,y,xs,r,o,es,ep,h1,h2,h3,h4,h5⟩:=(show ObjOk P w H h a (.dT ax) from EY ok e)
 refine⟨z,y,xs,r,o,es,ep,h1,h2,h3,h4,fun x hx=>?_,h5⟩
 have all:∀{l:List (List Key×V)}{m:List (List Key×Addr×Value)},KT H l m->∀x∈m,(QE (a9 P w)).is h x.1 x.2.1:=by
  intro l m q
  induction q with
  |nil=>intro x hx;exact nomatch hx
  | @cons p q ps qs hq t ih=>
    intro x hx
    rcases O6.mp hx with e | hx
    ·subst e
     exact jY ok (by rw[<-hq.1];exact hq.2.1)
    ·exact ih x hx
 exact all r x hx
def Au{ax:List (List Key×V)}(ok:HOk P w H h)(e:H a=some (.dT ax)):ax.length<=Pe/\(a==Qk)=false/\
 ∃xs,KT H ax xs/\h.DictOfH (QE (a9 P w)) a xs:=l8 ok (.inl e)
end
def lg(H:Hp)(a:Addr)(y:V)(r:Option V):Prop:=
 (∃ax k,Rd H a (.dK ax)/\y=kV k/\r=eK ax k)\/∃ax k b,Rd H a (.dT ax)/\y= .ref b/\H b=some (.tup (k.map kV))/\r=eK ax k
def DPut(H:Hp)(a:Addr)(y v:V)(H':Hp):Prop:=
 (∃ax k,H a=some (.dK ax)/\y=kV k/\ax.length<Pe/\H'=upd H a (.dK (putK ax k v)))\/
 ∃ax k b,H a=some (.dT ax)/\y= .ref b/\H b=some (.tup (k.map kV))/\ax.length<Pe/\H'=upd H a (.dT (putK ax k v))
def DPut.k{H:Hp}{a:Addr}{ax:List (Key×V)}{k:Key}{v:V}(e:H a=some (.dK ax))(hl:ax.length<Pe):DPut H a (kV k) v (upd H a (.dK (putK ax k v))):= .inl ⟨ax,k,e,rfl,hl,rfl⟩
def DPut.t{H:Hp}{a b:Addr}{ax:List (List Key×V)}{k:List Key}{v:V}(e:H a=some (.dT ax))(eb:H b=some (.tup (k.map kV)))(hl:ax.length<Pe):
 DPut H a (.ref b) v (upd H a (.dT (putK ax k v))):= .inr ⟨ax,k,b,e,rfl,eb,hl,rfl⟩
section
variable{X:Cx}{pins:List (Addr×Obj)}{σ:St}{H:Hp}{s:O0}{a:Addr}{y v:V}{u r:Value}{o:Option V}{A:P_}{E:Value->O0->Prop}
def Inv.big(I:Inv X pins σ H s):Qk<s.heap.objs.size:=by
 have h:Pm<s.heap.objs.size:=(I.mod.glob.keeps I.bk).lt
 exact QW (by decide) h
def yY{Q:Value->O0->Prop}(hu:A.units+1<cLine)(I:Inv X pins σ H s)(g:lg H a y (some v))(ry:RelV y u)(h:∀w' s',Inv X pins σ H s'->RelV v w'->Q w' s'):
 wpAny (model X.prog X.w) A (getItem (.ref a) u) Q E s:=by
 rcases g with⟨ax,k,e,ey,l⟩ | ⟨ax,k,b,e,ey,eb,l⟩
 ·subst ey
  obtain⟨z,hd,vs,rel,dd⟩:=l7 I.hok e
  obtain⟨w',hw,vT⟩:=RelO.some_of (v:=v) (o:=Tq vs k) (by rw[l];exact rel.val k)
  exact wpAny_getItem_of (md ry) dd.mapOf hw (h w' _ (I.tok _) vT)
 ·subst ey
  cases (show u=PQ b from ry)
  obtain⟨z,hd,xs,rel,dd⟩:=l8 I.hok e
  obtain⟨w',hw,vT⟩:=RelO.some_of (v:=v) (o:=(atKey xs k).map (·.2)) (by rw[l];exact rel.val k)
  obtain⟨p,hp,Iv⟩:=Th.mp hw
  refine wpAny_getItem_heap (Q_ hu) (jY I.hok eb) dd hp ?_
  rw[Iv]
  exact h w' _ (I.tok _) vT
def HG{Q:Value->O0->Prop}(hu:A.units+1<cLine)(I:Inv X pins σ H s)(g:lg H a y o)(ry:RelV y u)(h:∀s',Inv X pins σ H s'->Q (.bool o.isSome) s'):
 wpAny (model X.prog X.w) A (P6 .In u (.ref a)) Q E s:=by
 rcases g with⟨ax,k,e,ey,l⟩ | ⟨ax,k,b,e,ey,eb,l⟩
 ·subst ey
  obtain⟨z,hd,vs,rel,dd⟩:=l7 I.hok e
  refine wpAny_in_of (md ry) hd dd.mapOf ?_
  rw[<-(rel.val k).isSome_eq,<-l]
  exact h _ (I.tok _)
 ·subst ey
  cases (show u=PQ b from ry)
  obtain⟨z,hd,xs,rel,dd⟩:=l8 I.hok e
  refine wpAny_in_heap (Q_ hu) (jY I.hok eb) hd dd ?_
  have q:=(rel.val k).isSome_eq
  rw[So] at q
  rw[<-q,<-l]
  exact h _ (I.tok _)
def CC{Q:Value->O0->Prop}(hu:A.units+1<cLine)(I:Inv X pins σ H s)(g:lg H a y o)(ry:RelV y u)(h:∀s',Inv X pins σ H s'->Q (.bool (!o.isSome)) s'):
 wpAny (model X.prog X.w) A (P6 .NotIn u (.ref a)) Q E s:=by
 rcases g with⟨ax,k,e,ey,l⟩ | ⟨ax,k,b,e,ey,eb,l⟩
 ·subst ey
  obtain⟨z,hd,vs,rel,dd⟩:=l7 I.hok e
  refine wpAny_notIn_of (md ry) hd dd.mapOf ?_
  rw[<-(rel.val k).isSome_eq,<-l]
  exact h _ (I.tok _)
 ·subst ey
  cases (show u=PQ b from ry)
  obtain⟨z,hd,xs,rel,dd⟩:=l8 I.hok e
  refine wpAny_notIn_heap (Q_ hu) (jY I.hok eb) hd dd ?_
  have q:=(rel.val k).isSome_eq
  rw[So] at q
  rw[<-q,<-l]
  exact h _ (I.tok _)
def jq{h':Heap}{t':Nat}{ob:HO}(I:Inv X pins σ H s)(mu:Hz (H a))(hs:QV a s.heap h')(he:∃q,h'.get? a=some q)(new:ObjOk X.prog X.w (upd H a ob) h' a ob):
 Inv X pins σ (upd H a ob) {s with heap:=h',toks:=t'}:=
 I.write (x:=a) (e:=a) mu (.inl rfl) (fun b q hb z=>(hs.2 b hb).trans z) he new
def wa{P:Pw}{w:World}{H':Hp}{h':Heap}{ax:List (Key×V)}{vs:List (Key×Value)}(z:ax.length<=Pe)(hd:(a==Qk)=false)(rel:KV ax vs)(dd:h'.DictOf (a9 P w) a vs):
 ObjOk P w H' h' a (.dK ax):=⟨z,hd,vs,rel,dd⟩
def yZ{H':Hp}{Q:Unit->O0->Prop}(hu:A.units+1<cLine)(I:Inv X pins σ H s)(g:DPut H a y v H')(ry:RelV y u)(rv:RelV v r)(h:∀s',Inv X pins σ H' s'->Q () s'):
 wpAny (model X.prog X.w) A (setItem (.ref a) u r) Q E s:=by
 rcases g with⟨ax,k,e,ey,l,eH⟩ | ⟨ax,k,b,e,ey,eb,l,eH⟩
 ·subst ey eH
  obtain⟨z,hd,vs,rel,dd⟩:=Ar I.hok e
  have hz:vs.length<=Pe:=by rw[<-rel.length];exact z
  have hl:(putK ax k v).length<=Pe:=by have:=dm ax k v;omega
  refine wpAny_setItem_pairs (hsz:=hz) (md ry) dd fun h' xP hs=>h _ ?_
  have he:∃q,h'.get? a=some q:=let ⟨q,_,_,hq,_⟩:=xP;⟨q,hq⟩
  exact jq I (by rw[e];exact Qu) hs he (wa hl hd (rel.put k rv) xP)
 ·subst ey eH
  cases (show u=PQ b from ry)
  obtain⟨z,hd,xs,rel,dd⟩:=Au I.hok e
  have hz:xs.length<=Pe:=by rw[<-Qx rel];exact z
  have hl:(putK ax k v).length<=Pe:=by have:=dm ax k v;omega
  refine wpAny_setItem_heap (hsz:=hz) (Q_ hu) (jY I.hok eb) dd fun h' xP hs=>h _ ?_
  obtain⟨q,es,ep,hq,h2,h3,h4,_,h5⟩:=xP
  refine jq I (by rw[e];exact Qu) hs ⟨q,hq⟩ ⟨hl,hd,_,(rel.put k eb rv).keeps fun c ys ec=>?_,q,es,ep,hq,h2,h3,h4,h5⟩
  rw[aw (A8 ec e (fun z=>nomatch z))]
  exact ec
end
section
variable{X:Cx}{pins:List (Addr×Obj)}{σ:St}{H:Hp}{s:O0}{a:Addr}{ax:List (Key×V)}{A:P_}{E:Value->O0->Prop}
def HH{Q:Value->O0->Prop}(I:Inv X pins σ H s)(e:Rd H a (.dK ax))(h:∀t s',Inv X pins σ H s'->Q (.int ax.length t) s'):wpAny (model X.prog X.w) A (call (.builtin "len") [.ref a]) Q E s:=by
 obtain⟨z,hd,vs,rel,dd⟩:=l7 I.hok e
 refine call_len_dict hd dd (by rw[<-rel.length];rw[Q0] at z;omega) ?_
 rw[<-rel.length]
 exact h _ _ (I.tok _)
end
def E8(i:Expr):Prop:=∀ov iv,subscripted i false ov iv=operate [ov,iv] (getItem ov iv)
def Eb{prog:Pw}{w:World}{A:P_}{E:Value->O0->Prop}{s:O0}{env:Env}{value slice:Expr}{pos:Pos}{T id:String}{Q:Value->O0->Prop}
 (hl:typeLookup (.type T) "__getitem__"=pure (some (.builtin id)))(hs:E8 slice)
 (h:wpAny (model prog w) A (eval value env) (fun o s₁=>wpAny (model prog w) A (eval slice env) (fun i s₂=>s₂.TypeIs o T/\wpAny (model prog w) A (getItem o i) Q E s₂) E s₁) E s):
 wpAny (model prog w) A (eval (.Subscript value slice pos) env) Q E s:=by
 refine Subscript_ (Qf h (fun o s₁ h₁=>Qf h₁ (fun i s₂ h₂=>?_) fun _ _ x=>x) fun _ _ x=>x)
 obtain⟨hT,h₂⟩:=h₂
 unfold subscriptTail
 refine OX ?_
 rw[getitemInPython_of_ne hT.not_modules]
 refine OX (Tp hT hl ?_)
 have fin:wpAny (model prog w) A (subscripted slice false o i) (fun r s₃=>wpAny (model prog w) A (letTemporaryGo value o r>>=fun _=>pure r) Q E s₃) E s₂:=by
  rw[hs o i]
  exact wpAny_operating (Qf h₂ (fun r s₃ h₃=>OX (wpAny_letTemporaryGo (Pb h₃))) fun _ _ x=>x)
 first
  |exact Pb (OX fin)
  |exact OX (Pb (OX fin))
  |exact OX fin
def ud{X:Cx}{pins:List (Addr×Obj)}{σ:St}{H:Hp}{s:O0}{a:Addr}{y:V}{o:Option V}(I:Inv X pins σ H s)(g:lg H a y o):s.TypeIs (.ref a) "dict":=by
 rcases g with⟨ax,k,e,_,_⟩ | ⟨ax,k,b,e,_,_,_⟩
 ·obtain⟨_,_,vs,_,dd⟩:=l7 I.hok e
  exact dd.typeIs
 ·obtain⟨_,_,xs,_,dd⟩:=l8 I.hok e
  exact dd.typeIs
def JA(td ty:TE):TE:=fun σ H Q=>td σ H fun x H1=>ty σ H1 fun y H2=>∃a v,x= .ref a/\lg H2 a y (some v)/\Q v H2
def Ls(ty td:TE):TE:=fun σ H Q=>ty σ H fun y H1=>td σ H1 fun x H2=>∃a o,x= .ref a/\lg H2 a y o/\Q (.bl o.isSome) H2
def EZ(td ty tv:TE):TS:=fun D σ H=>tv σ H fun v H1=>td σ H1 fun x H2=>ty σ H2 fun y H3=>∃a H4,x= .ref a/\DPut H3 a y v H4/\D.nx σ H4
section
variable{X:Cx}{o i value:Expr}{pos pos':Pos}{td ty tv:TE}
def DP(hu:X.A.units+1<cLine)(ho:PE X o td)(hi:PE X i ty)(hs:E8 i):PE X (.Subscript o i pos) (JA td ty):=by
 intro pins s σ H Q I h
 refine Eb PySem.F.slot_dict_getitem.lookup hs (b7 (ho pins s σ H _ I h) fun u s1 ⟨x,H1,I1,rx,q1⟩=>b7 (hi pins s1 σ H1 _ I1 q1) fun iv s2 ⟨y,H2,I2,ry,a,v,ex,g,q2⟩=>?_)
 subst ex
 obtain rfl:u=PQ a:=rx
 exact⟨ud I2 g,yY hu I2 g ry fun w' s3 I3 vT=>⟨v,H2,I3,vT,q2⟩⟩
def GA(hu:X.A.units+1<cLine)(hi:PE X i ty)(ho:PE X o td):PC X .In i o (Ls ty td):=by
 intro pins s σ H Q I h
 refine b7 (hi pins s σ H _ I h) fun iv s1 ⟨y,H1,I1,ry,q1⟩=>b7 (ho pins s1 σ H1 _ I1 q1) fun u s2 ⟨x,H2,I2,rx,a,ov,ex,g,q2⟩=>?_
 subst ex
 obtain rfl:u=PQ a:=rx
 exact HG hu I2 g ry fun s3 I3=>⟨.bl ov.isSome,H2,I3,rfl,q2⟩
def yy(hu:X.A.units+1<cLine)(ho:PE X o td)(hi:PE X i ty)(hv:PE X value tv)(hs:RF value (some (.Subscript o i pos')) pos.line X.env=pure false):
 PS X (.Assign [.Subscript o i pos'] value pos) (EZ td ty tv):=by
 intro pins s σ H D I h
 refine wpAny_Assign_Subscript (b7 (hv pins s σ H _ I h) fun r s1 ⟨v,H1,I1,rv,q1⟩=>b7 (ho pins s1 σ H1 _ I1 q1) fun u s2 ⟨x,H2,I2,rx,q2⟩=>b7 (hi pins s2 σ H2 _ I2 q2) fun iv s3 ⟨y,H3,I3,ry,a,H4,ex,g,q3⟩=>?_) hs
 subst ex
 obtain rfl:u=PQ a:=rx
 exact yZ hu I3 g ry rv fun s4 I4=>⟨σ,H4,I4,q3⟩
end
def uf{P:Pw}{w:World}{H:Hp}(h:Heap)(hb:Qk<h.objs.size):ObjOk P w H (h.push {cls:= .type "dict",data:= .dict #[]}) h.objs.size (.dK []):=
 ⟨PB _,beq_eq_false_iff_ne.mpr (PX (PL hb)),[], .nil,Heap.DictOf.new h⟩
def ug{P:Pw}{w:World}{H:Hp}(h:Heap)(hb:Qk<h.objs.size):ObjOk P w H (h.push {cls:= .type "dict",data:= .dict #[]}) h.objs.size (.dT []):=
 ⟨PB _,beq_eq_false_iff_ne.mpr (PX (PL hb)),[], .nil,_,#[],0,Pt _ rfl,⟨rfl,rfl,rfl⟩,rfl,rfl,QN⟩
def Ca:TE:=fun _ H Q=>∀p,H p=none->Q (.ref p) (upd H p (.dK []))
def Hd:TE:=fun _ H Q=>∀p,H p=none->Q (.ref p) (upd H p (.dT []))
section
variable{X:Cx}{pos:Pos}
def u7:PE X (.Dict [] [] pos) Ca:=fun pins s σ H Q I h=>
 wpAny_Dict_empty ⟨.ref s.heap.objs.size,_,I.laid (a:=s.heap.objs.size) (o:= .dK []) (t':=s.toks) (fun _ _ q=>O4 _ q) (O9 _) (uf s.heap I.big),rfl,h _ (I.hok.fresh (O9 _))⟩
def BC:PE X (.Dict [] [] pos) Hd:=fun pins s σ H Q I h=>
 wpAny_Dict_empty ⟨.ref s.heap.objs.size,_,I.laid (a:=s.heap.objs.size) (o:= .dT []) (t':=s.toks) (fun _ _ q=>O4 _ q) (O9 _) (ug s.heap I.big),rfl,h _ (I.hok.fresh (O9 _))⟩
end
def Cc:List (TE×TE)->St->Hp->(List (V×V)->Hp->Prop)->Prop
 |[],_,H,Q=>Q [] H
 |(tk,tv)::r,σ,H,Q=>tk σ H fun x H1=>tv σ H1 fun y H2=>Cc r σ H2 fun ps H3=>Q ((x,y)::ps) H3
abbrev VV:List (V×V)->List (Value×Value)->Prop:=SO fun p q=>RelV p.1 q.1/\RelV p.2 q.2
def Kc(X:Cx)(pos:Pos)(keys:List (Option Expr))(values:List Expr)(J6:List (TE×TE)):Prop:=
 ∀(pins:List (Addr×Obj)) (s:O0) (σ:St) (H:Hp) (Q:List (V×V)->Hp->Prop),Inv X pins σ H s->Cc J6 σ H Q->
  wpAny (model X.prog X.w) X.A (evalPairs (pairTrees keys values X.env pos)) (fun vs s'=>∃ps H',Inv X pins σ H' s'/\VV ps vs/\Q ps H') X.xe s
def DX{X:Cx}{pos:Pos}:Kc X pos [] [] []:=fun pins s σ H Q I h=>pairTrees_nil_walk ⟨[],H,I, .nil,h⟩
def BE{X:Cx}{pos:Pos}{k v:Expr}{ks:List (Option Expr)}{vs:List Expr}{tk tv:TE}{J6:List (TE×TE)}(hk:PE X k tk)(hv:PE X v tv)(hr:Kc X pos ks vs J6):
 Kc X pos (some k::ks) (v::vs) ((tk,tv)::J6):=fun pins s σ H Q I h=>
 pairTrees_cons_walk (b7 (hk pins s σ H _ I h) fun u s1 ⟨x,H1,I1,rx,q1⟩=>b7 (hv pins s1 σ H1 _ I1 q1) fun w2 s2 ⟨y,H2,I2,ry,q2⟩=>
  b7 (hr pins s2 σ H2 _ I2 q2) fun ws s3 ⟨ps,H3,I3,rel,q3⟩=>⟨(x,y)::ps,H3,I3, .cons ⟨rx,ry⟩ rel,q3⟩)
structure M1 (X:Cx) (o:Expr) (m:Str) (apos:Pos) (e:Expr) (bc:Pos):Prop where
 base:Ra o m X.env (eval o X.env)=eval o X.env
 few:((Q4 bc (Ph [e] X.env)).all (fun x=>!x.1)&&(SK bc (RG [] X.env)).all (fun x=>x.1.isSome)
  &&decide (([e]:List Expr).length+([]:List Rw).length+(if ([]:List Rw).isEmpty then 0 else 1)<30))=true
 line:(apos.endLine==bc.line)=true
 trees:Q4 bc (Ph [e] X.env)=[(false,eval e X.env)]
structure M2 (X:Cx) (o:Expr) (m:Str) (apos:Pos) (e f:Expr) (bc:Pos):Prop where
 base:Ra o m X.env (eval o X.env)=eval o X.env
 few:((Q4 bc (Ph [e,f] X.env)).all (fun x=>!x.1)&&(SK bc (RG [] X.env)).all (fun x=>x.1.isSome)
  &&decide (([e,f]:List Expr).length+([]:List Rw).length+(if ([]:List Rw).isEmpty then 0 else 1)<30))=true
 line:(apos.endLine==bc.line)=true
 trees:Q4 bc (Ph [e,f] X.env)=[(false,eval e X.env),(false,eval f X.env)]
def Hv(H:Hp)(a:Addr):Prop:=(∃ax,Rd H a (.dK ax))\/∃ax,Rd H a (.dT ax)
def wx{X:Cx}{pins:List (Addr×Obj)}{σ:St}{H:Hp}{s:O0}{a:Addr}(I:Inv X pins σ H s)(d:Hv H a):
 s.TypeIs (.ref a) "dict"/\(∀b,PQ a= .ref b->∃ob,s.heap.get? b=some ob/\ob.dict=none)/\(a==Qk)=false:=by
 rcases d with⟨ax,e⟩ | ⟨ax,e⟩
 ·obtain⟨_,hd,vs,_,dd⟩:=l7 I.hok e
  refine⟨dd.typeIs,fun b q=>?_,hd⟩
  cases q
  obtain⟨ob,_,_,h1,h2,_⟩:=dd
  exact⟨ob,h1,h2.2.1⟩
 ·obtain⟨_,hd,xs,_,dd⟩:=l8 I.hok e
  refine⟨dd.typeIs,fun b q=>?_,hd⟩
  cases q
  obtain⟨ob,_,_,h1,h2,_⟩:=dd
  exact⟨ob,h1,h2.2.1⟩
section
variable{X:Cx}{pins:List (Addr×Obj)}{σ:St}{H:Hp}{s:O0}{a:Addr}{y d:V}{u:Value}{o:Option V}{A:P_}{E:Value->O0->Prop}
def Fi{Q:Value->O0->Prop}(hu:A.units+1<cLine)(I:Inv X pins σ H s)(g:lg H a y o)(ry:RelV y u)(h:∀w' s',Inv X pins σ H s'->RelV (o.getD .non) w'->Q w' s'):
 wpAny (model X.prog X.w) A (call (.builtin "dict.get") [.ref a,u]) Q E s:=by
 rcases g with⟨ax,k,e,ey,l⟩ | ⟨ax,k,b,e,ey,eb,l⟩
 ·subst ey
  obtain⟨z,hd,vs,rel,dd⟩:=l7 I.hok e
  refine call_meetsIn RS dd.typeIs Tb (S7 _ _) (meets_dict_get (a9 X.prog X.w) a (md ry) hd) ⟨_,dd.mapOf,h _ _ (I.tok _) ?_⟩
  rw[l]
  exact(rel.val k).getD rfl
 ·subst ey
  cases (show u=PQ b from ry)
  obtain⟨z,hd,xs,rel,dd⟩:=l8 I.hok e
  refine call_meetsIn RS dd.typeIs Tb (S7 _ _) (meetsH_dict_get (QE (a9 X.prog X.w)) a b hd) ⟨Q_ hu,k,xs,jY I.hok eb,dd,h _ _ (I.tok _) ?_⟩
  rw[l]
  exact(rel.val k).getD rfl
end
def Hc(td ty:TE):TE:=fun σ H Q=>td σ H fun x H1=>∃a,x= .ref a/\Hv H1 a/\ty σ H1 fun y H2=>∃o,lg H2 a y o/\Q (o.getD .non) H2
section
variable{X:Cx}{o e:Expr}{apos bc:Pos}{td ty:TE}
def BB(hu:X.A.units+1<cLine)(ho:PE X o td)(he:PE X e ty)(m:M1 X o "get" apos e bc):PE X (.Call (.Attribute o "get" apos) [e] [] bc) (Hc td ty):=by
 intro pins s σ H Q I h
 refine S2 m.base m.few m.line RK RS PySem.F.type_dict_get (b7 (ho pins s σ H _ I h) fun u s1 ⟨x,H1,I1,rx,a,ex,d,q1⟩=>?_)
 subst ex
 obtain rfl:u=PQ a:=rx
 obtain⟨t1,t2,_⟩:=wx I1 d
 refine⟨t1,t2,?_⟩
 rw[m.trees]
 refine Q6 rfl (Rj (QX (b7 (he pins s1 σ H1 _ I1 q1) fun iv s2 ⟨y,H2,I2,ry,ov,g,q2⟩=>RM ?_)))
 exact Fi hu I2 g ry fun w' s3 I3 vT=>⟨_,H2,I3,vT,q2⟩
end
end L2
namespace L3
open PySem PySem.Spec L2
open PyProof.Rows hiding St
inductive Rs (α:Type) where
 |ok (a:α) | ex (n:Nat)
def M(α:Type):=Option (Rs α)
def ab{α:Type}(a:α):M α:=some (.ok a)
def M.bind{α β:Type}(m:M α)(k:α->M β):M β:=match m with
 |none=>none
 |some (.ex n)=>some (.ex n)
 |some (.ok a)=>k a
def af{α:Type}:M α:=none
def nj{α:Type}(n:Nat):M α:=some (.ex n)
instance:Monad M where
 pure:=ab
 bind:=M.bind
@[simp] def au{α β:Type}(a:α)(k:α->M β):(ab a>>=k)=k a:=rfl
@[simp] def Fd{α β:Type}(a:α)(k:α->M β):((pure a:M α)>>=k)=k a:=rfl
@[simp] def Fe{α β:Type}(n:Nat)(k:α->M β):(nj n>>=k)=nj n:=rfl
@[simp] def Ff{α β:Type}(k:α->M β):((af:M α)>>=k)=af:=rfl
def M.cs{α:Type}(m:M α):m=af\/(∃n,m=nj n)\/∃a,m=ab a:=by
 match m with
 |none=>exact .inl rfl
 |some (.ex n)=>exact .inr (.inl ⟨n,rfl⟩)
 |some (.ok a)=>exact .inr (.inr ⟨a,rfl⟩)
def er{α:Type}{a b:α}(h:ab a=ab b):a=b:=by
 have h:some (Rs.ok a)=some (Rs.ok b):=h
 cases h
 rfl
def dO{α:Type}{a:α}(h:af=ab a):False:=by
 have h:none=some (Rs.ok a):=h
 cases h
def BR{α:Type}{n:Nat}{a:α}(h:nj n=ab a):False:=by
 have h:some (Rs.ex n)=some (Rs.ok a):=h
 cases h
def c_{α β:Type}{m:M α}{k:α->M β}{r:β}(h:(m>>=k)=ab r):∃a,m=ab a/\k a=ab r:=by
 rcases m.cs with e | ⟨n,e⟩ | ⟨a,e⟩
 ·subst e;exact(dO h).elim
 ·subst e;exact(BR h).elim
 ·subst e;exact⟨a,rfl,h⟩
def Hw(h:Heap)(ea D:Addr):Prop:=∃ox,h.get? ea=some ox/\ox.cls= .ref D
def MM(ea D:Addr):HO:= .ext fun h=>Hw h ea D
inductive D where
 |non | bl (b:Bool) | int (i:Int) | str (x:Str) | raw (v:V) | exc (C:Addr) | scr (l:List Int) | tup (l:List D) | lst (l:List D)
 |dct (ks:List (List Key)) (l:List D) | dci (ks:List Key) (l:List D)
instance:Inhabited D:=⟨.non⟩
def lim:Nat:=4096
def dg:lim<Pe:=by rw[Q0];decide
mutual
def Den(K:O2)(F:Hp):D->V->Prop
 | .non,v=>v= .non
 | .bl b,v=>v= .bl b
 | .int i,v=>v= .int i
 | .str x,v=>v= .str x/\x.length<=lim
 | .raw u,v=>v=u
 | .exc C,v=>∃ea,v= .ref ea/\F ea=some (MM ea C)
 | .scr ns,v=>∃a,v= .ref a/\SqL K F a (ns.map V.int)/\ns.length<=lim
 | .tup ds,v=>∃a vs,v= .ref a/\F a=some (.tup vs)/\DenL K F ds vs/\ds.length<=lim
 | .lst ds,v=>∃a vs,v= .ref a/\F a=some (.lst vs)/\DenL K F ds vs/\ds.length<=lim
 | .dct ks ds,v=>∃a ob vs,v= .ref a/\F a=some (.frz ob (.dT (ks.zip vs)))/\DenL K F ds vs/\ks.length=ds.length/\ds.length<=lim
 | .dci ks ds,v=>∃a ob vs,v= .ref a/\F a=some (.frz ob (.dK (ks.zip vs)))/\DenL K F ds vs/\ks.length=ds.length/\ds.length<=lim
def DenL(K:O2)(F:Hp):List D->List V->Prop
 |[],vs=>vs=[]
 |d::ds,vs=>∃v r,vs=v::r/\Den K F d v/\DenL K F ds r
end
def Same.rd{H H':Hp}{a:Addr}{u:HO}(e:Same H H')(h:Rd H a u):Rd H' a u:=by
 rcases h with h | ⟨o,h⟩
 ·exact .inl (e _ _ h)
 ·exact .inr ⟨o,e _ _ h⟩
def Same.tup{K:O2}{H H':Hp}{a:Addr}{xs:List V}(e:Same H H')(h:SqT K H a xs):SqT K H' a xs:=by
 rcases h with h | h
 ·exact .inl (Same.rd e h)
 ·exact .inr h
section
variable{K:O2}{F F':Hp}
mutual
def Den.mono(e:Same F F'):∀{d:D}{v:V},Den K F d v->Den K F' d v
 | .non,_,h=>h
 | .bl _,_,h=>h
 | .int _,_,h=>h
 | .str _,_,h=>h
 | .raw _,_,h=>h
 | .exc _,_,⟨a,h1,h2⟩=>⟨a,h1,e _ _ h2⟩
 | .scr _,_,⟨a,h1,h2,h3⟩=>⟨a,h1,Same.seq e h2,h3⟩
 | .tup _,_,⟨a,vs,h1,h2,h3,h4⟩=>⟨a,vs,h1,e _ _ h2,DenL.mono e h3,h4⟩
 | .lst _,_,⟨a,vs,h1,h2,h3,h4⟩=>⟨a,vs,h1,e _ _ h2,DenL.mono e h3,h4⟩
 | .dct _ _,_,⟨a,ob,vs,h1,h2,h3,h4⟩=>⟨a,ob,vs,h1,e _ _ h2,DenL.mono e h3,h4⟩
 | .dci _ _,_,⟨a,ob,vs,h1,h2,h3,h4⟩=>⟨a,ob,vs,h1,e _ _ h2,DenL.mono e h3,h4⟩
def DenL.mono(e:Same F F'):∀{ds:List D}{vs:List V},DenL K F ds vs->DenL K F' ds vs
 |[],_,h=>h
 |_::_,_,⟨v,r,h1,h2,h3⟩=>⟨v,r,h1,Den.mono e h2,DenL.mono e h3⟩
end
def DenL.nil:DenL K F [] []:=rfl
def DenL.cons{d:D}{v:V}{ds:List D}{vs:List V}(h:Den K F d v)(r:DenL K F ds vs):DenL K F (d::ds) (v::vs):=⟨v,vs,rfl,h,r⟩
def DenL.len:∀{ds:List D}{vs:List V},DenL K F ds vs->ds.length=vs.length
 |[],_,h=>by cases (show _=_ from h);rfl
 |_::ds,_,⟨v,r,h1,_,h3⟩=>by subst h1;rw[O5,O5,DenL.len h3]
def DenL.get:∀{ds:List D}{vs:List V}{i:Nat}{d:D},DenL K F ds vs->ds[i]? =some d->∃v,vs[i]? =some v/\Den K F d v
 |[],_,_,_,_,e=>by simp at e
 |d::ds,_,0,_,⟨v,r,h1,h2,h3⟩,e=>by subst h1;simp at e;subst e;exact⟨v,rfl,h2⟩
 |d::ds,_,i+1,_,⟨v,r,h1,h2,h3⟩,e=>by
  subst h1
  obtain⟨w,e1,e2⟩:=DenL.get (i:=i) h3 (by simpa using e)
  exact⟨w,by simpa using e1,e2⟩
def DenL.at:∀{ds:List D}{vs:List V}{i:Nat}{v:V},DenL K F ds vs->vs[i]? =some v->∃d,ds[i]? =some d/\Den K F d v
 |[],_,_,_,h,e=>by cases (show _=_ from h);simp at e
 |d::ds,_,0,_,⟨v,r,h1,h2,h3⟩,e=>by subst h1;simp at e;subst e;exact⟨d,rfl,h2⟩
 |d::ds,_,i+1,_,⟨v,r,h1,h2,h3⟩,e=>by
  subst h1
  obtain⟨w,e1,e2⟩:=DenL.at (i:=i) h3 (by simpa using e)
  exact⟨w,by simpa using e1,e2⟩
def DenL.append:∀{ds es:List D}{vs ws:List V},DenL K F ds vs->DenL K F es ws->DenL K F (ds++es) (vs++ws)
 |[],_,_,_,h,h'=>by cases (show _=_ from h);exact h'
 |d::ds,_,_,_,⟨v,r,h1,h2,h3⟩,h'=>by subst h1;exact⟨v,_,rfl,h2,DenL.append h3 h'⟩
def DenL.ints(ns:List Int):DenL K F (ns.map D.int) (ns.map V.int):=by
 induction ns with
 |nil=>rfl
 |cons n ns ih=>exact .cons rfl ih
end
structure Ext (F H F' H':Hp):Prop where
 hh:Same H H'
 ff:Same F F'
 fh:Same F' H'
 new:∀a,H a≠none->F' a=F a\/∃ts,H a=some (.tup ts)
def Ext.old{F H F' H':Hp}(e:Ext F H F' H'){a:Addr}{o:HO}(h:H a=some o)(hn:∀ts,o≠ .tup ts):F' a=F a:=by
 rcases e.new a (by rw[h];exact fun z=>nomatch z) with q | ⟨ts,q⟩
 ·exact q
 ·rw[h] at q;cases q;exact absurd rfl (hn ts)
def Ext.refl{F H:Hp}(h:Same F H):Ext F H F H:=⟨Same.refl _,Same.refl _,h,fun _ _=> .inl rfl⟩
def Ext.trans{F H F' H' F'' H'':Hp}(a:Ext F H F' H')(b:Ext F' H' F'' H''):Ext F H F'' H'':=
 ⟨a.hh.trans b.hh,a.ff.trans b.ff,b.fh,fun c hc=>by
  have:H' c≠none:=by
   cases q:H c with
   |none=>exact absurd q hc
   |some o=>rw[a.hh c o q];exact fun z=>nomatch z
  rcases a.new c hc with p | p
  ·rcases b.new c this with q | ⟨ts,q⟩
   ·exact .inl (q.trans p)
   ·cases z:H c with
    |none=>exact absurd z hc
    |some o=>
     rw[a.hh c o z] at q
     exact .inr ⟨ts,q⟩
  ·exact .inr p⟩
def Ext.lay{F H:Hp}{a:Addr}{o:HO}(h:Same F H)(n:H a=none):Ext F H (upd F a o) (upd H a o):=by
 have nf:F a=none:=Same.free h n
 refine⟨fun b u e=>?_,fun b u e=>?_,fun b u e=>?_,fun b hb=>?_⟩
 ·rw[aw (ba e n)];exact e
 ·rw[aw (ba e nf)];exact e
 ·by_cases q:b=a
  ·subst q;rw[aD] at e⊢;exact e
  ·rw[aw q] at e⊢;exact h b u e
 ·exact .inl (aw fun z=>hb (by rw[z];exact n))
def Ext.free{F H:Hp}{a:Addr}{o:HO}(h:Same F H)(n:H a=none):Ext F H F (upd H a o):=
 ⟨fun b u e=>by rw[aw (ba e n)];exact e,Same.refl _,fun b u e=>by rw[aw (ba (h b u e) n)];exact h b u e,fun _ _=> .inl rfl⟩
def Ext.tup{F H:Hp}{a:Addr}{ts:List V}(h:Same F H)(e:H a=some (.tup ts)):Ext F H (upd F a (.tup ts)) H:=by
 refine⟨Same.refl _,fun b u q=>?_,fun b u q=>?_,fun b hb=>?_⟩
 ·by_cases z:b=a
  ·subst z;rw[aD,<-e];exact h b u q
  ·rw[aw z];exact q
 ·by_cases z:b=a
  ·subst z;rw[aD] at q;rw[e];exact q
  ·rw[aw z] at q;exact h b u q
 ·by_cases z:b=a
  ·subst z;exact .inr ⟨ts,e⟩
  ·exact .inl (aw z)
def WP(K:O2)(Xw:Nat->Hp->Prop)(F H:Hp)(m:M D)(Q:VK):Prop:=
 match m with
 |none=>False
 |some (.ok d)=>∀v H' F',Ext F H F' H'->Den K F' d v->Q v H'
 |some (.ex n)=>∀F' H',Ext F H F' H'->Xw n H'
def WPL(K:O2)(Xw:Nat->Hp->Prop)(F H:Hp)(m:M (List D))(Q:List V->Hp->Prop):Prop:=
 match m with
 |none=>False
 |some (.ok ds)=>∀vs H' F',Ext F H F' H'->DenL K F' ds vs->Q vs H'
 |some (.ex n)=>∀F' H',Ext F H F' H'->Xw n H'
def WPB(Xw:Nat->Hp->Prop)(F H:Hp)(m:M Bool)(Q:Bool->Hp->Prop):Prop:=
 match m with
 |none=>False
 |some (.ok b)=>∀H' F',Ext F H F' H'->Q b H'
 |some (.ex n)=>∀F' H',Ext F H F' H'->Xw n H'
section
variable{K:O2}{Xw:Nat->Hp->Prop}{F F' H H':Hp}{Q:VK}
def WP.ext{m:M D}(e:Ext F H F' H')(h:WP K Xw F H m Q):WP K Xw F' H' m Q:=by
 match m,h with
 |none,h=>exact h
 |some (.ok d),h=>exact fun v H2 F2 e2 q=>h v H2 F2 (e.trans e2) q
 |some (.ex n),h=>exact fun F2 H2 e2=>h F2 H2 (e.trans e2)
def WPL.ext{m:M (List D)}{Q:List V->Hp->Prop}(e:Ext F H F' H')(h:WPL K Xw F H m Q):WPL K Xw F' H' m Q:=by
 match m,h with
 |none,h=>exact h
 |some (.ok d),h=>exact fun v H2 F2 e2 q=>h v H2 F2 (e.trans e2) q
 |some (.ex n),h=>exact fun F2 H2 e2=>h F2 H2 (e.trans e2)
def WPB.ext{m:M Bool}{Q:Bool->Hp->Prop}(e:Ext F H F' H')(h:WPB Xw F H m Q):WPB Xw F' H' m Q:=by
 match m,h with
 |none,h=>exact h
 |some (.ok d),h=>exact fun H2 F2 e2=>h H2 F2 (e.trans e2)
 |some (.ex n),h=>exact fun F2 H2 e2=>h F2 H2 (e.trans e2)
def WP.fin{d:D}{v:V}(h:WP K Xw F H (ab d) Q)(e:Ext F H F' H')(q:Den K F' d v):Q v H':=h v H' F' e q
def WP.now{d:D}{v:V}(h:WP K Xw F H (ab d) Q)(s:Same F H)(q:Den K F d v):Q v H:=h v H F (Ext.refl s) q
def WP.bind{m:M D}{k:D->M D}(h:WP K Xw F H (m>>=k) Q):WP K Xw F H m fun v H1=>∃F1 d,Ext F H F1 H1/\Den K F1 d v/\WP K Xw F1 H1 (k d) Q:=by
 match m,h with
 |none,h=>exact h
 |some (.ok d),h=>exact fun v H2 F2 e2 q=>⟨F2,d,e2,q,WP.ext e2 (show WP K Xw F H (k d) Q from h)⟩
 |some (.ex n),h=>exact h
def WP.bindL{m:M (List D)}{k:List D->M D}(h:WP K Xw F H (m>>=k) Q):WPL K Xw F H m fun vs H1=>∃F1 ds,Ext F H F1 H1/\DenL K F1 ds vs/\WP K Xw F1 H1 (k ds) Q:=by
 match m,h with
 |none,h=>exact h
 |some (.ok d),h=>exact fun v H2 F2 e2 q=>⟨F2,d,e2,q,WP.ext e2 (show WP K Xw F H (k d) Q from h)⟩
 |some (.ex n),h=>exact h
def WP.bindB{m:M Bool}{k:Bool->M D}(h:WP K Xw F H (m>>=k) Q):WPB Xw F H m fun b H1=>∃F1,Ext F H F1 H1/\WP K Xw F1 H1 (k b) Q:=by
 match m,h with
 |none,h=>exact h
 |some (.ok d),h=>exact fun H2 F2 e2=>⟨F2,e2,WP.ext e2 (show WP K Xw F H (k d) Q from h)⟩
 |some (.ex n),h=>exact h
def WPB.bind{m:M D}{k:D->M Bool}{Q:Bool->Hp->Prop}(h:WPB Xw F H (m>>=k) Q):WP K Xw F H m fun v H1=>∃F1 d,Ext F H F1 H1/\Den K F1 d v/\WPB Xw F1 H1 (k d) Q:=by
 match m,h with
 |none,h=>exact h
 |some (.ok d),h=>exact fun v H2 F2 e2 q=>⟨F2,d,e2,q,WPB.ext e2 (show WPB Xw F H (k d) Q from h)⟩
 |some (.ex n),h=>exact h
def WPB.bindB{m:M Bool}{k:Bool->M Bool}{Q:Bool->Hp->Prop}(h:WPB Xw F H (m>>=k) Q):WPB Xw F H m fun b H1=>∃F1,Ext F H F1 H1/\WPB Xw F1 H1 (k b) Q:=by
 match m,h with
 |none,h=>exact h
 |some (.ok d),h=>exact fun H2 F2 e2=>⟨F2,e2,WPB.ext e2 (show WPB Xw F H (k d) Q from h)⟩
 |some (.ex n),h=>exact h
def WPL.bind{m:M D}{k:D->M (List D)}{Q:List V->Hp->Prop}(h:WPL K Xw F H (m>>=k) Q):WP K Xw F H m fun v H1=>∃F1 d,Ext F H F1 H1/\Den K F1 d v/\WPL K Xw F1 H1 (k d) Q:=by
 match m,h with
 |none,h=>exact h
 |some (.ok d),h=>exact fun v H2 F2 e2 q=>⟨F2,d,e2,q,WPL.ext e2 (show WPL K Xw F H (k d) Q from h)⟩
 |some (.ex n),h=>exact h
def WPL.bindL{m:M (List D)}{k:List D->M (List D)}{Q:List V->Hp->Prop}(h:WPL K Xw F H (m>>=k) Q):WPL K Xw F H m fun vs H1=>∃F1 ds,Ext F H F1 H1/\DenL K F1 ds vs/\WPL K Xw F1 H1 (k ds) Q:=by
 match m,h with
 |none,h=>exact h
 |some (.ok d),h=>exact fun v H2 F2 e2 q=>⟨F2,d,e2,q,WPL.ext e2 (show WPL K Xw F H (k d) Q from h)⟩
 |some (.ex n),h=>exact h
def WP.mono{m:M D}{Q':VK}(h:WP K Xw F H m Q)(k:∀v H',Q v H'->Q' v H'):WP K Xw F H m Q':=by
 match m,h with
 |none,h=>exact h
 |some (.ok d),h=>exact fun v H2 F2 e2 q=>k _ _ (h v H2 F2 e2 q)
 |some (.ex n),h=>exact h
def WPL.mono{m:M (List D)}{Q Q':List V->Hp->Prop}(h:WPL K Xw F H m Q)(k:∀v H',Q v H'->Q' v H'):WPL K Xw F H m Q':=by
 match m,h with
 |none,h=>exact h
 |some (.ok d),h=>exact fun v H2 F2 e2 q=>k _ _ (h v H2 F2 e2 q)
 |some (.ex n),h=>exact h
def WPB.mono{m:M Bool}{Q Q':Bool->Hp->Prop}(h:WPB Xw F H m Q)(k:∀v H',Q v H'->Q' v H'):WPB Xw F H m Q':=by
 match m,h with
 |none,h=>exact h
 |some (.ok d),h=>exact fun H2 F2 e2=>k _ _ (h H2 F2 e2)
 |some (.ex n),h=>exact h
end
inductive C where
 |lst (l:List D) | dct (ks:List (List Key)) (l:List D) | dci (ks:List Key) (l:List D)
def C.d:C->D
 | .lst ds=> .lst ds
 | .dct ks ds=> .dct ks ds
 | .dci ks ds=> .dci ks ds
inductive Sl where
 |fz (d:D) | ow (c:C)
abbrev aP:=List (Option Sl)
def DenC(K:O2)(F:Hp):C->HO->Prop
 | .lst ds,o=>∃vs,o= .lst vs/\DenL K F ds vs/\ds.length<=lim
 | .dct ks ds,o=>∃vs,o= .dT (ks.zip vs)/\DenL K F ds vs/\ks.length=ds.length/\ds.length<=lim
 | .dci ks ds,o=>∃vs,o= .dK (ks.zip vs)/\DenL K F ds vs/\ks.length=ds.length/\ds.length<=lim
def DenC.mono{K:O2}{F F':Hp}(e:Same F F'):∀{c:C}{o:HO},DenC K F c o->DenC K F' c o
 | .lst _,_,⟨vs,h1,h2,h3⟩=>⟨vs,h1,DenL.mono e h2,h3⟩
 | .dct _ _,_,⟨vs,h1,h2,h3⟩=>⟨vs,h1,DenL.mono e h2,h3⟩
 | .dci _ _,_,⟨vs,h1,h2,h3⟩=>⟨vs,h1,DenL.mono e h2,h3⟩
def DenC.notup{K:O2}{F:Hp}:∀{c:C}{o:HO},DenC K F c o->∀ts,o≠ .tup ts
 | .lst _,_,⟨_,h1,_⟩,ts,z=>by rw[h1] at z;cases z
 | .dct _ _,_,⟨_,h1,_⟩,ts,z=>by rw[h1] at z;cases z
 | .dci _ _,_,⟨_,h1,_⟩,ts,z=>by rw[h1] at z;cases z
def mU(ob:Obj):HO->HO
 | .dT ax=> .frz ob (.dT ax)
 | .dK ax=> .frz ob (.dK ax)
 |o=>o
def DenC.den{K:O2}{F F':Hp}{a:Addr}{ob:Obj}:∀{c:C}{o:HO},DenC K F c o->Same F F'->F' a=some (mU ob o)->Den K F' c.d (.ref a)
 | .lst _,_,⟨vs,h1,h2,h3⟩,e,q=>by subst h1;exact⟨a,vs,rfl,q,DenL.mono e h2,h3⟩
 | .dct _ _,_,⟨vs,h1,h2,h3⟩,e,q=>by subst h1;exact⟨a,ob,vs,rfl,q,DenL.mono e h2,h3⟩
 | .dci _ _,_,⟨vs,h1,h2,h3⟩,e,q=>by subst h1;exact⟨a,ob,vs,rfl,q,DenL.mono e h2,h3⟩
def DenO(K:O2)(F H:Hp):Sl->V->Prop
 | .fz d,v=>Den K F d v
 | .ow c,v=>∃a o,v= .ref a/\H a=some o/\F a=none/\DenC K F c o
structure StE (K:O2) (F H:Hp) (σ:St) (Z:aP):Prop where
 fh:Same F H
 den:∀(i:Nat) (sl:Sl),Z[i]? =some (some sl)->∃v,σ[i]? =some (some v)/\DenO K F H sl v
def DenO.ext{K:O2}{F H F' H':Hp}(e:Ext F H F' H'):∀{sl:Sl}{v:V},DenO K F H sl v->DenO K F' H' sl v
 | .fz _,_,h=>Den.mono e.ff h
 | .ow _,_,⟨a,o,h1,h2,h3,h4⟩=>⟨a,o,h1,e.hh _ _ h2,by rw[e.old h2 h4.notup];exact h3,DenC.mono e.ff h4⟩
def StE.ext{K:O2}{F H F' H':Hp}{σ:St}{Z:aP}(s:StE K F H σ Z)(e:Ext F H F' H'):StE K F' H' σ Z:=
 ⟨e.fh,fun i sl q=>let ⟨v,h1,h2⟩:=s.den i sl q;⟨v,h1,h2.ext e⟩⟩
abbrev DE:=aP->M D
abbrev DT:=aP->M Bool
abbrev DA:=aP->M (List D)
def tD(K:O2)(Xw:Nat->Hp->Prop)(δ:DE):TE:=fun σ H Q=>∃F Z,StE K F H σ Z/\WP K Xw F H (δ Z) Q
def J4(K:O2)(Xw:Nat->Hp->Prop)(δ:DT):TT:=fun σ H Q=>∃F Z,StE K F H σ Z/\WPB Xw F H (δ Z) Q
def MG(K:O2)(Xw:Nat->Hp->Prop)(δ:DA):TA:=fun σ H Q=>∃F Z,StE K F H σ Z/\WPL K Xw F H (δ Z) Q
def PD(X:Cx)(Xw:Nat->Hp->Prop)(e:Expr)(δ:DE):Prop:=PE X e (tD X.K Xw δ)
def lj(X:Cx)(Xw:Nat->Hp->Prop)(e:Expr)(δ:DT):Prop:=PT X e (J4 X.K Xw δ)
def pT(X:Cx)(Xw:Nat->Hp->Prop)(es:List Expr)(δ:DA):Prop:=PA X es (MG X.K Xw δ)
def PE.weak{X:Cx}{e:Expr}{t t':TE}(h:PE X e t)(k:∀σ H Q,t' σ H Q->t σ H Q):PE X e t':=fun pins s σ H Q I w=>h pins s σ H Q I (k σ H Q w)
def PT.weak{X:Cx}{e:Expr}{t t':TT}(h:PT X e t)(k:∀σ H Q,t' σ H Q->t σ H Q):PT X e t':=fun pins s σ H Q I w=>h pins s σ H Q I (k σ H Q w)
def PA.weak{X:Cx}{e:List Expr}{t t':TA}(h:PA X e t)(k:∀σ H Q,t' σ H Q->t σ H Q):PA X e t':=fun pos pins s σ H Q I w=>h pos pins s σ H Q I (k σ H Q w)
def dV(i:Nat):DE:=fun Z=>match Z[i]? with
 |some (some (.fz d))=>ab d
 |_=>af
def dC(d:D):DE:=fun _=>ab d
def d1(g:D->M D)(a:DE):DE:=fun Z=>a Z>>=g
def d2(g:D->D->M D)(a b:DE):DE:=fun Z=>a Z>>=fun x=>b Z>>=fun y=>g x y
def aN:DA:=fun _=>ab []
def aC(a:DE)(r:DA):DA:=fun Z=>a Z>>=fun x=>r Z>>=fun xs=>ab (x::xs)
def dA(g:List D->M D)(a:DA):DE:=fun Z=>a Z>>=g
def zX:D->M Bool
 | .bl b=>ab b
 |_=>af
def bH(a:DE):DT:=fun Z=>a Z>>=zX
def kl(a b:DT):DT:=fun Z=>a Z>>=fun x=>if x then b Z else ab false
def k_(a b:DT):DT:=fun Z=>a Z>>=fun x=>if x then ab true else b Z
def cH(a:DT):DT:=fun Z=>a Z>>=fun x=>ab (!x)
def Am(c:DT)(a b:DE):DE:=fun Z=>c Z>>=fun x=>if x then a Z else b Z
def fE(a b:DE):DE:=fun Z=>a Z>>=fun x=>zX x>>=fun c=>if c then b Z else ab (.bl false)
def En(a:DE):DE:=fun Z=>a Z>>=fun x=>zX x>>=fun c=>ab (.bl (!c))
section
variable{X:Cx}{Xw:Nat->Hp->Prop}{a b:Expr}{δa δb:DE}{pos:Pos}
def ae{i:Nat}{x:Str}(h:PE X (.Name x pos) (kg i)):PD X Xw (.Name x pos) (dV i):=PE.weak h fun σ H Q ⟨F,Z,s,w⟩=>by
 unfold dV at w
 split at w
 ·rename_i d e
  obtain⟨v,h1,h2⟩:=s.den i _ e
  exact⟨v,h1,WP.now w s.fh h2⟩
 ·exact w.elim
def gN{e:Expr}{d:D}{v:V}(h:PE X e (tC v))(hd:∀F,Den X.K F d v):PD X Xw e (dC d):=PE.weak h fun σ H Q ⟨F,Z,s,w⟩=>WP.now w s.fh (hd F)
def av{i j}:PD X Xw (.Constant (.int i) j pos) (dC (.int i)):=gN GJ fun _=>rfl
def fL{i j}:PD X Xw (.Constant (.bool i) j pos) (dC (.bl i)):=gN EU fun _=>rfl
def iY{j}:PD X Xw (.Constant .none j pos) (dC .non):=gN GK fun _=>rfl
def gh{x j}(h:x.length<=lim:=by decide):PD X Xw (.Constant (.str x) j pos) (dC (.str x)):=gN GO fun _=>⟨rfl,h⟩
def tU(K:O2)(r:R2)(g:D->D->M D):Prop:=∀(Xw:Nat->Hp->Prop) (F H:Hp) (x y:V) (dx dy:D) (Q:VK),Same F H->Den K F dx x->Den K F dy y->WP K Xw F H (g dx dy) Q->r x y H Q
def tG{r:R2}{g:D->D->M D}(hg:tU X.K r g):∀σ H Q,tD X.K Xw (d2 g δa δb) σ H Q->JF r (tD X.K Xw δa) (tD X.K Xw δb) σ H Q:=fun σ H Q ⟨F,Z,s,w⟩=>by
 refine⟨F,Z,s,WP.mono (WP.bind w) fun v H1 ⟨F1,d,e1,q1,w1⟩=>?_⟩
 refine⟨F1,Z,s.ext e1,WP.mono (WP.bind w1) fun u H2 ⟨F2,d',e2,q2,w2⟩=>?_⟩
 exact hg Xw F2 H2 v u d d' Q e2.fh (Den.mono e2.ff q1) q2 w2
def o7{op:Operator}{r:R2}{g:D->D->M D}(ho:OpR X (Rx op) r)(hg:tU X.K r g)(ha:PD X Xw a δa)(hb:PD X Xw b δb):PD X Xw (.BinOp a op b pos) (d2 g δa δb):=
 PE.weak (Jg ho ha hb) (tG hg)
def wZ{op:CmpOp}{r:R2}{g:D->D->M D}(ho:OpR X (P6 op) r)(hg:tU X.K r g)(ha:PD X Xw a δa)(hb:PD X Xw b δb)(hm:P8 op b=false:=by first | exact Be _ | rfl):PD X Xw (.Compare a [op] [b] pos) (d2 g δa δb):=
 PE.weak (DO ho ha hb hm) (tG hg)
def eo{op:CmpOp}{r:R2}{g:D->D->M D}(ho:OpR X (P6 op) r)(hg:tU X.K r g)(ha:PD X Xw a δa)(hb:PD X Xw b δb)(hm:P8 op b=false:=by first | exact Be _ | rfl):lj X Xw (.Compare a [op] [b] pos) (bH (d2 g δa δb)):=
 PT.weak (D0 ho ha hb hm) fun σ H Q ⟨F,Z,s,w⟩=>by
  refine tG hg σ H _ ⟨F,Z,s,WP.mono (WPB.bind w) fun v H1 ⟨F1,d,e1,q1,w1⟩=>?_⟩
  cases d with
  |bl k=>exact⟨k,q1,w1 _ _ (Ext.refl e1.fh)⟩
  |_=>exact w1.elim
def yt{r:R2}{g:D->D->M D}(hr:Hy X r)(hg:tU X.K r g)(ha:PD X Xw a δa)(hb:PD X Xw b δb)(hs:jl b:=by intro _ _;rfl):PD X Xw (.Subscript a b pos) (d2 g δa δb):=
 PE.weak (Jf hr ha hb hs) (tG hg)
def ag:pT X Xw [] aN:=PA.weak sM fun σ H Q ⟨F,Z,s,w⟩=>w [] H F (Ext.refl s.fh) rfl
def aa{es:List Expr}{δs:DA}(ha:PD X Xw a δa)(hr:pT X Xw es δs)(hs:Ph (a::es) X.env=(false,eval a X.env)::Ph es X.env:=by rfl):pT X Xw (a::es) (aC δa δs):=
 PA.weak (sL ha hr hs) fun σ H Q ⟨F,Z,s,w⟩=>by
  refine⟨F,Z,s,WP.mono (WPL.bind w) fun v H1 ⟨F1,d,e1,q1,w1⟩=>?_⟩
  refine⟨F1,Z,s.ext e1,WPL.mono (WPL.bindL w1) fun vs H2 ⟨F2,ds,e2,q2,w2⟩=>?_⟩
  exact w2 _ _ _ (Ext.refl e2.fh) (.cons (Den.mono e2.ff q1) q2)
def dF(ds:List D):M D:=if ds.length<=lim then ab (.tup ds) else af
def eF(ds:List D):M D:=if ds.length<=lim then ab (.lst ds) else af
def wF{ds:List D}{f:List D->D}{Q:VK}{F H:Hp}(w:WP X.K Xw F H (if ds.length<=lim then ab (f ds) else af) Q):ds.length<=lim/\WP X.K Xw F H (ab (f ds)) Q:=by
 split at w
 ·rename_i h;exact⟨h,w⟩
 ·exact w.elim
def ij{x1}{es:List Expr}{δs:DA}(h:pT X Xw es δs):PD X Xw (.Tuple es x1 pos) (dA dF δs):=PE.weak (GP h) fun σ H Q ⟨F,Z,s,w⟩=>by
 refine⟨F,Z,s,WPL.mono (WP.bindL w) fun vs H1 ⟨F1,ds,e1,q1,w1⟩=>?_⟩
 obtain⟨hl,w1⟩:=wF (X:=X) w1
 have hv:=q1.len
 refine⟨by have:=dg;omega,fun p hp=>WP.fin w1 (Ext.lay e1.fh hp) ⟨p,vs,rfl,aD,DenL.mono (Ext.lay e1.fh hp).ff q1,hl⟩⟩
def iX{es:List Expr}{δs:DA}(h:pT X Xw es δs):PD X Xw (.List es pos) (dA eF δs):=PE.weak (w_ h) fun σ H Q ⟨F,Z,s,w⟩=>by
 refine⟨F,Z,s,WPL.mono (WP.bindL w) fun vs H1 ⟨F1,ds,e1,q1,w1⟩=>?_⟩
 obtain⟨hl,w1⟩:=wF (X:=X) w1
 have hv:=q1.len
 refine⟨by have:=dg;omega,fun p hp=>WP.fin w1 (Ext.lay e1.fh hp) ⟨p,vs,rfl,aD,DenL.mono (Ext.lay e1.fh hp).ff q1,hl⟩⟩
end
def ItD(K:O2)(F:Hp)(J:It)(ds:List D):Prop:=∀(F' H':Hp) (i:Nat),Same F F'->Same F' H'->
 (∀d,ds[i]? =some d->J.go i H'/\∀x H'',J.yld i H' x H''->∃F'',Ext F' H' F'' H''/\Den K F'' d x)/\(ds.length<=i->J.stop i H')
def ItD.mono{K:O2}{F F1:Hp}{J:It}{ds:List D}(h:ItD K F J ds)(e:Same F F1):ItD K F1 J ds:=fun F' H' i s1 s2=>h F' H' i (e.trans s1) s2
def WPI(K:O2)(Xw:Nat->Hp->Prop)(F H:Hp)(m:M (List D))(R:It->Hp->Prop):Prop:=
 match m with
 |none=>False
 |some (.ok ds)=>∀J H' F',Ext F H F' H'->ItD K F' J ds->R J H'
 |some (.ex n)=>∀F' H',Ext F H F' H'->Xw n H'
def MH(K:O2)(Xw:Nat->Hp->Prop)(δ:DA):TI:=fun σ H R=>∃F Z,StE K F H σ Z/\WPI K Xw F H (δ Z) R
def vN(X:Cx)(Xw:Nat->Hp->Prop)(tg iter:Expr)(δ:DA):Prop:=PI X tg iter (MH X.K Xw δ)
def PI.weak{X:Cx}{tg e:Expr}{t t':TI}(h:PI X tg e t)(k:∀σ H Q,t' σ H Q->t σ H Q):PI X tg e t':=fun pins s σ H Q I w=>h pins s σ H Q I (k σ H Q w)
def WPI.bind{K:O2}{Xw:Nat->Hp->Prop}{F H:Hp}{m:M D}{k:D->M (List D)}{R:It->Hp->Prop}(h:WPI K Xw F H (m>>=k) R):
 WP K Xw F H m fun v H1=>∃F1 d,Ext F H F1 H1/\Den K F1 d v/\WPI K Xw F1 H1 (k d) R:=by
 match m,h with
 |none,h=>exact h
 |some (.ok d),h=>
  refine fun v H2 F2 e2 q=>⟨F2,d,e2,q,?_⟩
  have h:WPI K Xw F H (k d) R:=h
  show WPI K Xw F2 H2 (k d) R
  match k d,h with
  |none,h=>exact h
  |some (.ok ds),h=>exact fun J H3 F3 e3 q3=>h J H3 F3 (e2.trans e3) q3
  |some (.ex n),h=>exact fun F3 H3 e3=>h F3 H3 (e2.trans e3)
 |some (.ex n),h=>exact h
def WPI.bindL{K:O2}{Xw:Nat->Hp->Prop}{F H:Hp}{m:M (List D)}{k:List D->M (List D)}{R:It->Hp->Prop}(h:WPI K Xw F H (m>>=k) R):
 WPL K Xw F H m fun v H1=>∃F1 d,Ext F H F1 H1/\DenL K F1 d v/\WPI K Xw F1 H1 (k d) R:=by
 match m,h with
 |none,h=>exact h
 |some (.ok d),h=>
  refine fun v H2 F2 e2 q=>⟨F2,d,e2,q,?_⟩
  have h:WPI K Xw F H (k d) R:=h
  show WPI K Xw F2 H2 (k d) R
  match k d,h with
  |none,h=>exact h
  |some (.ok ds),h=>exact fun J H3 F3 e3 q3=>h J H3 F3 (e2.trans e3) q3
  |some (.ex n),h=>exact fun F3 H3 e3=>h F3 H3 (e2.trans e3)
 |some (.ex n),h=>exact h
def lstM:D->M (List D)
 | .lst ds=>ab ds
 |_=>af
def LC:D->M (List D)
 | .tup ds=>ab ds
 |_=>af
def de(a:DE):DA:=fun Z=>a Z>>=lstM
def t_(a:DE):DA:=fun Z=>a Z>>=LC
def AY{K:O2}{F:Hp}{a:Addr}{vs:List V}{ds:List D}(h:SqL K F a vs)(hd:DenL K F ds vs):ItD K F (J9 K a) ds:=fun F' H' i s1 s2=>by
 have hs:=Same.seq s2 (Same.seq s1 h)
 refine⟨fun d e=>?_,fun hl=>⟨vs,hs,by rw[<-hd.len];exact hl⟩⟩
 obtain⟨v,e1,q⟩:=hd.get e
 refine⟨⟨vs,v,hs,e1⟩,fun x H'' y=>?_⟩
 obtain⟨e2,y⟩:=y
 subst e2
 have:=y vs hs
 rw[e1] at this
 cases this
 exact⟨F',Ext.refl s2,Den.mono s1 q⟩
def Dd{K:O2}{F:Hp}{a:Addr}{vs:List V}{ds:List D}(h:SqT K F a vs)(hd:DenL K F ds vs):ItD K F (J_ K a) ds:=fun F' H' i s1 s2=>by
 have hs:=Same.tup s2 (Same.tup s1 h)
 refine⟨fun d e=>?_,fun hl=>⟨vs,hs,by rw[<-hd.len];exact hl⟩⟩
 obtain⟨v,e1,q⟩:=hd.get e
 refine⟨⟨vs,v,hs,e1⟩,fun x H'' y=>?_⟩
 obtain⟨e2,y⟩:=y
 subst e2
 have:=y vs hs
 rw[e1] at this
 cases this
 exact⟨F',Ext.refl s2,Den.mono s1 q⟩
def gU(lo:Int)(n:Nat):List D:=(Px n).map fun(i:Nat)=>D.int (lo+(i:Int))
def qI{K:O2}{F:Hp}(lo:Int)(n:Nat):ItD K F (Hx lo n) (gU lo n):=fun F' H' i s1 s2=>by
 refine⟨fun d e=>?_,fun hl=>show n<=i by simpa[gU] using hl⟩
 unfold gU at e
 rw[O_] at e
 have hi:i<n:=by
  by_cases hi:i<n
  ·exact hi
  ·rw[R5 (by simpa using hi)] at e;cases e
 rw[Rt hi] at e
 cases e
 refine⟨hi,fun x H'' y=>?_⟩
 obtain⟨e2,y⟩:=y
 subst e2 y
 exact⟨F',Ext.refl s2,rfl⟩
section
variable{X:Cx}{Xw:Nat->Hp->Prop}{tg l:Expr}{δ:DE}{pos:Pos}
def bE(h:PD X Xw l δ):vN X Xw tg l (de δ):=PI.weak (DV h) fun σ H R ⟨F,Z,s,w⟩=>by
 refine⟨F,Z,s,WP.mono (WPI.bind w) fun v H1 ⟨F1,d,e1,q1,w1⟩=>?_⟩
 cases d with
 |lst ds=>
  obtain⟨a,vs,h1,h2,h3,h4⟩:=q1
  exact⟨a,h1,⟨vs,Same.seq e1.fh (SqL.of h2)⟩,w1 _ _ _ (Ext.refl e1.fh) (AY (SqL.of h2) h3)⟩
 |_=>exact w1.elim
def sT(h:PD X Xw l δ):vN X Xw tg l (t_ δ):=PI.weak (GV h) fun σ H R ⟨F,Z,s,w⟩=>by
 refine⟨F,Z,s,WP.mono (WPI.bind w) fun v H1 ⟨F1,d,e1,q1,w1⟩=>?_⟩
 cases d with
 |tup ds=>
  obtain⟨a,vs,h1,h2,h3,h4⟩:=q1
  exact⟨a,h1,⟨vs,Same.tup e1.fh (SqT.of h2)⟩,w1 _ _ _ (Ext.refl e1.fh) (Dd (SqT.of h2) h3)⟩
 |_=>exact w1.elim
def f6:List D->M (List D)
 |[.int j]=>if -4096<=j/\j<=4096 then ab (gU 0 j.toNat) else af
 |_=>af
def rn:List D->M (List D)
 |[.int i, .int j]=>if (-4096<=i/\i<=4096)/\(-4096<=j/\j<=4096) then ab (gU i (j - i).toNat) else af
 |_=>af
def DenL.one{K:O2}{F:Hp}{d:D}{vs:List V}(h:DenL K F [d] vs):∃v,vs=[v]/\Den K F d v:=by
 obtain⟨v,r,h1,h2,h3⟩:=h
 cases (show r=[] from h3)
 exact⟨v,h1,h2⟩
def DenL.two{K:O2}{F:Hp}{d d':D}{vs:List V}(h:DenL K F [d,d'] vs):∃v v',vs=[v,v']/\Den K F d v/\Den K F d' v':=by
 obtain⟨v,r,h1,h2,h3⟩:=h
 obtain⟨v',h4,h5⟩:=h3.one
 subst h4
 exact⟨v,v',h1,h2,h5⟩
def dh{a:Expr}{δs:DA}{p:Pos}(hg:Gl X "range")(hm:X.mg "range"=none)(ha:pT X Xw [a] δs)(hs:Ph [a] X.env=[(false,eval a X.env)]:=by rfl):vN X Xw tg (.Call (.Name "range" p) [a] [] pos) (fun Z=>δs Z>>=f6):=
 PI.weak (zB hg hm ha hs) fun σ H R ⟨F,Z,s,w⟩=>by
  refine⟨F,Z,s,WPL.mono (WPI.bindL w) fun vs H1 ⟨F1,ds,e1,q1,w1⟩=>?_⟩
  unfold f6 at w1
  split at w1
  ·rename_i j
   obtain⟨v,h1,h2⟩:=q1.one
   cases (show v=_ from h2)
   split at w1
   ·exact⟨j,h1,by omega,by omega,w1 _ _ _ (Ext.refl e1.fh) (qI 0 _)⟩
   ·exact w1.elim
  ·exact w1.elim
def o9{a b:Expr}{δs:DA}{p:Pos}(hg:Gl X "range")(hm:X.mg "range"=none)(ha:pT X Xw [a,b] δs)(hs:Ph [a,b] X.env=[(false,eval a X.env),(false,eval b X.env)]:=by rfl)
 (Hq:Ph [b] X.env=[(false,eval b X.env)]:=by rfl):vN X Xw tg (.Call (.Name "range" p) [a,b] [] pos) (fun Z=>δs Z>>=rn):=
 PI.weak (zC hg hm ha hs Hq) fun σ H R ⟨F,Z,s,w⟩=>by
  refine⟨F,Z,s,WPL.mono (WPI.bindL w) fun vs H1 ⟨F1,ds,e1,q1,w1⟩=>?_⟩
  unfold rn at w1
  split at w1
  ·rename_i i j
   obtain⟨v,v',h1,h2,h3⟩:=q1.two
   cases (show v=_ from h2)
   cases (show v'=_ from h3)
   split at w1
   ·exact⟨i,j,h1,⟨by omega,by omega,by omega,by omega⟩,w1 _ _ _ (Ext.refl e1.fh) (qI i _)⟩
   ·exact w1.elim
  ·exact w1.elim
end
def dj(tg N:List Str):List Str:=N.map fun y=>if tg.contains y then y++(" ":Str) else y
def jE(X:Cx)(scope:Scope)(tn:List Str)(pins:List (Addr×Obj))(cl:List (Str×Addr))(C:Addr)(fp:List Addr)(s₂:O0)(H:Hp):Cx:=
 {X with N:=tn++dj tn X.N,s₀:=s₂,H₀:=H,env:=compEnvC scope cl C X.env,outer:=X.stack,ex:=fp,fn:=fun _=>false,pn:=X.pn++pins,xe:=fun _ _=>False}
structure CompSc (X:Cx) (scope:Scope) (tn:List Str):Prop where
 kind:scope.kind= .function
 nocell:∀y∈scope.names,y.2≠ .cell
 names:∀y∈scope.names,y.2= .local->scope.names.lookup y.1=some .local
 frees:∀y∈scope.names,y.2= .free->X.env.kindOf y.1=some .cell\/X.env.kindOf y.1=some .free
 vis:∀p∈(dj tn X.N).zip X.N,scope.names.lookup p.1=none\/(p.1=p.2/\scope.names.lookup p.1=some .free)
def jU{env:Env}:∀(names:List (Str×RP)) (acc:List (Str×Addr)),(∀y∈names,y.2= .free->∃c,env.cells.lookup y.1=some c)->
 (∀x c,acc.lookup x=some c->env.cells.lookup x=some c)->
 ∃cl,(forIn names acc (fun (x:Str×RP) (r:List (Str×Addr))=>do
   let __x:=x
   if (__x.2==Uc)=true then do let c<-cellOf env __x.1;pure (Qc ((__x.1,c)::r)) else pure (Qc r)):Sem (List (Str×Addr)))=pure cl/\
  (∀x c,cl.lookup x=some c->env.cells.lookup x=some c)/\(∀x c,acc.lookup x=some c->∃c',cl.lookup x=some c')/\(∀x,names.lookup x=some .free->∃c,cl.lookup x=some c)
 |[],acc,_,h2=>⟨acc,rfl,h2,fun x c e=>⟨c,e⟩,fun x e=>by simp at e⟩
 |(n,k)::r,acc,h1,h2=>by
  by_cases hk:k= .free
  ·subst hk
   obtain⟨c,hc⟩:=h1 (n, .free) OV rfl
   obtain⟨cl,e,a1,a2,a3⟩:=jU r ((n,c)::acc) (fun y hy=>h1 y (OU _ hy)) (fun x c' q=>by
    rw[Qr] at q
    split at q
    ·rename_i hx
     cases q
     rw[show x=n from by simpa using hx];exact hc
    ·exact h2 x c' q)
   refine⟨cl,?_,a1,fun x c' q=>?_,fun x q=>?_⟩
   ·rw[SW]
    have:cellOf env n=pure c:=by unfold cellOf;rw[hc]
    simp only[beq_self_eq_true,if_true,this,pure_bind]
    exact e
   ·by_cases hx:x=n
    ·subst hx
     exact a2 x c (by simp[Qr])
    ·exact a2 x c' (by rw[Qr,show (x==n)=false from by simpa using hx];exact q)
   ·rw[Qr] at q
    split at q
    ·rename_i hx
     exact a2 x c (by rw[Qr,hx])
    ·exact a3 x q
  ·obtain⟨cl,e,a1,a2,a3⟩:=jU r acc (fun y hy=>h1 y (OU _ hy)) h2
   refine⟨cl,?_,a1,a2,fun x q=>?_⟩
   ·rw[SW]
    have:((k==Uc)=true)=False:=by simpa using hk
    simp only[this,if_false,pure_bind]
    exact e
   ·rw[Qr] at q
    split at q
    ·cases q;exact absurd rfl hk
    ·exact a3 x q
def nQ{scope:Scope}{env:Env}(h:∀y∈scope.names,y.2= .free->∃c,env.cells.lookup y.1=some c):
 ∃cl,closureFor scope env=pure cl/\(∀x c,cl.lookup x=some c->env.cells.lookup x=some c)/\(∀x,scope.names.lookup x=some .free->∃c,cl.lookup x=some c):=by
 obtain⟨cl,e,a1,_,a3⟩:=jU (env:=env) scope.names [] h (fun x c q=>by simp at q)
 refine⟨cl,?_,a1,a3⟩
 unfold closureFor
 show (forIn scope.names [] _>>=fun r=>pure r)=_
 rw[bind_pure]
 exact e
def noex{α:Type}:M α->M α
 |some (.ok a)=>some (.ok a)
 |_=>none
def di(f:D->M (Option D)):List D->M (List D)
 |[]=>ab []
 |d::ds=>f d>>=fun o=>di f ds>>=fun r=>ab (match o with | some y=>y::r | none=>r)
def MI(n:Nat):D->M (List D):=fun d=>match n,d with
 |0,d=>ab [d]
 |n, .tup ds=>if ds.length=n then ab ds else af
 |_,_=>af
def iA(n:Nat)(δt:DT)(δe:DE)(Z:aP):D->M (Option D):=fun d=>
 MI n d>>=fun ts=>δt (ts.map (fun t=>some (Sl.fz t))++Z)>>=fun b=>if b then δe (ts.map (fun t=>some (Sl.fz t))++Z)>>=fun y=>ab (some y) else ab none
def bB(n:Nat)(δi:DA)(δt:DT)(δe:DE):DE:=fun Z=>δi Z>>=fun ds=>noex (di (iA n δt δe Z) ds)>>=eF
def cI:DT:=fun _=>ab true
def fC(f:D->M (Option D))(d:D)(ds:List D):di f (d::ds)=(f d>>=fun o=>di f ds>>=fun r=>ab (match o with | some y=>y::r | none=>r)):=rfl
def v8{f:D->M (Option D)}{ds:List D}{i:Nat}{d:D}{ys R:List D}(hd:ds[i]? =some d)
 (h:di f ds=(di f (ds.drop i)>>=fun r=>ab (ys++r)))(hR:di f ds=ab R):
 ∃o,f d=ab o/\di f ds=(di f (ds.drop (i+1))>>=fun r=>ab ((match o with | some y=>ys++[y] | none=>ys)++r)):=by
 have e:ds.drop i=d::ds.drop (i+1):=by
  obtain⟨hi,e⟩:=OZ.mp hd
  rw[RC hi,e]
 rw[e,fC] at h
 have h':=h.symm.trans hR
 obtain⟨r,h1,h2⟩:=c_ h'
 obtain⟨o,h3,h4⟩:=c_ h1
 refine⟨o,h3,?_⟩
 obtain⟨r',h5,h6⟩:=c_ h4
 rw[h5,hR]
 rw[<-h2,<-er h6]
 show ab _=ab _
 cases o with
 |none=>rfl
 |some y=>simp
def yW{prog:Pw}{w:World}{A:P_}{R:Result->O0->Prop}{s:O0}{elt target iter:Expr}{ifs:List Expr}{scope:Scope}{pos:Pos}{it acc:Value}{env:Env}(I:Nat->O0->Prop)
 (turn:∀n s,I n s->wpAny (model prog w) A (TN it) (fun r s₁=>match r with
  |none=>R (.ok .next) s₁
  |some v=>wpAny (model prog w) A (Sh target it v) (fun _ ME=>wpAny (model prog w) A (assign target env v) (fun _ s₂=>
    wpAny (model prog w) A (forIn ifs true fun c r=>if r=true then do let ok<-isTrue c env (eval c env);pure (Qc ok) else pure (Qc r)) (fun ok s₃=>
     if ok=true then wpAny (model prog w) A (eval elt env) (fun x s₄=>
      wpAny (model prog w) A (call (.builtin "list.append") [acc,x]) (fun _ s₅=>∃m,m<n/\I m s₅) (T1 (model prog w) A env fun e s'=>R (.error e) s') s₄) (T1 (model prog w) A env fun e s'=>R (.error e) s') s₃
     else∃m,m<n/\I m s₃) (T1 (model prog w) A env fun e s'=>R (.error e) s') s₂) (T1 (model prog w) A env fun e s'=>R (.error e) s') ME) (T1 (model prog w) A env fun e s'=>R (.error e) s') s₁) (T1 (model prog w) A env fun e s'=>R (.error e) s') s)
 (n:Nat) (h:I n s):
 Ts (model prog w) A (.compLoop (.ListComp elt [⟨target,iter,ifs,0⟩] scope pos) 0 it acc env) R s:=by
 refine codeAny_loop rfl I (fun n s hI=>?_) n h
 show wpAny _ A ((compTurn (.ListComp elt [⟨target,iter,ifs,0⟩] scope pos) 0 it acc env).onRaise (fun x=>do noteFrame x env;theTreesLotGoes x)) _ _ s
 refine wpAny_noted ?_
 rw[compTurn_list]
 refine OX (wpAny_standAt (OX (Qf (turn n s hI) (fun r s₁ h₁=>?_) fun _ _ h'=>h')))
 cases r with
 |none=>exact Pb h₁
 |some v=>
  refine OX (Qf h₁ (fun _ ME h₁=>?_) fun _ _ h'=>h')
  refine OX (Qf h₁ (fun _ s₂ h₂=>OX (Qf h₂ (fun ok s₃ h₃=>?_) fun _ _ h'=>h')) fun _ _ h'=>h')
  cases ok with
  |false=>exact Pb ⟨rfl,h₃⟩
  |true=>
   exact OX (OX (Qf h₃ (fun x s₄ h₄=>OX (Qf h₄ (fun _ s₅ h₅=>Pb (Pb ⟨rfl,h₅⟩)) fun _ _ h'=>h')) fun _ _ h'=>h'))
def z6(X:Cx)(tg:Expr)(n:Nat)(σ:St):Prop:=∀(pins:List (Addr×Obj)) (s:O0) (σ':St) (F H:Hp) (d:D) (ts:List D) (v:V) (u:Value),Inv X pins σ' H s->Same F H->σ'.drop (max n 1)=σ->RelV v u->Den X.K F d v->MI n d=ab ts->
 wpAny (model X.prog X.w) X.A (assign tg X.env u) (fun _ s'=>∃vs,Inv X pins (vs.map some++σ) H s'/\DenL X.K F ts vs) X.xe s
def ll(X:Cx)(ifs:List Expr)(δt:DT):Prop:=∀(pins:List (Addr×Obj)) (s:O0) (σ:St) (H:Hp) (Q:Bool->Hp->Prop),Inv X pins σ H s->J4 X.K (fun _ _=>False) δt σ H Q->
 wpAny (model X.prog X.w) X.A (forIn ifs true fun c r=>if r=true then do let ok<-isTrue c X.env (eval c X.env);pure (Qc ok) else pure (Qc r)) (TP X pins σ Q) X.xe s
def eJ{X:Cx}:ll X [] cI:=fun pins s σ H Q I ⟨F,Z,S,w⟩=>wpAny_tests_nil ⟨H,I,w H F (Ext.refl S.fh)⟩
def pI{X:Cx}{c:Expr}{δ:DT}(h:lj X (fun _ _=>False) c δ):ll X [c] δ:=fun pins s σ H Q I w=>wpAny_tests_one (h pins s σ H Q I w)
def StE.cons{K:O2}{F H:Hp}{σ:St}{Z:aP}{ts:List D}{vs:List V}(s:StE K F H σ Z)(h:DenL K F ts vs):StE K F H (vs.map some++σ) (ts.map (fun t=>some (Sl.fz t))++Z):=by
 refine⟨s.fh,fun i sl e=>?_⟩
 have hl:=h.len
 by_cases hi:i<ts.length
 ·rw[PJ (by simpa using hi),O_] at e
  cases q:ts[i]? with
  |none=>rw[q] at e;cases e
  |some t=>
   rw[q] at e
   cases e
   obtain⟨v,e1,e2⟩:=h.get q
   exact⟨v,by rw[PJ (by simp;omega),O_,e1];rfl,e2⟩
 ·rw[PY (by simpa using hi)] at e
  obtain⟨v,e1,e2⟩:=s.den _ _ e
  refine⟨v,?_,e2⟩
  rw[PY (by simp;omega)]
  simpa[hl] using e1
def WPB.take{Xw:Nat->Hp->Prop}{F H:Hp}{b:Bool}:WPB Xw F H (ab b) fun b' H'=>b'=b/\∃F',Ext F H F' H':=fun H' F' e=>⟨rfl,F',e⟩
def WP.take{K:O2}{Xw:Nat->Hp->Prop}{F H:Hp}{d:D}:WP K Xw F H (ab d) fun v H'=>∃F',Ext F H F' H'/\Den K F' d v:=fun v H' F' e q=>⟨F',e,q⟩
def lP(env:Env)(p:Str×RP):Str×RP:=if (p.2== .free&&env.scope.kind== .function&&env.kindOf p.1==some .cell) then(p.1, .cell) else(p.1,p.2)
def gi(scope:Scope)(env:Env):(relabel scope env).names=scope.names.map (lP env):=rfl
def BS(env:Env)(p:Str×RP):(lP env p).1=p.1:=by unfold lP;split<;>rfl
def g9(env:Env)(x:Str):∀ns:List (Str×RP),(ns.map (lP env)).lookup x=(ns.lookup x).map fun k=>(lP env (x,k)).2
 |[]=>rfl
 |(m,k)::r=>by
  rw[O3,Qr,Qr]
  have e:lP env (m,k)=(m,(lP env (m,k)).2):=Tj (BS env (m,k)) rfl
  rw[e]
  dsimp only
  by_cases hx:(x==m)=true
  ·have hm:x=m:=by simpa using hx
   subst hm
   rw[hx]
   rfl
  ·have hx:(x==m)=false:=by simpa using hx
   rw[hx]
   exact g9 env x r
def sY{scope:Scope}{env:Env}{x:Str}(h:scope.names.lookup x=none):(relabel scope env).names.lookup x=none:=by
 rw[gi,g9,h];rfl
def sX{scope:Scope}{env:Env}{x:Str}(hc:∀y∈scope.names,y.2≠ .cell)(h:(relabel scope env).names.lookup x=some .cell\/(relabel scope env).names.lookup x=some .free):scope.names.lookup x=some .free:=by
 rw[gi,g9] at h
 cases q:scope.names.lookup x with
 |none=>rw[q] at h;rcases h with h | h<;>cases h
 |some k=>
  rw[q] at h
  have hk:k≠ .cell:=hc _ (Qm q)
  have h:(lP env (x,k)).2= .cell\/(lP env (x,k)).2= .free:=by simpa using h
  by_cases hf:k= .free
  ·rw[hf]
  ·have:(lP env (x,k)).2=k:=by
    unfold lP
    rw[if_neg]
    simp[hf]
   rw[this] at h
   rcases h with h | h
   ·exact absurd h hk
   ·exact absurd h hf
def lQ{scope:Scope}{env:Env}{x:Str}(h:scope.names.lookup x=some .free):¬(relabel scope env).names.lookup x=some .local:=by
 rw[gi,g9,h]
 intro z
 have z:(lP env (x, .free)).2= .local:=by simpa using z
 unfold lP at z
 split at z<;>cases z
structure BlockEnd (X:Cx) (pins:List (Addr×Obj)) (C:Addr) (H':Hp) (s1:O0):Prop where
 ns:∃m,s1.heap.Ns C m
 free:H' C=none
 nl:C≠X.env.locals
 nw:X.s₀.heap.objs.size<=C
 nc:∀x c,X.env.cells.lookup x=some c->c≠C
 np:∀p∈X.pn++pins,p.1≠C
def t9{X:Cx}{Xw:Nat->Hp->Prop}{elt iter tg:Expr}{ifs:List Expr}{scope:Scope}{pos:Pos}{tn:List Str}{n:Nat}{δi:DA}{δt:DT}{δe:DE}{cl:List (Str×Addr)}{pins:List (Addr×Obj)}{s:O0}{σ:St}{H F:Hp}{Z:aP}{Q:VK}{RR:Value->Addr->Result->O0->Prop}
 (sc:CompSc X scope tn)(hn:tn.length=max n 1)(hc:X.calm=true)(hi:vN X Xw tg iter δi)
 (hg:∀pins cl C fp s₂ H σ,z6 (jE X scope tn pins cl C fp s₂ H) tg n σ)
 (ht:∀pins cl C fp s₂ H,ll (jE X scope tn pins cl C fp s₂ H) ifs δt)
 (he:∀pins cl C fp s₂ H,PD (jE X scope tn pins cl C fp s₂ H) (fun _ _=>False) elt δe)
 (I:Inv X pins σ H s)(S:StE X.K F H σ Z)(w:WP X.K Xw F H (bB n δi δt δe Z) Q)
 (Ak:∀x c,cl.lookup x=some c->X.env.cells.lookup x=some c)(Hk:∀x,scope.names.lookup x=some .free->∃c,cl.lookup x=some c)
 (M9:∀(s1:O0) (C D:Addr) (H':Hp),Inv X pins σ H' s1->Q (.ref D) H'->BlockEnd X pins C H' s1->RR (.ref D) C (.ok .next) s1):
 wpAny (model X.prog X.w) X.A (eval iter X.env) (fun x s₁=>wpAny (model X.prog X.w) X.A (pyIter x) (fun it s₂=>wpAny (model X.prog X.w) X.A (newList []) (fun acc s₃=>
  wpAny (model X.prog X.w) X.A (newFunctionEnv scope X.env.globals cl [] X.env.qual none .none (some X.env)) (fun HD s₄=>
   Ts (model X.prog X.w) X.A (.compStart (.ListComp elt [⟨tg,iter,ifs,0⟩] scope pos) 0 it acc {HD with scope:=relabel scope X.env}) (RR acc HD.locals) s₄) X.xe s₃) X.xe s₂) X.xe s₁) X.xe s:=by
 refine b7 (hi pins s σ H (fun J H2=>∃F2 ds,Ext F H F2 H2/\ItD X.K F2 J ds/\WP X.K Xw F2 H2 (noex (di (iA n δt δe Z) ds)>>=eF) Q) I ⟨F,Z,S,?_⟩) fun xv s₁ h₁=>b7 h₁ fun it s₂ h₂=>?_
 ·unfold bB at w
  rcases(δi Z).cs with hq | ⟨m,hq⟩ | ⟨ds,hq⟩
  ·rw[hq] at w;exact w.elim
  ·rw[hq] at w⊢;exact w
  ·rw[hq] at w⊢;exact fun J H' F' e q=>⟨F',ds,e,q,WP.ext e w⟩
 obtain⟨ia,fp,MJ,J,H2,rfl,I2,T,xn,f2,F2,ds,e2,Mr,w2⟩:=h₂
 obtain⟨R,hR,L1,w2⟩:∃R,di (iA n δt δe Z) ds=ab R/\R.length<=lim/\WP X.K Xw F2 H2 (ab (.lst R)) Q:=by
  rcases(di (iA n δt δe Z) ds).cs with hq | ⟨m,hq⟩ | ⟨R,hq⟩
  ·rw[hq] at w2;exact w2.elim
  ·rw[hq] at w2;exact w2.elim
  ·rw[hq] at w2
   obtain⟨h1,h2⟩:=wF (X:=X) (f:=D.lst) (show WP X.K Xw F2 H2 (eF R) Q from w2)
   exact⟨R,hq,h1,h2⟩
 refine RY (wpAny_newFunctionEnv sc.nocell (by intro y hy;simp at hy) (fun h₁ FO C3=>?_) sc.kind)
 dsimp only at FO C3⊢
 generalize Ko:s₂.heap.push {cls:= .type "list",dict:=none,data:= .seq ([]:List Value).toArray}=HL at FO C3⊢
 have hC:HL.objs.size=s₂.heap.objs.size+1:=by rw[<-Ko,Heap.size_push]
 have y6:s₂.heap.objs.size<HL.objs.size:=by rw[hC];exact SQ _
 have old:∀b o,s₂.heap.get? b=some o->h₁.get? b=some o:=fun b o e=>C3.extBut b o (PL (QW (Pc e) y6)) (O4 _ (Ko▸O4 _ e))
 have AI:h₁.get? s₂.heap.objs.size=some {cls:= .type "list",data:= .seq ([]:List Value).toArray}:=C3.extBut _ _ (PL y6) (O4 _ (Ko▸Pt _ rfl))
 have nD:H2 s₂.heap.objs.size=none:=I2.hok.fresh (O9 _)
 have nC:H2 HL.objs.size=none:=I2.hok.fresh (QI y6)
 have gC:s₂.heap.get? HL.objs.size=none:=TL (QI y6)
 have fl:∀b∈fp,b<s₂.heap.objs.size:=fun b hb=>by
  obtain⟨o,e,_⟩:=T.obj 0 _ xn b hb
  exact Pc e
 generalize uv:jE X scope tn pins cl HL.objs.size fp s₂ H2=X'
 have Mz:X'.Ok:=by
  subst uv
  refine⟨I2.ok.mod,sc.kind,I2.ok.glob,I2.ok.blt,QI y6,fun x y c h1 h2=>I2.ok.inj x y c (Ak _ _ h1) (Ak _ _ h2),fun x hx=>?_,fun _ _ h=>(by cases h),I2.ok.hd,I2.ok.frames, .inl rfl,
   fun b hb=>⟨PL (QW (fl b hb) y6),fun x c h=>(f2 b hb).2.2.2.2.1 x c (Ak _ _ h)⟩,I2.bs,PM I2.ok.bsz I2.sz,fun b o e hb=>?_,fun b hb z=>?_,I2.stack,I2.stkFree⟩
  ·have hx:(relabel scope X.env).names.lookup x=some .cell\/(relabel scope X.env).names.lookup x=some .free:=hx
   exact Hk x (sX sc.nocell hx)
  ·rcases(f2 b hb).2.2.2.1 with z | z
   ·exact I2.ok.noex b o e z
   ·exact absurd (Py (Pc (I2.ok.bs b o e).1) z) (Qb _)
  ·rcases O6.mp (I2.stkSub b z) with q | q
   ·exact(f2 b hb).2.1 q
   ·exact(f2 b hb).2.2.1 q
 have Lf:∀b o,H2 b=some o->b≠s₂.heap.objs.size:=fun b o e=>ba e nD
 have Fv:∀{H':Hp},(∀b∈fp,H' b=none)->∀b∈fp,pU X' [] H' b:=fun NP b hb=>by
  subst uv
  refine⟨NP b hb,PL (QW (fl b hb) y6),fun z=>Mz.exfs b hb z, .inl hb,fun x c h=>(f2 b hb).2.2.2.2.1 x c (Ak _ _ h),fun p hp=>?_⟩
  rw[Qj] at hp
  exact(f2 b hb).2.2.2.2.2 p hp
 have I0:Inv X' [] (PV (max n 1) none++σ) (upd H2 s₂.heap.objs.size (.lst [])) {s₂ with heap:=h₁,toks:=s₂.toks+([]:List (Str×Value)).length}:=by
  subst uv
  have KW:HOk X.prog X.w (upd H2 s₂.heap.objs.size (.lst [])) h₁:=I2.hok.laid old (O9 _) ⟨PB _,[],_, .nil,AI⟩
  refine⟨Mz,rfl,I2.bare,Un.laid old (O9 _) nD,⟨_,FO,fun i x v h1 h2 h3=>?_⟩,fun x c h=>?_,?_,fun x c h=>?_,fun p hp=>?_,KW,?_⟩
  ·by_cases hi:i<max n 1
   ·rw[PJ (by simpa using hi),Qz,if_pos hi] at h2
    cases h2
   ·have Ih:tn.length<=i:=by omega
    have h1:(tn++dj tn X.N)[i]? =some x:=h1
    rw[PY Ih] at h1
    rw[PY (by simpa using hi),R4,<-hn] at h2
    have hN:∃y,X.N[i - tn.length]? =some y/\(x,y)∈(dj tn X.N).zip X.N:=by
     have iI:=(OZ.mp h1).1
     have Ip:i - tn.length<X.N.length:=by simpa[dj] using iI
     refine⟨X.N[i - tn.length],OY Ip,?_⟩
     refine List.mem_iff_getElem?.mpr ⟨i - tn.length,?_⟩
     rw[List.getElem?_zip_eq_some]
     exact⟨h1,OY Ip⟩
    obtain⟨y,hy,hm⟩:=hN
    have hV:(relabel scope X.env).names.lookup x=some .local\/(relabel scope X.env).names.lookup x=some .cell\/(relabel scope X.env).names.lookup x=some .free:=h3
    rcases sc.vis _ hm with C0 | ⟨K6,EA⟩
    ·have C0:scope.names.lookup x=none:=C0
     have:(relabel scope X.env).names.lookup x=none:=sY C0
     rw[this] at hV
     rcases hV with z | z | z<;>cases z
    ·have K6:x=y:=K6
     subst K6
     have EA:scope.names.lookup x=some .free:=EA
     have hk:=sc.frees (x, .free) (Qm EA) rfl
     obtain⟨m,FL,FH⟩:=I2.loc
     obtain⟨u,ru,lk⟩:=FH _ x v hy h2 (by rcases hk with z | z;exact .inr (.inl z);exact .inr (.inr z))
     refine⟨u,ru, .inr ⟨?_,?_⟩⟩
     ·rcases hV with z | z | z
      ·exact absurd z (lQ EA)
      ·exact .inl z
      ·exact .inr z
     ·rcases lk with⟨z,_⟩ | ⟨_,c,Ng,FC⟩
      ·rcases hk with q | q
       ·rw[show X.env.kindOf x=some .local from z] at q;cases q
       ·rw[show X.env.kindOf x=some .local from z] at q;cases q
      ·obtain⟨c',AK⟩:=Hk x EA
       have:=Ak _ _ AK
       rw[Ng] at this
       cases this
       obtain⟨o,ho,hd⟩:=FC
       exact⟨c,AK,o,old _ _ ho,hd⟩
  ·obtain⟨v,o,ho,hd⟩:=I2.cell x c (Ak _ _ h)
   exact⟨v,o,old _ _ ho,hd⟩
  ·show upd H2 s₂.heap.objs.size (.lst []) HL.objs.size=none
   rw[aw (R9 y6)]
   exact nC
  ·have L7:=Ak _ _ h
   obtain⟨v,q⟩:=I2.cell x c L7
   rw[aw (PL q.lt)]
   exact I2.freeC x c L7
  ·rw[Qj] at hp
   obtain⟨e,nn,ne,nf,d⟩:=I2.pin p hp
   have iI:=Pc e
   refine⟨old _ _ e,by rw[aw (PL iI)];exact nn,PL (QW iI y6),fun z=>?_,d⟩
   rcases O6.mp (I2.stkSub p.1 z) with q | q
   ·exact ne q
   ·exact nf q
  ·show (PV (max n 1) none++σ).length=(tn++dj tn X.N).length
   rw[O8,O8,R4,hn,show (dj tn X.N).length=X.N.length from by simp[dj],I2.len]
 have loop:∀s₃:O0,s₃={s₂ with heap:=h₁,toks:=s₂.toks+([]:List (Str×Value)).length}->
  Ts (model X.prog X.w) X.A (.compLoop (.ListComp elt [⟨tg,iter,ifs,0⟩] scope pos) 0 (.ref ia) (.ref s₂.heap.objs.size) (compEnvC scope cl HL.objs.size X.env))
   (RR (.ref s₂.heap.objs.size) HL.objs.size) s₃:=by
  intro s₃ N0
  have Aw:X'.env=compEnvC scope cl HL.objs.size X.env:=by subst uv;rfl
  have hA:X'.A=X.A:=by subst uv;rfl
  have hP:X'.prog=X.prog:=by subst uv;rfl
  have hw:X'.w=X.w:=by subst uv;rfl
  have hK:X'.K=X.K:=by subst uv;rfl
  have Of:X'.xe=fun _ _=>False:=by subst uv;rfl
  have Ey:X'.calm=true:=by subst uv;exact hc
  have Nn:X'.fs=ng X.stack:=by subst uv;rfl
  have hex:X'.ex=fp:=by subst uv;rfl
  have M5:X'.H₀=H2:=by subst uv;rfl
  have Mk:X'.s₀=s₂:=by subst uv;rfl
  have pass:∀{α:Type}{t:Sem α}{P:α->O0->Prop}{E':Value->O0->Prop}{s:O0},wpAny (model X'.prog X'.w) X'.A t P X'.xe s->wpAny (model X.prog X.w) X.A t P E' s:=fun {α t P E' s} h=>by
   rw[hP,hw,hA,Of] at h
   exact Qf h (fun _ _ q=>q) fun _ _ q=>q.elim
  refine yW (fun m s'=>∃(i:Nat) (F' H':Hp) (vs:List V) (ys:List D) (σt:St),m=ds.length - i/\i<=ds.length/\σt.length=max n 1/\Inv X' [] (σt++σ) H' s'/\MJ i s'.heap/\(∀b∈fp,H' b=none)/\Ext F2 H2 F' H'/\
   H' s₂.heap.objs.size=some (.lst vs)/\F' s₂.heap.objs.size=none/\DenL X.K F' ys vs/\di (iA n δt δe Z) ds=(di (iA n δt δe Z) (ds.drop i)>>=fun r=>ab (ys++r))) ?_ ds.length ?_
  ·rintro m s' ⟨i,F',H',vs,ys,σt,rfl,KA,Oi,I',pG,LQ,we,hD,fD,JY,heq⟩
   by_cases iI:i<ds.length
   ·
    obtain⟨d,hd⟩:∃d,ds[i]? =some d:=⟨_,OY iI⟩
    obtain⟨FG,wu⟩:=(Mr F' H' i we.ff we.fh).1 d hd
    obtain⟨o,ho,Ia⟩:=v8 hd heq hR
    have K7:ys.length<=lim:=by
     rw[heq] at hR
     obtain⟨r,_,hr⟩:=c_ hR
     rw[<-er hr,O8] at L1
     omega
    obtain⟨ts,N5,ho⟩:=c_ ho
    refine pass ?_
    rw[hP,hw]
    refine b7 (T.item X' hP hw hK Ey i [] s' (σt++σ) H' X'.xe I' (Fv LQ) pG FG) ?_
    rintro r s1 ⟨u,rfl,h1⟩
    refine pass ?_
    rw[hP,hw]
    refine b7 h1 ?_
    rintro _ s2 ⟨x,H3,I3,rx,y3,Hs,JN⟩
    obtain⟨F3,xT,q3⟩:=wu x H3 y3
    have LY:H3 s₂.heap.objs.size=some (.lst vs):=xT.hh _ _ hD
    have MW:F3 s₂.heap.objs.size=none:=by rw[xT.old hD (fun _ z=>nomatch z)];exact fD
    have I3':=I3.pinned (Fv JN) (T.obj _ _ Hs)
    have ye:∀{σ7:St}{H7:Hp}{s7:O0},Inv X' ([]++pb fp s2.heap) σ7 H7 s7->MJ (i+1) s7.heap/\∀b∈fp,H7 b=none:=fun {σ7 H7 s7} I7=>
     ⟨T.keep _ _ _ Hs fun b hb o e=>(I7.pin (b,o) (PO _ (PO _ (g_ hb e)))).1,fun b hb=>by
      obtain⟨o,e,_⟩:=T.obj _ _ Hs b hb
      exact(I7.pin (b,o) (PO _ (PO _ (g_ hb e)))).2.1⟩
    have Nu:z6 X' tg n σ:=by subst uv;exact hg _ _ _ _ _ _ _
    have N1:ll X' ifs δt:=by subst uv;exact ht _ _ _ _ _ _
    have Nk:PD X' (fun _ _=>False) elt δe:=by subst uv;exact he _ _ _ _ _ _
    refine pass ?_
    rw[<-Aw]
    refine b7 (Nu _ s2 (σt++σ) F3 H3 d ts x u I3' xT.fh (by rw[<-Oi];simp) rx (by rw[hK];exact q3) N5) ?_
    rintro _ s4 ⟨vt,I4,dt⟩
    rw[hK] at dt
    have S4:StE X.K F3 H3 (vt.map some++σ) (ts.map (fun t=>some (Sl.fz t))++Z):=StE.cons ((S.ext e2).ext (we.trans xT)) dt
    obtain⟨b,hb,ho⟩:=c_ ho
    refine pass ?_
    try rw[<-Aw]
    refine b7 (N1 _ s4 _ H3 (fun b' H5=>b'=b/\∃F5,Ext F3 H3 F5 H5) I4 ⟨F3,_,by rw[hK];exact S4,by rw[hb];exact WPB.take⟩) ?_
    rintro b' s5 ⟨H5,I5,rfl,F5,Fs⟩
    have Kn:H5 s₂.heap.objs.size=some (.lst vs):=Fs.hh _ _ LY
    have LN:F5 s₂.heap.objs.size=none:=by rw[Fs.old LY (fun _ z=>nomatch z)];exact MW
    cases b' with
    |false=>
     rw[if_neg Pk] at ho⊢
     obtain rfl:=er ho
     refine⟨ds.length - (i+1),by omega,i+1,F5,H5,vs,ys,vt.map some,rfl,iI,?_,I5.unpinned,(ye I5).1,(ye I5).2,we.trans (xT.trans Fs),Kn,LN,DenL.mono (xT.trans Fs).ff JY,Ia⟩
     have h1:=I5.len
     have h2:=I3.len
     rw[O8] at h1 h2
     omega
    |true=>
     rw[if_pos rfl] at ho⊢
     obtain⟨yv,hy,ho⟩:=c_ ho
     obtain rfl:=er ho
     refine pass ?_
     try rw[<-Aw]
     refine b7 (Nk _ s5 _ H5 (fun v H6=>∃F6,Ext F5 H5 F6 H6/\Den X.K F6 yv v) I5 ⟨F5,_,by rw[hK];exact S4.ext Fs,by rw[hy,hK];exact WP.take⟩) ?_
     rintro xv s6 ⟨v,H6,I6,rv,F6,JM,qv⟩
     have M4:H6 s₂.heap.objs.size=some (.lst vs):=JM.hh _ _ Kn
     have LO:F6 s₂.heap.objs.size=none:=by rw[JM.old Kn (fun _ z=>nomatch z)];exact LN
     have N9:vs.length<Pe:=by
      have:=JY.len
      have:=dg
      omega
     refine pass ?_
     refine b7 (qR _ s6 _ H6 (.ref s₂.heap.objs.size) [v] (.ref s₂.heap.objs.size) [xv] (fun _ H7=>H7=upd H6 s₂.heap.objs.size (.lst (vs++[v]))) I6 rfl (.cons rv .nil) ⟨_,vs,v,rfl,rfl,M4,N9,rfl⟩) ?_
     rintro _ s7 ⟨_,H7,I7,_,rfl⟩
     have MV:Ext F2 H2 F6 (upd H6 s₂.heap.objs.size (.lst (vs++[v]))):=by
      have e:=we.trans (xT.trans (Fs.trans JM))
      refine⟨fun b u q=>?_,e.ff,fun b u q=>?_,e.new⟩
      ·rw[aw (Lf b u q)];exact e.hh b u q
      ·rw[aw (fun z=>by rw[z,LO] at q;cases q)];exact e.fh b u q
     refine⟨ds.length - (i+1),by omega,i+1,F6,_,vs++[v],ys++[yv],vt.map some,rfl,iI,?_,I7.unpinned,(ye I7).1,(ye I7).2,MV,aD,LO,
      DenL.append (DenL.mono (xT.trans (Fs.trans JM)).ff JY) (.cons qv .nil),Ia⟩
     have h1:=I5.len
     have h2:=I3.len
     rw[O8] at h1 h2
     omega
   ·
    have hi:i=ds.length:=by omega
    subst hi
    rw[RU] at heq
    have M_:R=ys:=by
     rw[heq] at hR
     have hR:ab (ys++[])=ab R:=hR
     rw[<-er hR,Qj]
    subst M_
    refine pass ?_
    rw[hP,hw]
    refine b7 (T.done X' hP hw hK Ey ds.length [] s' (σt++σ) H' X'.xe I' (Fv LQ) pG ((Mr F' H' ds.length we.ff we.fh).2 (O9 _))) ?_
    rintro r s1 ⟨rfl,I1⟩
    obtain⟨m,hm,_⟩:=I1.loc
    rw[Aw] at hm
    have M3:H' HL.objs.size=none:=by
     have:=I1.free
     rw[Aw] at this
     exact this
    have u:=I1.base
    rw[Nn,hex,M5,Mk] at u
    have KY:s1.os=s₂.os:=by have:=I1.os;rw[Mk] at this;exact this
    have Ig:=I1.hok
    rw[hP,hw] at Ig
    refine M9 s1 HL.objs.size s₂.heap.objs.size H' (I2.call' (s':=s1) (ch:=fp) KY u Ig I1.bare (fun b hb=>⟨(f2 b hb).2.2.2.1,(f2 b hb).2.1,(f2 b hb).2.2.2.2.1,(f2 b hb).2.2.2.2.2⟩)) ?_
     ⟨⟨m,hm⟩,M3,R9 (QW I2.lt y6),PM I2.sz (QI y6),fun x c q z=>?_,fun p hp z=>?_⟩
    rotate_left
    ·obtain⟨v,q'⟩:=I2.cell x c q
     exact absurd (QW q'.lt y6) (by rw[z];exact Qb _)
    ·exact absurd (QW (Pc (I2.pin p hp).1) y6) (by rw[z];exact Qb _)
    refine WP.fin w2 (F':=upd F' s₂.heap.objs.size (.lst vs)) ⟨we.hh,fun b u q=>?_,fun b u q=>?_,fun a ha=>?_⟩ ⟨_,vs,rfl,aD,DenL.mono (fun b u q=>?_) JY,L1⟩
    ·rw[aw (fun z=>by have:=we.ff b u q;rw[z,fD] at this;cases this)];exact we.ff b u q
    ·by_cases z:b=s₂.heap.objs.size
     ·rw[z,aD] at q;rw[z,hD];exact q
     ·rw[aw z] at q;exact we.fh b u q
    ·rcases we.new a ha with q | q
     ·exact .inl (by rw[aw (fun z=>ha (by rw[z];exact nD))];exact q)
     ·exact .inr q
    ·rw[aw (fun z=>by rw[z,fD] at q;cases q)];exact q
  ·rw[N0]
   refine⟨0,F2,_,[],[],PV (max n 1) none,by simp,PB _,by simp,I0,T.keep _ _ _ xn (fun b hb o e=>old b o e),fun b hb=>?_,⟨fun b u q=>?_,Same.refl _,fun b u q=>?_,fun _ _=> .inl rfl⟩,aD,Same.free e2.fh nD,rfl,?_⟩
   ·rw[aw (PL (fl b hb))];exact(f2 b hb).1
   ·rw[aw (Lf b u q)];exact q
   ·rw[aw (Lf b u (e2.fh b u q))];exact e2.fh b u q
   ·rw[List.drop_zero]
    rcases(di (iA n δt δe Z) ds).cs with hq | ⟨m,hq⟩ | ⟨R,hq⟩<;>rw[hq]<;>rfl
 exact codeAny_compStart_list (loop _ rfl) (T.self X.A 0 _ _ _ (T.keep _ _ _ xn (fun b hb o e=>old b o e)) (loop _ rfl))
def Inv.block{X:Cx}{pins:List (Addr×Obj)}{σ:St}{H':Hp}{s1:O0}{C:Addr}{h':Heap}(I:Inv X pins σ H' s1)(b:BlockEnd X pins C H' s1)(IC:QV C s1.heap h'):Inv X pins σ H' {s1 with heap:=h'}:=
 I.turned (t':=s1.toks) (fun a o ha e=>(IC.2 a ha).trans e) b.free b.nl (.inr b.nw) b.nc b.np
section
variable{X:Cx}{Xw:Nat->Hp->Prop}{elt iter tg:Expr}{ifs:List Expr}{scope:Scope}{pos:Pos}{tn:List Str}{n:Nat}{δi:DA}{δt:DT}{δe:DE}
def ek(sc:CompSc X scope tn)(hn:tn.length=max n 1)(hc:X.calm=true)(hi:vN X Xw tg iter δi)
 (hg:∀pins cl C fp s₂ H σ,z6 (jE X scope tn pins cl C fp s₂ H) tg n σ)
 (ht:∀pins cl C fp s₂ H,ll (jE X scope tn pins cl C fp s₂ H) ifs δt)
 (he:∀pins cl C fp s₂ H,PD (jE X scope tn pins cl C fp s₂ H) (fun _ _=>False) elt δe)
 (hs:∀x,QP iter X.env x=pure x:=by intro _;rfl):
 PD X Xw (.ListComp elt [⟨tg,iter,ifs,0⟩] scope pos) (bB n δi δt δe):=by
 intro pins s σ H Q I ⟨F,Z,S,w⟩
 obtain⟨cl,AL,Ak,Hk⟩:=nQ (scope:=scope) (env:=X.env) fun y hy hf=>I.ok.has y.1 (sc.frees y hy hf)
 rw[eval_ListComp]
 refine TM (use:=none) rfl hs AL sc.kind sc.names (t9 (RR:=fun acc C=>compPost (model X.prog X.w) X.A X.xe none (EP X pins σ Q) acc C) sc hn hc hi hg ht he I S w Ak Hk fun s1 C D H' I1 q b=>?_)
 obtain⟨m,hm⟩:=b.ns
 exact⟨m,hm,fun h' IC=>⟨.ref D,H',Inv.block I1 b IC,rfl,q⟩⟩
end
inductive Out where
 |nx (Z:aP) | rt (d:D)
abbrev DS:=aP->M Out
structure StOk (K:O2) (F₀ H₀ F H:Hp) (σ:St) (Z:aP):Prop where
 ext:Ext F₀ H₀ F H
 st:StE K F H σ Z
 len:Z.length=σ.length
 own:∀(i:Nat) (c:C) (a:Addr),Z[i]? =some (some (.ow c))->σ[i]? =some (some (.ref a))->H₀ a=none
 sep:∀(i j:Nat) (c c':C) (a:Addr),Z[i]? =some (some (.ow c))->Z[j]? =some (some (.ow c'))->σ[i]? =some (some (.ref a))->σ[j]? =some (some (.ref a))->i=j
def WPS(K:O2)(Xw:Nat->Hp->Prop)(F₀ H₀:Hp)(m:M Out)(Dn:Ends):Prop:=
 match m with
 |none=>False
 |some (.ok (.nx Z))=>∀σ F H,StOk K F₀ H₀ F H σ Z->Dn.nx σ H
 |some (.ok (.rt d))=>∀v F H,Ext F₀ H₀ F H->Den K F d v->Dn.rt v H
 |some (.ex n)=>∀F H,Ext F₀ H₀ F H->Xw n H
def tS(K:O2)(Xw:Nat->Hp->Prop)(F₀ H₀:Hp)(τ:DS):TS:=fun Dn σ H=>∃F Z,StOk K F₀ H₀ F H σ Z/\WPS K Xw F₀ H₀ (τ Z) Dn
def ki(X:Cx)(Xw:Nat->Hp->Prop)(st:Stmt)(τ:DS):Prop:=∀F₀ H₀,PS X st (tS X.K Xw F₀ H₀ τ)
def PSDs(X:Cx)(Xw:Nat->Hp->Prop)(st:List Stmt)(τ:DS):Prop:=∀F₀ H₀,PSs X st (tS X.K Xw F₀ H₀ τ)
def PS.weak{X:Cx}{st:Stmt}{t t':TS}(h:PS X st t)(k:∀D σ H,t' D σ H->t D σ H):PS X st t':=fun pins s σ H D I w=>h pins s σ H D I (k D σ H w)
def PSs.weak{X:Cx}{st:List Stmt}{t t':TS}(h:PSs X st t)(k:∀D σ H,t' D σ H->t D σ H):PSs X st t':=fun pins s σ H D I w=>h pins s σ H D I (k D σ H w)
section
variable{K:O2}{F₀ H₀ F H F' H':Hp}{σ:St}{Z:aP}
def StOk.ext'(s:StOk K F₀ H₀ F H σ Z)(e:Ext F H F' H'):StOk K F₀ H₀ F' H' σ Z:=⟨s.ext.trans e,s.st.ext e,s.len,s.own,s.sep⟩
def StOk.set(s:StOk K F₀ H₀ F H σ Z){i:Nat}{d:D}{v:V}(h:Den K F d v):StOk K F₀ H₀ F H (σ.set i (some v)) (Z.set i (some (.fz d))):=by
 have hl:=s.len
 have get:∀(j:Nat) (sl:Sl),(Z.set i (some (.fz d)))[j]? =some (some sl)->(j=i/\i<Z.length/\sl= .fz d)\/(j≠i/\Z[j]? =some (some sl)):=fun j sl e=>by
  by_cases hj:j=i
  ·subst hj
   have hi:j<Z.length:=by
    have:=(OZ.mp e).1
    simpa using this
   rw[Pa hi] at e
   cases e
   exact .inl ⟨rfl,hi,rfl⟩
  ·rw[O1 (PX hj)] at e
   exact .inr ⟨hj,e⟩
 refine⟨s.ext,⟨s.st.fh,fun j sl e=>?_⟩,by simp[hl],fun j c a e e'=>?_,fun j k c c' a e1 e2 e3 e4=>?_⟩
 ·rcases get j sl e with⟨rfl,hi,rfl⟩ | ⟨hj,e⟩
  ·exact⟨v,by rw[Pa (by omega)],h⟩
  ·obtain⟨u,h1,h2⟩:=s.st.den j sl e
   exact⟨u,by rw[O1 (PX hj)];exact h1,h2⟩
 ·rcases get j _ e with⟨_,_,z⟩ | ⟨hj,e⟩
  ·cases z
  ·rw[O1 (PX hj)] at e'
   exact s.own j c a e e'
 ·rcases get j _ e1 with⟨_,_,z⟩ | ⟨hj,e1⟩
  ·cases z
  ·rcases get k _ e2 with⟨_,_,z⟩ | ⟨hk,e2⟩
   ·cases z
   ·rw[O1 (PX hj)] at e3
    rw[O1 (PX hk)] at e4
    exact s.sep j k c c' a e1 e2 e3 e4
def StOk.setNew(s:StOk K F₀ H₀ F H σ Z){i:Nat}{a:Addr}{o:HO}{c₀:C}(n:H a=none)(h:DenC K F c₀ o):
 StOk K F₀ H₀ F (upd H a o) (σ.set i (some (.ref a))) (Z.set i (some (.ow c₀))):=by
 have hle:=s.len
 have e0:=Ext.free (o:=o) s.st.fh n
 have nF:F a=none:=Same.free s.st.fh n
 have get:∀(j:Nat) (sl:Sl),(Z.set i (some (.ow c₀)))[j]? =some (some sl)->(j=i/\i<Z.length/\sl= .ow c₀)\/(j≠i/\Z[j]? =some (some sl)):=fun j sl e=>by
  by_cases hj:j=i
  ·subst hj
   have hi:j<Z.length:=by
    have:=(OZ.mp e).1
    simpa using this
   rw[Pa hi] at e
   cases e
   exact .inl ⟨rfl,hi,rfl⟩
  ·rw[O1 (PX hj)] at e
   exact .inr ⟨hj,e⟩
 have old:∀(j:Nat) (c:C) (b:Addr),Z[j]? =some (some (.ow c))->σ[j]? =some (some (.ref b))->b≠a:=fun j c b e e' z=>by
  obtain⟨u,h1,b',o,h2,h3,_⟩:=s.st.den j _ e
  rw[h1] at e'
  cases e'
  cases h2
  rw[z,n] at h3
  cases h3
 refine⟨s.ext.trans e0,⟨e0.fh,fun j sl e=>?_⟩,by simp[hle],fun j c b e e'=>?_,fun j k c c' b e1 e2 e3 e4=>?_⟩
 ·rcases get j sl e with⟨rfl,hi,rfl⟩ | ⟨hj,e⟩
  ·exact⟨.ref a,by rw[Pa (by omega)],a,_,rfl,aD,nF,h⟩
  ·obtain⟨u,h1,h2⟩:=s.st.den j sl e
   exact⟨u,by rw[O1 (PX hj)];exact h1,h2.ext e0⟩
 ·rcases get j _ e with⟨rfl,hi,_⟩ | ⟨hj,e⟩
  ·rw[Pa (by omega)] at e'
   cases e'
   exact Same.free s.ext.hh n
  ·rw[O1 (PX hj)] at e'
   exact s.own j c b e e'
 ·rcases get j _ e1 with⟨rfl,hi,_⟩ | ⟨hj,e1⟩
  ·rw[Pa (by omega)] at e3
   cases e3
   rcases get k _ e2 with⟨rfl,_,_⟩ | ⟨hk,e2⟩
   ·rfl
   ·rw[O1 (PX hk)] at e4
    exact absurd rfl (old k c' a e2 e4)
  ·rcases get k _ e2 with⟨KJ,hi,_⟩ | ⟨hk,e2⟩
   ·rw[KJ,Pa (by omega)] at e4
    cases e4
    rw[O1 (PX hj)] at e3
    exact absurd rfl (old j c a (by assumption) e3)
   ·rw[O1 (PX hj)] at e3
    rw[O1 (PX hk)] at e4
    exact s.sep j k c c' b e1 e2 e3 e4
def StOk.chg(s:StOk K F₀ H₀ F H σ Z){i:Nat}{a:Addr}{c c₀:C}{o₀:HO}(hi:Z[i]? =some (some (.ow c)))(ha:σ[i]? =some (some (.ref a)))(h:DenC K F c₀ o₀):
 StOk K F₀ H₀ F (upd H a o₀) σ (Z.set i (some (.ow c₀))):=by
 have hle:=s.len
 have h0:=s.own i c a hi ha
 obtain⟨u,q1,a',o,q2,q3,q4,q5⟩:=s.st.den i _ hi
 rw[ha] at q1
 cases q1
 cases q2
 have Kz:i<Z.length:=(OZ.mp hi).1
 have get:∀(j:Nat) (sl:Sl),(Z.set i (some (.ow c₀)))[j]? =some (some sl)->(j=i/\sl= .ow c₀)\/(j≠i/\Z[j]? =some (some sl)):=fun j sl e=>by
  by_cases hj:j=i
  ·subst hj
   rw[Pa Kz] at e
   cases e
   exact .inl ⟨rfl,rfl⟩
  ·rw[O1 (PX hj)] at e
   exact .inr ⟨hj,e⟩
 have fh:Same F (upd H a o₀):=fun b o e=>by
  rw[aw (fun z=>by rw[z,q4] at e;cases e)];exact s.st.fh b o e
 refine⟨⟨fun b o e=>?_,s.ext.ff,fh,s.ext.new⟩,⟨fh,fun j sl e=>?_⟩,by simp[hle],fun j c' b e e'=>?_,fun j k c1 c2 b e1 e2 e3 e4=>?_⟩
 ·rw[aw (fun z=>by rw[z,h0] at e;cases e)];exact s.ext.hh b o e
 ·rcases get j sl e with⟨rfl,rfl⟩ | ⟨hj,e⟩
  ·exact⟨.ref a,ha,a,_,rfl,aD,q4,h⟩
  ·obtain⟨u,h1,h2⟩:=s.st.den j sl e
   refine⟨u,h1,?_⟩
   cases sl with
   |fz d=>exact h2
   |ow c'=>
    obtain⟨b,o',r1,r2,r3,r4⟩:=h2
    refine⟨b,o',r1,?_,r3,r4⟩
    rw[aw (fun z=>hj (s.sep j i c' c a e hi (by rw[h1,r1,z]) ha))];exact r2
 ·rcases get j _ e with⟨rfl,_⟩ | ⟨hj,e⟩
  ·rw[ha] at e';cases e';exact h0
  ·exact s.own j c' b e e'
 ·have k1:∃c,Z[j]? =some (some (.ow c)):=by
   rcases get j _ e1 with⟨rfl,_⟩ | ⟨_,e⟩
   ·exact⟨c,hi⟩
   ·exact⟨_,e⟩
  have k2:∃c,Z[k]? =some (some (.ow c)):=by
   rcases get k _ e2 with⟨rfl,_⟩ | ⟨_,e⟩
   ·exact⟨c,hi⟩
   ·exact⟨_,e⟩
  obtain⟨_,k1⟩:=k1
  obtain⟨_,k2⟩:=k2
  exact s.sep j k _ _ b k1 k2 e3 e4
def frz(i:Nat)(Z:aP):aP:=match Z[i]? with
 |some (some (.ow c))=>Z.set i (some (.fz c.d))
 |_=>Z
def StOk.frz(s:StOk K F₀ H₀ F H σ Z)(i:Nat)(obj:Addr->Obj):(∃a o,H a=some o/\DenC K F (Z[i]?.elim (.lst []) fun x=>x.elim (.lst []) fun y=>match y with | .ow c=>c | _=> .lst []) o/\σ[i]? =some (some (.ref a))/\StOk K F₀ H₀ (upd F a (mU (obj a) o)) (upd H a (mU (obj a) o)) σ (frz i Z))\/frz i Z=Z:=by
 unfold L3.frz
 split
 ·rename_i c₀ hi
  have hle:=s.len
  obtain⟨u,ha,a,o,rfl,q3,q4,FD⟩:=s.st.den i _ hi
  refine .inl ⟨a,o,q3,by rw[hi];exact FD,ha,?_⟩
  have h0:=s.own i _ a hi ha
  have Kz:i<Z.length:=(OZ.mp hi).1
  have ff:Same F (upd F a (mU (obj a) o)):=fun b o e=>by rw[aw (fun z=>by rw[z,q4] at e;cases e)];exact e
  have fh:Same (upd F a (mU (obj a) o)) (upd H a (mU (obj a) o)):=fun b o e=>by
   by_cases z:b=a
   ·rw[z,aD] at e⊢;exact e
   ·rw[aw z] at e⊢;exact s.st.fh b o e
  have get:∀(j:Nat) (sl:Sl),(Z.set i (some (.fz c₀.d)))[j]? =some (some sl)->(j=i/\sl= .fz c₀.d)\/(j≠i/\Z[j]? =some (some sl)):=fun j sl e=>by
   by_cases hj:j=i
   ·subst hj
    rw[Pa Kz] at e
    cases e
    exact .inl ⟨rfl,rfl⟩
   ·rw[O1 (PX hj)] at e
    exact .inr ⟨hj,e⟩
  refine⟨⟨fun b u q=>?_,s.ext.ff.trans ff,fh,fun b hb=>?_⟩,⟨fh,fun j sl e=>?_⟩,by simp[hle],fun j c' b e e'=>?_,fun j k c1 c2 b e1 e2 e3 e4=>?_⟩
  ·rw[aw (fun z=>by rw[z,h0] at q;cases q)];exact s.ext.hh b u q
  ·rcases s.ext.new b hb with q | q
   ·exact .inl (by rw[aw (fun z=>hb (by rw[z];exact h0))];exact q)
   ·exact .inr q
  ·rcases get j sl e with⟨rfl,rfl⟩ | ⟨hj,e⟩
   ·exact⟨.ref a,ha,DenC.den FD ff aD⟩
   ·obtain⟨u,h1,h2⟩:=s.st.den j sl e
    refine⟨u,h1,?_⟩
    cases sl with
    |fz d=>exact Den.mono ff h2
    |ow c'=>
     obtain⟨b,o',r1,r2,r3,r4⟩:=h2
     have gX:b≠a:=fun z=>hj (s.sep j i c' _ a e hi (by rw[h1,r1,z]) ha)
     exact⟨b,o',r1,by rw[aw gX];exact r2,by rw[aw gX];exact r3,DenC.mono ff r4⟩
  ·rcases get j _ e with⟨_,z⟩ | ⟨hj,e⟩
   ·cases z
   ·exact s.own j c' b e e'
  ·rcases get j _ e1 with⟨_,z⟩ | ⟨_,e1⟩
   ·cases z
   ·rcases get k _ e2 with⟨_,z⟩ | ⟨_,e2⟩
    ·cases z
    ·exact s.sep j k _ _ b e1 e2 e3 e4
 ·exact .inr rfl
end
def join(F H:Hp):Hp:=fun a=>match F a with
 |some o=>some o
 |none=>H a
def StOk.rebase{K:O2}{F₀ H₀ F H:Hp}{σ:St}{Z:aP}(s:StOk K F₀ H₀ F H σ Z):StOk K F (join F H₀) F H σ Z/\∀F' H',Ext F (join F H₀) F' H'->Ext F₀ H₀ F' H':=by
 have hj:Same (join F H₀) H:=fun b o e=>by
  unfold join at e
  cases q:F b with
  |some u=>rw[q] at e;cases e;exact s.st.fh b _ q
  |none=>rw[q] at e;exact s.ext.hh b o e
 have h0:Same H₀ (join F H₀):=fun b o e=>by
  unfold join
  cases q:F b with
  |some u=>
   have h1:=s.st.fh b u q
   rw[s.ext.hh b o e] at h1
   exact h1.symm
  |none=>exact e
 refine⟨⟨⟨hj,Same.refl _,s.st.fh,fun _ _=> .inl rfl⟩,s.st,s.len,fun i c a e e'=>?_,s.sep⟩,fun F' H' x=>⟨h0.trans x.hh,s.ext.ff.trans x.ff,x.fh,fun a ha=>?_⟩⟩
 ·have h1:=s.own i c a e e'
  obtain⟨v,q1,a',o,q2,q3,q4,_⟩:=s.st.den i _ e
  rw[e'] at q1
  cases q1
  cases q2
  unfold join
  rw[q4]
  exact h1
 ·have:join F H₀ a≠none:=by
   cases q:H₀ a with
   |none=>exact absurd q ha
   |some o=>rw[h0 a o q];exact fun z=>nomatch z
  rcases s.ext.new a ha with p | p
  ·rcases x.new a this with q | ⟨ts,q⟩
   ·exact .inl (q.trans p)
   ·cases z:H₀ a with
    |none=>exact absurd z ha
    |some o=>
     rw[h0 a o z] at q
     exact .inr ⟨ts,q⟩
  ·exact .inr p
def StOk.unbase{K:O2}{F₀ H₀ F U F' H':Hp}{σ:St}{Z:aP}(k:∀F' H',Ext F U F' H'->Ext F₀ H₀ F' H')(s:StOk K F U F' H' σ Z)(h:Same H₀ U):StOk K F₀ H₀ F' H' σ Z:=
 ⟨k _ _ s.ext,s.st,s.len,fun i c a e e'=>Same.free h (s.own i c a e e'),s.sep⟩
def zc{K:O2}{F₀ H₀ F H:Hp}{σ:St}{Z:aP}(s:StOk K F₀ H₀ F H σ Z):Same H₀ (join F H₀):=fun b o e=>by
 unfold join
 cases q:F b with
 |some u=>
  have h1:=s.st.fh b u q
  rw[s.ext.hh b o e] at h1
  exact h1.symm
 |none=>exact e
def Inv.refrz{X:Cx}{pins:List (Addr×Obj)}{σ:St}{H:Hp}{s:O0}{a:Addr}{o o':HO}(I:Inv X pins σ H s)(e:H a=some o)
 (ho:o'=o\/∃u,o'= .frz ((s.heap.get? a).getD {cls:= .none,data:= .fields #[]}) u/\((∃k,o= .dT k/\u= .dT k)\/∃k,o= .dK k/\u= .dK k)):Inv X pins σ (upd H a o') s:=by
 rcases ho with rfl | ⟨u,rfl,hu⟩
 ·have:upd H a o'=H:=by
   funext b
   by_cases z:b=a
   ·rw[z,aD,e]
   ·rw[aw z]
  rw[this];exact I
 have NR:o=u:=by rcases hu with⟨k,h1,h2⟩ | ⟨k,h1,h2⟩<;>rw[h1,h2]
 subst NR
 have nt:∀ts,o≠ .tup ts:=fun ts z=>by rcases hu with⟨k,h1,_⟩ | ⟨k,h1,_⟩<;>rw[h1] at z<;>cases z
 have nf:∀ob v,o≠ .frz ob v:=fun ob v z=>by rcases hu with⟨k,h1,_⟩ | ⟨k,h1,_⟩<;>rw[h1] at z<;>cases z
 have nb:∀p,o≠ .tbl p:=fun p z=>by rcases hu with⟨k,h1,_⟩ | ⟨k,h1,_⟩<;>rw[h1] at z<;>cases z
 have no:∀p,o≠ .own p:=fun p z=>by rcases hu with⟨k,h1,_⟩ | ⟨k,h1,_⟩<;>rw[h1] at z<;>cases z
 have ne:∀b,H b=none->b≠a:=fun b hb z=>by rw[z,e] at hb;cases hb
 have hk:=I.hok a o e
 have iI:=hk.lt
 obtain⟨ob,FQ⟩:∃ob,s.heap.get? a=some ob:=by
  rcases hu with⟨k,h1,_⟩ | ⟨k,h1,_⟩
  ·subst h1;obtain⟨_,_,_,_,ob,_,_,q,_⟩:=hk;exact⟨ob,q⟩
  ·subst h1;obtain⟨_,_,_,_,ob,_,_,q,_⟩:=hk;exact⟨ob,q⟩
 rw[FQ]
 refine⟨I.ok,I.os,I.bare,⟨I.base.keep,I.base.slot,fun b q h1 h2 h3=>?_,I.base.there,fun b xs q=>?_,fun b q1 v q=>?_,fun b ps q=>?_⟩,I.loc,I.cell,?_,fun x c q=>?_,fun p hp=>?_,fun b v q=>?_,I.len⟩
 ·have:=I.base.free b q h1 h2 h3
  rw[aw (ne b this)];exact this
 ·have:=I.base.tups b xs q
  rw[aw (fun z=>by rw[z,e] at this;exact nt xs (Pg this))];exact this
 ·have:=I.base.frzs b q1 v q
  rw[aw (fun z=>by rw[z,e] at this;exact nf _ _ (Pg this))];exact this
 ·obtain⟨m,this⟩:=I.base.tbls b ps q
  exact⟨m,by rw[aw (fun z=>by rw[z,e] at this;exact nb _ (Pg this))];exact this⟩
 ·rw[aw (ne _ I.free)];exact I.free
 ·rw[aw (ne _ (I.freeC x c q))];exact I.freeC x c q
 ·obtain⟨h1,h2,h3⟩:=I.pin p hp
  exact⟨h1,by rw[aw (ne _ h2)];exact h2,h3⟩
 ·have st:∀{c:Addr}{v:HO},ObjOk X.prog X.w H s.heap c v->ObjOk X.prog X.w (upd H a (.frz ob o)) s.heap c v:=fun {c v} k=>k.stay (fun _ _ _ q=>q)
   (fun c' q=>by rw[aw (fun z=>by rw[z,e] at q;exact no _ (Pg q))];exact q) fun c' xs q=>by rw[aw (fun z=>by rw[z,e] at q;exact nt _ (Pg q))];exact q
  by_cases z:b=a
  ·subst z
   rw[show (some ob).getD _=ob from rfl,aD] at q
   cases q
   exact⟨FQ,st hk⟩
  ·rw[aw z] at q
   exact st (I.hok b v q)
def ay(a b:DS):DS:=fun Z=>a Z>>=fun o=>match o with | .nx Z'=>b Z' | .rt d=>ab (.rt d)
def bY:DS:=fun Z=>ab (.nx Z)
def aX(δ:DE):DS:=fun Z=>δ Z>>=fun d=>ab (.rt d)
def fM(δ:DE):DS:=fun Z=>δ Z>>=fun _=>ab (.nx Z)
def bg(i:Nat)(δ:DE):DS:=fun Z=>δ Z>>=fun d=>ab (.nx (Z.set i (some (.fz d))))
def fb(c:DT)(a b:DS):DS:=fun Z=>c Z>>=fun x=>if x then a Z else b Z
def tT(i:Nat)(a:DS):DS:=fun Z=>a (frz i Z)
def s_(i:Nat):DS:=fun Z=>ab (.nx (Z.set i (some (.ow (.lst [])))))
def zx(Z:aP)(i:Nat):Option (List D):=match Z[i]? with
 |some (some (.ow (.lst ds)))=>some ds
 |_=>none
def qW{Z:aP}{i:Nat}{ds:List D}(h:zx Z i=some ds):Z[i]? =some (some (.ow (.lst ds))):=by
 unfold zx at h
 split at h
 ·rename_i ds' e
  cases h
  exact e
 ·cases h
def i7(i:Nat)(δ:DE):DS:=fun Z=>match zx Z i with
 |some ds=>δ Z>>=fun d=>if ds.length<lim then ab (.nx (Z.set i (some (.ow (.lst (ds++[d])))))) else af
 |none=>af
def BX(i:Nat)(δ:DE):DS:=fun Z=>match zx Z i with
 |some ds=>δ Z>>=fun d=>lstM d>>=fun es=>if ds.length+es.length<=lim then ab (.nx (Z.set i (some (.ow (.lst (ds++es)))))) else af
 |none=>af
def forL(put:D->aP->Option aP)(body:DS):List D->DS
 |[],Z=>ab (.nx Z)
 |d::ds,Z=>(match put d Z with | none=>af | some Z1=>body Z1>>=fun o=>match o with | .nx Z2=>forL put body ds Z2 | .rt v=>ab (.rt v))
def putN(i:Nat):D->aP->Option aP:=fun d Z=>some (Z.set i (some (.fz d)))
def dq(put:D->aP->Option aP)(δi:DA)(body:DS):DS:=fun Z=>δi Z>>=fun ds=>forL put body ds Z
section
variable{X:Cx}{Xw:Nat->Hp->Prop}{F₀ H₀:Hp}{st:Stmt}{rest:List Stmt}{τ τ':DS}{e:Expr}{δ:DE}{pos:Pos}
def a6:PSDs X Xw [] bY:=fun F₀ H₀=>PSs.weak yz fun D σ H ⟨F,Z,s,w⟩=>w σ F H s
def ah(h1:ki X Xw st τ)(h2:PSDs X Xw rest τ'):PSDs X Xw (st::rest) (ay τ τ'):=fun F₀ H₀=>PSs.weak (va (h1 F₀ H₀) (h2 F₀ H₀)) fun D σ H ⟨F,Z,s,w⟩=>by
 refine⟨F,Z,s,?_⟩
 unfold ay at w
 match τ Z,w with
 |none,w=>exact w
 |some (.ok (.nx Z')),w=>exact fun σ' F' H' s'=>⟨F',Z',s',w⟩
 |some (.ok (.rt d)),w=>exact w
 |some (.ex n),w=>exact w
def ar(h1:ki X Xw st τ):PSDs X Xw [st] τ:=fun F₀ H₀=>nv (h1 F₀ H₀)
def cY{i:Nat}(h:ki X Xw st τ):ki X Xw st (tT i τ):=fun F₀ H₀ pins sh σ H D I ⟨F,Z,s,w⟩=>by
 rcases s.frz i (fun a=>(sh.heap.get? a).getD {cls:= .none,data:= .fields #[]}) with⟨a,o,ha,hc,hσ,s'⟩ | e
 ·refine h F₀ H₀ pins sh σ _ D (L3.Inv.refrz I ha ?_) ⟨_,_,s',w⟩
  generalize (Z[i]?.elim (C.lst []) fun x=>x.elim (.lst []) fun y=>match y with | .ow c=>c | _=> .lst [])=c at hc
  cases c with
  |lst ds=>obtain⟨vs,rfl,_⟩:=hc;exact .inl rfl
  |dct ks ds=>obtain⟨vs,rfl,_⟩:=hc;exact .inr ⟨_,rfl, .inl ⟨_,rfl,rfl⟩⟩
  |dci ks ds=>obtain⟨vs,rfl,_⟩:=hc;exact .inr ⟨_,rfl, .inr ⟨_,rfl,rfl⟩⟩
 ·exact h F₀ H₀ pins sh σ H D I ⟨F,Z,s,by unfold tT at w;rw[e] at w;exact w⟩
def aA(h:PD X Xw e δ):ki X Xw (.Return (some e) pos) (aX δ):=fun F₀ H₀=>PS.weak (GW h) fun D σ H ⟨F,Z,s,w⟩=>by
 refine⟨F,Z,s.st,?_⟩
 unfold aX at w
 match δ Z,w with
 |none,w=>exact w
 |some (.ok d),w=>exact fun v H' F' e' q=>w v F' H' (s.ext.trans e') q
 |some (.ex n),w=>exact fun F' H' e'=>w F' H' (s.ext.trans e')
def bR(h:PD X Xw e δ)(hs:RF e none pos.line X.env=pure false:=by rfl):ki X Xw (.Expr e pos) (fM δ):=fun F₀ H₀=>PS.weak (nu h hs) fun D σ H ⟨F,Z,s,w⟩=>by
 refine⟨F,Z,s.st,?_⟩
 unfold fM at w
 match δ Z,w with
 |none,w=>exact w
 |some (.ok d),w=>exact fun v H' F' e' q=>w σ F' H' (s.ext' e')
 |some (.ex n),w=>exact fun F' H' e'=>w F' H' (s.ext.trans e')
def aE{i:Nat}{x:Str}{pos':Pos}(hN:X.N.Nodup)(hi:X.N[i]? =some x)(hx:Loc X.env.scope x)(he:PD X Xw e δ)(hf:X.fn x=true\/X.env.scope.names.lookup x=some .local:=by first | exact .inl rfl | exact .inr rfl)
 (hs:SI [.Name x pos'] e pos.line X.env=pure false:=by rfl):
 ki X Xw (.Assign [.Name x pos'] e pos) (bg i δ):=fun F₀ H₀=>PS.weak (lN he (a5 hN hi hx hf) hs) fun D σ H ⟨F,Z,s,w⟩=>by
 refine⟨F,Z,s.st,?_⟩
 unfold bg at w
 match δ Z,w with
 |none,w=>exact w
 |some (.ok d),w=>exact fun v H' F' e' q=>w _ F' H' ((s.ext' e').set q)
 |some (.ex n),w=>exact fun F' H' e'=>w F' H' (s.ext.trans e')
def u_{elt iter tg:Expr}{ifs:List Expr}{scope:Scope}{bc:Pos}{tn:List Str}{n:Nat}{δi:DA}{δt:DT}{δe:DE}{i:Nat}{x:Str}{pos':Pos}(hN:X.N.Nodup)(Ih:X.N[i]? =some x)(hx:Loc X.env.scope x)
 (sc:CompSc X scope tn)(hn:tn.length=max n 1)(hc:X.calm=true)(hi:vN X Xw tg iter δi)
 (hg:∀pins cl C fp s₂ H σ,z6 (jE X scope tn pins cl C fp s₂ H) tg n σ)
 (ht:∀pins cl C fp s₂ H,ll (jE X scope tn pins cl C fp s₂ H) ifs δt)
 (he:∀pins cl C fp s₂ H,PD (jE X scope tn pins cl C fp s₂ H) (fun _ _=>False) elt δe)
 (hf:X.fn x=true\/X.env.scope.names.lookup x=some .local:=by first | exact .inl rfl | exact .inr rfl)
 (NZ:RF (.ListComp elt [⟨tg,iter,ifs,0⟩] scope bc) (some (.Name x pos')) pos.line X.env=pure true:=by rfl)
 (hs:∀x,QP iter X.env x=pure x:=by intro _;rfl):
 ki X Xw (.Assign [.Name x pos'] (.ListComp elt [⟨tg,iter,ifs,0⟩] scope bc) pos) (bg i (bB n δi δt δe)):=fun F₀ H₀ pins s σ H D I ⟨F,Z,S,w⟩=>by
 obtain⟨cl,AL,Ak,Hk⟩:=nQ (scope:=scope) (env:=X.env) fun y hy hf=>I.ok.has y.1 (sc.frees y hy hf)
 have w':WP X.K Xw F H (bB n δi δt δe Z) (fun v H'=>D.nx (σ.set i (some v)) H'):=by
  have w:WPS X.K Xw F₀ H₀ (bB n δi δt δe Z>>=fun d=>ab (.nx (Z.set i (some (.fz d))))) D:=w
  match bB n δi δt δe Z,w with
  |none,w=>exact w
  |some (.ok d),w=>exact fun v H' F' e' q=>w _ F' H' ((S.ext' e').set q)
  |some (.ex n),w=>exact fun F' H' e'=>w F' H' (S.ext.trans e')
 rw[exec_Assign_Name_used _ _ _ _ NZ]
 refine OX (wpAny_standAt (OX ?_))
 show wpAny _ X.A (do let _<-comprehension (.ListComp elt [⟨tg,iter,ifs,0⟩] scope bc) scope X.env _ (newList []) false (eval iter X.env) (some (assign (.Name x pos') X.env))) _ _ s
 refine OX (Qf (TM (use:=some (assign (.Name x pos') X.env)) (Q:=fun _ s'=>SP X pins D .next s') rfl hs AL sc.kind sc.names
  (t9 (RR:=fun acc C=>compPost (model X.prog X.w) X.A X.xe (some (assign (.Name x pos') X.env)) (fun _ s'=>SP X pins D .next s') acc C) sc hn hc hi hg ht he I S.st w' Ak Hk fun s1 C D' H' I1 q b=>?_)) (fun _ s' hq=>Pb (Pb hq)) fun _ _ e=>e)
 show wpAny _ X.A (assign (.Name x pos') X.env (.ref D')) _ _ _
 refine S1 (rB I1 hN Ih hx (v:= .ref D') rfl (fun s2 I2 ⟨a,sb,ha⟩=>?_) hf)
 have M0:C≠a:=by
  rcases ha with z | z
  ·rw[z];exact b.nl
  ·exact PX (b.nc x a z)
 obtain⟨m,hm⟩:=b.ns
 have FL:s2.heap.Ns C m:=hm.sameBut sb M0
 refine⟨m,FL,fun h' IC=>⟨_,H',Inv.block I2 ⟨⟨m,FL⟩,b.free,b.nl,b.nw,b.nc,b.np⟩ IC,q⟩⟩
def bz{c:Expr}{a b:List Stmt}{tc:DT}(hc:lj X Xw c tc)(ha:PSDs X Xw a τ)(hb:PSDs X Xw b τ'):ki X Xw (.If c a b pos) (fb tc τ τ'):=fun F₀ H₀=>PS.weak (EW hc (ha F₀ H₀) (hb F₀ H₀)) fun D σ H ⟨F,Z,s,w⟩=>by
 refine⟨F,Z,s.st,?_⟩
 unfold fb at w
 match tc Z,w with
 |none,w=>exact w
 |some (.ok true),w=>exact fun H' F' e'=>⟨F',Z,s.ext' e',w⟩
 |some (.ok false),w=>exact fun H' F' e'=>⟨F',Z,s.ext' e',w⟩
 |some (.ex n),w=>exact fun F' H' e'=>w F' H' (s.ext.trans e')
def jz{i:Nat}{x:Str}{pos' DW:Pos}(hN:X.N.Nodup)(hi:X.N[i]? =some x)(hx:Loc X.env.scope x)(hf:X.fn x=true\/X.env.scope.names.lookup x=some .local:=by first | exact .inl rfl | exact .inr rfl):
 ki X Xw (.Assign [.Name x pos'] (.List [] DW) pos) (s_ i):=fun F₀ H₀=>PS.weak (lN (w_ sM) (a5 hN hi hx hf) rfl) fun D σ H ⟨F,Z,s,w⟩=>by
 refine⟨PB _,fun p hp=>?_⟩
 exact w _ F _ (s.setNew (c₀:= .lst []) hp ⟨[],rfl,rfl,PB _⟩)
def z5(K:O2)(g:TG)(put:D->aP->Option aP):Prop:=∀(F₀ H₀ F H:Hp) (σ:St) (Z Z':aP) (d:D) (v:V) (Q:St->Hp->Prop),StOk K F₀ H₀ F H σ Z->Den K F d v->put d Z=some Z'->
 (∀σ',StOk K F₀ H₀ F H σ' Z'->Q σ' H)->g v σ H Q
def bF{K:O2}{i:Nat}:z5 K (jF i) (putN i):=fun F₀ H₀ F H σ Z Z' d v Q s q e k=>by
 cases e
 exact k _ (s.set q)
def OB(K:O2)(Xw:Nat->Hp->Prop)(τ:DS):TS:=fun D σ H=>∃F₀ H₀,tS K Xw F₀ H₀ τ D σ H
def PSDs.ex{body:List Stmt}(h:PSDs X Xw body τ):PSs X body (OB X.K Xw τ):=fun pins s σ H D I ⟨F₀,H₀,w⟩=>h F₀ H₀ pins s σ H D I w
def bX{tg iter:Expr}{body:List Stmt}{δi:DA}{g:TG}{put:D->aP->Option aP}(hp:Tv (model X.prog X.w) X.A X.env X.xe)(hc:X.calm=true)(hi:vN X Xw tg iter δi)(hg:PG X tg g)(KZ:z5 X.K g put)(hb:PSDs X Xw body τ)
 (hs:∀x,QP iter X.env x=pure x:=by intro _;rfl):ki X Xw (.For tg iter body [] pos) (dq put δi τ):=fun F₀ H₀=>PS.weak (xb hp hc hi hg hb.ex hs) fun D σ H ⟨F,Z,s,w⟩=>by
 refine⟨F,Z,s.st,?_⟩
 unfold dq at w
 match δi Z,w with
 |none,w=>exact w
 |some (.ex n),w=>exact fun F' H' e'=>w F' H' (s.ext.trans e')
 |some (.ok ds),w=>
  have w:WPS X.K Xw F₀ H₀ (forL put τ ds Z) D:=w
  intro J H1 F1 e1 Mt
  obtain⟨s1,back⟩:=(s.ext' e1).rebase
  have hU:=zc (s.ext' e1)
  generalize join F1 H₀=U at s1 back hU
  refine⟨fun i m σ H=>m=ds.length - i/\i<=ds.length/\∃F Z,StOk X.K F1 U F H σ Z/\WPS X.K Xw F₀ H₀ (forL put τ (ds.drop i) Z) D,⟨ds.length,by simp,PB _,F1,Z,s1,by simpa using w⟩,?_⟩
  rintro i m σ2 H2 ⟨rfl,KA,F2,Z2,s2,w2⟩
  by_cases iI:i<ds.length
  ·obtain⟨d,hd⟩:∃d,ds[i]? =some d:=⟨_,OY iI⟩
   obtain⟨FG,wu⟩:=(Mt F2 H2 i s2.ext.ff s2.st.fh).1 d hd
   have ed:ds.drop i=d::ds.drop (i+1):=by
    obtain⟨hi,e⟩:=OZ.mp hd
    rw[RC hi,e]
   rw[ed] at w2
   unfold forL at w2
   refine .inr ⟨FG,fun σ' H'=>∃F' Z',StOk X.K F1 U F' H' σ' Z'/\WPS X.K Xw F₀ H₀ (forL put τ (ds.drop (i+1)) Z') D,fun σ' H' ⟨F',Z',h2,h3⟩=>⟨ds.length - (i+1),by omega,rfl,iI,F',Z',h2,h3⟩,fun x H3 y3=>?_⟩
   obtain⟨F3,xT,q3⟩:=wu x H3 y3
   match NS:put d Z2,w2 with
   |none,w2=>exact w2.elim
   |some Z3,w2=>
    refine KZ F1 U F3 H3 σ2 Z2 Z3 d x _ (s2.ext' xT) q3 NS fun σ3 s3=>⟨F1,U,F3,Z3,s3,?_⟩
    have w2:WPS X.K Xw F₀ H₀ (τ Z3>>=fun o=>match o with | .nx Z2=>forL put τ (ds.drop (i+1)) Z2 | .rt v=>ab (.rt v)) D:=w2
    match τ Z3,w2 with
    |none,w2=>exact w2
    |some (.ok (.nx Z')),w2=>exact fun σ' F' H' s'=>⟨F',Z',s',w2⟩
    |some (.ok (.rt d)),w2=>exact fun v F' H' e q=>w2 v F' H' (back _ _ e) q
    |some (.ex n),w2=>exact fun F' H' e=>w2 F' H' (back _ _ e)
  ·have hi:i=ds.length:=by omega
   subst hi
   rw[RU] at w2
   exact .inl ⟨(Mt F2 H2 ds.length s2.ext.ff s2.st.fh).2 (O9 _),w2 σ2 F2 H2 (s2.unbase back hU)⟩
end
def gI(f:Int->Int->D):D->D->M D
 | .int i, .int j=>ab (f i j)
 |_,_=>af
def HQ(c:Int->Int->Bool)(f:Int->Int->D):D->D->M D
 | .int i, .int j=>if c i j then ab (f i j) else af
 |_,_=>af
def uY{K:O2}{gv:Int->Int->V}{gd:Int->Int->D}(h:∀F i j,Den K F (gd i j) (gv i j)):tU K (yF gv) (gI gd):=fun Xw F H x y dx dy Q s hx hy w=>by
 unfold gI at w
 split at w
 ·rename_i i j
  exact⟨i,j,hx,hy,WP.now w s (h F i j)⟩
 ·exact w.elim
def wV{K:O2}{gv:Int->Int->V}{gd:Int->Int->D}{c:Int->Int->Bool}{C:Int->Int->Prop}(h:∀F i j,Den K F (gd i j) (gv i j))(hc:∀i j,c i j=true->C i j):tU K (rI C gv) (HQ c gd):=fun Xw F H x y dx dy Q s hx hy w=>by
 unfold HQ at w
 split at w
 ·rename_i i j
  split at w
  ·rename_i JO
   exact⟨i,j,hx,hy,hc i j JO,WP.now w s (h F i j)⟩
  ·exact w.elim
 ·exact w.elim
def cz:=gI fun i j=> .int (i+j)
def gB:=gI fun i j=> .int (i - j)
def iH:=HQ (fun i j=>decide ((-(2 ^ 64)<i/\i<2 ^ 64)\/(-(2 ^ 64)<j/\j<2 ^ 64))) fun i j=> .int (i*j)
def pV:=HQ (fun _ j=>decide (0<j/\j<1073741824)) fun i j=> .int (i / j)
def kz:=HQ (fun _ j=>decide (0<j)) fun i j=> .int (i % j)
def HR:=gI fun i j=> .bl (decide (i<j))
def CO:=gI fun i j=> .bl (decide (j<i))
section
variable{X:Cx}{Xw:Nat->Hp->Prop}{a b:Expr}{δa δb:DE}{pos:Pos}
def b5(ha:PD X Xw a δa)(hb:PD X Xw b δb):PD X Xw (.BinOp a .Add b pos) (d2 cz δa δb):=o7 Gp (uY fun _ _ _=>rfl) ha hb
def iZ(ha:PD X Xw a δa)(hb:PD X Xw b δb):PD X Xw (.BinOp a .Sub b pos) (d2 gB δa δb):=o7 Gx (uY fun _ _ _=>rfl) ha hb
def j8(ha:PD X Xw a δa)(hb:PD X Xw b δb):PD X Xw (.BinOp a .Mult b pos) (d2 iH δa δb):=o7 Gv (wV (fun _ _ _=>rfl) fun i j h=>by unfold CMul;exact of_decide_eq_true h) ha hb
def sR(ha:PD X Xw a δa)(hb:PD X Xw b δb):PD X Xw (.BinOp a .FloorDiv b pos) (d2 pV δa δb):=o7 Dq (wV (fun _ _ _=>rfl) fun i j h=>by unfold Hu;exact of_decide_eq_true h) ha hb
def lL(ha:PD X Xw a δa)(hb:PD X Xw b δb):PD X Xw (.BinOp a .Mod b pos) (d2 kz δa δb):=o7 Gu (wV (fun _ _ _=>rfl) fun i j h=>of_decide_eq_true h) ha hb
def Ji(ha:PD X Xw a δa)(hb:PD X Xw b δb):lj X Xw (.Compare a [.Lt] [b] pos) (bH (d2 HR δa δb)):=eo yn (uY fun _ _ _=>rfl) ha hb
def BK(ha:PD X Xw a δa)(hb:PD X Xw b δb):lj X Xw (.Compare a [.Gt] [b] pos) (bH (d2 CO δa δb)):=eo Jb (uY fun _ _ _=>rfl) ha hb
def eP:D->D->M D
 | .lst ds, .int i=>match atI ds i with | some d=>ab d | none=>af
 |_,_=>af
def aU:D->D->M D
 | .tup ds, .int i=>match atI ds i with | some d=>ab d | none=>af
 |_,_=>af
def AE:D->D->M D
 | .scr ns, .int i=>match atI ns i with | some n=>ab (.int n) | none=>af
 |_,_=>af
def pW:D->D->M D
 | .str x, .int i=>match atI x.cps.toList i with | some c=>ab (.str ⟨#[c]⟩) | none=>af
 |_,_=>af
def DenL.atI{K:O2}{F:Hp}{ds:List D}{vs:List V}(h:DenL K F ds vs){i:Int}{d:D}(e:L2.atI ds i=some d):∃v,L2.atI vs i=some v/\Den K F d v:=by
 unfold L2.atI at e⊢
 rw[<-h.len]
 cases q:Cu ds.length i with
 |none=>rw[q] at e;cases e
 |some j=>
  rw[q] at e
  exact h.get e
def Du{K:O2}:tU K (G4 K) eP:=fun Xw F H x y dx dy Q s hx hy w=>by
 unfold eP at w
 split at w
 ·rename_i ds i
  obtain⟨a,vs,h1,h2,h3,h4⟩:=hx
  split at w
  ·rename_i d e
   obtain⟨v,e1,q⟩:=h3.atI e
   exact⟨a,vs,i,v,h1,hy,SqL.of (s _ _ h2),e1,WP.now w s q⟩
  ·exact w.elim
 ·exact w.elim
def Dx{K:O2}:tU K (Jq K) aU:=fun Xw F H x y dx dy Q s hx hy w=>by
 unfold aU at w
 split at w
 ·rename_i ds i
  obtain⟨a,vs,h1,h2,h3,h4⟩:=hx
  split at w
  ·rename_i d e
   obtain⟨v,e1,q⟩:=h3.atI e
   exact⟨a,vs,i,v,h1,hy,SqT.of (s _ _ h2),e1,WP.now w s q⟩
  ·exact w.elim
 ·exact w.elim
def Dv{K:O2}:tU K (G4 K) AE:=fun Xw F H x y dx dy Q s hx hy w=>by
 unfold AE at w
 split at w
 ·rename_i ns i
  obtain⟨a,h1,h2,h3⟩:=hx
  split at w
  ·rename_i n e
   refine⟨a,_,i, .int n,h1,hy,Same.seq s h2,?_,WP.now w s rfl⟩
   unfold L2.atI at e⊢
   rw[OW]
   cases q:Cu ns.length i with
   |none=>rw[q] at e;cases e
   |some j=>
    rw[q] at e
    have e:ns[j]? =some n:=e
    show (ns.map V.int)[j]? =some (.int n)
    rw[O_,e];rfl
  ·exact w.elim
 ·exact w.elim
def Dw{K:O2}:tU K Jp pW:=fun Xw F H x y dx dy Q s hx hy w=>by
 unfold pW at w
 split at w
 ·rename_i z i
  obtain⟨h1,h2⟩:=hx
  split at w
  ·rename_i c e
   exact⟨z,i,c,h1,hy,by have:=dg;omega,e,WP.now w s ⟨rfl,by show 1<=lim;decide⟩⟩
  ·exact w.elim
 ·exact w.elim
def j7(ha:PD X Xw a δa)(hb:PD X Xw b δb)(hs:jl b:=by intro _ _;rfl):PD X Xw (.Subscript a b pos) (d2 eP δa δb):=yt yd Du ha hb hs
def GF(ha:PD X Xw a δa)(hb:PD X Xw b δb)(hs:jl b:=by intro _ _;rfl):PD X Xw (.Subscript a b pos) (d2 AE δa δb):=yt yd Dv ha hb hs
def a7(ha:PD X Xw a δa)(hb:PD X Xw b δb)(hs:jl b:=by intro _ _;rfl):PD X Xw (.Subscript a b pos) (d2 aU δa δb):=yt F7 Dx ha hb hs
def w6(ha:PD X Xw a δa)(hb:PD X Xw b δb)(hs:jl b:=by intro _ _;rfl):PD X Xw (.Subscript a b pos) (d2 pW δa δb):=yt F4 Dw ha hb hs
def qC:D->D->M D
 | .lst x, .lst y=>if x.length+y.length<=lim then ab (.lst (x++y)) else af
 |_,_=>af
def jg(x y:Str):(x++y).length=x.length+y.length:=by
 show (x.cps++y.cps).size=_
 simp[Str.length]
def yp(ha:PD X Xw a δa)(hb:PD X Xw b δb):PD X Xw (.BinOp a .Add b pos) (d2 qC δa δb):=o7 Gq (fun Xw F H x y dx dy Q s hx hy w=>by
 unfold qC at w
 split at w
 ·rename_i i j
  obtain⟨a,vs,h1,h2,h3,h4⟩:=hx
  obtain⟨a',vs',k1,k2,k3,k4⟩:=hy
  split at w
  ·rename_i hl
   have e1:=h3.len
   have e2:=k3.len
   have:=dg
   refine⟨a,a',vs,vs',h1,k1,s _ _ h2,s _ _ k2,by omega,fun p hp=>?_⟩
   exact WP.fin w (Ext.lay s hp) ⟨p,_,rfl,aD,DenL.mono (Ext.lay s hp).ff (h3.append k3),by rw[O8];exact hl⟩
  ·exact w.elim
 ·exact w.elim) ha hb
end
end L3
namespace L3
open PySem PySem.Spec L2 SeqAt
open PyProof.Rows hiding St
def rW(f:D->D->Option Bool):List D->List D->Option Bool
 |[],[]=>some true
 |x::xs,y::ys=>match f x y,rW f xs ys with
  |some b,some r=>some (b&&r)
  |_,_=>none
 |[],_::_=>some false
 |_::_,[]=>some false
def wb:D->D->Option Bool
 | .non, .non=>some true
 | .bl a, .bl b=>some (a==b)
 | .bl a, .int j=>some ((if a then 1 else 0)==j)
 | .int i, .bl b=>some (i==(if b then 1 else 0))
 | .int i, .int j=>some (i==j)
 | .str x, .str y=>some (x==y)
 | .non, .bl _=>some false
 | .non, .int _=>some false
 | .non, .str _=>some false
 | .non, .lst _=>some false
 | .non, .tup _=>some false
 | .bl _, .non=>some false
 | .bl _, .str _=>some false
 | .bl _, .lst _=>some false
 | .bl _, .tup _=>some false
 | .int _, .non=>some false
 | .int _, .str _=>some false
 | .int _, .lst _=>some false
 | .int _, .tup _=>some false
 | .str _, .non=>some false
 | .str _, .bl _=>some false
 | .str _, .int _=>some false
 | .str _, .lst _=>some false
 | .str _, .tup _=>some false
 | .lst _, .non=>some false
 | .lst _, .bl _=>some false
 | .lst _, .int _=>some false
 | .lst _, .str _=>some false
 | .lst _, .tup _=>some false
 | .tup _, .non=>some false
 | .tup _, .bl _=>some false
 | .tup _, .int _=>some false
 | .tup _, .str _=>some false
 | .tup _, .lst _=>some false
 |_,_=>none
def mT:Nat->D->D->Option Bool
 |n+1, .tup xs, .tup ys=>rW (mT n) xs ys
 |n+1, .lst xs, .lst ys=>rW (mT n) xs ys
 |n+1, .scr xs, .lst ys=>rW (mT n) (xs.map D.int) ys
 |_,x,y=>wb x y
structure EqAll (A:P_) (s:O0) (u v:Value) (b:Bool):Prop where
 rc:RcAt A s u v b
 ne:RcNeAt A s u v (!b)
 eq:EqAt A s u v b
section
variable{X:Cx}{pins:List (Addr×Obj)}{σ:St}{F H:Hp}{s:O0}{A:P_}
def eR(I:Inv X pins σ H s)(hs:Same F H){ds:List D}{v:V}{u:Value}(h:Den X.K F (.tup ds) v)(r:RelV v u):∃a vs aK,u= .ref a/\v= .ref a/\F a=some (.tup vs)/\DenL X.K F ds vs/\Vals vs aK/\s.heap.IsTuple a aK.toArray:=by
 obtain⟨a,vs,rfl,h2,h3,h4⟩:=h
 obtain⟨aK,r1,p1,_⟩:=I.tuple (SqT.of (hs _ _ h2))
 exact⟨a,vs,aK,r,rfl,h2,h3,r1,p1⟩
def dX(I:Inv X pins σ H s)(hs:Same F H){ds:List D}{v:V}{u:Value}(h:Den X.K F (.lst ds) v)(r:RelV v u):∃a vs aK,u= .ref a/\v= .ref a/\F a=some (.lst vs)/\DenL X.K F ds vs/\Vals vs aK/\s.heap.IsList a aK.toArray:=by
 obtain⟨a,vs,rfl,h2,h3,h4⟩:=h
 obtain⟨aK,r1,p1,_⟩:=I.list (SqL.of (hs _ _ h2))
 exact⟨a,vs,aK,r,rfl,h2,h3,r1,p1.isList⟩
def G8(I:Inv X pins σ H s)(hs:Same F H){ns:List Int}{v:V}{u:Value}(h:Den X.K F (.scr ns) v)(r:RelV v u):∃a aK,u= .ref a/\v= .ref a/\SqL X.K F a (ns.map V.int)/\Vals (ns.map V.int) aK/\s.heap.IsList a aK.toArray:=by
 obtain⟨a,rfl,h2,h3⟩:=h
 obtain⟨aK,r1,p1,_⟩:=I.list (Same.seq hs h2)
 exact⟨a,aK,r,rfl,h2,r1,p1.isList⟩
def uj(I:Inv X pins σ H s)(hs:Same F H)(hu:A.units<cLine){x y:D}{v w:V}{u t:Value}{b:Bool}(hx:Den X.K F x v)(hy:Den X.K F y w)(rx:RelV v u)(ry:RelV w t)(e:wb x y=some b):EqAll A s u t b:=by
 cases x with
 |non=>
  cases y with
  |non=>
   cases e
   cases (show _=_ from hx)
   cases rx
   cases (show _=_ from hy)
   cases ry
   exact⟨RcAt.none_none,RcNeAt.none_none,EqAt.same _⟩
  |bl d=>
   cases e
   cases (show _=_ from hx)
   cases rx
   cases (show _=_ from hy)
   cases ry
   exact⟨RcAt.none_bool _,RcNeAt.none_bool _,EqAt.none_bool _⟩
  |int d=>
   cases e
   cases (show _=_ from hx)
   cases rx
   cases (show _=_ from hy)
   obtain⟨t2,rfl⟩:=ry
   exact⟨RcAt.none_int _ _,RcNeAt.none_int _ _,EqAt.none_int _ _⟩
  |str d=>
   cases e
   cases (show _=_ from hx)
   cases rx
   cases (show _=_ from hy.1)
   obtain⟨t2,rfl⟩:=ry
   exact⟨RcAt.none_str _ _,RcNeAt.none_str _ _,EqAt.none_str _ _⟩
  |raw d=>cases e
  |dct _ _=>cases e
  |dci _ _=>cases e
  |exc d=>cases e
  |scr d=>cases e
  |tup d=>
   cases e
   cases (show _=_ from hx)
   cases rx
   obtain⟨a2,_,_,rfl,_,_,_,_,p2⟩:=eR I hs hy ry
   exact⟨RcAt.none_tuple p2 hu,RcNeAt.none_tuple p2 hu,EqAt.none_tuple p2 hu⟩
  |lst d=>
   cases e
   cases (show _=_ from hx)
   cases rx
   obtain⟨a2,_,_,rfl,_,_,_,_,p2⟩:=dX I hs hy ry
   exact⟨RcAt.none_list p2 hu,RcNeAt.none_list p2 hu,EqAt.none_list p2 hu⟩
 |bl c=>
  cases y with
  |non=>
   cases e
   cases (show _=_ from hx)
   cases rx
   cases (show _=_ from hy)
   cases ry
   exact⟨RcAt.bool_none _,RcNeAt.bool_none _,EqAt.bool_none _⟩
  |bl d=>
   cases e
   cases (show _=_ from hx)
   cases rx
   cases (show _=_ from hy)
   cases ry
   exact⟨RcAt.bool_bool _ _,RcNeAt.bool_bool _ _,EqAt.bool_bool _ _⟩
  |int d=>
   cases e
   cases (show _=_ from hx)
   cases rx
   cases (show _=_ from hy)
   obtain⟨t2,rfl⟩:=ry
   exact⟨RcAt.bool_int _ _ _,RcNeAt.bool_int _ _ _,EqAt.bool_int _ _ _⟩
  |str d=>
   cases e
   cases (show _=_ from hx)
   cases rx
   cases (show _=_ from hy.1)
   obtain⟨t2,rfl⟩:=ry
   exact⟨RcAt.bool_str _ _ _,RcNeAt.bool_str _ _ _,EqAt.bool_str _ _ _⟩
  |raw d=>cases e
  |dct _ _=>cases e
  |dci _ _=>cases e
  |exc d=>cases e
  |scr d=>cases e
  |tup d=>
   cases e
   cases (show _=_ from hx)
   cases rx
   obtain⟨a2,_,_,rfl,_,_,_,_,p2⟩:=eR I hs hy ry
   exact⟨RcAt.bool_tuple _ p2 hu,RcNeAt.bool_tuple _ p2 hu,EqAt.bool_tuple _ p2 hu⟩
  |lst d=>
   cases e
   cases (show _=_ from hx)
   cases rx
   obtain⟨a2,_,_,rfl,_,_,_,_,p2⟩:=dX I hs hy ry
   exact⟨RcAt.bool_list _ p2 hu,RcNeAt.bool_list _ p2 hu,EqAt.bool_list _ p2 hu⟩
 |int c=>
  cases y with
  |non=>
   cases e
   cases (show _=_ from hx)
   obtain⟨t1,rfl⟩:=rx
   cases (show _=_ from hy)
   cases ry
   exact⟨RcAt.int_none _ _,RcNeAt.int_none _ _,EqAt.int_none _ _⟩
  |bl d=>
   cases e
   cases (show _=_ from hx)
   obtain⟨t1,rfl⟩:=rx
   cases (show _=_ from hy)
   cases ry
   exact⟨RcAt.int_bool _ _ _,RcNeAt.int_bool _ _ _,EqAt.int_bool _ _ _⟩
  |int d=>
   cases e
   cases (show _=_ from hx)
   obtain⟨t1,rfl⟩:=rx
   cases (show _=_ from hy)
   obtain⟨t2,rfl⟩:=ry
   exact⟨RcAt.int_int _ _ _ _,RcNeAt.int_int _ _ _ _,EqAt.int_int _ _ _ _⟩
  |str d=>
   cases e
   cases (show _=_ from hx)
   obtain⟨t1,rfl⟩:=rx
   cases (show _=_ from hy.1)
   obtain⟨t2,rfl⟩:=ry
   exact⟨RcAt.int_str _ _ _ _,RcNeAt.int_str _ _ _ _,EqAt.int_str _ _ _ _⟩
  |raw d=>cases e
  |dct _ _=>cases e
  |dci _ _=>cases e
  |exc d=>cases e
  |scr d=>cases e
  |tup d=>
   cases e
   cases (show _=_ from hx)
   obtain⟨t1,rfl⟩:=rx
   obtain⟨a2,_,_,rfl,_,_,_,_,p2⟩:=eR I hs hy ry
   exact⟨RcAt.int_tuple _ _ p2 hu,RcNeAt.int_tuple _ _ p2 hu,EqAt.int_tuple _ _ p2 hu⟩
  |lst d=>
   cases e
   cases (show _=_ from hx)
   obtain⟨t1,rfl⟩:=rx
   obtain⟨a2,_,_,rfl,_,_,_,_,p2⟩:=dX I hs hy ry
   exact⟨RcAt.int_list _ _ p2 hu,RcNeAt.int_list _ _ p2 hu,EqAt.int_list _ _ p2 hu⟩
 |str c=>
  cases y with
  |non=>
   cases e
   cases (show _=_ from hx.1)
   obtain⟨t1,rfl⟩:=rx
   cases (show _=_ from hy)
   cases ry
   exact⟨RcAt.str_none _ _,RcNeAt.str_none _ _,EqAt.str_none _ _⟩
  |bl d=>
   cases e
   cases (show _=_ from hx.1)
   obtain⟨t1,rfl⟩:=rx
   cases (show _=_ from hy)
   cases ry
   exact⟨RcAt.str_bool _ _ _,RcNeAt.str_bool _ _ _,EqAt.str_bool _ _ _⟩
  |int d=>
   cases e
   cases (show _=_ from hx.1)
   obtain⟨t1,rfl⟩:=rx
   cases (show _=_ from hy)
   obtain⟨t2,rfl⟩:=ry
   exact⟨RcAt.str_int _ _ _ _,RcNeAt.str_int _ _ _ _,EqAt.str_int _ _ _ _⟩
  |str d=>
   cases e
   cases (show _=_ from hx.1)
   obtain⟨t1,rfl⟩:=rx
   cases (show _=_ from hy.1)
   obtain⟨t2,rfl⟩:=ry
   exact⟨RcAt.str_str _ _ _ _,RcNeAt.str_str _ _ _ _,EqAt.str_str _ _ _ _⟩
  |raw d=>cases e
  |dct _ _=>cases e
  |dci _ _=>cases e
  |exc d=>cases e
  |scr d=>cases e
  |tup d=>
   cases e
   cases (show _=_ from hx.1)
   obtain⟨t1,rfl⟩:=rx
   obtain⟨a2,_,_,rfl,_,_,_,_,p2⟩:=eR I hs hy ry
   exact⟨RcAt.str_tuple _ _ p2 hu,RcNeAt.str_tuple _ _ p2 hu,EqAt.str_tuple _ _ p2 hu⟩
  |lst d=>
   cases e
   cases (show _=_ from hx.1)
   obtain⟨t1,rfl⟩:=rx
   obtain⟨a2,_,_,rfl,_,_,_,_,p2⟩:=dX I hs hy ry
   exact⟨RcAt.str_list _ _ p2 hu,RcNeAt.str_list _ _ p2 hu,EqAt.str_list _ _ p2 hu⟩
 |raw _=>cases y<;>cases e
 |dct _ _=>cases y<;>cases e
 |dci _ _=>cases y<;>cases e
 |exc _=>cases y<;>cases e
 |scr c=>cases y<;>cases e
 |tup c=>
  cases y with
  |non=>
   cases e
   obtain⟨a1,_,_,rfl,_,_,_,_,p1⟩:=eR I hs hx rx
   cases (show _=_ from hy)
   cases ry
   exact⟨RcAt.tuple_none p1 hu,RcNeAt.tuple_none p1 hu,EqAt.tuple_none p1 hu⟩
  |bl d=>
   cases e
   obtain⟨a1,_,_,rfl,_,_,_,_,p1⟩:=eR I hs hx rx
   cases (show _=_ from hy)
   cases ry
   exact⟨RcAt.tuple_bool _ p1 hu,RcNeAt.tuple_bool _ p1 hu,EqAt.tuple_bool _ p1 hu⟩
  |int d=>
   cases e
   obtain⟨a1,_,_,rfl,_,_,_,_,p1⟩:=eR I hs hx rx
   cases (show _=_ from hy)
   obtain⟨t2,rfl⟩:=ry
   exact⟨RcAt.tuple_int _ _ p1 hu,RcNeAt.tuple_int _ _ p1 hu,EqAt.tuple_int _ _ p1 hu⟩
  |str d=>
   cases e
   obtain⟨a1,_,_,rfl,_,_,_,_,p1⟩:=eR I hs hx rx
   cases (show _=_ from hy.1)
   obtain⟨t2,rfl⟩:=ry
   exact⟨RcAt.tuple_str _ _ p1 hu,RcNeAt.tuple_str _ _ p1 hu,EqAt.tuple_str _ _ p1 hu⟩
  |raw d=>cases e
  |dct _ _=>cases e
  |dci _ _=>cases e
  |exc d=>cases e
  |scr d=>cases e
  |tup d=>cases e
  |lst d=>
   cases e
   obtain⟨a1,_,_,rfl,_,_,_,_,p1⟩:=eR I hs hx rx
   obtain⟨a2,_,_,rfl,_,_,_,_,p2⟩:=dX I hs hy ry
   exact⟨RcAt.tuple_list p1 p2 hu,RcNeAt.tuple_list p1 p2 hu,EqAt.tuple_list p1 p2 hu⟩
 |lst c=>
  cases y with
  |non=>
   cases e
   obtain⟨a1,_,_,rfl,_,_,_,_,p1⟩:=dX I hs hx rx
   cases (show _=_ from hy)
   cases ry
   exact⟨RcAt.list_none p1 hu,RcNeAt.list_none p1 hu,EqAt.list_none p1 hu⟩
  |bl d=>
   cases e
   obtain⟨a1,_,_,rfl,_,_,_,_,p1⟩:=dX I hs hx rx
   cases (show _=_ from hy)
   cases ry
   exact⟨RcAt.list_bool _ p1 hu,RcNeAt.list_bool _ p1 hu,EqAt.list_bool _ p1 hu⟩
  |int d=>
   cases e
   obtain⟨a1,_,_,rfl,_,_,_,_,p1⟩:=dX I hs hx rx
   cases (show _=_ from hy)
   obtain⟨t2,rfl⟩:=ry
   exact⟨RcAt.list_int _ _ p1 hu,RcNeAt.list_int _ _ p1 hu,EqAt.list_int _ _ p1 hu⟩
  |str d=>
   cases e
   obtain⟨a1,_,_,rfl,_,_,_,_,p1⟩:=dX I hs hx rx
   cases (show _=_ from hy.1)
   obtain⟨t2,rfl⟩:=ry
   exact⟨RcAt.list_str _ _ p1 hu,RcNeAt.list_str _ _ p1 hu,EqAt.list_str _ _ p1 hu⟩
  |raw d=>cases e
  |dct _ _=>cases e
  |dci _ _=>cases e
  |exc d=>cases e
  |scr d=>cases e
  |tup d=>
   cases e
   obtain⟨a1,_,_,rfl,_,_,_,_,p1⟩:=dX I hs hx rx
   obtain⟨a2,_,_,rfl,_,_,_,_,p2⟩:=eR I hs hy ry
   exact⟨RcAt.list_tuple p1 p2 hu,RcNeAt.list_tuple p1 p2 hu,EqAt.list_tuple p1 p2 hu⟩
  |lst d=>cases e
end
def ev(f:D->D->Option Bool)(xs ys:List D)(j:Nat):Bool:=match xs[j]?,ys[j]? with
 |some x,some y=>(f x y).getD false
 |_,_=>false
def uh{f:D->D->Option Bool}:∀{xs ys:List D}{b:Bool},rW f xs ys=some b->∀(j:Nat) (x y:D),xs[j]? =some x->ys[j]? =some y->∃c,f x y=some c
 |[],_,_,_,_,_,_,h,_=>by simp at h
 |_::_,[],_,_,_,_,_,_,h=>by simp at h
 |x::xs,y::ys,b,e,j,x',y',hx,hy=>by
  unfold rW at e
  split at e
  ·rename_i b1 r1 e1 e2
   cases j with
   |zero=>simp at hx hy;subst hx hy;exact⟨_,e1⟩
   |succ j=>exact uh e2 j x' y' (by simpa using hx) (by simpa using hy)
  ·cases e
def rX{f:D->D->Option Bool}:∀{xs ys:List D}{b:Bool},rW f xs ys=some b->b=((Px (min xs.length ys.length)).all (ev f xs ys)&&xs.length==ys.length)
 |[],[],_,e=>by cases e;rfl
 |[],_::_,_,e=>by cases e;simp
 |_::_,[],_,e=>by cases e;simp
 |x::xs,y::ys,b,e=>by
  unfold rW at e
  split at e
  ·rename_i b1 r1 e1 e2
   cases e
   have h:=rX e2
   rw[O5,O5,Nat.succ_min_succ,Tw,Ro,Rf]
   have e0:ev f (x::xs) (y::ys) 0=b1:=by unfold ev;simp[e1]
   have e3:(ev f (x::xs) (y::ys)∘Nat.succ)=ev f xs ys:=by funext j;simp[ev,Ug]
   have e4:(xs.length+1==ys.length+1)=(xs.length==ys.length):=by simp
   rw[e0,e3,e4,h,Bool.and_assoc]
  ·cases e
section
variable{X:Cx}{pins:List (Addr×Obj)}{σ:St}{F H:Hp}{s:O0}
def kr{f:D->D->Option Bool}(h:∀x y v b,Den X.K F x v->Den X.K F y v->f x y=some b->b=true):∀{xs ys:List D}{vs:List V}{b:Bool},DenL X.K F xs vs->DenL X.K F ys vs->rW f xs ys=some b->b=true
 |[],[],_,_,_,_,e=>by cases e;rfl
 |[],_::_,_,_,h1,h2,_=>by
  cases (show _=_ from h1)
  obtain⟨v,r,z,_⟩:=h2
  cases z
 |_::_,[],_,_,h1,h2,_=>by
  cases (show _=_ from h2)
  obtain⟨v,r,z,_⟩:=h1
  cases z
 |x::xs,y::ys,_,b,⟨v,r,e1,q1,q2⟩,⟨v',r',e2,q3,q4⟩,e=>by
  subst e1
  cases e2
  unfold rW at e
  split at e
  ·rename_i b1 r1 f1 f2
   cases e
   rw[h x y v b1 q1 q3 f1,kr h q2 q4 f2]
   rfl
  ·cases e
def qA{x y:D}{v:V}{b:Bool}(hx:Den X.K F x v)(hy:Den X.K F y v)(e:wb x y=some b):b=true:=by
 cases x<;>cases y<;>first
  |(cases e;done)
  |(cases e;cases (show _=_ from hx);cases (show _=_ from hy);first | rfl | simp)
  |(cases e;cases (show _=_ from hx.1);cases (show _=_ from hy.1);simp)
  |(cases e;cases (show _=_ from hx);cases (show _=_ from hy.1))
  |(cases e;cases (show _=_ from hx.1);cases (show _=_ from hy))
  |(cases e;obtain⟨_,_,z,_⟩:=hx;subst z;cases (show _=_ from hy);done)
  |(cases e;obtain⟨_,_,z,_⟩:=hx;subst z;cases (show _=_ from hy.1);done)
  |(cases e;obtain⟨_,z,_⟩:=hx;subst z;cases (show _=_ from hy);done)
  |(cases e;obtain⟨_,z,_⟩:=hx;subst z;cases (show _=_ from hy.1);done)
  |(cases e;obtain⟨_,_,z,_⟩:=hy;subst z;cases (show _=_ from hx);done)
  |(cases e;obtain⟨_,_,z,_⟩:=hy;subst z;cases (show _=_ from hx.1);done)
  |(cases e;obtain⟨_,z,_⟩:=hy;subst z;cases (show _=_ from hx);done)
  |(cases e;obtain⟨_,z,_⟩:=hy;subst z;cases (show _=_ from hx.1);done)
  |(cases e;obtain⟨_,_,z,h2,_⟩:=hx;obtain⟨_,_,z',LW,_⟩:=hy;subst z;cases z';rw[h2] at LW;cases LW;done)
  |(cases e;cases (show _=_ from hx);cases (show _=_ from hy);done)
  |(cases e;cases (show _=_ from hx.1);cases (show _=_ from hy.1);done)
def kq(I:Inv X pins σ H s)(hs:Same F H):∀(n:Nat) (x y:D) (v:V) (b:Bool),Den X.K F x v->Den X.K F y v->mT n x y=some b->b=true
 |0,x,y,v,b,hx,hy,e=>qA hx hy (by unfold mT at e;exact e)
 |n+1,x,y,v,b,hx,hy,e=>by
  unfold mT at e
  split at e
  ·rename_i xs ys _
   obtain⟨a,vs,rfl,h2,h3,_⟩:=hx
   obtain⟨a',vs',z,k2,k3,_⟩:=hy
   cases z
   rw[h2] at k2
   cases k2
   exact kr (kq I hs _) h3 k3 (by simpa using e)
  ·rename_i xs ys _
   obtain⟨a,vs,rfl,h2,h3,_⟩:=hx
   obtain⟨a',vs',z,k2,k3,_⟩:=hy
   cases z
   rw[h2] at k2
   cases k2
   exact kr (kq I hs _) h3 k3 (by simpa using e)
  ·rename_i xs ys _
   obtain⟨a,rfl,h2,_⟩:=hx
   obtain⟨a',vs',z,k2,k3,_⟩:=hy
   cases z
   have hv:=I.list_inj (Same.seq hs h2) (SqL.of (hs _ _ k2))
   rw[<-hv] at k3
   exact kr (kq I hs _) (DenL.ints xs) k3 (by simpa using e)
  ·exact qA hx hy e
def Vals.at{vs:List V}{aK:List Value}(r:Vals vs aK){j:Nat}(h:j<aK.toArray.size):∃v,vs[j]? =some v/\RelV v aK.toArray[j]:=by
 have hl:=r.length
 have hj:j<vs.length:=by rw[O7] at h;omega
 obtain⟨u,e1,e2⟩:=r.get (OY hj)
 refine⟨vs[j],OY hj,?_⟩
 have:aK.toArray[j]=u:=by
  have:=(OZ.mp e1).2
  simpa using this
 rw[this]
 exact e2
def m_{f:D->D->Option Bool}{A:P_}{xs ys:List D}{vs ws:List V}{aK fI:List Value}{b:Bool}(h1:DenL X.K F xs vs)(h2:DenL X.K F ys ws)(r1:Vals vs aK)(r2:Vals ws fI)(e:rW f xs ys=some b)
 (ih:∀x y v w u t c,Den X.K F x v->Den X.K F y w->RelV v u->RelV w t->f x y=some c->EqAt A s u t c):
 ∀j (k1:j<aK.toArray.size) (k2:j<fI.toArray.size),EqAt A s aK.toArray[j] fI.toArray[j] (ev f xs ys j):=fun j k1 k2=>by
 obtain⟨v,e1,q1⟩:=Vals.at r1 k1
 obtain⟨w,e2,q2⟩:=Vals.at r2 k2
 obtain⟨x,e3,q3⟩:=h1.at e1
 obtain⟨y,e4,q4⟩:=h2.at e2
 obtain⟨c,hc⟩:=uh e j x y e3 e4
 have:ev f xs ys j=c:=by unfold ev;rw[e3,e4];simp[hc]
 rw[this]
 exact ih x y v w _ _ c q3 q4 q1 q2 hc
def qQ{f:D->D->Option Bool}{A:P_}(hu:A.units<cLine){xs ys:List D}{vs ws:List V}{aK fI:List Value}{b:Bool}{a a':Addr}(h1:DenL X.K F xs vs)(h2:DenL X.K F ys ws)(r1:Vals vs aK)(r2:Vals ws fI)
 (p1:s.heap.IsList a aK.toArray)(p2:s.heap.IsList a' fI.toArray)(e:rW f xs ys=some b)(hr:a=a'->b=true)
 (ih:∀x y v w u t c,Den X.K F x v->Den X.K F y w->RelV v u->RelV w t->f x y=some c->EqAt A.in1 s u t c):EqAll A s (.ref a) (.ref a') b:=by
 have l1:=h1.len
 have l2:=h2.len
 have l3:=r1.length
 have l4:=r2.length
 have hv:=rX e
 have core:RcAt A s (.ref a) (.ref a') b/\RcNeAt A s (.ref a) (.ref a') (!b):=by
  by_cases hl:xs.length=ys.length
  ·have hsz:aK.toArray.size=fI.toArray.size:=by rw[O7,O7];omega
   have hb:b=(Px aK.toArray.size).all (ev f xs ys):=by
    rw[hv,hl,Nat.min_self,beq_self_eq_true,To]
    congr 2
    rw[O7];omega
   rw[hb]
   exact⟨RcAt.lists p1 p2 hsz hu (m_ h1 h2 r1 r2 e ih),RcNeAt.lists p1 p2 hsz hu (m_ h1 h2 r1 r2 e ih)⟩
  ·have hb:b=false:=by rw[hv,show (xs.length==ys.length)=false from by simpa using hl,Bool.and_false]
   have hsz:(aK.toArray.size !=fI.toArray.size)=true:=by
    rw[O7,O7]
    simp
    omega
   rw[hb]
   exact⟨RcAt.lists_lengths p1 p2 hsz hu,RcNeAt.lists_lengths p1 p2 hsz hu⟩
 refine⟨core.1,core.2,?_⟩
 by_cases hq:a=a'
 ·rw[hr hq]
  subst hq
  exact EqAt.same _
 ·exact EqAt.of_refs hq core.1
def xq{f:D->D->Option Bool}{A:P_}(hu:A.units<cLine){xs ys:List D}{vs ws:List V}{aK fI:List Value}{b:Bool}{a a':Addr}(h1:DenL X.K F xs vs)(h2:DenL X.K F ys ws)(r1:Vals vs aK)(r2:Vals ws fI)
 (p1:s.heap.IsTuple a aK.toArray)(p2:s.heap.IsTuple a' fI.toArray)(e:rW f xs ys=some b)(hr:a=a'->b=true)
 (ih:∀x y v w u t c,Den X.K F x v->Den X.K F y w->RelV v u->RelV w t->f x y=some c->EqAt A.in1 s u t c):EqAll A s (.ref a) (.ref a') b:=by
 have l1:=h1.len
 have l2:=h2.len
 have l3:=r1.length
 have l4:=r2.length
 have hb:b=((Px (min aK.toArray.size fI.toArray.size)).all (ev f xs ys)&&aK.toArray.size==fI.toArray.size):=by
  rw[rX e,O7,O7,<-l3,<-l4,<-l1,<-l2]
 have core:RcAt A s (.ref a) (.ref a') b/\RcNeAt A s (.ref a) (.ref a') (!b):=by
  rw[hb]
  exact⟨RcAt.tuples p1 p2 hu (m_ h1 h2 r1 r2 e ih),RcNeAt.tuples p1 p2 hu (m_ h1 h2 r1 r2 e ih)⟩
 refine⟨core.1,core.2,?_⟩
 by_cases hq:a=a'
 ·rw[hr hq]
  subst hq
  exact EqAt.same _
 ·exact EqAt.of_refs hq core.1
def rY(I:Inv X pins σ H s)(hs:Same F H):∀(n:Nat) (A:P_) (x y:D) (v w:V) (u t:Value) (b:Bool),A.units+n<cLine->Den X.K F x v->Den X.K F y w->RelV v u->RelV w t->mT n x y=some b->EqAll A s u t b
 |0,A,x,y,v,w,u,t,b,hu,hx,hy,rx,ry,e=>uj I hs (by omega) hx hy rx ry (by unfold mT at e;exact e)
 |n+1,A,x,y,v,w,u,t,b,hu,hx,hy,rx,ry,e=>by
  have JW:A.units<cLine:=by omega
  have N7:A.in1.units+n<cLine:=by show A.units+1+n<cLine;omega
  have hrefl:=kq (F:=F) I hs (n+1) x y
  have ih:∀x y v w u t c,Den X.K F x v->Den X.K F y w->RelV v u->RelV w t->mT n x y=some c->EqAt A.in1 s u t c:=fun x y v w u t c q1 q2 q3 q4 q5=>(rY I hs n A.in1 x y v w u t c N7 q1 q2 q3 q4 q5).eq
  have e0:=e
  unfold mT at e
  split at e
  ·rename_i xs ys heq
   cases heq
   obtain⟨a,vs,aK,rfl,HM,h2,h3,r1,p1⟩:=eR I hs hx rx
   obtain⟨a',vs',its',rfl,HN,k2,k3,Jk,Jd⟩:=eR I hs hy ry
   exact xq JW h3 k3 r1 Jk p1 Jd e (fun z=>by subst z;exact hrefl v b hx (by rw[HM,<-HN];exact hy) e0) ih
  ·rename_i xs ys heq
   cases heq
   obtain⟨a,vs,aK,rfl,HM,h2,h3,r1,p1⟩:=dX I hs hx rx
   obtain⟨a',vs',its',rfl,HN,k2,k3,Jk,Jd⟩:=dX I hs hy ry
   exact qQ JW h3 k3 r1 Jk p1 Jd e (fun z=>by subst z;exact hrefl v b hx (by rw[HM,<-HN];exact hy) e0) ih
  ·rename_i xs ys heq
   cases heq
   obtain⟨a,aK,rfl,HM,h2,r1,p1⟩:=G8 I hs hx rx
   obtain⟨a',vs',its',rfl,HN,k2,k3,Jk,Jd⟩:=dX I hs hy ry
   exact qQ JW (DenL.ints _) k3 r1 Jk p1 Jd e (fun z=>by subst z;exact hrefl v b hx (by rw[HM,<-HN];exact hy) e0) ih
  ·exact uj I hs JW hx hy rx ry e
end
def lA(x y:D):M D:=match mT 6 x y with | some b=>ab (.bl b) | none=>af
def kh(x y:D):M D:=match mT 6 x y with | some b=>ab (.bl (!b)) | none=>af
def Jm(K:O2):R2:=fun x y H Q=>∃F dx dy b,Same F H/\Den K F dx x/\Den K F dy y/\mT 6 dx dy=some b/\Q (.bl b) H
def Jr(K:O2):R2:=fun x y H Q=>∃F dx dy b,Same F H/\Den K F dx x/\Den K F dy y/\mT 6 dx dy=some b/\Q (.bl (!b)) H
section
variable{X:Cx}{Xw:Nat->Hp->Prop}{a b:Expr}{δa δb:DE}{pos:Pos}
def Bp(hu:X.A.units+64<cLine):OpR X (P6 .Eq) (Jm X.K):=by
 intro pins s σ H x y v u Q I rx ry h
 obtain⟨F,dx,dy,b,hs,hx,hy,e,q⟩:=h
 exact(rY I hs 6 X.A dx dy x y v u b (by omega) hx hy rx ry e).rc _ _ _ _ ⟨.bl b,H,I,rfl,q⟩
def Gw(hu:X.A.units+64<cLine):OpR X (P6 .NotEq) (Jr X.K):=by
 intro pins s σ H x y v u Q I rx ry h
 obtain⟨F,dx,dy,b,hs,hx,hy,e,q⟩:=h
 exact(rY I hs 6 X.A dx dy x y v u b (by omega) hx hy rx ry e).ne _ _ _ _ ⟨.bl (!b),H,I,rfl,q⟩
def Br{K:O2}:tU K (Jm K) lA:=fun Xw F H x y dx dy Q s hx hy w=>by
 unfold lA at w
 split at w
 ·rename_i b e
  exact⟨F,dx,dy,b,s,hx,hy,e,WP.now w s rfl⟩
 ·exact w.elim
def Gy{K:O2}:tU K (Jr K) kh:=fun Xw F H x y dx dy Q s hx hy w=>by
 unfold kh at w
 split at w
 ·rename_i b e
  exact⟨F,dx,dy,b,s,hx,hy,e,WP.now w s rfl⟩
 ·exact w.elim
def vb(hu:X.A.units+64<cLine)(ha:PD X Xw a δa)(hb:PD X Xw b δb):lj X Xw (.Compare a [.Eq] [b] pos) (bH (d2 lA δa δb)):=eo (Bp hu) Br ha hb
def mL(hu:X.A.units+64<cLine)(ha:PD X Xw a δa)(hb:PD X Xw b δb):lj X Xw (.Compare a [.NotEq] [b] pos) (bH (d2 kh δa δb)):=eo (Gw hu) Gy ha hb
def u5(hu:X.A.units+64<cLine)(ha:PD X Xw a δa)(hb:PD X Xw b δb):PD X Xw (.Compare a [.Eq] [b] pos) (d2 lA δa δb):=wZ (Bp hu) Br ha hb
end
def PDW(X:Cx)(Xw:Nat->Hp->Prop)(e:Expr)(δ:DT):Prop:=PW X e (J4 X.K Xw δ)
def PW.weak{X:Cx}{e:Expr}{t t':TT}(h:PW X e t)(k:∀σ H Q,t' σ H Q->t σ H Q):PW X e t':=fun wh pins s σ H Q I w=>h wh pins s σ H Q I (k σ H Q w)
section
variable{X:Cx}{Xw:Nat->Hp->Prop}{a b c:Expr}{rest:List Expr}{δa δb δc:DE}{τa τb:DT}{pos:Pos}
def o_(ha:lj X Xw a τa):PDW X Xw (.BoolOp .And [a] pos) τa:=D4 ha
def e_(ha:lj X Xw a τa):PDW X Xw (.BoolOp .Or [a] pos) τa:=G2 ha
def sV(ha:lj X Xw a τa)(hb:PDW X Xw (.BoolOp .And (b::rest) pos) τb):PDW X Xw (.BoolOp .And (a::b::rest) pos) (kl τa τb):=PW.weak (G1 ha hb) fun σ H Q ⟨F,Z,s,w⟩=>by
 refine⟨F,Z,s,WPB.mono (WPB.bindB w) fun v H1 ⟨F1,e1,w1⟩=>?_⟩
 cases v with
 |true=>exact⟨F1,Z,s.ext e1,w1⟩
 |false=>exact w1 _ _ (Ext.refl e1.fh)
def ik(ha:lj X Xw a τa)(hb:PDW X Xw (.BoolOp .Or (b::rest) pos) τb):PDW X Xw (.BoolOp .Or (a::b::rest) pos) (k_ τa τb):=PW.weak (Jj ha hb) fun σ H Q ⟨F,Z,s,w⟩=>by
 refine⟨F,Z,s,WPB.mono (WPB.bindB w) fun v H1 ⟨F1,e1,w1⟩=>?_⟩
 cases v with
 |false=>exact⟨F1,Z,s.ext e1,w1⟩
 |true=>exact w1 _ _ (Ext.refl e1.fh)
def PDW.t(h:PDW X Xw a τa):lj X Xw a τa:=PW.pt h
def cE(ha:lj X Xw a τa):lj X Xw (.UnaryOp .Not a pos) (cH τa):=PT.weak (GZ ha) fun σ H Q ⟨F,Z,s,w⟩=>
 ⟨F,Z,s,WPB.mono (WPB.bindB w) fun v H1 ⟨F1,e1,w1⟩=>w1 _ _ (Ext.refl e1.fh)⟩
def vB:D->M Bool
 | .non=>ab false
 | .bl b=>ab b
 | .lst ds=>ab (!ds.isEmpty)
 | .tup ds=>ab (!ds.isEmpty)
 |_=>af
def b_(δ:DE):DT:=fun Z=>δ Z>>=vB
def DenL.isEmpty{K:O2}{F:Hp}{ds:List D}{vs:List V}(h:DenL K F ds vs):ds.isEmpty=vs.isEmpty:=by
 have:=h.len
 cases ds<;>cases vs<;>simp_all
def cF(ha:PD X Xw a δa)(he:∀whole,isTrue a X.env whole=(do let v<-whole;standAt a.pos;holding [v] (truthy v)):=by intro _;rfl):lj X Xw a (b_ δa):=PT.weak (BM ha he) fun σ H Q ⟨F,Z,s,w⟩=>by
 refine⟨F,Z,s,WP.mono (WPB.bind (K:=X.K) w) fun v H1 ⟨F1,d,e1,q1,w1⟩=>?_⟩
 cases d with
 |non=>cases (show _=_ from q1);exact⟨false,rfl,w1 _ _ (Ext.refl e1.fh)⟩
 |bl b=>cases (show _=_ from q1);exact⟨b,rfl,w1 _ _ (Ext.refl e1.fh)⟩
 |lst ds=>
  obtain⟨a,vs,rfl,h2,h3,_⟩:=q1
  exact⟨!ds.isEmpty, .inl ⟨vs,SqL.of (e1.fh _ _ h2),by rw[h3.isEmpty]⟩,w1 _ _ (Ext.refl e1.fh)⟩
 |tup ds=>
  obtain⟨a,vs,rfl,h2,h3,_⟩:=q1
  exact⟨!ds.isEmpty, .inr (.inl ⟨vs,SqT.of (e1.fh _ _ h2),by rw[h3.isEmpty]⟩),w1 _ _ (Ext.refl e1.fh)⟩
 |_=>exact w1.elim
def w9{op}(h:PD X Xw a δa):PD X Xw (.BoolOp op [a] pos) δa:=GN h
def sQ(ha:PD X Xw a δa)(hb:PD X Xw (.BoolOp .And (b::rest) pos) δb):PD X Xw (.BoolOp .And (a::b::rest) pos) (fE δa δb):=PE.weak (GH ha hb) fun σ H Q ⟨F,Z,s,w⟩=>by
 refine⟨F,Z,s,WP.mono (WP.bind w) fun v H1 ⟨F1,d,e1,q1,w1⟩=>?_⟩
 cases d with
 |bl k=>
  refine⟨k,q1,?_⟩
  cases k with
  |true=>exact⟨F1,Z,s.ext e1,w1⟩
  |false=>exact WP.now w1 e1.fh rfl
 |_=>exact w1.elim
def GG(ha:PD X Xw a δa):PD X Xw (.UnaryOp .Not a pos) (En δa):=PE.weak (GL ha) fun σ H Q ⟨F,Z,s,w⟩=>by
 refine⟨F,Z,s,WP.mono (WP.bind w) fun v H1 ⟨F1,d,e1,q1,w1⟩=>?_⟩
 cases d with
 |bl k=>exact⟨k,q1,WP.now w1 e1.fh rfl⟩
 |_=>exact w1.elim
def ER(hc:lj X Xw c τa)(ha:PD X Xw a δa)(hb:PD X Xw b δb):PD X Xw (.IfExp c a b pos) (Am τa δa δb):=PE.weak (BD hc ha hb) fun σ H Q ⟨F,Z,s,w⟩=>by
 refine⟨F,Z,s,WPB.mono (WP.bindB w) fun v H1 ⟨F1,e1,w1⟩=>?_⟩
 cases v with
 |true=>exact⟨F1,Z,s.ext e1,w1⟩
 |false=>exact⟨F1,Z,s.ext e1,w1⟩
def vO(p q:Int->Int->Bool)(a b c:DE):DE:=fun Z=>a Z>>=fun x=>b Z>>=fun y=>match x,y with
 | .int i, .int j=>if p i j then c Z>>=fun z=>gI (fun i j=> .bl (q i j)) y z else ab (.bl false)
 |_,_=>af
def rC{p q:Int->Int->Bool}:∀σ H Q,tD X.K Xw (vO p q δa δb δc) σ H Q->xo (yF fun i j=> .bl (p i j)) (yF fun i j=> .bl (q i j)) (tD X.K Xw δa) (tD X.K Xw δb) (tD X.K Xw δc) σ H Q:=fun σ H Q ⟨F,Z,s,w⟩=>by
 refine⟨F,Z,s,WP.mono (WP.bind w) fun v H1 ⟨F1,d,e1,q1,w1⟩=>?_⟩
 refine⟨F1,Z,s.ext e1,WP.mono (WP.bind w1) fun u H2 ⟨F2,d',e2,q2,w2⟩=>?_⟩
 cases d with
 |int i=>
  cases d' with
  |int j=>
   refine⟨i,j,q1,q2,p i j,rfl,?_⟩
   have w2:WP X.K Xw F2 H2 (if p i j then δc Z>>=fun z=>gI (fun i j=> .bl (q i j)) (.int j) z else ab (.bl false)) Q:=w2
   cases hp:p i j with
   |false=>
    rw[hp] at w2
    exact WP.now w2 e2.fh rfl
   |true=>
    rw[hp] at w2
    refine⟨F2,Z,(s.ext e1).ext e2,WP.mono (WP.bind w2) fun u' H3 ⟨F3,MO,e3,q3,w3⟩=>?_⟩
    exact uY (K:=X.K) (gv:=fun i j=> .bl (q i j)) (gd:=fun i j=> .bl (q i j)) (fun _ _ _=>rfl) Xw F3 H3 u u' (.int j) MO Q e3.fh q2 q3 w3
  |_=>exact w2.elim
 |_=>exact w2.elim
def Bu{op wU:CmpOp}{p q:Int->Int->Bool}(ho:OpR X (P6 op) (yF fun i j=> .bl (p i j)))(qF:OpR X (P6 wU) (yF fun i j=> .bl (q i j)))(ha:PD X Xw a δa)(hb:PD X Xw b δb)(hc:PD X Xw c δc)
 (hm:lastMarks [op,wU] [b,c]=false:=by with_unfolding_all rfl):PD X Xw (.Compare a [op,wU] [b,c] pos) (vO p q δa δb δc):=PE.weak (BA ho qF ha hb hc hm) rC
def xc{op wU:CmpOp}{p q:Int->Int->Bool}(ho:OpR X (P6 op) (yF fun i j=> .bl (p i j)))(qF:OpR X (P6 wU) (yF fun i j=> .bl (q i j)))(ha:PD X Xw a δa)(hb:PD X Xw b δb)(hc:PD X Xw c δc)
 (hm:lastMarks [op,wU] [b,c]=false:=by with_unfolding_all rfl):lj X Xw (.Compare a [op,wU] [b,c] pos) (bH (vO p q δa δb δc)):=PT.weak (BJ ho qF ha hb hc hm) fun σ H Q ⟨F,Z,s,w⟩=>by
 refine rC σ H _ ⟨F,Z,s,WP.mono (WPB.bind w) fun v H1 ⟨F1,d,e1,q1,w1⟩=>?_⟩
 cases d with
 |bl k=>exact⟨k,q1,w1 _ _ (Ext.refl e1.fh)⟩
 |_=>exact w1.elim
def xE(K:O2)(r:List V->Hp->VK->Prop)(g:List D->M D):Prop:=∀(Xw:Nat->Hp->Prop) (F H:Hp) (vs:List V) (ds:List D) (Q:VK),Same F H->DenL K F ds vs->WP K Xw F H (g ds) Q->r vs H Q
variable{x:Str}{p:Pos}{e:Expr}{es:List Expr}{δs:DA}{id:String}{r:List V->Hp->VK->Prop}{g:List D->M D}
def Hb(h:xE X.K r g):∀σ H Q,tD X.K Xw (dA g δs) σ H Q->MF r (MG X.K Xw δs) σ H Q:=fun σ H Q ⟨F,Z,s,w⟩=>
 ⟨F,Z,s,WPL.mono (WP.bindL w) fun vs H1 ⟨F1,ds,e1,q1,w1⟩=>h Xw F1 H1 vs ds Q e1.fh q1 w1⟩
def eG(hc:CallR X (.builtin id) r)(hd:xE X.K r g)(hg:Gl X x)(hm:X.mg x=none)(hv:Qi x=some (.builtin id))(ha:pT X Xw (e::es) δs)(hn:x≠"__name__":=by decide)(wo:(x==("__debug__":Str))=false:=by decide)
 (he:Ph (e::es) X.env=(false,eval e X.env)::Ph es X.env:=by rfl)(vS:(Q4 pos (Ph es X.env)).any (·.1)=false:=by rfl):PD X Xw (.Call (.Name x p) (e::es) [] pos) (dA g δs):=
 PE.weak (Bz hc hg hm hv ha hn wo he vS) (Hb hd)
def bh:List D->M D
 |[.lst ds]=>ab (.int ds.length)
 |[.tup ds]=>ab (.int ds.length)
 |[.str x]=>ab (.int x.length)
 |[.scr ns]=>ab (.int ns.length)
 |_=>af
def zf:xE X.K (fun xs H Q=>(∃p ys,xs=[.ref p]/\(SqL X.K H p ys\/SqT X.K H p ys)/\Q (.int ys.length) H)\/∃z,xs=[.str z]/\z.length<=Pe/\Q (.int z.length) H) bh:=fun Xw F H vs ds Q s h w=>by
 unfold bh at w
 split at w
 ·obtain⟨v,rfl,h1⟩:=h.one
  obtain⟨a,vs,rfl,h2,h3,_⟩:=h1
  exact .inl ⟨a,vs,rfl, .inl (SqL.of (s _ _ h2)),by rw[<-h3.len];exact WP.now w s rfl⟩
 ·obtain⟨v,rfl,h1⟩:=h.one
  obtain⟨a,vs,rfl,h2,h3,_⟩:=h1
  exact .inl ⟨a,vs,rfl, .inr (SqT.of (s _ _ h2)),by rw[<-h3.len];exact WP.now w s rfl⟩
 ·obtain⟨v,rfl,h1⟩:=h.one
  cases (show _=_ from h1.1)
  exact .inr ⟨_,rfl,by have:=h1.2;have:=dg;omega,WP.now w s rfl⟩
 ·obtain⟨v,rfl,h1⟩:=h.one
  obtain⟨a,rfl,h2,_⟩:=h1
  exact .inl ⟨a,_,rfl, .inl (Same.seq s h2),by rw[OW];exact WP.now w s rfl⟩
 ·exact w.elim
def bT(hg:Gl X "len")(hm:X.mg "len"=none)(ha:pT X Xw [e] δs)(he:Ph [e] X.env=[(false,eval e X.env)]:=by rfl):PD X Xw (.Call (.Name "len" p) [e] [] pos) (dA bh δs):=
 eG (rS.or rT) zf hg hm PySem.boot_len ha (by decide) (by decide) he rfl
def rJ:List D->M D
 |[.int i]=>ab (.int (if i<0 then -i else i))
 |_=>af
def pZ:List D->M D
 |[.int i, .int j]=>ab (.int (if j>i then j else i))
 |_=>af
def zl:List D->M D
 |[.int i, .int j]=>ab (.int (if j<i then j else i))
 |_=>af
def sO(hg:Gl X "abs")(hm:X.mg "abs"=none)(ha:pT X Xw [e] δs)(hb:Qi "abs"=some (.builtin "abs"))(he:Ph [e] X.env=[(false,eval e X.env)]:=by rfl):PD X Xw (.Call (.Name "abs" p) [e] [] pos) (dA rJ δs):=
 eG Ag (fun Xw F H vs ds Q s h w=>by
  unfold rJ at w
  split at w
  ·obtain⟨v,rfl,h1⟩:=h.one
   cases (show _=_ from h1)
   exact⟨_,rfl,WP.now w s rfl⟩
  ·exact w.elim) hg hm hb ha (by decide) (by decide) he rfl
end
def WP.xw{K:O2}{Xw Xw':Nat->Hp->Prop}{F H:Hp}{m:M D}{Q:VK}(h:WP K Xw F H m Q)(k:∀n H,Xw n H->Xw' n H):WP K Xw' F H m Q:=by
 match m,h with
 |none,h=>exact h
 |some (.ok d),h=>exact h
 |some (.ex n),h=>exact fun F' H' e=>k n H' (h F' H' e)
def cO{X:Cx}{Xw:Nat->Hp->Prop}{st:Stmt}{τ:DS}(h:ki X.nox (fun _ _=>False) st τ):ki X Xw st (fun Z=>noex (τ Z)):=fun F₀ H₀ pins s σ H D I ⟨F,Z,S,w⟩=>by
 have w:WPS X.K Xw F₀ H₀ (noex (τ Z)) D:=w
 have w':tS X.K (fun _ _=>False) F₀ H₀ τ D σ H:=by
  refine⟨F,Z,S,?_⟩
  rcases(τ Z).cs with e | ⟨n,e⟩ | ⟨o,e⟩
  ·rw[e] at w;exact w.elim
  ·rw[e] at w;exact w.elim
  ·rw[e] at w⊢
   cases o with
   |nx Z'=>exact w
   |rt d=>exact w
 refine Qf (h F₀ H₀ pins s σ H D (I.wish _) w') (fun f s' q=>SP.unwish q) fun _ _ z=>z.elim
def EX(cv:Nat->Value)(Xw:Nat->Hp->Prop):XK:=fun c _ H=>∃n,c=cv n/\Xw n H
def Hr(K:O2)(cv:Nat->Value)(k:Nat)(f:List D->M D):Sp:=fun vs H Q E=>∃F ds,Same F H/\DenL K F ds vs/\vs.length=k/\WP K (fun n H'=>E (cv n) none H') F H (f ds) Q
def bS(n:Nat)(τ:DS):List D->M D:=fun ds=>τ (ds.map (fun d=>some (Sl.fz d))++PV (n - ds.length) none)>>=fun o=>match o with
 | .nx _=>ab .non
 | .rt d=>ab d
section
variable{P:Pw}{w:World}{K:O2}{mg:Str->Option Value}{base:Heap}{CX:xD}{cv:Nat->Value}
def HP{x qual:Str}{st:Stmt}{f:Addr}{fd:QT}{N ps:List Str}{k:Nat}{τ:DS}(Fn:Fun K x qual st f fd)(S:FnScope N ps (ak st))
 (n9:∀(b9:Value) (A:P_) (outer:List Env) (s:O0) (H:Hp) (E:XK),Room k (A.deeper (RH qual (ak st) s.heap.objs.size f b9))->
  PSDs (gx CX P w K mg base N qual (ak st) f b9 A outer s H E) (fun n H'=>E (cv n) none H') (bQ st) τ):FnOk P w K mg base CX (k+1) f fd ps (Hr K cv ps.length (bS N.length τ)):=by
 obtain⟨oc,od,kV,doc,pm,an,b9,ct,Dz,rfl,lk,vP⟩:=Fn.ex
 refine Eu lk vP S (fun vs H Q E ⟨_,_,_,_,hl,_⟩=>hl) fun A outer s H vs Q E hr Cs=>?_
 obtain⟨F,ds,fh,hd,hl,hw⟩:=Cs
 refine⟨_,n9 b9 A outer s H E hr F H,F,ds.map (fun d=>some (Sl.fz d))++PV (N.length - ds.length) none,⟨Ext.refl fh,⟨fh,fun i sl e=>?_⟩,?_,fun i c a e=>?_,fun i j c c' a e=>?_⟩,?_⟩
 ·have hlen:=hd.len
  by_cases hi:i<ds.length
  ·rw[PJ (by simpa using hi),O_] at e
   cases q:ds[i]? with
   |none=>rw[q] at e;cases e
   |some d=>
    rw[q] at e
    cases e
    obtain⟨v,e1,e2⟩:=hd.get q
    refine⟨v,?_,e2⟩
    unfold L2.start
    rw[PJ (by simp;omega),O_,e1]
    rfl
  ·rw[PY (by simpa using hi),Qz] at e
   split at e<;>cases e
 ·have hlen:=hd.len
  unfold L2.start
  simp[hlen]
 ·exfalso
  by_cases hi:i<ds.length
  ·rw[PJ (by simpa using hi),O_] at e
   cases q:ds[i]? with
   |none=>rw[q] at e;cases e
   |some d=>rw[q] at e;cases e
  ·rw[PY (by simpa using hi),Qz] at e
   split at e<;>cases e
 ·exfalso
  by_cases hi:i<ds.length
  ·rw[PJ (by simpa using hi),O_] at e
   cases q:ds[i]? with
   |none=>rw[q] at e;cases e
   |some d=>rw[q] at e;cases e
  ·rw[PY (by simpa using hi),Qz] at e
   split at e<;>cases e
 ·have hw:WP K (fun n H'=>E (cv n) none H') F H (τ (ds.map (fun d=>some (Sl.fz d))++PV (N.length - ds.length) none)>>=fun o=>match o with | .nx _=>ab .non | .rt d=>ab d) Q:=hw
  rcases(τ (ds.map (fun d=>some (Sl.fz d))++PV (N.length - ds.length) none)).cs with e | ⟨n,e⟩ | ⟨o,e⟩
  ·rw[e] at hw;exact hw.elim
  ·rw[e] at hw⊢;exact hw
  ·rw[e] at hw⊢
   cases o with
   |nx Z'=>exact fun σ' F' H' s'=>hw .non H' F' s'.ext rfl
   |rt d=>exact fun v F' H' e' q=>hw v H' F' e' q
end
section
variable{X:Cx}{Xw:Nat->Hp->Prop}{CX:xD}{cv:Nat->Value}{k m:Nat}{f:Addr}{fd:QT}{ps:List Str}{g:List D->M D}{x:Str}{p pos:Pos}{e:Expr}{es:List Expr}{δs:DA}
def DB(F:FnOk X.prog X.w X.K X.mg X.base CX k f fd ps (Hr X.K cv m g))(hr:Room k X.A)(hg:Gl X x)(hm:X.mg x=some (.ref f))(hk:Qy X.K (.ref f)=true)(hb:Binds X.K fd ps [])(hx:Passes CX X (EX cv Xw))
 (ha:pT X Xw (e::es) δs)(hl:(e::es).length=m)(wo:(x==("__debug__":Str))=false:=by decide)(he:Ph (e::es) X.env=(false,eval e X.env)::Ph es X.env:=by rfl)(vS:(Q4 pos (Ph es X.env)).any (·.1)=false:=by rfl):
 PD X Xw (.Call (.Name x p) (e::es) [] pos) (fun Z=>δs Z>>=fun ds=>if ds.length=m then g ds else af):=PE.weak (DN F hr hg hm hk hb .nil hx ha wo he vS) fun σ H Q ⟨F,Z,s,w⟩=>by
 refine⟨F,Z,s,WPL.mono (WP.bindL w) fun vs H1 ⟨F1,ds,e1,q1,w1⟩=>?_⟩
 split at w1
 ·rename_i Il
  refine⟨F1,ds,e1.fh,by simpa using q1,by rw[Qj,<-q1.len];exact Il,WP.xw w1 fun n H h=>⟨n,rfl,h⟩⟩
 ·exact w1.elim
def yq{x:Str}{d:D}{v:V}{u:Value}(hg:Gl X x)(hm:X.mg x=some u)(r:RelV v u)(hd:∀F,Den X.K F d v)(wo:(x==("__debug__":Str))=false:=by decide):PD X Xw (.Name x pos) (dC d):=
 gN (DR hg hm r wo) hd
end
def obj_some{P:Pw}{w:World}{H:Hp}{h:Heap}{a:Addr}{o:HO}(x:ObjOk P w H h a o):∃ob,h.get? a=some ob:=by
 cases o with
 |lst xs=>obtain⟨_,_,_,_,e⟩:=x;exact⟨_,e⟩
 |tup xs=>obtain⟨_,_,_,ob,e,_⟩:=x;exact⟨_,e⟩
 |dK ax=>obtain⟨_,_,_,_,o,_,_,e,_⟩:=x;exact⟨_,e⟩
 |dT ax=>obtain⟨_,_,_,_,o,_,_,e,_⟩:=x;exact⟨_,e⟩
 |set S n=>obtain⟨o,_,_,_,e,_⟩:=x;exact⟨_,e⟩
 |ins C dx fs=>obtain⟨_,_,_,e,_⟩:=x;exact⟨_,e⟩
 |own y=>obtain⟨_,e⟩:=x;exact⟨_,e⟩
 |xd fs=>obtain⟨_,⟨_,_,_,e,_⟩,_⟩:=x;exact⟨_,e⟩
 |rng lo hi=>obtain⟨_,_,_,e⟩:=x;exact⟨_,e⟩
 |frz ob u=>obtain⟨e,_⟩:=x;exact⟨_,e⟩
 |tbl ps=>exact⟨_,(show h.get? a=some _ from x)⟩
 |met f y=>exact⟨_,(show h.get? a=some _ from x)⟩
 |ext φ=>obtain⟨_,⟨_,e⟩,_⟩:=x;exact⟨_,e⟩
def ql(P:Pw)(w:World)(cv:Nat->Value):xD:=fun outer H s E e s'=>∃(ea:Addr) (n:Nat) (a0:Value) (B:Heap) (H':Hp),e= .ref ea/\s'.os=s.os/\Sn s'.gens/\HOk P w H' s'.heap/\Un (ng outer) [] H H' s.heap s'.heap/\
 Heap.FlyingW B outer ea (cv n) a0 s'.heap/\(∀b o,s'.heap.get? b=some o->(H' b≠none\/(s.heap.get? b).isSome=true)->b∉ng outer->B.get? b=some o)/\E (cv n) none H'
section
variable{P:Pw}{w:World}{fs:List Addr}{H₀ H:Hp}{h₀ h h':Heap}
def Ef(u:Un fs [] H₀ H h₀ h)(ka:∀b o,h.get? b=some o->b∉fs->(H b≠none\/(h₀.get? b).isSome=true)->h'.get? b=some o)(kb:∀b o,h.get? b=some o->b∈fs->∃sl,h'.get? b=some {o with slots:=sl}):Un fs [] H₀ H h₀ h' where
 keep:=fun b o e n hb hx=>ka b o (u.keep b o e n hb hx) hb (.inr (by rw[e];rfl))
 slot:=fun b o e n hb hx=>by
  obtain⟨sl,q⟩:=u.slot b o e n hb hx
  obtain⟨G_,q'⟩:=kb b _ q hb
  exact⟨G_,q'⟩
 free:=u.free
 there:=fun b o e hx=>by
  obtain⟨o',q⟩:=u.there b o e hx
  by_cases hb:b∈fs
  ·obtain⟨sl,q'⟩:=kb b _ q hb
   exact⟨_,q'⟩
  ·exact⟨o',ka b o' q hb (.inr (by rw[e];rfl))⟩
 tups:=u.tups
 frzs:=u.frzs
 tbls:=u.tbls
def AO(x:HOk P w H h)(hf:∀b∈fs,H b=none)(ka:∀b o,h.get? b=some o->b∉fs->H b≠none->h'.get? b=some o):HOk P w H h':=fun a o e=>by
 refine(x a o e).stay (fun b u hb q=>ka b u q (fun z=>?_) ?_) (fun _ q=>q) fun _ _ q=>q
 ·have hz:=hf b z
  rcases hb with rfl | hb
  ·rw[hz] at e;cases e
  ·rw[hz] at hb;cases hb
 ·rcases hb with rfl | hb
  ·rw[e];exact fun z=>nomatch z
  ·rw[hb];exact fun z=>nomatch z
end
section
variable{P:Pw}{w:World}{K:O2}{mg:Str->Option Value}{base:Heap}{N:List Str}{qual:Str}{scope:Scope}{f:Addr}{cd:Value}{A:P_}{outer:List Env}{s₀:O0}{H₀:Hp}{E:XK}{cv:Nat->Value}
def aT:Passes (ql P w cv) (gx (ql P w cv) P w K mg base N qual scope f cd A outer s₀ H₀ E) (EX cv fun n H'=>E (cv n) none H'):=by
 intro pins σ H s e s' I ⟨ea,n,a0,B,H',he,KY,hg,hok,un,LP,hB,m,hm,hE⟩
 subst he
 have FK:((gx (ql P w cv) P w K mg base N qual scope f cd A outer s₀ H₀ E)).env.locals=s₀.heap.objs.size:=rfl
 have C5:ng ((gx (ql P w cv) P w K mg base N qual scope f cd A outer s₀ H₀ E)).stack=s₀.heap.objs.size::ng outer:=rfl
 show wpAny (model P w) (A.deeper (RH qual scope s₀.heap.objs.size f cd)) (leaving (RH qual scope s₀.heap.objs.size f cd) (.ref ea)) _ _ s'
 refine wpAny_leaves_onW (base:=B) (outer:=outer) (L:=s₀.heap.objs.size) I.ok.frames rfl LP fun h' Fu ups=>?_
 have EA:∀b∈ng ((gx (ql P w cv) P w K mg base N qual scope f cd A outer s₀ H₀ E)).stack,H' b=none:=fun b hb=>by
  obtain⟨o,ho⟩:∃o,s.heap.get? b=some o:=by
   obtain⟨_,o,ho,_⟩:=I.stack.mem hb
   exact⟨o,ho⟩
  exact un.free b o ho (I.stkFree b hb) (by simp)
 have EF:∀b o,s'.heap.get? b=some o->b∉ng ((gx (ql P w cv) P w K mg base N qual scope f cd A outer s₀ H₀ E)).stack->(H' b≠none\/(s.heap.get? b).isSome=true)->h'.get? b=some o:=fun b o e hb hc=>Fu.1 b o (hB b o e hc hb)
 have unA:Un (ng outer) [] H₀ H' s₀.heap s'.heap:=by
  have u1:Un (ng outer) [] H₀ H s₀.heap s.heap:=I.base
  refine⟨fun b o e nn hb hx=>?_,fun b o e nn hb hx=>?_,fun b o e nn hx=>?_,fun b o e hx=>?_,fun b xs q=>un.tups b xs (u1.tups b xs q),fun b o u q=>un.frzs b o u (u1.frzs b o u q),fun b ps q=>?_⟩
  ·refine un.keep b o (u1.keep b o e nn hb hx) (u1.free b o e nn hx) (fun z=>?_) (by simp)
   rw[C5] at z
   rcases O6.mp z with z | z
   ·exact absurd (Pc e) (by rw[z];exact Qb _)
   ·exact hb z
  ·obtain⟨sl,q⟩:=u1.slot b o e nn hb hx
   obtain⟨G_,q'⟩:=un.slot b _ q (u1.free b o e nn hx) (by rw[C5];exact OU _ hb) (by simp)
   exact⟨G_,q'⟩
  ·obtain⟨o',q⟩:=u1.there b o e hx
   exact un.free b o' q (u1.free b o e nn hx) (by simp)
  ·obtain⟨o',q⟩:=u1.there b o e hx
   exact un.there b o' q (by simp)
  ·obtain⟨m1,q1⟩:=u1.tbls b ps q
   obtain⟨m2,q2⟩:=un.tbls b _ q1
   exact⟨m1++m2,by rw[q2,Sm]⟩
 have Mp:∀b,(s₀.heap.get? b).isSome=true->(s.heap.get? b).isSome=true:=fun b hb=>by
  obtain⟨o,ho⟩:=QQ.mp hb
  obtain⟨o',q⟩:=(show Un (ng outer) [] H₀ H s₀.heap s.heap from I.base).there b o ho (by simp)
  rw[q];rfl
 have Lg:∀b,(s₀.heap.get? b).isSome=true->b≠s₀.heap.objs.size:=fun b hb z=>by
  obtain⟨o,ho⟩:=QQ.mp hb
  exact absurd (Pc ho) (by rw[z];exact Qb _)
 have IZ:∀b,b∉ng outer->(H' b≠none\/(s₀.heap.get? b).isSome=true)->b∉ng ((gx (ql P w cv) P w K mg base N qual scope f cd A outer s₀ H₀ E)).stack:=fun b hb hc z=>by
  rcases hc with hc | hc
  ·exact hc (EA b z)
  ·rw[C5] at z
   rcases O6.mp z with z | z
   ·exact Lg b hc z
   ·exact hb z
 refine⟨ea,n,a0,B,H',rfl,KY.trans I.os,hg,AO hok EA (fun b o e hb hc=>EF b o e hb (.inl hc)),Ef unA (fun b o e hb hc=>EF b o e (IZ b hb hc) (hc.imp id (Mp b))) (fun b o e hb=>?_),Fu,fun b o e hc hb=>?_,?_⟩
 ·obtain⟨_,o',qF,hd⟩:=LP.2.2.1.mem (show b∈ng ((gx (ql P w cv) P w K mg base N qual scope f cd A outer s₀ H₀ E)).stack by rw[C5];exact OU _ hb)
  rw[e] at qF
  cases qF
  exact ups b o e hd
 ·have Nd:=IZ b hb hc
  obtain⟨o',qF⟩:∃o',s'.heap.get? b=some o':=by
   rcases hc with hc | hc
   ·cases q:H' b with
    |none=>exact absurd q hc
    |some u=>
     exact obj_some (hok b u q)
   ·obtain⟨o1,h1⟩:=QQ.mp hc
    exact unA.there b o1 h1 (by simp)
  have:=hB b o' qF (hc.imp id (Mp b)) Nd
  rw[Fu.1 b o' this] at e
  cases e
  exact this
 ·rw[hm];exact hE
end
def EG:D->Option String
 | .non=>some "NoneType"
 | .bl _=>some "bool"
 | .int _=>some "int"
 | .str _=>some "str"
 | .tup _=>some "tuple"
 | .lst _=>some "list"
 |_=>none
def FZ(k T:String):Option Bool:=if T="str"\/T="int"\/T="bool"\/T="tuple"\/T="list" then some (decide (k=T)||(decide (k="bool")&&decide (T="int"))) else none
def g8:List D->M D
 |[d, .raw (.ty T)]=>match EG d with
  |some k=>match FZ k T with
   |some b=>ab (.bl b)
   |none=>af
  |none=>af
 |_=>af
def Gf{K:O2}{k T:String}{b:Bool}(hk:k="NoneType"\/k="bool"\/k="int"\/k="str"\/k="tuple"\/k="list")(h:FZ k T=some b):SN K (.type k) (.type T)=some b:=by
 unfold FZ at h
 split at h
 ·rename_i hT
  cases h
  rcases hk with rfl | rfl | rfl | rfl | rfl | rfl<;>rcases hT with rfl | rfl | rfl | rfl | rfl<;>with_unfolding_all rfl
 ·cases h
section
variable{X:Cx}{Xw:Nat->Hp->Prop}{a b e e2:Expr}{δs:DA}{pos p:Pos}
def Jo(K:O2):List V->Hp->VK->Prop:=fun xs H Q=>∃x T t b,xs=[x, .ty T]/\TyOf K H x t/\SN K t (.type T)=some b/\Q (.bl b) H
def Ah:CallR X (.builtin "isinstance") (Jo X.K):=by
 intro pins s σ H xs us Q I r h
 obtain⟨x,T,t,b,rfl,ty,e,q⟩:=h
 obtain⟨u,w',rfl,r1,r2⟩:=vals2 r
 cases (show w'=_ from r2)
 exact zb I r1 ty e fun tk=>⟨.bl b,H,I.tok tk,rfl,q⟩
def Ce{K:O2}{F H:Hp}{d:D}{v:V}{k:String}(s:Same F H)(h:Den K F d v)(hk:EG d=some k):TyOf K H v (.type k)/\(k="NoneType"\/k="bool"\/k="int"\/k="str"\/k="tuple"\/k="list"):=by
 cases d with
 |non=>cases hk;cases (show _=_ from h);exact⟨.non, .inl rfl⟩
 |bl x=>cases hk;cases (show _=_ from h);exact⟨.bl x, .inr (.inl rfl)⟩
 |int x=>cases hk;cases (show _=_ from h);exact⟨.int x, .inr (.inr (.inl rfl))⟩
 |str x=>cases hk;cases (show _=_ from h.1);exact⟨.str x, .inr (.inr (.inr (.inl rfl)))⟩
 |tup x=>cases hk;obtain⟨a,vs,rfl,h2,_⟩:=h;exact⟨.tup (s _ _ h2), .inr (.inr (.inr (.inr (.inl rfl))))⟩
 |lst x=>cases hk;obtain⟨a,vs,rfl,h2,_⟩:=h;exact⟨.lst (s _ _ h2), .inr (.inr (.inr (.inr (.inr rfl))))⟩
 |_=>cases hk
def za{K:O2}:xE K (Jo K) g8:=fun Xw F H vs ds Q s h w=>by
 unfold g8 at w
 split at w
 ·rename_i d T
  obtain⟨v,v',rfl,h1,h2⟩:=h.two
  cases (show _=_ from h2)
  split at w
  ·rename_i k hk
   split at w
   ·rename_i b hb
    obtain⟨ty,Ii⟩:=Ce s h1 hk
    exact⟨v,T, .type k,b,rfl,ty,Gf Ii hb,WP.now w s rfl⟩
   ·exact w.elim
  ·exact w.elim
 ·exact w.elim
def j6(hg:Gl X "isinstance")(hm:X.mg "isinstance"=none)(hb:Qi "isinstance"=some (.builtin "isinstance"))(ha:pT X Xw [e,e2] δs)(he:Ph [e,e2] X.env=(false,eval e X.env)::Ph [e2] X.env:=by rfl)
 (vS:(Q4 pos (Ph [e2] X.env)).any (·.1)=false:=by rfl):PD X Xw (.Call (.Name "isinstance" p) [e,e2] [] pos) (dA g8 δs):=
 eG Ah za hg hm hb ha (by decide) (by decide) he vS
def o8{x:Str}{T:String}(hg:Gl X x)(hm:X.mg x=none)(hv:Qi x=some (.type T))(hn:x≠"__name__":=by decide)(hd:(x==("__debug__":Str))=false:=by decide):PD X Xw (.Name x pos) (dC (.raw (.ty T))):=
 gN (v:= .ty T) (DM hg hm hv (show RelV (.ty T) (.type T) from rfl) hn hd) fun _=>rfl
def bools:List D->Option (List Bool)
 |[]=>some []
 | .bl b::r=>(bools r).map (b:: ·)
 |_=>none
def allM:List D->M D
 |[.lst ds]=>match bools ds with
  |some bs=>ab (.bl (bs.all id))
  |none=>af
 |_=>af
def qu{K:O2}{F:Hp}:∀{ds:List D}{vs:List V}{bs:List Bool},bools ds=some bs->DenL K F ds vs->vs=bs.map V.bl
 |[],_,_,e,h=>by cases e;exact h
 | .bl b::r,_,_,e,⟨v,r',h1,h2,h3⟩=>by
   unfold bools at e
   cases q:bools r with
   |none=>rw[q] at e;cases e
   |some bs=>rw[q] at e;cases e;subst h1;rw[qu q h3,show v= .bl b from h2];rfl
 | .non::_,_,_,e,_=>by cases e
 | .int _::_,_,_,e,_=>by cases e
 | .str _::_,_,_,e,_=>by cases e
 | .raw _::_,_,_,e,_=>by cases e
 | .exc _::_,_,_,e,_=>by cases e
 | .scr _::_,_,_,e,_=>by cases e
 | .tup _::_,_,_,e,_=>by cases e
 | .lst _::_,_,_,e,_=>by cases e
def yK:∀{bs:List Bool}{aK:List Value},Vals (bs.map V.bl) aK->aK=bs.map RI
 |[],_,r=>by cases r;rfl
 |b::bs,_,r=>by
  cases r with
  |cons r1 r2=>cases (show _=_ from r1);rw[yK r2];rfl
def Ll:List V->Hp->VK->Prop:=fun xs H Q=>∃(a:Addr) (bs:List Bool),xs=[.ref a]/\H a=some (.lst (bs.map V.bl))/\Q (.bl (bs.all id)) H
def all_range{bs:List Bool}:(Px bs.length).all (fun i=>bs.getD i false)=bs.all id:=by
 induction bs with
 |nil=>rfl
 |cons b bs ih=>
  rw[O5,Tw,Ro,Rf,Ro]
  congr 1
def yS(hc:X.calm=true):CallR X (.builtin "all") Ll:=by
 intro pins s σ H xs us Q I r h
 obtain⟨a,bs,rfl,hH,q⟩:=h
 obtain⟨u,rfl,r1⟩:=vals1 r
 cases (show u=_ from r1)
 obtain⟨aK,r2,pl,hz⟩:=I.list (SqL.of (K:=X.K) hH)
 obtain rfl:=yK r2
 have gX:a≠s.heap.objs.size:=PL (I.hok.lt hH)
 refine call_all_walk (wpAny_pyIter_list pl.isList ?_)
 refine⟨s.heap.objs.size,_,_,_,_,_,fun i=>bs.getD i false,rfl,Walks.list (A:=X.A.in1) (show X.A.in1.handled=none from I.ok.hd hc) s.heap.objs.size a gX (bs.map RI).toArray,⟨⟨_,Pt _ rfl,rfl,rfl⟩,Heap.IsList.at pl.isList fun o e=>O4 _ e⟩,?_,fun h' tk k=>?_⟩
 ·intro i v s' Q' E' hv hq
  have hv:(bs.map RI).toArray[i]? =some v:=hv
  rw[List.getElem?_toArray,O_] at hv
  cases q':bs[i]? with
  |none=>rw[q'] at hv;cases hv
  |some b=>
   rw[q'] at hv
   cases hv
   have:bs.getD i false=b:=by rw[Pu,q'];rfl
   have hq:Q' (bs.getD i false) s':=hq
   rw[this] at hq
   exact Qo hq
 ·have e:(Px (bs.map RI).toArray.size).all (fun i=>bs.getD i false)=bs.all id:=by
   rw[O7,OW];exact all_range
  rw[e]
  refine⟨.bl (bs.all id),H,I.kept (h':=h') (t':=tk) fun b o e'=>k b o (fun z=>?_) (O4 _ e'),rfl,q⟩
  have z:b=s.heap.objs.size:=by simpa using z
  exact absurd (Pc e') (by rw[z];exact Qb _)
def sP(hc:X.calm=true)(hg:Gl X "all")(hm:X.mg "all"=none)(hb:Qi "all"=some (.builtin "all"))(ha:pT X Xw [e] δs)(he:Ph [e] X.env=[(false,eval e X.env)]:=by rfl):PD X Xw (.Call (.Name "all" p) [e] [] pos) (dA allM δs):=
 eG (yS hc) (fun Xw F H vs ds Q s h w=>by
  unfold allM at w
  split at w
  ·rename_i ds
   obtain⟨v,rfl,h1⟩:=h.one
   obtain⟨a,ws,rfl,h2,h3,_⟩:=h1
   split at w
   ·rename_i bs hb
    exact⟨a,bs,rfl,by rw[<-qu hb h3];exact s _ _ h2,WP.now w s rfl⟩
   ·exact w.elim
  ·exact w.elim) hg hm hb ha (by decide) (by decide) he rfl
end
section
variable{X:Cx}{Xw:Nat->Hp->Prop}{a b e e2:Expr}{es:List Expr}{δ δa δb:DE}{pos p apos bc:Pos}
def Ec{i:Nat}:∀F₀ H₀ D σ H,tS X.K Xw F₀ H₀ (i7 i δ) D σ H->Cb (Lr X.K "list" yD (kg i) (B_ (tD X.K Xw δ) He)) D σ H:=fun F₀ H₀ D σ H ⟨F,Z,s,w⟩=>by
 unfold i7 at w
 cases ho:zx Z i with
 |none=>rw[ho] at w;exact w.elim
 |some ds=>
  rw[ho] at w
  have hi:=qW ho
  obtain⟨v,hv,a,o,rfl,hH,hF,vs,rfl,hd,hl⟩:=s.st.den i _ hi
  have w:WPS X.K Xw F₀ H₀ (δ Z>>=fun d=>if ds.length<lim then ab (.nx (Z.set i (some (.ow (.lst (ds++[d])))))) else af) D:=w
  refine⟨.ref a,hv, .inl ⟨rfl,vs,SqL.of hH⟩,F,Z,s.st,?_⟩
  rcases(δ Z).cs with q | ⟨n,q⟩ | ⟨d,q⟩
  ·rw[q] at w;exact w.elim
  ·rw[q] at w⊢;exact fun F' H' e'=>w F' H' (s.ext.trans e')
  ·rw[q] at w⊢
   intro u H1 F1 e1 hq
   have w:WPS X.K Xw F₀ H₀ (if ds.length<lim then ab (.nx (Z.set i (some (.ow (.lst (ds++[d])))))) else af) D:=w
   split at w
   ·rename_i iI
    have hlen:=hd.len
    refine⟨a,vs,u,rfl,rfl,e1.hh _ _ hH,by have:=dg;omega,?_⟩
    exact w σ F1 _ ((s.ext' e1).chg (c₀:= .lst (ds++[d])) hi hv ⟨_,rfl,DenL.append (DenL.mono e1.ff hd) (.cons hq .nil),by rw[O8];exact iI⟩)
   ·exact w.elim
def Ed{i:Nat}:∀F₀ H₀ D σ H,tS X.K Xw F₀ H₀ (BX i δ) D σ H->Cb (Lr X.K "list" yE (kg i) (B_ (tD X.K Xw δ) He)) D σ H:=fun F₀ H₀ D σ H ⟨F,Z,s,w⟩=>by
 unfold BX at w
 cases ho:zx Z i with
 |none=>rw[ho] at w;exact w.elim
 |some ds=>
  rw[ho] at w
  have hi:=qW ho
  obtain⟨v,hv,a,o,rfl,hH,hF,vs,rfl,hd,hl⟩:=s.st.den i _ hi
  have w:WPS X.K Xw F₀ H₀ (δ Z>>=fun d=>lstM d>>=fun es=>if ds.length+es.length<=lim then ab (.nx (Z.set i (some (.ow (.lst (ds++es)))))) else af) D:=w
  refine⟨.ref a,hv, .inl ⟨rfl,vs,SqL.of hH⟩,F,Z,s.st,?_⟩
  rcases(δ Z).cs with q | ⟨n,q⟩ | ⟨d,q⟩
  ·rw[q] at w;exact w.elim
  ·rw[q] at w⊢;exact fun F' H' e'=>w F' H' (s.ext.trans e')
  ·rw[q] at w⊢
   intro u H1 F1 e1 hq
   cases d with
   |lst es=>
    obtain⟨b,ws,rfl,k2,k3,k4⟩:=hq
    have w:WPS X.K Xw F₀ H₀ (if ds.length+es.length<=lim then ab (.nx (Z.set i (some (.ow (.lst (ds++es)))))) else af) D:=w
    split at w
    ·rename_i iI
     have hlen:=hd.len
     have Me:=k3.len
     refine⟨a,b,vs,ws,rfl,rfl,e1.hh _ _ hH,e1.fh _ _ k2,by have:=dg;omega,?_⟩
     exact w σ F1 _ ((s.ext' e1).chg (c₀:= .lst (ds++es)) hi hv ⟨_,rfl,DenL.append (DenL.mono e1.ff hd) k3,by rw[O8];exact iI⟩)
    ·exact w.elim
   |_=>exact w.elim
def jy{i:Nat}{x:Str}(hv:PE X (.Name x p) (kg i))(he:PD X Xw e δ)(hs:RF (.Call (.Attribute (.Name x p) "append" apos) [e] [] bc) none pos.line X.env=pure false:=by rfl)
 (kB:Ra (.Name x p) "append" X.env (eval (.Name x p) X.env)=eval (.Name x p) X.env:=by rfl)
 (rZ:((Q4 bc (Ph [e] X.env)).all (fun x=>!x.1)&&(SK bc (RG [] X.env)).all (fun x=>x.1.isSome)&&decide ([e].length+([]:List Rw).length+(if ([]:List Rw).isEmpty then 0 else 1)<30))=true:=by rfl)
 (kC:(apos.endLine==bc.line)=true:=by rfl)(C4:Ph [e] X.env=[(false,eval e X.env)]:=by rfl):ki X Xw (.Expr (.Call (.Attribute (.Name x p) "append" apos) [e] [] bc) pos) (i7 i δ):=fun F₀ H₀=>
 PS.weak (nu (By S6 PySem.F.slot_list_append PySem.F.type_list_append qR hv (sL he sM C4) kB rZ kC C4 rfl) hs) fun D σ H w=>Ec F₀ H₀ D σ H w
def DY{i:Nat}{x:Str}(hv:PE X (.Name x p) (kg i))(he:PD X Xw e δ)(hs:RF (.Call (.Attribute (.Name x p) "extend" apos) [e] [] bc) none pos.line X.env=pure false:=by rfl)
 (kB:Ra (.Name x p) "extend" X.env (eval (.Name x p) X.env)=eval (.Name x p) X.env:=by rfl)
 (rZ:((Q4 bc (Ph [e] X.env)).all (fun x=>!x.1)&&(SK bc (RG [] X.env)).all (fun x=>x.1.isSome)&&decide ([e].length+([]:List Rw).length+(if ([]:List Rw).isEmpty then 0 else 1)<30))=true:=by rfl)
 (kC:(apos.endLine==bc.line)=true:=by rfl)(C4:Ph [e] X.env=[(false,eval e X.env)]:=by rfl):ki X Xw (.Expr (.Call (.Attribute (.Name x p) "extend" apos) [e] [] bc) pos) (BX i δ):=fun F₀ H₀=>
 PS.weak (nu (By S6 PySem.F.slot_list_extend PySem.F.type_list_extend zm hv (sL he sM C4) kB rZ kC C4 rfl) hs) fun D σ H w=>Ed F₀ H₀ D σ H w
def Bo:OpR X (Rx .Add) (fun x y H Q=>∃a b ys,x= .ref a/\y= .ref b/\SqT X.K H a []/\SqT X.K H b ys/\Q (.ref b) H):=by
 intro pins s σ H x y v u Q I rx ry h
 obtain⟨a,b,ys,rfl,rfl,ha,hb,q⟩:=h
 cases rx
 cases ry
 obtain⟨aK,r1,p1,_⟩:=I.tuple ha
 obtain⟨fI,r2,p2,_⟩:=I.tuple hb
 cases r1
 obtain⟨⟨cls,dd,data,sl⟩,ho,hc,n,hd⟩:=id p1
 obtain⟨⟨Kk,CD,data2,J3⟩,FP,FC,n2,hd2⟩:=id p2
 simp only at hc hd FC hd2
 subst hc hd FC hd2
 exact concat_meets ⟨_,ho,rfl⟩ ⟨_,FP,rfl⟩ Te TZ RO RL (Ry _ _)
  (tuple_addW0 a b _ _ n n2 dd CD sl J3 (by simp)) ⟨ho,FP,⟨.ref b,H,I,rfl,q⟩⟩
def uu:D->D->M D
 | .tup x, .tup y=>if x.length+y.length<=lim then ab (.tup (x++y)) else af
 |_,_=>af
def DC(ha:PD X Xw a δa)(hb:PD X Xw b δb):PD X Xw (.BinOp a .Add b pos) (d2 uu δa δb):=o7 (Bo.or Dp) (fun Xw F H x y dx dy Q s hx hy w=>by
 unfold uu at w
 split at w
 ·rename_i i j
  obtain⟨a,vs,h1,h2,h3,h4⟩:=hx
  obtain⟨a',vs',k1,k2,k3,k4⟩:=hy
  split at w
  ·rename_i hl
   have e1:=h3.len
   have e2:=k3.len
   have:=dg
   by_cases hv:vs=[]
   ·subst hv
    have:i=[]:=by cases i with | nil=>rfl | cons _ _=>simp at e1
    subst this
    exact .inl ⟨a,a',vs',h1,k1,SqT.of (s _ _ h2),SqT.of (s _ _ k2),WP.now w s ⟨a',vs',k1▸rfl,k2,k3,k4⟩⟩
   ·refine .inr ⟨a,a',vs,vs',h1,k1,SqT.of (s _ _ h2),SqT.of (s _ _ k2),hv,by omega,fun z=>?_,fun z p hp=>?_⟩
    ·subst z
     have:j=[]:=by cases j with | nil=>rfl | cons _ _=>simp at e2
     subst this
     rw[Qj] at w
     exact WP.now w s ⟨a,vs,rfl,h2,h3,h4⟩
    ·exact WP.fin w (Ext.lay s hp) ⟨p,_,rfl,aD,DenL.mono (Ext.lay s hp).ff (h3.append k3),by rw[O8];exact hl⟩
  ·exact w.elim
 ·exact w.elim) ha hb
end
section
variable{X:Cx}{Xw:Nat->Hp->Prop}{a b e e2 o:Expr}{es:List Expr}{δa δb δo:DE}{δs:DA}{pos p apos bc:Pos}
def dM(kd:D->Bool)(g:D->List D->M D)(o:DE)(s:DA):DE:=fun Z=>o Z>>=fun d=>if kd d then s Z>>=fun ds=>g d ds else af
def Je{T:String}{name:Str}{id:String}{r:V->List V->Hp->VK->Prop}{kd:D->Bool}{g:D->List D->M D}(pa:PlainAttrs T)(slot:Slot T name id)(K2:typeOf (.builtin id)=pure (.type "method_descriptor"))(hm:Kb X id r)
 (hk:∀(F H:Hp) (x:V) (d:D),kd d=true->Same F H->Den X.K F d x->J7 X.K T x H)
 (hd:∀(Xw:Nat->Hp->Prop) (F H:Hp) (x:V) (vs:List V) (d:D) (ds:List D) (Q:VK),Same F H->Den X.K F d x->DenL X.K F ds vs->WP X.K Xw F H (g d ds) Q->r x vs H Q)
 (ho:PD X Xw o δo)(ha:pT X Xw (e::es) δs)
 (kB:Ra o name X.env (eval o X.env)=eval o X.env:=by rfl)
 (rZ:((Q4 bc (Ph (e::es) X.env)).all (fun x=>!x.1)&&(SK bc (RG [] X.env)).all (fun x=>x.1.isSome)
  &&decide ((e::es).length+([]:List Rw).length+(if ([]:List Rw).isEmpty then 0 else 1)<30))=true:=by rfl)
 (kC:(apos.endLine==bc.line)=true:=by rfl) (hs:Ph (e::es) X.env=(false,eval e X.env)::Ph es X.env:=by rfl) (wt:(Q4 bc (Ph es X.env)).any (·.1)=false:=by rfl):
 PD X Xw (.Call (.Attribute o name apos) (e::es) [] bc) (dM kd g δo δs):=PE.weak (By pa slot K2 hm ho ha kB rZ kC hs wt) fun σ H Q ⟨F,Z,s,w⟩=>by
 refine⟨F,Z,s,WP.mono (WP.bind w) fun v H1 ⟨F1,d,e1,q1,w1⟩=>?_⟩
 split at w1
 ·rename_i CY
  refine⟨hk F1 H1 v d CY e1.fh q1,F1,Z,s.ext e1,WPL.mono (WP.bindL w1) fun vs H2 ⟨F2,ds,e2,q2,w2⟩=>?_⟩
  exact hd Xw F2 H2 v vs d ds Q e2.fh (Den.mono e2.ff q1) q2 w2
 ·exact w1.elim
def IM:D->Bool
 | .str _=>true
 |_=>false
def FY{K:O2}(F H:Hp)(x:V)(d:D)(h:IM d=true)(s:Same F H)(q:Den K F d x):J7 K "str" x H:=by
 cases d with
 |str z=>cases (show _=_ from q.1);exact rfl
 |_=>cases h
def tH:List D->Option (List Str)
 |[]=>some []
 | .str x::r=>(tH r).map (x:: ·)
 |_=>none
def pJ{K:O2}{F:Hp}:∀{ds:List D}{vs:List V}{xs:List Str},tH ds=some xs->DenL K F ds vs->vs=xs.map V.str
 |[],_,_,e,h=>by cases e;exact h
 | .str b::r,_,_,e,⟨v,r',h1,h2,h3⟩=>by
   unfold tH at e
   cases q:tH r with
   |none=>rw[q] at e;cases e
   |some bs=>rw[q] at e;cases e;subst h1;rw[pJ q h3,show v= .str b from h2.1];rfl
 | .non::_,_,_,e,_=>by cases e
 | .int _::_,_,_,e,_=>by cases e
 | .bl _::_,_,_,e,_=>by cases e
 | .raw _::_,_,_,e,_=>by cases e
 | .exc _::_,_,_,e,_=>by cases e
 | .scr _::_,_,_,e,_=>by cases e
 | .tup _::_,_,_,e,_=>by cases e
 | .lst _::_,_,_,e,_=>by cases e
def pL:∀{xs:List Str}{aK:List Value},Vals (xs.map V.str) aK->StrsAre aK xs
 |[],_,r=>by cases r;exact .nil
 |b::bs,_,r=>by
  cases r with
  |cons r1 r2=>obtain⟨t,rfl⟩:=r1;exact .cons b t (pL r2)
def eN:List Str->Str
 |[]=>⟨#[]⟩
 |x::r=>x++eN r
def joinM:D->List D->M D
 | .str sep,[.lst ds]=>match tH ds with
   |some xs=>if sep.length=0/\(xs.map (·.length)).sum<=lim then ab (.str (eN xs)) else af
   |none=>af
 | .str sep,[.tup ds]=>match tH ds with
   |some xs=>if sep.length=0/\(xs.map (·.length)).sum<=lim then ab (.str (eN xs)) else af
   |none=>af
 |_,_=>af
def nP:∀xs:List Str,(eN xs).length=(xs.map (·.length)).sum
 |[]=>rfl
 |x::r=>by
  show (x++eN r).length=_
  rw[jg,nP r,O3,Sq]
def Ea{x:Str}(h:x.length=0):x=⟨#[]⟩:=by
 obtain⟨⟨l⟩⟩:=x
 have:l.length=0:=h
 cases l with
 |nil=>rfl
 |cons _ _=>simp at this
def mM(x:Str):x++(⟨#[]⟩:Str)=x:=by
 obtain⟨c⟩:=x
 show (⟨c++ #[]⟩:Str)=⟨c⟩
 simp
def ma(sep:Str)(h:sep.length=0):∀xs:List Str,Txt.join sep xs=eN xs:=by
 have e:=Ea h
 subst e
 intro xs
 show Builtin.Str.glued _ xs=_
 rw[StrLaws.glued_eq_join]
 induction xs with
 |nil=>rfl
 |cons x r ih=>
  cases r with
  |nil=>show x=x++(⟨#[]⟩:Str);rw[mM]
  |cons y r=>show x++(⟨#[]⟩:Str)++Str.join _ (y::r)=x++eN (y::r);rw[mM,ih]
def rJoin(K:O2):V->List V->Hp->VK->Prop:=fun x vs H Q=>∃(sep:Str) (a:Addr) (xs:List Str),x= .str sep/\vs=[.ref a]/\(H a=some (.lst (xs.map V.str))\/H a=some (.tup (xs.map V.str)))/\sep.length=0/\(xs.map (·.length)).sum<=lim/\Q (.str (eN xs)) H
def Dj:Kb X "str.join" (rJoin X.K):=by
 intro pins s σ H x vs v us Q I rx rv h
 obtain⟨sep,a,xs,rfl,rfl,hH,hs,hl,q⟩:=h
 obtain⟨t,rfl⟩:=rx
 obtain⟨u,rfl,r1⟩:=rv.one
 cases (show u=_ from r1)
 have hok:(xs.map (·.length)).sum+xs.length*sep.length<=16777216:=by
  rw[hs,Nat.mul_zero]
  unfold lim at hl
  omega
 rcases hH with hH | hH
 ·obtain⟨aK,r2,pl,hz⟩:=I.list (SqL.of (K:=X.K) hH)
  refine join_list pl.isList (by simpa using pL r2) hok fun t' k=>⟨.str (eN xs),H,I.tok k,⟨t',by rw[ma sep hs]⟩,q⟩
 ·obtain⟨aK,r2,pl,hz⟩:=I.tuple (SqT.of (K:=X.K) hH)
  refine join_tuple pl (by simpa using pL r2) hok fun t' k=>⟨.str (eN xs),H,I.tok k,⟨t',by rw[ma sep hs]⟩,q⟩
def DG(ho:PD X Xw o δo)(ha:pT X Xw [e] δs)(kB:Ra o "join" X.env (eval o X.env)=eval o X.env:=by rfl)
 (rZ:((Q4 bc (Ph [e] X.env)).all (fun x=>!x.1)&&(SK bc (RG [] X.env)).all (fun x=>x.1.isSome)&&decide ([e].length+([]:List Rw).length+(if ([]:List Rw).isEmpty then 0 else 1)<30))=true:=by rfl)
 (kC:(apos.endLine==bc.line)=true:=by rfl)(C4:Ph [e] X.env=[(false,eval e X.env)]:=by rfl):PD X Xw (.Call (.Attribute o "join" apos) [e] [] bc) (dM IM joinM δo δs):=
 Je PySem.F.plainAttrs_str PySem.F.slot_str_join PySem.F.type_str_join Dj FY (fun Xw F H x vs d ds Q s hx hv w=>by
  unfold joinM at w
  split at w
  ·rename_i sep ds
   obtain⟨v,rfl,h1⟩:=hv.one
   obtain⟨a,ws,rfl,h2,h3,_⟩:=h1
   split at w
   ·rename_i xs IE
    split at w
    ·rename_i hc
     exact⟨sep,a,xs,hx.1,rfl, .inl (by rw[<-pJ IE h3];exact s _ _ h2),hc.1,hc.2,WP.now w s ⟨rfl,by rw[nP];exact hc.2⟩⟩
    ·exact w.elim
   ·exact w.elim
  ·rename_i sep ds
   obtain⟨v,rfl,h1⟩:=hv.one
   obtain⟨a,ws,rfl,h2,h3,_⟩:=h1
   split at w
   ·rename_i xs IE
    split at w
    ·rename_i hc
     exact⟨sep,a,xs,hx.1,rfl, .inr (by rw[<-pJ IE h3];exact s _ _ h2),hc.1,hc.2,WP.now w s ⟨rfl,by rw[nP];exact hc.2⟩⟩
    ·exact w.elim
   ·exact w.elim
  ·exact w.elim) ho ha kB rZ kC C4 rfl
def sS(hc:X.calm=true)(hg:Gl X "max")(hm:X.mg "max"=none)(hb:Qi "max"=some (.builtin "max"))(ha:pT X Xw [e,e2] δs)(he:Ph [e,e2] X.env=(false,eval e X.env)::Ph [e2] X.env:=by rfl)
 (vS:(Q4 pos (Ph [e2] X.env)).any (·.1)=false:=by rfl):PD X Xw (.Call (.Name "max" p) [e,e2] [] pos) (dA pZ δs):=
 eG (yT hc) (fun Xw F H vs ds Q s h w=>by
  unfold pZ at w
  split at w
  ·obtain⟨v,v',rfl,h1,h2⟩:=h.two
   cases (show _=_ from h1)
   cases (show _=_ from h2)
   exact⟨_,_,rfl,WP.now w s rfl⟩
  ·exact w.elim) hg hm hb ha (by decide) (by decide) he vS
def Bv(hc:X.calm=true)(hg:Gl X "min")(hm:X.mg "min"=none)(hb:Qi "min"=some (.builtin "min"))(ha:pT X Xw [e,e2] δs)(he:Ph [e,e2] X.env=(false,eval e X.env)::Ph [e2] X.env:=by rfl)
 (vS:(Q4 pos (Ph [e2] X.env)).any (·.1)=false:=by rfl):PD X Xw (.Call (.Name "min" p) [e,e2] [] pos) (dA zl δs):=
 eG (yU hc) (fun Xw F H vs ds Q s h w=>by
  unfold zl at w
  split at w
  ·obtain⟨v,v',rfl,h1,h2⟩:=h.two
   cases (show _=_ from h1)
   cases (show _=_ from h2)
   exact⟨_,_,rfl,WP.now w s rfl⟩
  ·exact w.elim) hg hm hb ha (by decide) (by decide) he vS
def nums:List D->Option (List Int)
 |[]=>some []
 | .int x::r=>(nums r).map (x:: ·)
 |_=>none
def ux{K:O2}{F:Hp}:∀{ds:List D}{vs:List V}{xs:List Int},nums ds=some xs->DenL K F ds vs->vs=xs.map V.int
 |[],_,_,e,h=>by cases e;exact h
 | .int b::r,_,_,e,⟨v,r',h1,h2,h3⟩=>by
   unfold nums at e
   cases q:nums r with
   |none=>rw[q] at e;cases e
   |some bs=>rw[q] at e;cases e;subst h1;rw[ux q h3,show v= .int b from h2];rfl
 | .non::_,_,_,e,_=>by cases e
 | .str _::_,_,_,e,_=>by cases e
 | .bl _::_,_,_,e,_=>by cases e
 | .raw _::_,_,_,e,_=>by cases e
 | .exc _::_,_,_,e,_=>by cases e
 | .scr _::_,_,_,e,_=>by cases e
 | .tup _::_,_,_,e,_=>by cases e
 | .lst _::_,_,_,e,_=>by cases e
def CP(neg:Bool):D->D->M D
 | .int i, .tup ds=>match nums ds with | some ns=>ab (.bl (if neg then !ns.contains i else ns.contains i)) | none=>af
 |_,_=>af
def AS(i:Int)(ns:List Int):JZ (.int i) (ns.map V.int)=ns.contains i:=by
 unfold JZ
 rw[List.any_map]
 induction ns with
 |nil=>rfl
 |cons n ns ih=>
  rw[Rn,List.contains_cons,ih]
  congr 1
  show Cm (.int n) (.int i)=(i==n)
  unfold Cm
  exact Bool.beq_comm
def FW{neg:Bool}{K:O2}:tU K (MC K neg) (CP neg):=fun Xw F H x y dx dy Q s hx hy w=>by
 unfold CP at w
 split at w
 ·rename_i i ds
  obtain⟨a,vs,h1,h2,h3,h4⟩:=hy
  split at w
  ·rename_i ns hn
   have hv:=ux hn h3
   subst hv
   cases (show _=_ from hx)
   refine⟨a,ns.map V.int,h1, .inr (SqT.of (s _ _ h2)),rfl,?_,?_⟩
   ·rw[Rf]
    exact Pl.mpr fun _ _=>rfl
   ·rw[AS]
    exact WP.now w s rfl
  ·exact w.elim
 ·exact w.elim
def zD(ha:PD X Xw a δa)(hb:PD X Xw b δb)(hm:P8 .NotIn b=false:=by rfl):lj X Xw (.Compare a [.NotIn] [b] pos) (bH (d2 (CP true) δa δb)):=eo sI FW ha hb hm
def AD(neg:Bool):D->D->M D
 | .str x, .str y=>ab (.bl (if neg then !(!(QL y x 0 y.length 1).isEmpty) else !(QL y x 0 y.length 1).isEmpty))
 |_,_=>af
def GD(ha:PD X Xw a δa)(hb:PD X Xw b δb)(hm:P8 .In b=false:=by rfl):PD X Xw (.Compare a [.In] [b] pos) (d2 (AD false) δa δb):=wZ zv (fun Xw F H x y dx dy Q s hx hy w=>by
 unfold AD at w
 split at w
 ·exact⟨_,_,hx.1,hy.1,WP.now w s rfl⟩
 ·exact w.elim) ha hb hm
end
end L3
namespace L3
open PySem PySem.Spec L2 SeqAt HT
open PyProof.Rows hiding St
section
variable{Xw:Nat->Hp->Prop}{b:Expr}
def WPO(Xw:Nat->Hp->Prop)(F H:Hp)(m:M (Option Int))(Q:Option Int->Hp->Prop):Prop:=
 match m with
 |none=>False
 |some (.ok b)=>∀H' F',Ext F H F' H'->Q b H'
 |some (.ex n)=>∀F' H',Ext F H F' H'->Xw n H'
def WPO.mono{Xw:Nat->Hp->Prop}{F H:Hp}{m:M (Option Int)}{Q Q':Option Int->Hp->Prop}(h:WPO Xw F H m Q)(k:∀v H',Q v H'->Q' v H'):WPO Xw F H m Q':=by
 match m,h with
 |none,h=>exact h
 |some (.ok d),h=>exact fun H2 F2 e2=>k _ _ (h H2 F2 e2)
 |some (.ex n),h=>exact h
end
def JI(x:Str):It:=⟨fun i _=>i<x.cps.size,fun i H v H'=>H'=H/\∃c,x.cps[i]? =some c/\v= .str ⟨#[c]⟩,fun i _=>x.cps.size<=i⟩
def zT{P:Pw}{w:World}{K:O2}{tg:Expr}(it:Addr)(x:Str)(t:Tok):Turn P w K tg (JI x) [it] it (fun i h=>i<=x.cps.size/\h.IsStrIter it "str_ascii_iterator" x t i) where
 mem:=by simp
 obj:=fun i h st b hb=>by
  have e:b=it:=by simpa using hb
  subst e
  obtain⟨_,o,e,c,d⟩:=st
  exact⟨o,e,fun v z=>by rw[d] at z;cases z⟩
 keep:=fun i h h' st k=>⟨st.1,let ⟨o,e,r⟩:=st.2;⟨o,k it (by simp) o e,r⟩⟩
 item:=by
  intro X hP hw hK hc i pins s σ H E I hf st hg
  subst hP hw hK
  obtain⟨f0,f1,f2,f3,f4,f5⟩:=hf it (by simp)
  have hi:i<x.cps.size:=hg
  refine(Walks.strAscii (prog:=X.prog) (w:=X.w) (I.ok.hd hc) it x t).item i s _ _ hi st.2 fun v h' tk hv pG kk=>?_
  obtain⟨c,u,Kt,rfl⟩:=hv
  have I1:Inv X pins σ H {s with heap:=h',toks:=tk}:=I.turned (fun b o hb e=>kk b o (by simpa using hb) e) f0 f1 f3 f4 f5
  obtain⟨o,e,cc,dd⟩:=id pG
  exact⟨_,rfl,qE (s:={s with heap:=h',toks:=tk}) e cc dd (by decide) ⟨.str ⟨#[c]⟩,H,I1,⟨u,rfl⟩,⟨rfl,c,Kt,rfl⟩,⟨hi,pG⟩,fun b hb=>(hf b hb).1⟩⟩
 done:=by
  intro X hP hw hK hc i pins s σ H E I hf st hg
  subst hP hw hK
  obtain⟨f0,f1,f2,f3,f4,f5⟩:=hf it (by simp)
  have hi:i=x.cps.size:=Q1 st.1 hg
  subst hi
  exact(Walks.strAscii (prog:=X.prog) (w:=X.w) (I.ok.hd hc) it x t).done s _ _ st.2 fun h' tk kk=>⟨rfl,I.turned (fun b o hb e=>kk b o (by simpa using hb) e) f0 f1 f3 f4 f5⟩
 self:=fun _ _ _ _ _ st h=>wpAny_pyIter_striter_ascii st.2 h
def zU{P:Pw}{w:World}{K:O2}{tg:Expr}(it:Addr)(x:Str)(t:Tok):Turn P w K tg (JI x) [it] it (fun i h=>i<=x.cps.size/\h.IsStrIter it "str_iterator" x t i) where
 mem:=by simp
 obj:=fun i h st b hb=>by
  have e:b=it:=by simpa using hb
  subst e
  obtain⟨_,o,e,c,d⟩:=st
  exact⟨o,e,fun v z=>by rw[d] at z;cases z⟩
 keep:=fun i h h' st k=>⟨st.1,let ⟨o,e,r⟩:=st.2;⟨o,k it (by simp) o e,r⟩⟩
 item:=by
  intro X hP hw hK hc i pins s σ H E I hf st hg
  subst hP hw hK
  obtain⟨f0,f1,f2,f3,f4,f5⟩:=hf it (by simp)
  have hi:i<x.cps.size:=hg
  refine(Walks.strWide (prog:=X.prog) (w:=X.w) (I.ok.hd hc) it x t).item i s _ _ hi st.2 fun v h' tk hv pG kk=>?_
  obtain⟨c,u,Kt,rfl⟩:=hv
  have I1:Inv X pins σ H {s with heap:=h',toks:=tk}:=I.turned (fun b o hb e=>kk b o (by simpa using hb) e) f0 f1 f3 f4 f5
  obtain⟨o,e,cc,dd⟩:=id pG
  exact⟨_,rfl,qE (s:={s with heap:=h',toks:=tk}) e cc dd (by decide) ⟨.str ⟨#[c]⟩,H,I1,⟨u,rfl⟩,⟨rfl,c,Kt,rfl⟩,⟨hi,pG⟩,fun b hb=>(hf b hb).1⟩⟩
 done:=by
  intro X hP hw hK hc i pins s σ H E I hf st hg
  subst hP hw hK
  obtain⟨f0,f1,f2,f3,f4,f5⟩:=hf it (by simp)
  have hi:i=x.cps.size:=Q1 st.1 hg
  subst hi
  exact(Walks.strWide (prog:=X.prog) (w:=X.w) (I.ok.hd hc) it x t).done s _ _ st.2 fun h' tk kk=>⟨rfl,I.turned (fun b o hb e=>kk b o (by simpa using hb) e) f0 f1 f3 f4 f5⟩
 self:=fun _ _ _ _ _ st h=>wpAny_pyIter_striter_wide st.2 h
section
variable{X:Cx}{Xw:Nat->Hp->Prop}{tg a b e l o:Expr}{δ:DE}
def K8(tl:TE):TI:=fun σ H R=>tl σ H fun x H1=>∃z,x= .str z/\R (JI z) H1
def GU{tl:TE}(hl:PE X l tl):PI X tg l (K8 tl):=by
 intro pins s σ H R I h
 refine b7 (hl pins s σ H _ I h) fun v s1 ⟨x,H1,I1,r1,q1⟩=>?_
 obtain⟨z,e,q⟩:=q1
 subst e
 obtain⟨t,rfl⟩:=r1
 have fp:∀b∈[s1.heap.objs.size],pU X pins H1 b:=fun b hb=>by
  have e:b=s1.heap.objs.size:=by simpa using hb
  subst e
  exact I1.fpOk (O9 _) (I1.hok.fresh (O9 _))
 cases ha:z.cps.all (· <128)
 ·exact wpAny_pyIter_wide ha ⟨s1.heap.objs.size,[s1.heap.objs.size],_,_,H1,rfl,I1.kept (t':=s1.toks) fun b o e=>O4 _ e,zU _ z t,⟨PB _,_,Pt _ rfl,rfl,rfl⟩,fp,q⟩
 ·exact wpAny_pyIter_ascii ha ⟨s1.heap.objs.size,[s1.heap.objs.size],_,_,H1,rfl,I1.kept (t':=s1.toks) fun b o e=>O4 _ e,zT _ z t,⟨PB _,_,Pt _ rfl,rfl,rfl⟩,fp,q⟩
def signs(x:Str):List D:=x.cps.toList.map fun c=>D.str ⟨#[c]⟩
def G9:D->M (List D)
 | .str x=>ab (signs x)
 |_=>af
def Dc{K:O2}{F:Hp}(x:Str):ItD K F (JI x) (signs x):=fun F' H' i s1 s2=>by
 refine⟨fun d e=>?_,fun hl=>show x.cps.size<=i by simpa[signs] using hl⟩
 unfold signs at e
 rw[O_] at e
 cases q:x.cps.toList[i]? with
 |none=>rw[q] at e;cases e
 |some c=>
  rw[q] at e
  cases e
  have hi:i<x.cps.size:=by
   have:=(OZ.mp q).1
   simpa using this
  refine⟨hi,fun v H'' y=>?_⟩
  obtain⟨e2,c',AK,rfl⟩:=y
  subst e2
  have:c'=c:=by
   have q':x.cps[i]? =some c:=by simpa using q
   rw[q'] at AK
   exact(Pg AK).symm
  subst this
  exact⟨F',Ext.refl s2,rfl,by show 1<=lim;decide⟩
def DL(h:PD X Xw l δ):vN X Xw tg l (fun Z=>δ Z>>=G9):=PI.weak (GU h) fun σ H R ⟨F,Z,s,w⟩=>by
 refine⟨F,Z,s,WP.mono (WPI.bind w) fun v H1 ⟨F1,d,e1,q1,w1⟩=>?_⟩
 cases d with
 |str z=>exact⟨z,q1.1,w1 _ _ _ (Ext.refl e1.fh) (Dc z)⟩
 |_=>exact w1.elim
end
end L3
namespace L3
open PySem PySem.Spec L2 SeqAt HT
open PyProof.Rows hiding St
open PySem.W (Frag Looks InstAt findIn mroIn)
open PySem.Builtin PySem.Builtin.ObjectAttr PySem.Builtin.Getset_descriptor
section
end
end L3
namespace L3
open PySem PySem.Spec L2 SeqAt HT
open PyProof.Rows hiding St
structure RoomH (k:Nat) (A:P_):Prop where
 dp:A.depth+3*k+5<TB
 un:A.units+16*k+200<cLine
def RoomH.deeper{k:Nat}{A:P_}(r:RoomH (k+1) A)(env:Env):RoomH k (A.deeper env):=
 ⟨by have:=r.dp;show A.depth+1+3*k+5<_;omega,by have:=r.un;show A.units+3+16*k+200<_;omega⟩
def RoomH.units{k:Nat}{A:P_}(r:RoomH k A):A.units+64<cLine:=by have:=r.un;omega
def xM(N:List Str)(osc scope:Scope)(tn:List Str):Bool:=
 decide (scope.kind= .function)&&scope.names.all (fun y=>decide (y.2≠ .cell))&&scope.names.all (fun y=>decide (y.2= .local->scope.names.lookup y.1=some .local))&&
 scope.names.all (fun y=>decide (y.2= .free->(osc.names.lookup y.1=some .cell\/osc.names.lookup y.1=some .free)))&&
 ((dj tn N).zip N).all (fun p=>decide (scope.names.lookup p.1=none\/(p.1=p.2/\scope.names.lookup p.1=some .free)))
def cg{X:Cx}{N:List Str}{osc scope:Scope}{tn:List Str}(hN:X.N=N)(ho:X.env.scope=osc)(h:xM N osc scope tn=true):CompSc X scope tn:=by
 unfold xM at h
 simp only[PK,Pl,decide_eq_true_eq] at h
 obtain⟨⟨⟨⟨h1,h2⟩,h3⟩,h4⟩,h5⟩:=h
 refine⟨h1,h2,h3,fun y hy hf=>?_,?_⟩
 ·have:=h4 y hy hf
  rw[<-ho] at this
  exact this
 ·rw[hN]
  exact h5
def dP{X:Cx}{x:Str}{px:Pos}{σ:St}(hN:X.N.Nodup)(h0:X.N[0]? =some x)(FK:X.env.scope.names.lookup x=some .local):z6 X (.Name x px) 0 σ:=fun pins s σ' F H d ts v u I fh hd rv q e=>by
 have e:ab [d]=ab ts:=e
 have e:=er e
 subst e
 refine S1 (vx I hN h0 (.inl FK) rv (fun s' I'=>⟨[v],?_, .cons q .nil⟩) (.inr FK))
 have hl:0<σ'.length:=by rw[I.len];exact(OZ.mp h0).1
 have:σ'.set 0 (some v)=[v].map some++σ:=by
  cases σ' with
  |nil=>simp at hl
  |cons a r=>
   have hd:r=σ:=by simpa using hd
   subst hd
   rfl
 rw[<-this]
 exact I'
def bP{P:Pw}{w:World}{cv:Nat->Value}{X:Cx}:Passes (ql P w cv) X (EX cv fun _ _=>False):=fun _ _ _ _ _ _ _ ⟨_,_,_,_,_,_,_,_,_,_,_,_,_,_,z⟩=>z.elim
def bj(K:O2)(mg:Str->Option Value)(x:Str)(st:Stmt)(f:Addr):Prop:=mg x=some (.ref f)/\∃fd,Fun K x x st f fd
def ao(P:Pw)(w:World)(K:O2)(mg:Str->Option Value)(base:Heap)(cv:Nat->Value)(k:Nat)(x:Str)(m:Nat)(g:List D->M D):Prop:=
 ∃f fd ps,mg x=some (.ref f)/\Qy K (.ref f)=true/\Binds K fd ps []/\FnOk P w K mg base (ql P w cv) k f fd ps (Hr K cv m g)
section
variable{X:Cx}{Xw:Nat->Hp->Prop}{cv:Nat->Value}{k m:Nat}{g:List D->M D}{x:Str}{p pos:Pos}{e:Expr}{es:List Expr}{δs:DA}
def aq(m:Nat)(g:List D->M D)(δs:DA):DE:=fun Z=>δs Z>>=fun ds=>if ds.length=m then g ds else af
def aO(F:ao X.prog X.w X.K X.mg X.base cv k x m g)(hr:Room k X.A)(hg:Gl X x)(hx:Passes (ql X.prog X.w cv) X (EX cv Xw))
 (ha:pT X Xw (e::es) δs)(hl:(e::es).length=m)(wo:(x==("__debug__":Str))=false:=by decide)(he:Ph (e::es) X.env=(false,eval e X.env)::Ph es X.env:=by rfl)(vS:(Q4 pos (Ph es X.env)).any (·.1)=false:=by rfl):
 PD X Xw (.Call (.Name x p) (e::es) [] pos) (aq m g δs):=by
 obtain⟨f,fd,ps,h1,h2,h3,h4⟩:=F
 exact DB h4 hr hg h1 h2 h3 hx ha hl wo he vS
end
def az{P:Pw}{w:World}{K:O2}{mg:Str->Option Value}{base:Heap}{cv:Nat->Value}{k:Nat}{x:Str}{st:Stmt}{f:Addr}{N ps:List Str}{τ:DS}(T:bj K mg x st f)(S:FnScope N ps (ak st))
 (Nf:∀(kV doc pm:Value) (an:Option Addr) (b9 ct:Value) (us:List Value),us.length=ps.length->bindArgs (Qq x x (ei st) (bQ st) (ak st) .none kV doc pm an b9 ct) ⟨us,[]⟩=pure (ps.zip us))
 (n9:∀(b9:Value) (A:P_) (outer:List Env) (s:O0) (H:Hp) (E:XK),Room k (A.deeper (RH x (ak st) s.heap.objs.size f b9))->
  PSDs (gx (ql P w cv) P w K mg base N x (ak st) f b9 A outer s H E) (fun n H'=>E (cv n) none H') (bQ st) τ):ao P w K mg base cv (k+1) x ps.length (bS N.length τ):=by
 obtain⟨h1,fd,Fn⟩:=T
 exact⟨f,fd,ps,h1,Fn.kp,Fn.binds Nf,HP Fn S n9⟩
section
variable{X:Cx}{Xw:Nat->Hp->Prop}{a:Expr}{δ:DE}{pos:Pos}
def sm:D->M D
 | .int i=>ab (.int (-i))
 |_=>af
def Bw(ha:PD X Xw a δ):PD X Xw (.UnaryOp .USub a pos) (d1 sm δ):=PE.weak (Jh Hi ha) fun σ H Q ⟨F,Z,s,w⟩=>by
 refine⟨F,Z,s,WP.mono (WP.bind w) fun v H1 ⟨F1,d,e1,q,w1⟩=>?_⟩
 cases d with
 |int i=>
  have q:v= .int i:=q
  subst q
  exact⟨i,rfl,WP.now w1 e1.fh rfl⟩
 |_=>exact w1.elim
end
section
variable{X:Cx}{Xw:Nat->Hp->Prop}{pos:Pos}
def DI{x z:Str}(hg:Gl X x)(h:∃t,X.mg x=some (.str z t))(hz:z.length<=lim)(wo:(x==("__debug__":Str))=false:=by decide):PD X Xw (.Name x pos) (dC (.str z)):=by
 obtain⟨t,h⟩:=h
 exact yq (v:= .str z) hg h ⟨t,rfl⟩ (fun _=>⟨rfl,hz⟩) wo
def yr{x:Str}{i:Int}(hg:Gl X x)(h:∃t,X.mg x=some (.int i t))(wo:(x==("__debug__":Str))=false:=by decide):PD X Xw (.Name x pos) (dC (.int i)):=by
 obtain⟨t,h⟩:=h
 exact yq (v:= .int i) hg h ⟨t,rfl⟩ (fun _=>rfl) wo
end
def D5(sc osc:Scope):Scope:={sc with names:=sc.names.map fun(n,k)=>if (k== .free&&osc.kind== .function&&osc.names.lookup n==some .cell) then(n, .cell) else(n,k)}
structure Box (p:Prop):Prop where
 out:p
section
variable{X:Cx}{Xw:Nat->Hp->Prop}
def vX{st:Stmt}{rest:List Stmt}{τ τ':DS}(h1:Box (ki X Xw st τ))(h2:Box (PSDs X Xw rest τ')):Box (PSDs X Xw (st::rest) (ay τ τ')):=⟨ah h1.out h2.out⟩
def Fh{st:Stmt}{τ:DS}(h1:Box (ki X Xw st τ)):Box (PSDs X Xw [st] τ):=⟨ar h1.out⟩
end
def JH{l:T4}{n k:Nat}{q:Pw}{loose:List Str}{XP:(Str->Option Value)->Heap->Prop}{YP:World->Heap->Prop}{d:DefRec}{K:Params->O2}{x:Str}{g:List D->M D}
 (hn:l.most=some n)(JR:n<=lim)(H_:d.params.defaults=[])(hr:Room k S3)
 (hY:∀(w:World) (h:Heap),YP w h->(K w.params).In h)(hg:∀ns:List Int,ns.length<=n->g [.scr ns]=ab (.bl true))
 (F:∀(w:World) (mg:Str->Option Value) (fa:Addr) (h:Heap),(K w.params).In h->h.Ns Pm mg->mg d.name=some (.ref fa)->
  ∃(cv:Nat->Value) (fd:QT),(∀(s:O0) (u:Value),T6 s fd ⟨[u],[]⟩ [(x,u)])/\
   ∀base:Heap,(K w.params).In base->base.Ns Pm mg->FnOk l.prog w (K w.params) mg base (ql l.prog w cv) k fa fd [x] (Hr (K w.params) cv 1 g)):
 PySem.W.WalkO q loose XP YP l.row.toRowW d [] (fun f vs=>T3 f vs):=by
 refine Att.attach_call hn H_ fun w s₀ s₁ mg mb fa o pm cd doc a vs ns G Y ho hd vP FN AN hints hlen Nw=>?_
 have KX:=hY w _ Y
 obtain⟨cv,fd,hb,hF⟩:=F w mg fa _ KX G.T.g FN
 refine uA KX G.T.g G.T.b G.T.builtins G.T.nolimit Nw AN hints (PM hlen (PM JR (QI dg))) hr hF hb (fun H hO hS=>?_) fun H e s' z=>?_
 ·refine⟨H,[.scr ns],fun _ _ e=>e,⟨_,_,rfl,⟨a,rfl,hS,PM hlen JR⟩,rfl⟩,rfl,?_⟩
  rw[hg ns hlen]
  exact fun v H' F' e q=>q
 ·obtain⟨_,_,_,_,_,_,_,_,_,_,_,_,_,_,y⟩:=z
section
end
section
variable{e:Expr}
end
def oB:D->Option Key
 | .int i=>some (.inl i)
 | .str x=>some (.inr x)
 |_=>none
def Df:List D->Option (List Key)
 |[]=>some []
 |d::ds=>match oB d,Df ds with
  |some k,some ks=>some (k::ks)
  |_,_=>none
def jX:D->Option (List Key)
 | .tup ds=>Df ds
 |_=>none
def gD{K:O2}{F:Hp}{d:D}{v:V}{k:Key}(e:oB d=some k)(h:Den K F d v):v=kV k:=by
 cases d<;>first | cases e | skip
 ·exact h
 ·exact h.1
def kD{K:O2}{F:Hp}:∀{ds:List D}{vs:List V}{ks:List Key},Df ds=some ks->DenL K F ds vs->vs=ks.map kV
 |[],_,_,e,h=>by cases e;exact h
 |d::ds,_,_,e,⟨v,r,h1,h2,h3⟩=>by
  unfold Df at e
  split at e
  ·rename_i k ks e1 e2
   cases e
   subst h1
   rw[O3,gD e1 h2,kD e2 h3]
  ·cases e
section
variable{κ:Type}[DecidableEq κ]
def c9:List κ->List D->κ->Option D
 |k'::ks,d::ds,k=>if k'=k then some d else c9 ks ds k
 |_,_,_=>none
def lR:List κ->List D->κ->D->List D
 |k'::ks,d'::ds,k,d=>(if k'=k then d else d')::lR ks ds k d
 |_,_,_,_=>[]
def k7{K:O2}{F:Hp}:∀{ks:List κ}{ds:List D}{vs:List V}(k:κ),DenL K F ds vs->ks.length=ds.length->
 (match c9 ks ds k with | some d=>∃v,eK (ks.zip vs) k=some v/\Den K F d v | none=>eK (ks.zip vs) k=none)
 |[],[],_,_,_,_=>rfl
 |k'::ks,d::ds,_,k,⟨v,r,h1,h2,h3⟩,hl=>by
  subst h1
  unfold c9
  rw[Qs]
  by_cases e:k'=k
  ·rw[if_pos e,jk (p:=(k',v)) e]
   exact⟨v,rfl,h2⟩
  ·rw[if_neg e,jj (p:=(k',v)) e]
   exact k7 k h3 (by simpa using hl)
 |[],_::_,_,_,_,hl=>by simp at hl
 |_::_,[],_,_,_,hl=>by simp at hl
def jh{K:O2}{F:Hp}{ks:List κ}{ds:List D}{vs:List V}(k:κ)(h:DenL K F ds vs)(hl:ks.length=ds.length):(eK (ks.zip vs) k).isSome=(c9 ks ds k).isSome:=by
 have:=k7 k h hl
 split at this
 ·rename_i d e
  obtain⟨v,e1,_⟩:=this
  rw[e1,e];rfl
 ·rename_i e
  rw[this,e]
  rfl
def vk{K:O2}{F:Hp}{d:D}{v:V}(hd:Den K F d v):∀{ks:List κ}{ds:List D}{vs:List V}(k:κ),DenL K F ds vs->ks.length=ds.length->
 ∃ws,(ks.zip vs).map (fun kv=>if kv.1=k then(kv.1,v) else kv)=ks.zip ws/\DenL K F (lR ks ds k d) ws
 |[],[],_,_,h,_=>⟨[],rfl,rfl⟩
 |k'::ks,d'::ds,_,k,⟨v',r,h1,h2,h3⟩,hl=>by
  subst h1
  obtain⟨ws,e1,e2⟩:=vk hd k h3 (by simpa using hl)
  by_cases e:k'=k
  ·refine⟨v::ws,?_,?_⟩
   ·rw[Qs,O3,e1,if_pos e];rfl
   ·unfold lR;rw[if_pos e];exact .cons hd e2
  ·refine⟨v'::ws,?_,?_⟩
   ·rw[Qs,O3,e1,if_neg e];rfl
   ·unfold lR;rw[if_neg e];exact .cons h2 e2
 |[],_::_,_,_,_,hl=>by simp at hl
 |_::_,[],_,_,_,hl=>by simp at hl
def i5:∀(ks:List κ) (ds:List D) (k:κ) (d:D),ks.length=ds.length->(lR ks ds k d).length=ds.length
 |[],[],_,_,_=>rfl
 |_::ks,_::ds,k,d,h=>by unfold lR;rw[O5,O5,i5 ks ds k d (by simpa using h)]
 |[],_::_,_,_,h=>by simp at h
 |_::_,[],_,_,h=>by simp at h
def cP(ks:List κ)(ds:List D)(k:κ):List κ:=if (c9 ks ds k).isSome then ks else ks++[k]
def b8(ks:List κ)(ds:List D)(k:κ)(d:D):List D:=if (c9 ks ds k).isSome then lR ks ds k d else ds++[d]
def sW{K:O2}{F:Hp}{d:D}{v:V}(hd:Den K F d v){ks:List κ}{ds:List D}{vs:List V}(k:κ)(h:DenL K F ds vs)(hl:ks.length=ds.length):
 ∃ws,putK (ks.zip vs) k v=(cP ks ds k).zip ws/\DenL K F (b8 ks ds k d) ws/\(cP ks ds k).length=(b8 ks ds k d).length:=by
 have hs:=jh (K:=K) (F:=F) k h hl
 unfold putK cP b8
 have ha:((ks.zip vs).any fun kv=>decide (kv.1=k))=(eK (ks.zip vs) k).isSome:=ji ..
 rw[ha,hs]
 cases e:(c9 ks ds k).isSome with
 |true=>
  rw[if_pos rfl,if_pos rfl,if_pos rfl]
  obtain⟨ws,e1,e2⟩:=vk hd k h hl
  exact⟨ws,e1,e2,by rw[i5 ks ds k d hl];exact hl⟩
 |false=>
  rw[if_neg Pk,if_neg Pk,if_neg Pk]
  refine⟨vs++[v],?_,h.append (.cons hd .nil),by simp[hl]⟩
  rw[R1 (by rw[hl];exact h.len)]
  rfl
end
def tI{κ:Type}{K:O2}{F:Hp}{ks:List κ}{ds:List D}{vs:List V}(h:DenL K F ds vs)(hl:ks.length=ds.length):(ks.zip vs).length=ds.length:=by
 rw[R3,hl,<-h.len];omega
def pE(Z:aP)(i:Nat):Option D:=match Z[i]? with
 |some (some (.fz d))=>some d
 |some (some (.ow c))=>some c.d
 |_=>none
def B5{K:O2}{F H:Hp}{σ:St}{Z:aP}{i:Nat}{ks:List (List Key)}{ds:List D}(s:StE K F H σ Z)(e:pE Z i=some (.dct ks ds)):
 ∃a vs,σ[i]? =some (some (.ref a))/\Rd H a (.dT (ks.zip vs))/\DenL K F ds vs/\ks.length=ds.length/\ds.length<=lim:=by
 unfold pE at e
 split at e
 ·rename_i d e1
  cases e
  obtain⟨v,h1,a,ob,vs,rfl,h2,h3,h4,h5⟩:=s.den i _ e1
  exact⟨a,vs,h1, .inr ⟨ob,s.fh _ _ h2⟩,h3,h4,h5⟩
 ·rename_i c e1
  cases c<;>cases e
  obtain⟨v,h1,a,o,rfl,h2,_,vs,rfl,h3,h4,h5⟩:=s.den i _ e1
  exact⟨a,vs,h1, .inl h2,h3,h4,h5⟩
 ·cases e
def B4{K:O2}{F H:Hp}{σ:St}{Z:aP}{i:Nat}{ks:List Key}{ds:List D}(s:StE K F H σ Z)(e:pE Z i=some (.dci ks ds)):
 ∃a vs,σ[i]? =some (some (.ref a))/\Rd H a (.dK (ks.zip vs))/\DenL K F ds vs/\ks.length=ds.length/\ds.length<=lim:=by
 unfold pE at e
 split at e
 ·rename_i d e1
  cases e
  obtain⟨v,h1,a,ob,vs,rfl,h2,h3,h4,h5⟩:=s.den i _ e1
  exact⟨a,vs,h1, .inr ⟨ob,s.fh _ _ h2⟩,h3,h4,h5⟩
 ·rename_i c e1
  cases c<;>cases e
  obtain⟨v,h1,a,o,rfl,h2,_,vs,rfl,h3,h4,h5⟩:=s.den i _ e1
  exact⟨a,vs,h1, .inl h2,h3,h4,h5⟩
 ·cases e
def yO:D->D->Option (Option D)
 | .dct ks ds,k=>(jX k).map (c9 ks ds)
 | .dci ks ds,k=>(oB k).map (c9 ks ds)
 |_,_=>none
def xI{K:O2}{F H:Hp}{σ:St}{Z:aP}{i:Nat}{d k:D}{y:V}{o:Option D}(s:StE K F H σ Z)(hi:pE Z i=some d)(hk:Den K F k y)(e:yO d k=some o):
 ∃a ov,σ[i]? =some (some (.ref a))/\lg H a y ov/\ov.isSome=o.isSome/\∀d',o=some d'->∃v,ov=some v/\Den K F d' v:=by
 unfold yO at e
 split at e
 ·rename_i ks ds
  cases q:jX k with
  |none=>rw[q] at e;cases e
  |some kk=>
   rw[q] at e
   cases e
   obtain⟨a,vs,h1,h2,h3,h4,h5⟩:=B5 s hi
   unfold jX at q
   split at q
   ·rename_i es
    obtain⟨b,ws,rfl,k2,k3,_⟩:=hk
    have e1:=kD q k3
    subst e1
    refine⟨a,_,h1, .inr ⟨_,kk,b,h2,rfl,s.fh _ _ k2,rfl⟩,jh kk h3 h4,fun d' vQ=>?_⟩
    have:=k7 (K:=K) (F:=F) kk h3 h4
    rw[vQ] at this
    exact this
   ·cases q
 ·rename_i ks ds
  cases q:oB k with
  |none=>rw[q] at e;cases e
  |some kk=>
   rw[q] at e
   cases e
   obtain⟨a,vs,h1,h2,h3,h4,h5⟩:=B4 s hi
   have e1:=gD q hk
   subst e1
   refine⟨a,_,h1, .inl ⟨_,kk,h2,rfl,rfl⟩,jh kk h3 h4,fun d' vQ=>?_⟩
   have:=k7 (K:=K) (F:=F) kk h3 h4
   rw[vQ] at this
   exact this
 ·cases e
section
variable{X:Cx}{Xw:Nat->Hp->Prop}{a e:Expr}{δ δk δv:DE}{pos p pos' DW:Pos}{x:Str}{i:Nat}
def HF(neg:Bool)(i:Nat)(δ:DE):DE:=fun Z=>δ Z>>=fun k=>match pE Z i with
 |some d=>match yO d k with
  |some o=>ab (.bl (if neg then !o.isSome else o.isSome))
  |none=>af
 |none=>af
def FX{neg:Bool}{σ:St}{H:Hp}{Q:VK}(h:tD X.K Xw (HF neg i δ) σ H Q):(fun σ H Q=>tD X.K Xw δ σ H fun y H1=>kg i σ H1 fun x H2=>∃a o,x= .ref a/\lg H2 a y o/\Q (.bl (if neg then !o.isSome else o.isSome)) H2) σ H Q:=by
 obtain⟨F,Z,s,w⟩:=h
 refine⟨F,Z,s,WP.mono (WP.bind w) fun y H1 ⟨F1,k,e1,q1,w1⟩=>?_⟩
 have s1:=s.ext e1
 cases hi:pE Z i with
 |none=>rw[hi] at w1;exact w1.elim
 |some d=>
  rw[hi] at w1
  have w1:WP X.K Xw F1 H1 (match yO d k with | some o=>ab (.bl (if neg then !o.isSome else o.isSome)) | none=>af) Q:=w1
  cases he:yO d k with
  |none=>rw[he] at w1;exact w1.elim
  |some o=>
   rw[he] at w1
   obtain⟨a,ov,h1,h2,h3,_⟩:=xI s1 hi q1 he
   refine⟨.ref a,h1,a,ov,rfl,h2,?_⟩
   rw[h3]
   exact WP.now w1 e1.fh rfl
def Lk(hu:X.A.units+64<cLine)(ha:PD X Xw a δ)(hv:PE X (.Name x p) (kg i))(hm:P8 .In (.Name x p)=false:=by rfl):PD X Xw (.Compare a [.In] [.Name x p] pos) (HF false i δ):=
 PE.weak (GI (GA (by omega) ha hv) hm) fun σ H Q h=>FX (neg:=false) h
def vn(i:Nat):DS:=fun Z=>ab (.nx (Z.set i (some (.ow (.dct [] [])))))
def E0(i:Nat):DS:=fun Z=>ab (.nx (Z.set i (some (.ow (.dci [] [])))))
def kW(hN:X.N.Nodup)(hi:X.N[i]? =some x)(hx:Loc X.env.scope x)(hf:X.fn x=true\/X.env.scope.names.lookup x=some .local:=by first | exact .inl rfl | exact .inr rfl):
 ki X Xw (.Assign [.Name x pos'] (.Dict [] [] DW) pos) (vn i):=fun F₀ H₀=>PS.weak (lN BC (a5 hN hi hx hf) rfl) fun D σ H ⟨F,Z,s,w⟩=>fun q hq=>
 w _ F _ (s.setNew (c₀:= .dct [] []) hq ⟨[],rfl,rfl,rfl,PB _⟩)
def BI(hN:X.N.Nodup)(hi:X.N[i]? =some x)(hx:Loc X.env.scope x)(hf:X.fn x=true\/X.env.scope.names.lookup x=some .local:=by first | exact .inl rfl | exact .inr rfl):
 ki X Xw (.Assign [.Name x pos'] (.Dict [] [] DW) pos) (E0 i):=fun F₀ H₀=>PS.weak (lN u7 (a5 hN hi hx hf) rfl) fun D σ H ⟨F,Z,s,w⟩=>fun q hq=>
 w _ F _ (s.setNew (c₀:= .dci [] []) hq ⟨[],rfl,rfl,rfl,PB _⟩)
def iC:C->D->D->Option C
 | .dct ks ds,k,d=>match jX k with
   |some kk=>if ds.length<lim then some (.dct (cP ks ds kk) (b8 ks ds kk d)) else none
   |none=>none
 | .dci ks ds,k,d=>match oB k with
   |some kk=>if ds.length<lim then some (.dci (cP ks ds kk) (b8 ks ds kk d)) else none
   |none=>none
 |_,_,_=>none
def qg(Z:aP)(i:Nat):Option C:=match Z[i]? with
 |some (some (.ow c))=>some c
 |_=>none
def lJ{Z:aP}{i:Nat}{c:C}(h:qg Z i=some c):Z[i]? =some (some (.ow c)):=by
 unfold qg at h
 split at h
 ·rename_i c' e
  cases h
  exact e
 ·cases h
def eU(i:Nat)(δk δv:DE):DS:=fun Z=>match qg Z i with
 |some c=>δv Z>>=fun v=>δk Z>>=fun k=>match iC c k v with
  |some c'=>ab (.nx (Z.set i (some (.ow c'))))
  |none=>af
 |none=>af
def rb{κ:Type}[DecidableEq κ]{ks:List κ}{ds:List D}{k:κ}{d:D}(hl:ks.length=ds.length)(h:ds.length<lim):(b8 ks ds k d).length<=lim:=by
 unfold b8
 split
 ·rw[i5 ks ds k d hl];omega
 ·rw[O8];exact h
def BN{K:O2}{F H:Hp}{c c':C}{k d:D}{y v:V}{o:HO}{b:Addr}(hs:Same F H)(hb:H b=some o)(hc:DenC K F c o)(hk:Den K F k y)(hd:Den K F d v)(e:iC c k d=some c'):∃o',DPut H b y v (upd H b o')/\DenC K F c' o':=by
 have FJ:=dg
 unfold iC at e
 split at e
 ·rename_i ks ds k d
  obtain⟨vs,rfl,h3,h4,h5⟩:=hc
  split at e
  ·rename_i kk q
   split at e
   ·rename_i iI
    cases e
    unfold jX at q
    split at q
    ·rename_i es
     obtain⟨b2,ws,rfl,k2,k3,_⟩:=hk
     have e1:=kD q k3
     subst e1
     obtain⟨us,e2,e3,e4⟩:=sW hd kk h3 h4
     refine⟨_,DPut.t hb (hs _ _ k2) (by rw[tI h3 h4];omega),us,?_,e3,e4,rb h4 iI⟩
     rw[e2]
    ·cases q
   ·cases e
  ·cases e
 ·rename_i ks ds k d
  obtain⟨vs,rfl,h3,h4,h5⟩:=hc
  split at e
  ·rename_i kk q
   split at e
   ·rename_i iI
    cases e
    have e1:=gD q hk
    subst e1
    obtain⟨us,e2,e3,e4⟩:=sW hd kk h3 h4
    refine⟨_,DPut.k hb (by rw[tI h3 h4];omega),us,?_,e3,e4,rb h4 iI⟩
    rw[e2]
   ·cases e
  ·cases e
 ·cases e
def i4(hu:X.A.units+64<cLine)(hv:PE X (.Name x p) (kg i))(hk:PD X Xw a δk)(he:PD X Xw e δv)(hs:RF e (some (.Subscript (.Name x p) a pos')) pos.line X.env=pure false:=by rfl):
 ki X Xw (.Assign [.Subscript (.Name x p) a pos'] e pos) (eU i δk δv):=fun F₀ H₀=>PS.weak (yy (by omega) hv hk he hs) fun D σ H ⟨F,Z,s,w⟩=>by
 unfold eU at w
 cases ho:qg Z i with
 |none=>rw[ho] at w;exact w.elim
 |some c=>
  rw[ho] at w
  have hi:=lJ ho
  have w:WPS X.K Xw F₀ H₀ (δv Z>>=fun v=>δk Z>>=fun k=>match iC c k v with | some c'=>ab (.nx (Z.set i (some (.ow c')))) | none=>af) D:=w
  refine⟨F,Z,s.st,?_⟩
  rcases(δv Z).cs with q | ⟨n,q⟩ | ⟨dv,q⟩
  ·rw[q] at w;exact w.elim
  ·rw[q] at w⊢;exact fun F' H' e'=>w F' H' (s.ext.trans e')
  ·rw[q] at w⊢
   intro v H1 F1 e1 hq
   have s1:=s.ext' e1
   obtain⟨u,h1,b,o,rfl,h2,h3,h4⟩:=s1.st.den i _ hi
   have w:WPS X.K Xw F₀ H₀ (δk Z>>=fun k=>match iC c k dv with | some c'=>ab (.nx (Z.set i (some (.ow c')))) | none=>af) D:=w
   refine⟨.ref b,h1,F1,Z,s1.st,?_⟩
   rcases(δk Z).cs with q2 | ⟨n,q2⟩ | ⟨dk,q2⟩
   ·rw[q2] at w;exact w.elim
   ·rw[q2] at w⊢;exact fun F' H' e'=>w F' H' (s1.ext.trans e')
   ·rw[q2] at w⊢
    intro y H2 F2 e2 hy
    have w:WPS X.K Xw F₀ H₀ (match iC c dk dv with | some c'=>ab (.nx (Z.set i (some (.ow c')))) | none=>af) D:=w
    cases hp:iC c dk dv with
    |none=>rw[hp] at w;exact w.elim
    |some c'=>
     rw[hp] at w
     have s2:=s1.ext' e2
     obtain⟨u2,k1,b2,o2,Kq,k2,k3,k4⟩:=s2.st.den i _ hi
     rw[h1] at k1
     cases k1
     cases Kq
     obtain⟨o',g,hc⟩:=BN s2.st.fh k2 k4 hy (Den.mono e2.ff hq) hp
     exact⟨b,_,rfl,g,w σ F2 _ (s2.chg hi h1 hc)⟩
end
def dQ(c:DT)(body:DS):Nat->DS
 |0,_=>af
 |n+1,Z=>c Z>>=fun b=>if b then body Z>>=fun o=>match o with | .nx Z'=>dQ c body n Z' | .rt d=>ab (.rt d) else ab (.nx Z)
def pq(c:DT)(body:DS):DS:=fun Z=>dQ c body lim Z
section
variable{X:Cx}{Xw:Nat->Hp->Prop}{τ:DS}{tc:DT}{pos:Pos}
def lO{c:Expr}{body:List Stmt}(hp:Tv (model X.prog X.w) X.A X.env X.xe)(hc:lj X Xw c tc)(hb:PSDs X Xw body τ):ki X Xw (.While c body [] pos) (pq tc τ):=fun F₀ H₀=>PS.weak (BG hp hc hb.ex) fun D σ H ⟨F,Z,s,w⟩=>by
 refine⟨fun m σ H=>∃F Z,StOk X.K F₀ H₀ F H σ Z/\WPS X.K Xw F₀ H₀ (dQ tc τ m Z) D,⟨lim,F,Z,s,w⟩,?_⟩
 rintro m σ H ⟨F,Z,s,w⟩
 cases m with
 |zero=>exact w.elim
 |succ m=>
  refine⟨F,Z,s.st,?_⟩
  unfold dQ at w
  match tc Z,w with
  |none,w=>exact w
  |some (.ex n),w=>exact fun F' H' e'=>w F' H' (s.ext.trans e')
  |some (.ok false),w=>exact fun H' F' e'=>w σ F' H' (s.ext' e')
  |some (.ok true),w=>
   intro H' F' e'
   have w:WPS X.K Xw F₀ H₀ (τ Z>>=fun o=>match o with | .nx Z'=>dQ tc τ m Z' | .rt d=>ab (.rt d)) D:=w
   refine⟨fun σ' H'=>∃F' Z',StOk X.K F₀ H₀ F' H' σ' Z'/\WPS X.K Xw F₀ H₀ (dQ tc τ m Z') D,fun σ' H' h=>⟨m,SQ m,h⟩,F₀,H₀,F',Z,s.ext' e',?_⟩
   match τ Z,w with
   |none,w=>exact w
   |some (.ok (.nx Z')),w=>exact fun σ' F' H' s'=>⟨F',Z',s',w⟩
   |some (.ok (.rt d)),w=>exact w
   |some (.ex n),w=>exact w
end
end L3
namespace L3
open PySem PySem.W PyProof.Rows
def c7{α:Type}(b:Nat->Nat->Bool):KasT α->α
 | .ret a=>a
 | .ask i j k=>c7 b (k (b i j))
def ft{α β:Type}(b:Nat->Nat->Bool)(f:α->KasT β):∀t:KasT α,c7 b (t.bind f)=c7 b (f (c7 b t))
 | .ret _=>rfl
 | .ask i j k=>ft b f (k (b i j))
structure Lt (n:Nat) (b:Nat->Nat->Bool):Prop where
 tr:∀i j k,b i j=true->b j k=true->b i k=true
 OM:∀i j,b i j=true->b j i=false
 tot:∀i j,i<n->j<n->i≠j->b i j=true\/b j i=true
abbrev at'(p:Array Nat)(i:Nat):Nat:=p.getD i 0
def Ri(b:Nat->Nat->Bool)(p:Array Nat)(k:Nat):Prop:=∀i j,i<j->j<k->b (at' p i) (at' p j)=true
def Fa(b:Nat->Nat->Bool)(p:Array Nat)(k:Nat):Prop:=∀i j,i<j->j<k->b (at' p j) (at' p i)=true
structure PN (n:Nat) (p:Array Nat):Prop where
 sz:p.size=n
 lt:∀i,i<n->at' p i<n
 inj:∀i j,i<n->j<n->at' p i=at' p j->i=j
section
variable{n:Nat}{b:Nat->Nat->Bool}(L:Lt n b)
include L
theorem Ri.more{p:Array Nat}{k:Nat}(h:Ri b p k)(h1:1<=k)(e:b (at' p (k - 1)) (at' p k)=true):Ri b p (k+1):=fun i j xZ hj=>by
 by_cases hk:j<k
 ·exact h i j xZ hk
 ·have:j=k:=by omega
  subst this
  by_cases hi:i=j - 1
  ·subst hi;exact e
  ·exact L.tr _ _ _ (h i (j - 1) (by omega) (by omega)) e
theorem Fa.more{p:Array Nat}{k:Nat}(h:Fa b p k)(h1:1<=k)(e:b (at' p k) (at' p (k - 1))=true):Fa b p (k+1):=fun i j xZ hj=>by
 by_cases hk:j<k
 ·exact h i j xZ hk
 ·have:j=k:=by omega
  subst this
  by_cases hi:i=j - 1
  ·subst hi;exact e
  ·exact L.tr _ _ _ e (h i (j - 1) (by omega) (by omega))
theorem rM{p:Array Nat}(P:PN n p):∀(f k:Nat),1<=k->k+f<=n->Ri b p k->k<=c7 b (kas_asc p f k)/\c7 b (kas_asc p f k)<=k+f/\Ri b p (c7 b (kas_asc p f k))/\(c7 b (kas_asc p f k)<k+f->b (at' p (c7 b (kas_asc p f k))) (at' p (c7 b (kas_asc p f k) - 1))=true)
 |0,k,h1,hn,h=>⟨O9 _,O9 _,h,fun z=>absurd z (Qb _)⟩
 |f+1,k,h1,hn,h=>by
  have e:c7 b (kas_asc p (f+1) k)=c7 b (if b (at' p k) (at' p (k - 1))=true then KasT.ret k else kas_asc p f (k+1)):=rfl
  rw[e]
  by_cases hb:b (at' p k) (at' p (k - 1))=true
  ·rw[if_pos hb]
   exact⟨O9 _,by show k<=_;omega,h,fun _=>hb⟩
  ·rw[if_neg hb]
   have hr:b (at' p (k - 1)) (at' p k)=true:=by
    rcases L.tot (at' p (k - 1)) (at' p k) (P.lt _ (by omega)) (P.lt _ (by omega)) (fun z=>by have:=P.inj _ _ (by omega) (by omega) z;omega) with q | q
    ·exact q
    ·exact absurd q hb
   obtain⟨a1,a2,a3,a4⟩:=rM P f (k+1) (by omega) (by omega) (Ri.more L h h1 hr)
   exact⟨by omega,by omega,a3,fun z=>a4 (by omega)⟩
theorem ub{p:Array Nat}(P:PN n p):∀(f k:Nat),1<=k->k+f<=n->Fa b p k->∃m,c7 b (kas_desc f p k 0)=(p,m,0)/\k<=m/\m<=k+f/\Fa b p m
 |0,k,h1,hn,h=>⟨k,rfl,O9 _,O9 _,h⟩
 |f+1,k,h1,hn,h=>by
  have e:c7 b (kas_desc (f+1) p k 0)=c7 b (if b (at' p k) (at' p (k - 1))=true then(if 0>0 then kas_desc f (kas_rev p (k - (0+1)) k) (k+1) 0 else kas_desc f p (k+1) 0)
   else .ask (p.getD (k - 1) 0) (p.getD k 0) fun d=>if d=true then .ret (p,k,0) else kas_desc f p (k+1) (0+1)):=rfl
  rw[e]
  by_cases hb:b (at' p k) (at' p (k - 1))=true
  ·rw[if_pos hb,if_neg (by omega)]
   obtain⟨m,e1,e2,e3,e4⟩:=ub P f (k+1) (by omega) (by omega) (Fa.more L h h1 hb)
   exact⟨m,e1,by omega,by omega,e4⟩
  ·rw[if_neg hb]
   have hr:b (at' p (k - 1)) (at' p k)=true:=by
    rcases L.tot (at' p (k - 1)) (at' p k) (P.lt _ (by omega)) (P.lt _ (by omega)) (fun z=>by have:=P.inj _ _ (by omega) (by omega) z;omega) with q | q
    ·exact q
    ·exact absurd q hb
   refine⟨k,?_,O9 _,by omega,h⟩
   show c7 b (if b (at' p (k - 1)) (at' p k)=true then KasT.ret (p,k,0) else kas_desc f p (k+1) (0+1))=_
   rw[if_pos hr]
   rfl
end
def eQ(p:Array Nat)(k:Nat):at' p k=(p[k]?).getD 0:=by
 unfold at'
 rw[Array.getD_eq_getD_getElem?]
def BU{p:Array Nat}{m:Nat}(hm:m<=p.size)(k:Nat):at' (kas_rev p 0 m) k=if k<m then at' p (m - 1 - k) else at' p k:=by
 have e:=getElem?_mirror_all (xs:=p) (i:=0) hm k
 rw[eQ]
 show (((mirror p 0 m ((m - 0) / 2))[k]?).getD 0)=_
 rw[e]
 by_cases h:k<m
 ·rw[if_pos ⟨PB _,h⟩,if_pos h,eQ,SF]
 ·rw[if_neg (fun z=>h z.2),if_neg h,eQ]
def Aa{p:Array Nat}{k l:Nat}(hk:k<p.size)(hl:l<=k)(j:Nat):at' (bubble p k (k - l)) j=if j=l then at' p k else if l<j/\j<=k then at' p (j - 1) else at' p j:=by
 have e:=getElem?_bubble hk (k - l) (by omega) j
 have e2:k - (k - l)=l:=by omega
 rw[e2] at e
 rw[eQ (bubble p k (k - l)),e,eQ p k,eQ p (j - 1),eQ p j]
 by_cases c1:j=l
 ·rw[if_pos c1,if_pos c1]
 ·rw[if_neg c1,if_neg c1]
  by_cases c2:l<j/\j<=k
  ·rw[if_pos c2,if_pos c2]
  ·rw[if_neg c2,if_neg c2]
section
variable{n:Nat}{b:Nat->Nat->Bool}
def PN.rev{p:Array Nat}(P:PN n p){m:Nat}(hm:m<=n):PN n (kas_rev p 0 m):=by
 have ha:=BU (p:=p) (m:=m) (by rw[P.sz];exact hm)
 refine⟨(mirror_size ..).trans P.sz,fun i hi=>?_,fun i j hi hj e=>?_⟩
 ·rw[ha]
  split
  ·exact P.lt _ (by omega)
  ·exact P.lt _ hi
 ·rw[ha,ha] at e
  split at e<;>split at e
  ·have:=P.inj _ _ (by omega) (by omega) e;omega
  ·have:=P.inj _ _ (by omega) hj e;omega
  ·have:=P.inj _ _ hi (by omega) e;omega
  ·exact P.inj _ _ hi hj e
def PN.bub{p:Array Nat}(P:PN n p){k l:Nat}(hk:k<n)(hl:l<=k):PN n (bubble p k (k - l)):=by
 have ha:=Aa (p:=p) (k:=k) (l:=l) (by rw[P.sz];exact hk) hl
 refine⟨(bubble_size ..).trans P.sz,fun i hi=>?_,fun i j hi hj e=>?_⟩
 ·rw[ha]
  split
  ·exact P.lt _ hk
  ·split
   ·exact P.lt _ (by omega)
   ·exact P.lt _ hi
 ·rw[ha,ha] at e
  split at e
  ·split at e
   ·omega
   ·split at e
    ·have:=P.inj _ _ hk (by omega) e;omega
    ·have:=P.inj _ _ hk hj e;omega
  ·split at e
   ·split at e
    ·have:=P.inj _ _ (by omega) hk e;omega
    ·split at e
     ·have:=P.inj _ _ (by omega) (by omega) e;omega
     ·have:=P.inj _ _ (by omega) hj e;omega
   ·split at e
    ·have:=P.inj _ _ hi hk e;omega
    ·split at e
     ·have:=P.inj _ _ hi (by omega) e;omega
     ·exact P.inj _ _ hi hj e
def Fa.rev{p:Array Nat}(P:PN n p){m:Nat}(hm:m<=n)(h:Fa b p m):Ri b (kas_rev p 0 m) m:=fun i j xZ hj=>by
 have ha:=BU (p:=p) (m:=m) (by rw[P.sz];exact hm)
 rw[ha,ha,if_pos (by omega),if_pos hj]
 exact h _ _ (by omega) (by omega)
variable(L:Lt n b)
include L
theorem Cd{p:Array Nat}(P:PN n p){m:Nat}(h1:1<=m)(hm:m<=n)(h:Fa b p m):∃k q,c7 b (kas_tail3 m n p)=(k,q)/\PN n q/\1<=k/\k<=n/\Ri b q k:=by
 unfold kas_tail3
 rw[ft]
 obtain⟨a1,a2,a3,_⟩:=rM L (P.rev hm) (n - m) m h1 (by omega) (Fa.rev P hm h)
 exact⟨_,_,rfl,P.rev hm,by omega,by omega,a3⟩
theorem yX{p:Array Nat}(P:PN n p)(h2:2<=n):∃k q,c7 b (kas_count n p)=(k,q)/\PN n q/\1<=k/\k<=n/\Ri b q k:=by
 unfold kas_count
 rw[ft]
 obtain⟨a1,a2,a3,a4⟩:=rM L P (n - 1) 1 (O9 _) (by omega) (fun i j xZ hj=>by omega)
 generalize c7 b (kas_asc p (n - 1) 1)=m at a1 a2 a3 a4
 by_cases he:m=n
 ·subst he
  rw[if_pos (by simp)]
  exact⟨m,p,rfl,P,by omega,O9 _,a3⟩
 ·rw[if_neg (by simpa using he)]
  by_cases hg:m>1
  ·rw[if_pos hg]
   have hb:b (p.getD 0 0) (p.getD (m - 1) 0)=true:=a3 0 (m - 1) (by omega) (by omega)
   show∃k q,c7 b (if b (p.getD 0 0) (p.getD (m - 1) 0)=true then KasT.ret (m,p) else kas_descPart m n (kas_rev p 0 m))=(k,q)/\_
   rw[if_pos hb]
   exact⟨m,p,rfl,P,by omega,by omega,a3⟩
  ·rw[if_neg hg]
   have hm:m=1:=by omega
   subst hm
   have hb:=a4 (by omega)
   unfold kas_descPart
   rw[ft]
   obtain⟨m,e1,e2,e3,e4⟩:=ub L P (n - (1+1)) (1+1) (by omega) (by omega) (fun i j xZ hj=>by
    have hi:i=0:=by omega
    have hj:j=1:=by omega
    subst hi hj
    exact hb)
   rw[e1]
   dsimp only
   rw[if_neg (by omega)]
   exact Cd L P (by omega) (by omega) e4
theorem lM{p:Array Nat}(P:PN n p){k:Nat}(hk:k<n)(h:Ri b p k):∀(f l r:Nat),l<=r->r<=k->r - l<=f->(∀i,i<l->b (at' p i) (at' p k)=true)->(∀i,r<=i->i<k->b (at' p k) (at' p i)=true)->
 c7 b (kas_place p k f l r)<=k/\(∀i,i<c7 b (kas_place p k f l r)->b (at' p i) (at' p k)=true)/\∀i,c7 b (kas_place p k f l r)<=i->i<k->b (at' p k) (at' p i)=true
 |0,l,r,h1,h2,h3,h4,h5=>by
  have:r=l:=by omega
  subst this
  exact⟨h2,h4,h5⟩
 |f+1,l,r,h1,h2,h3,h4,h5=>by
  unfold kas_place
  by_cases Mf:l>=r
  ·rw[if_pos Mf]
   have:r=l:=by omega
   subst this
   exact⟨h2,h4,h5⟩
  ·rw[if_neg Mf]
   have hm:(l+r) / 2<r:=by omega
   have FL:l<=(l+r) / 2:=by omega
   show c7 b (if b (at' p k) (at' p ((l+r) / 2))=true then kas_place p k f l ((l+r) / 2) else kas_place p k f ((l+r) / 2+1) r)<=k/\(∀i,i<c7 b (if b (at' p k) (at' p ((l+r) / 2))=true then kas_place p k f l ((l+r) / 2) else kas_place p k f ((l+r) / 2+1) r)->_)/\∀i,c7 b (if b (at' p k) (at' p ((l+r) / 2))=true then kas_place p k f l ((l+r) / 2) else kas_place p k f ((l+r) / 2+1) r)<=i->_
   by_cases hb:b (at' p k) (at' p ((l+r) / 2))=true
   ·rw[if_pos hb]
    refine lM P hk h f l ((l+r) / 2) FL (by omega) (by omega) h4 fun i hi Nz=>?_
    by_cases e:i=(l+r) / 2
    ·rw[e];exact hb
    ·exact L.tr _ _ _ hb (h _ _ (by omega) Nz)
   ·rw[if_neg hb]
    have hr:b (at' p ((l+r) / 2)) (at' p k)=true:=by
     rcases L.tot (at' p ((l+r) / 2)) (at' p k) (P.lt _ (by omega)) (P.lt _ hk) (fun z=>by have:=P.inj _ _ (by omega) hk z;omega) with q | q
     ·exact q
     ·exact absurd q hb
    refine lM P hk h f ((l+r) / 2+1) r (by omega) h2 (by omega) (fun i hi=>?_) h5
    by_cases e:i=(l+r) / 2
    ·rw[e];exact hr
    ·exact L.tr _ _ _ (h i ((l+r) / 2) (by omega) (by omega)) hr
theorem xK:∀(f:Nat) {p:Array Nat}{k:Nat},PN n p->k+f<=n->Ri b p k->PN n (c7 b (kas_bin f p k))/\Ri b (c7 b (kas_bin f p k)) (k+f)
 |0,p,k,P,_,h=>⟨P,h⟩
 |f+1,p,k,P,hn,h=>by
  have hk:k<n:=by omega
  unfold kas_bin
  rw[ft]
  obtain⟨a1,a2,a3⟩:=lM L P hk h k 0 k (PB _) (O9 _) (by omega) (fun i hi=>by omega) (fun i h1 h2=>by omega)
  generalize c7 b (kas_place p k k 0 k)=l at a1 a2 a3
  have ha:=Aa (p:=p) (k:=k) (l:=l) (by rw[P.sz];exact hk) a1
  have hR:Ri b (bubble p k (k - l)) (k+1):=fun i j xZ hj=>by
   rw[ha,ha]
   by_cases c1:i=l
   ·rw[if_pos c1,if_neg (by omega),if_pos ⟨by omega,by omega⟩]
    exact a3 _ (by omega) (by omega)
   ·rw[if_neg c1]
    by_cases c2:j=l
    ·rw[if_pos c2,if_neg (by omega)]
     exact a2 _ (by omega)
    ·rw[if_neg c2]
     by_cases c3:l<i/\i<=k
     ·rw[if_pos c3,if_pos ⟨by omega,by omega⟩]
      exact h _ _ (by omega) (by omega)
     ·rw[if_neg c3]
      by_cases c4:l<j/\j<=k
      ·rw[if_pos c4]
       exact h _ _ (by omega) (by omega)
      ·rw[if_neg c4]
       exact h _ _ xZ (by omega)
  have:=xK f (P.bub hk a1) (by omega) hR
  rw[show k+(f+1)=k+1+f by omega]
  exact this
theorem B6(h2:2<=n):PN n (c7 b (kas_sort n))/\Ri b (c7 b (kas_sort n)) n:=by
 have P0:PN n (Ql (Px n)):=by
  have e:∀i,i<n->at' (Ql (Px n)) i=i:=fun i hi=>by rw[eQ];simp[hi]
  exact⟨by simp,fun i hi=>by rw[e i hi];exact hi,fun i j hi hj z=>by rw[e i hi,e j hj] at z;exact z⟩
 unfold kas_sort
 rw[ft]
 obtain⟨k,q,e,P,k1,kn,hR⟩:=yX L P0 h2
 rw[e]
 dsimp only
 by_cases iI:k<n
 ·rw[if_pos iI]
  have:=xK L (n - max k 1) (k:=max k 1) P (by omega) (by rw[show max k 1=k by omega];exact hR)
  rw[show max k 1+(n - max k 1)=n by omega] at this
  exact this
 ·rw[if_neg iI]
  have:k=n:=by omega
  subst this
  exact⟨P,hR⟩
end
def Asks{α:Type}(n:Nat)(P:α->Prop):KasT α->Prop
 | .ret a=>P a
 | .ask i j k=>i<n/\j<n/\∀c,Asks n P (k c)
def Asks.bind{α β:Type}{n:Nat}{P:α->Prop}{Q:β->Prop}{f:α->KasT β}:∀{t:KasT α},Asks n P t->(∀a,P a->Asks n Q (f a))->Asks n Q (t.bind f)
 | .ret a,h,hf=>hf a h
 | .ask i j k,h,hf=>⟨h.1,h.2.1,fun c=>Asks.bind (h.2.2 c) hf⟩
def wp_run{α:Type}{n:Nat}{P:α->Prop}{b:Nat->Nat->Bool}{cmp:Nat->Nat->(Bool->O0->Prop)->O0->Prop}{Q:α->O0->Prop}{s:O0}(hc:∀i j C,i<n->j<n->C (b i j) s->cmp i j C s):∀{t:KasT α},Asks n P t->Q (c7 b t) s->t.kasWp cmp Q s
 | .ret a,_,h=>h
 | .ask i j k,ha,h=>hc i j _ ha.1 ha.2.1 (wp_run hc (ha.2.2 _) h)
def Below(n:Nat)(p:Array Nat):Prop:=∀x∈p,x<n
section
variable{n:Nat}(hn:0<n)
include hn
theorem Below.at{p:Array Nat}(h:Below n p)(i:Nat):at' p i<n:=by
 rw[eQ]
 cases e:p[i]? with
 |none=>exact hn
 |some x=>exact h x (Array.mem_of_getElem? e)
theorem Below.rev{p:Array Nat}(h:Below n p)(i j:Nat):Below n (kas_rev p i j):=fun x hx=>h x ((mirror_perm p i j ((j - i) / 2)).mem_iff.mp hx)
theorem Below.bub{p:Array Nat}(h:Below n p)(k d:Nat):Below n (bubble p k d):=fun x hx=>h x ((bubble_perm p k d).mem_iff.mp hx)
theorem nL{p:Array Nat}(h:Below n p):∀f k,Asks n (fun _=>True) (kas_asc p f k)
 |0,k=>trivial
 |f+1,k=>⟨Below.at hn h _,Below.at hn h _,fun c=>by
  show Asks n _ (if c=true then KasT.ret k else kas_asc p f (k+1))
  cases c
  ·exact nL h f (k+1)
  ·exact trivial⟩
theorem jm:∀f {p:Array Nat} k q,Below n p->Asks n (fun r=>Below n r.1) (kas_desc f p k q)
 |0,p,k,q,h=>h
 |f+1,p,k,q,h=>⟨Below.at hn h _,Below.at hn h _,fun c=>by
  cases c
  ·refine⟨Below.at hn h _,Below.at hn h _,fun d=>?_⟩
   cases d
   ·exact jm f _ _ h
   ·exact h
  ·show Asks n _ (if q>0 then kas_desc f (kas_rev p (k - (q+1)) k) (k+1) 0 else kas_desc f p (k+1) 0)
   split
   ·exact jm f _ _ (Below.rev hn h _ _)
   ·exact jm f _ _ h⟩
theorem qm{p:Array Nat}(h:Below n p)(m r:Nat):Asks n (fun x=>Below n x.2) (kas_tail3 m r p):=Asks.bind (nL hn (Below.rev hn h 0 m) _ _) fun _ _=>Below.rev hn h 0 m
theorem nM{p:Array Nat}(h:Below n p)(m r:Nat):Asks n (fun x=>Below n x.2) (kas_descPart m r p):=Asks.bind (jm hn _ _ _ h) fun x hx=>by
 split
 ·exact qm hn (Below.rev hn hx _ _) _ _
 ·exact qm hn hx _ _
theorem vV{p:Array Nat}(h:Below n p)(r:Nat):Asks n (fun x=>Below n x.2) (kas_count r p):=Asks.bind (nL hn h _ _) fun m _=>by
 split
 ·exact h
 ·split
  ·refine⟨Below.at hn h _,Below.at hn h _,fun c=>?_⟩
   cases c
   ·exact nM hn (Below.rev hn h _ _) _ _
   ·exact h
  ·exact nM hn h _ _
theorem jQ{p:Array Nat}(h:Below n p)(k:Nat):∀f l r,Asks n (fun _=>True) (kas_place p k f l r)
 |0,l,r=>trivial
 |f+1,l,r=>by
  unfold kas_place
  split
  ·exact trivial
  ·refine⟨Below.at hn h _,Below.at hn h _,fun c=>?_⟩
   cases c
   ·exact jQ h k f _ _
   ·exact jQ h k f _ _
theorem tZ:∀f {p:Array Nat} k,Below n p->Asks n (fun _=>True) (kas_bin f p k)
 |0,p,k,h=>trivial
 |f+1,p,k,h=>Asks.bind (jQ hn h k _ _ _) fun l _=>tZ f _ (Below.bub hn h _ _)
theorem yN:Asks n (fun _=>True) (kas_sort n):=by
 have h0:Below n (Ql (Px n)):=fun x hx=>by simpa using hx
 refine Asks.bind (vV hn h0 n) fun x hx=>?_
 split
 ·exact tZ hn _ _ hx
 ·exact trivial
end
def dW:List Int->List Int->Bool
 |[],[]=>false
 |[],_::_=>true
 |_::_,[]=>false
 |x::xs,y::ys=>if x=y then dW xs ys else decide (x<y)
def si:∀a b c:List Int,dW a b=true->dW b c=true->dW a c=true
 |[],[],_,h,_=>by cases h
 |[],_::_,[],_,h=>by cases h
 |[],_::_,_::_,_,_=>rfl
 |_::_,[],_,h,_=>by cases h
 |_::_,_::_,[],_,h=>by cases h
 |x::a,y::b,z::c,h1,h2=>by
  unfold dW at h1 h2⊢
  by_cases e1:x=y
  ·subst e1
   rw[if_pos rfl] at h1
   by_cases e2:x=z
   ·subst e2
    rw[if_pos rfl] at h2⊢
    exact si a b c h1 h2
   ·rw[if_neg e2] at h2⊢
    exact h2
  ·rw[if_neg e1] at h1
   have h1:=of_decide_eq_true h1
   by_cases e2:y=z
   ·subst e2
    rw[if_neg e1]
    exact decide_eq_true h1
   ·rw[if_neg e2] at h2
    have h2:=of_decide_eq_true h2
    rw[if_neg (by omega)]
    exact decide_eq_true (by omega)
def kE:∀a b:List Int,dW a b=true->dW b a=false
 |[],[],h=>by cases h
 |[],_::_,_=>rfl
 |_::_,[],h=>by cases h
 |x::a,y::b,h=>by
  unfold dW at h⊢
  by_cases e:x=y
  ·subst e
   rw[if_pos rfl] at h⊢
   exact kE a b h
  ·rw[if_neg e] at h
   have h:=of_decide_eq_true h
   rw[if_neg (fun z=>e z.symm)]
   exact decide_eq_false (by omega)
def oE:∀a b:List Int,a≠b->dW a b=true\/dW b a=true
 |[],[],h=>absurd rfl h
 |[],_::_,_=> .inl rfl
 |_::_,[],_=> .inr rfl
 |x::a,y::b,h=>by
  unfold dW
  by_cases e:x=y
  ·subst e
   rw[if_pos rfl,if_pos rfl]
   exact oE a b fun z=>h (by rw[z])
  ·rw[if_neg e,if_neg (fun z=>e z.symm)]
   by_cases q:x<y
   ·exact .inl (decide_eq_true q)
   ·exact .inr (decide_eq_true (by omega))
section
variable{prog:Pw}{w:World}{A:P_}{E:Value->O0->Prop}{s:O0}
def uF{Q:Bool->O0->Prop}:∀{us vs:List Value}{xs ys:List Int}(i:Nat) {fin:Bool},RV us xs->RV vs ys->fin=decide (xs.length<ys.length)->Q (dW xs ys) s->KatLex prog w A true fin Q (us.zip vs) i s
 |_,_,_,_,i,_, .nil, .nil,e,h=>by subst e;exact kat_nil h
 |_,_,_,_,i,_, .nil, .cons y t r,e,h=>by subst e;exact kat_nil h
 |_,_,_,_,i,_, .cons x t r, .nil,e,h=>by subst e;exact kat_nil h
 |_,_,_,_,i,_, .cons (vs:=us) (ns:=xs) x t r, .cons (vs:=vs) (ns:=ys) y u r',e,h=>by
  refine kat_cons (wpAny_eqBool_int ?_)
  by_cases q:x=y
  ·subst q
   rw[show (x==x)=true by simp]
   refine kat_yes (uF (i+1) r r' (by rw[e];simp) ?_)
   unfold dW at h
   rw[if_pos rfl] at h
   exact h
  ·rw[show (x==y)=false by simpa using q]
   unfold dW at h
   rw[if_neg q] at h
   refine kat_no ?_
   by_cases hi:(i==0)=true
   ·rw[hi]
    exact oneLt_int h
   ·rw[show (i==0)=false by simpa using hi]
    exact kat_one _ _ (PyProof.Rows.lt_int h)
def TupsAt(h:Heap):List Value->List (List Int)->Prop
 |[],[]=>True
 |v::vs,k::ks=>(∃a o us m,v= .ref a/\h.get? a=some o/\o.cls= .type "tuple"/\o.data= .seq (Ql us) m/\RV us k/\k≠[])/\TupsAt h vs ks
 |_,_=>False
def TupsAt.len{h:Heap}:∀{vs:List Value}{ks:List (List Int)},TupsAt h vs ks->vs.length=ks.length
 |[],[],_=>rfl
 |v::vs,k::ks,t=>by rw[O5,O5,TupsAt.len t.2]
 |[],_::_,t=>t.elim
 |_::_,[],t=>t.elim
def TupsAt.get{h:Heap}:∀{vs:List Value}{ks:List (List Int)}{i:Nat},TupsAt h vs ks->i<vs.length->∃a o us m,vs.getD i Qh= .ref a/\h.get? a=some o/\o.cls= .type "tuple"/\o.data= .seq (Ql us) m/\RV us (ks.getD i [])/\ks.getD i []≠[]
 |v::vs,k::ks,0,t,_=>t.1
 |v::vs,k::ks,i+1,t,hi=>TupsAt.get (i:=i) t.2 (by simpa using hi)
 |[],_,_,_,hi=>by simp at hi
 |_::_,[],_,t,_=>t.elim
def TupsAt.keep{h h':Heap}{a:Addr}(k:∀b o,b≠a->h.get? b=some o->h'.get? b=some o)(ha:∀o,h.get? a=some o->o.cls≠ .type "tuple"):∀{vs:List Value}{ks:List (List Int)},TupsAt h vs ks->TupsAt h' vs ks
 |[],[],_=>trivial
 |v::vs,x::ks,⟨⟨b,o,us,m,e1,e2,e3,e4⟩,t⟩=>⟨⟨b,o,us,m,e1,k b o (fun z=>ha o (by rw[<-z];exact e2) e3) e2,e3,e4⟩,TupsAt.keep k ha t⟩
 |[],_::_,t=>t.elim
 |_::_,[],t=>t.elim
def og:∀{us:List Value}{xs:List Int},RV us xs->us.length=xs.length
 |_,_, .nil=>rfl
 |_,_, .cons x t r=>by rw[O5,O5,og r]
def TupsAt.firsts{M:Model}{h:Heap}:∀{vs:List Value}{ks:List (List Int)},TupsAt h vs ks->∃fs,KatTups h vs fs/\fs.length=vs.length/\∀v∈fs,Looks M h (typeOf v) (.type "int")
 |[],[],_=>⟨[],KatTups.nil,rfl,fun _ z=>by cases z⟩
 |v::vs,k::ks,⟨⟨a,o,us,m,e1,e2,e3,e4,e5,e6⟩,t⟩=>by
  obtain⟨fs,q1,q2,q3⟩:=TupsAt.firsts (M:=M) t
  subst e1
  cases e5 with
  |nil=>exact absurd rfl e6
  |cons x t r=>
   refine⟨.int x t::fs,KatTups.cons e2 e3 e4 (by simp) q1,by simp[q2],fun v hv=>?_⟩
   rcases O6.mp hv with rfl | hv
   ·exact show Looks M h (pure (T2 "int")) (T2 "int") from .now
   ·exact q3 v hv
 |[],_::_,t=>t.elim
 |_::_,[],t=>t.elim
def asked{vs:List Value}{ks:List (List Int)}(t:TupsAt s.heap vs ks)(i j:Nat)(C:Bool->O0->Prop)(hi:i<vs.length)(hj:j<vs.length)(h:C (dW (ks.getD i []) (ks.getD j [])) s):kas_ask prog w A (tuples' true) vs i j C s:=by
 obtain⟨a,o,us,m,e1,e2,_,e4,e5,_⟩:=t.get hi
 obtain⟨a',o',OT,m',zY,Hl,_,MR,LM,_⟩:=t.get hj
 unfold kas_ask
 rw[e1,zY]
 refine kat_lt e2 e4 Hl MR (uF 0 e5 LM ?_ h)
 rw[O7,O7,og e5,og LM]
def Bc{α:Type}{l:List α}(h:l.Nodup){i j:Nat}(hi:i<l.length)(hj:j<l.length)(e:l[i]=l[j]):i=j:=by
 rcases Nat.lt_trichotomy i j with q | q | q
 ·exact absurd e (QM.mp h i j hi hj q)
 ·exact q
 ·exact absurd e.symm (QM.mp h j i hj hi q)
def zN{a:Addr}{c:Nat}{vs:List Value}{ks:List (List Int)}{P:PySem.Fin->O0->Prop}(ho:s.heap.get? a=some (Q3 "list" vs.toArray c))(ht:TupsAt s.heap vs ks)(hd:ks.Nodup)(lB:vs.length<64)
 (h:∀(p:Array Nat) (h':Heap) (c':Nat),PN vs.length p->Ri (fun i j=>dW (ks.getD i []) (ks.getD j [])) p vs.length->h'.get? a=some (Q3 "list" (Ql (p.toList.map fun i=>vs.getD i Qh)) c')->
  (∀b o,b≠a->s.heap.get? b=some o->h'.get? b=some o)->P (.done (.ret .none)) {s with heap:=h'}):wpAny (model prog w) A (Builtin.«list.sort» ⟨[.ref a],[]⟩) P E s:=by
 have ED:Pe=16777216:=Q0
 have s1:=PU s.heap a (QC fun _=>(#[]:Array Value))
 obtain⟨e1,Mi⟩:∃e1,(s.heap.update a (QC fun _=>(#[]:Array Value))).get? a=some (Q3 "list" #[] e1):=⟨_,get?_update_seq ho fun _=> #[]⟩
 have k1:∀b o,b≠a->s.heap.get? b=some o->(((s.heap.update a (QC fun _=>(#[]:Array Value))).push (Q3 "tuple" vs.toArray 0)).push (Q3 "list" #[] 0)).get? b=some o:=fun b o hb e=>
  O4 _ (O4 _ ((s1.2 b hb).trans e))
 have KQ:=O4 (Q3 "list" #[] 0) (O4 (Q3 "tuple" vs.toArray 0) Mi)
 have t3:=ht.keep k1 (fun o e z=>by rw[ho] at e;cases e;exact absurd (Value.type.inj z) (by decide))
 have fin:∀(st:SortSt) (p:Array Nat),PN vs.length p->Ri (fun i j=>dW (ks.getD i []) (ks.getD j [])) p vs.length->(arrOf st).map (·.2)=Ql (p.toList.map fun i=>vs.getD i Qh)->failedOf st=none->
  wpAny (model prog w) A (do
   let touched:=(<-seqEpoch a) !=e1
   Builtin.List.listUpdate (.ref a) fun _=>(arrOf st).map (·.2)
   if let some e:=failedOf st then rule "list.sort.comparison-raised";throw e
   if touched then rule "list.sort.modified";raiseError "ValueError" "list modified during sort"
   ret .none) P E {s with heap:=((s.heap.update a (QC fun _=>(#[]:Array Value))).push (Q3 "tuple" vs.toArray 0)).push (Q3 "list" #[] 0)}:=fun st p hp hr he hf=>by
  have hz:(Ql (p.toList.map fun i=>vs.getD i Qh)).size=vs.length:=by rw[O7,OW,Po,hp.sz]
  rw[he,hf]
  refine OX (seqEpoch_at KQ rfl (OX (listUpdate_at KQ rfl ?_ (PB _) (by rw[hz,ED];omega))))
  simp only[bne_self_eq_false,P7,if_false]
  have s2:=PU (((s.heap.update a (QC fun _=>(#[]:Array Value))).push (Q3 "tuple" vs.toArray 0)).push (Q3 "list" #[] 0)) a (QC fun _=>Ql (p.toList.map fun i=>vs.getD i Qh))
  exact Pb (h p _ _ hp hr (get?_update_seq KQ fun _=>Ql (p.toList.map fun i=>vs.getD i Qh)) fun b o hb e=>(s2.2 b hb).trans (k1 b o hb e))
 rw[list_sort_plain]
 refine OX (listItems_at ho rfl (OX (listUpdate_at ho rfl (OX (seqEpoch_at Mi rfl ?_)) (by rw[O7,ED];omega) (PB _))))
 refine OX (wpAny_newTuple (OX (wpAny_newList (R7 ?_) (PB _))) (by show vs.length<=_;rw[ED];omega))
 show wpAny (model prog w) A _ P E {s with heap:=((s.heap.update a (QC fun _=>(#[]:Array Value))).push (Q3 "tuple" vs.toArray 0)).push (Q3 "list" #[] 0)}
 dsimp only
 by_cases hs:vs.toArray.size<2
 ·rw[if_pos hs,if_pos hs]
  have FH:vs.length<2:=by simpa using hs
  refine OX (Pb (OX (Pb ?_)))
  refine fin (SortSt.mk' general' (vs.toArray.zip vs.toArray) #[] 7 none) (Ql (Px vs.length)) ⟨by simp,fun i hi=>?_,fun i j hi hj _=>by omega⟩ (fun i j xZ hj=>by omega) ?_ rfl
  ·rw[eQ];simp[hi]
  ·show (vs.toArray.zip vs.toArray).map (·.2)=_
   apply Array.toList_inj.mp
   refine List.ext_getElem (by simp) fun i a1 a2=>?_
   simp at a1
   simp[a1]
 ·rw[if_neg hs,if_neg hs]
  have FH:2<=vs.length:=by
   have:¬vs.length<2:=by simpa using hs
   omega
  obtain⟨fs,q1,q2,q3⟩:=t3.firsts (M:=model prog w)
  refine OX (kat_kind q1 (by omega) q3 rfl ?_)
  have hb:Lt vs.length (fun i j=>dW (ks.getD i []) (ks.getD j [])):=⟨fun i j k=>si _ _ _,fun i j=>kE _ _,fun i j hi hj xZ=>oE _ _ fun z=>xZ (by
   rw[ht.len] at hi hj
   rw[Pu,Pu,OY hi,OY hj] at z
   exact Bc hd hi hj (by simpa using z))⟩
  obtain⟨r1,r2⟩:=B6 hb FH
  have run:=kat_run (prog:=prog) (w:=w) (A:=A) (E:=E) (ks:=vs) (vs:=vs) (κ:=tuples' true) (Q:=fun st s'=>s'={s with heap:=((s.heap.update a (QC fun _=>(#[]:Array Value))).push (Q3 "tuple" vs.toArray 0)).push (Q3 "list" #[] 0)}/\∃p,PN vs.length p/\Ri (fun i j=>dW (ks.getD i []) (ks.getD j [])) p vs.length/\(arrOf st).map (·.2)=Ql (p.toList.map fun i=>vs.getD i Qh)/\failedOf st=none)
   (G:=fun p s'=>s'={s with heap:=((s.heap.update a (QC fun _=>(#[]:Array Value))).push (Q3 "tuple" vs.toArray 0)).push (Q3 "list" #[] 0)}/\PN vs.length p/\Ri (fun i j=>dW (ks.getD i []) (ks.getD j [])) p vs.length) rfl FH lB
   (fun p pG s' a1 a2 a3 a4=>⟨a4.1,p,a4.2.1,a4.2.2,kat_snds rfl a2,a3⟩)
   (wp_run (s:={s with heap:=((s.heap.update a (QC fun _=>(#[]:Array Value))).push (Q3 "tuple" vs.toArray 0)).push (Q3 "list" #[] 0)}) (fun i j C hi hj hC=>asked t3 i j C hi hj hC) (yN (by omega)) ⟨rfl,r1,r2⟩)
  refine OX (Qf run ?_ fun _ _ e=>e)
  rintro⟨⟨⟩,pG⟩ s' ⟨rfl,p,a1,a2,a3,a4⟩
  exact fin pG p a1 a2 a3 a4
end
section
variable{prog:Pw}{w:World}{A:P_}{E:Value->O0->Prop}{s:O0}
def qK{d:Addr}{od:Obj}{es:Array QA}{ep:Nat}{Q:Value->O0->Prop}(lo:(d==Qk)=false)(ho:s.heap.get? d=some od)(hx:od.ExactDict)(hd:od.data= .dict es ep)
 (hQ:Q (.ref s.heap.objs.size) {s with heap:=s.heap.push {cls:= .type "dict_keyiterator",data:= .fields #[.ref d, .int 0 0, .int es.size 0, .int ep 0]} }):wpAny (model prog w) A (pyIter (.ref d)) Q E s:=by
 have hT:s.TypeIs (.ref d) "dict":=⟨od,ho,hx.1⟩
 refine wpAny_pyIter_slot hT F.slot_dict_iter (Rv F.slot_dict_iter hT F.entry_dict_iter ?_ (F.args_dict_iter_1 _))
 unfold Builtin.«dict.__iter__» Builtin.Dict.dictSlotNone
 refine OX (OX (wpAny_notOrdered_dict hT ?_))
 show wpAny _ _ (pure (PQ d)) _ _ s
 refine Pb ?_
 show wpAny _ _ (RD d>>=_) _ _ s
 unfold RD
 rw[if_neg (by rw[lo];exact Pk)]
 refine OX (Pb (OX (Qp ho hd (OX (RE ho hd ?_)))))
 refine OX (RY (Pb ⟨_,rfl,"dict_keyiterator",_,⟨_,Pt _ rfl,rfl⟩,F.slot_dict_keyiterator_next.lookup,?_⟩))
 simpa[rawInt] using hQ
def uK{it d:Addr}{od:Obj}{es:Array QA}{i ep:Nat}{e:QA}{Q:Option Value->O0->Prop}(hit:s.heap.IsKeyIter it d i es.size ep)(y9:s.heap.get? d=some od)(mV:od.data= .dict es ep)(hx:es[i]? =some e)
 (hQ:∀h',h'.IsKeyIter it d (i+1) es.size ep->QV it s.heap h'->Q (some e.key) {s with heap:=h'}):wpAny (model prog w) A (TN (.ref it)) Q E s:=by
 obtain⟨o,ho,hc,hd⟩:=id hit
 have iI:i<es.size:=(Array.getElem?_eq_some_iff.mp hx).1
 have FU:RX "dict_keyiterator"=false:=by decide
 unfold TN
 refine OX (wpAny_attempt (TY (name:=P5 "__next__") hit.typeIs QH
  (Rv QH hit.typeIs S_ ?_ (SX _))))
 refine OX (Pb (OX (OX ?_)))
 first | refine OX (QD hit.typeIs (Pb ?_)) | refine OX (Q2 hit.typeIs (Pb ?_))
 refine OX (wpAny_fieldsOf ho hd ?_)
 simp only[FU,P7,if_false]
 show wpAny _ _ (if (PQ d==Qh)=true then _ else _) _ _ s
 rw[if_neg (show¬((PQ d==Qh)=true) from Pk)]
 refine OX (Pb (OX (Qp y9 mV ?_)))
 rw[if_neg (by simp)]
 refine OX (Pb (OX (RE y9 mV ?_)))
 rw[if_neg (by simp)]
 refine Pb ?_
 simp only[show¬((i:Int)<0) from by omega,if_false,Int.toNat_natCast,hx]
 refine OX ?_
 first | refine OX (QD hit.typeIs (Pb ?_)) | refine OX (Q2 hit.typeIs (Pb ?_))
 refine OX (wpAny_isOneOf_keyiter hit.typeIs ?_)
 show wpAny _ _ (setField (.ref it) 1 (rawInt ((i:Int)+1))>>=_) _ _ s
 refine OX (wpAny_setField ho hd (by simp) ?_)
 have CW:(s.heap.update it (Obj.mapFields (·.setIfInBounds 1 (rawInt ((i:Int)+1))))).IsKeyIter it d (i+1) es.size ep:=
  ⟨_,Rg _ ho (Obj.isFreed_of_fields (T_ hd _)),(Obj.cls_mapFields ..).trans hc,by rw[T_ hd];simp[rawInt]⟩
 refine OX (R7 (OX (wpAny_isOneOf_keyiter (s:={s with heap:=s.heap.update it (Obj.mapFields (·.setIfInBounds 1 (rawInt ((i:Int)+1))))}) CW.typeIs ?_)))
 show wpAny _ _ (pure e.key) _ _ _
 exact Pb (Pb ⟨_,rfl,Pb (hQ _ CW (PU ..))⟩)
def qy{it d:Addr}{od:Obj}{es:Array QA}{ep i:Nat}{Q:Option Value->O0->Prop}(hh:A.handled=none)(hit:s.heap.IsKeyIter it d i es.size ep)(hi:es.size<=i)(y9:s.heap.get? d=some od)(mV:od.data= .dict es ep)
 (hQ:∀h',Heap.ExtBut it s.heap h'->Q none {s with heap:=h'}):wpAny (model prog w) A (TN (.ref it)) Q E s:=by
 obtain⟨o,ho,hc,hd⟩:=id hit
 have FU:RX "dict_keyiterator"=false:=by decide
 unfold TN
 refine OX (wpAny_attempt (TY (name:=P5 "__next__") hit.typeIs QH
  (Rv QH hit.typeIs S_ ?_ (SX _))))
 refine OX (Pb (OX (OX ?_)))
 first | refine OX (QD hit.typeIs (Pb ?_)) | refine OX (Q2 hit.typeIs (Pb ?_))
 refine OX (wpAny_fieldsOf ho hd ?_)
 simp only[FU,P7,if_false]
 show wpAny _ _ (if (PQ d==Qh)=true then _ else _) _ _ s
 rw[if_neg (show¬((PQ d==Qh)=true) from Pk)]
 refine OX (Pb (OX (Qp y9 mV ?_)))
 rw[if_neg (by simp)]
 refine OX (Pb (OX (RE y9 mV ?_)))
 rw[if_neg (by simp)]
 refine Pb ?_
 simp only[show¬((i:Int)<0) from by omega,if_false,Int.toNat_natCast,Array.getElem?_eq_none hi]
 refine OX ?_
 first | refine OX (QD hit.typeIs (Pb ?_)) | refine OX (Q2 hit.typeIs (Pb ?_))
 show wpAny _ _ (setField (.ref it) 0 .none>>=_) _ _ s
 refine OX (wpAny_setField ho hd (by simp) ?_)
 show wpAny _ _ (newExc (.type "StopIteration") []>>=_) _ _ _
 refine OX ?_
 simp only[newExc,newTuple]
 refine OX (RY ?_ (by size_fits))
 refine OX (m:=firstArgMember _ _) (wpAny_of_eq (a:=Qh) (by first | rfl | (simp only[firstArgMember];rfl)) ?_)
 refine RY ?_ (by size_fits)
 simp only[raiseNew]
 refine OX (wpAny_handled ?_)
 rw[show A.in1.handled=none from hh]
 refine OX (Pb (wpAny_throw ?_))
 refine OX (wpAny_isInstance (T:="StopIteration") (b:=true) ⟨_,Pt _ rfl,rfl⟩ isSubtype_stop ?_)
 exact Pb (hQ _ (((PU ..).extBut.push _).push _))
def Av{it d:Addr}{od:Obj}{es:Array QA}{ep:Nat}{Q:Option Value->O0->Prop}(hh:A.handled=none)(hit:s.heap.IsKeyIter it d es.size es.size ep)(y9:s.heap.get? d=some od)(mV:od.data= .dict es ep)
 (hQ:∀h',Heap.ExtBut it s.heap h'->Q none {s with heap:=h'}):wpAny (model prog w) A (TN (.ref it)) Q E s:=qy hh hit (O9 _) y9 mV hQ
def Ej(es:Array QA):Nat->Value->Prop:=fun i v=>∃e,es[i]? =some e/\v=e.key
def xu(hh:A.handled=none)(I d:Addr)(gX:d≠I){od:Obj}{es:Array QA}{ep:Nat}(mV:od.data= .dict es ep):
 Walks prog w A I [I,d] [I] es.size (Ej es) (fun i h=>h.IsKeyIter I d i es.size ep/\h.get? d=some od) where
 sub:=fun b hb=>by simp at hb;simp[hb]
 frame:=fun _ _ _ st hk=>⟨st.1.at fun o e=>hk I (by simp) o e,hk d (by simp) _ st.2⟩
 item:=fun i s Q E hi st hQ=>by
  have hx:es[i]? =some es[i]:=RA hi
  exact uK st.1 st.2 mV hx fun h' CW C2=>hQ _ h' s.toks ⟨_,hx,rfl⟩ ⟨CW,(C2.2 d gX).trans st.2⟩ fun b o hb e=>C2.extBut b o (fun h=>hb (by simp[h])) e
 done:=fun s Q E st hQ=>Av hh st.1 st.2 mV fun h' Nj=>hQ h' s.toks fun b o hb e=>Nj b o (fun h=>hb (by simp[h])) e
 self:=fun _ _ _ _ st hQ=>wpAny_pyIter_keyiter st.1 hQ
def B7{d:Addr}{od:Obj}{es:Array QA}{ep:Nat}(lo:(d==Qk)=false)(hx:od.ExactDict)(mV:od.data= .dict es ep):KdlSrc prog w "dict" d d es.size (Ej es) (fun h=>h.get? d=some od) where
 type:=fun _ hm=>⟨od,hm,hx.1⟩
 there:=fun _ hm=>⟨Pc hm,Pc hm⟩
 keep:=fun _ _ hm hk=>hk d (.inl rfl) od hm
 notList:=by decide
 notTuple:=by decide
 hint:=fun _ _ s _ hm hq=>kdl_hint_dict ⟨od,hm,hx.1⟩ hq
 iter:=fun _ _ hh hm=>⟨_,_,(fun _ _ hq=>qK lo hm hx mV hq),xu hh _ d (PL (Pc hm)) mV,⟨⟨_,Pt _ rfl,rfl,rfl⟩,O4 _ hm⟩⟩
end
end L3
namespace L3
open PySem
def insI(k:List Int):List (List Int)->List (List Int)
 |[]=>[k]
 |x::r=>if dW k x then k::x::r else x::insI k r
def sortI:List (List Int)->List (List Int)
 |[]=>[]
 |k::r=>insI k (sortI r)
def vU(l:List (List Int)):Prop:=l.Pairwise fun a b=>dW a b=true
def oe{k x:List Int}:∀{l:List (List Int)},x∈insI k l↔x=k\/x∈l
 |[]=>by simp[insI]
 |y::r=>by
  unfold insI
  split
  ·simp
  ·rw[O6,oe,O6]
   constructor
   ·rintro(h | h | h)<;>simp[h]
   ·rintro(h | h | h)<;>simp[h]
def qG{k:List Int}:∀{l:List (List Int)},vU l->k∉l->vU (insI k l)
 |[],_,_=>List.pairwise_singleton _ _
 |x::r,h,hk=>by
  have h:=Qg.mp h
  unfold insI
  split
  ·rename_i q
   refine Qg.mpr ⟨fun y hy=>?_,Qg.mpr h⟩
   rcases O6.mp hy with rfl | hy
   ·exact q
   ·exact si _ _ _ q (h.1 y hy)
  ·rename_i q
   have hx:dW x k=true:=by
    rcases oE k x (fun z=>hk (by rw[z];exact OV ..)) with z | z
    ·exact absurd z q
    ·exact z
   refine Qg.mpr ⟨fun y hy=>?_,qG h.2 fun z=>hk (OU _ z)⟩
   rcases oe.mp hy with rfl | hy
   ·exact hx
   ·exact h.1 y hy
def gV{x:List Int}:∀{l:List (List Int)},x∈sortI l↔x∈l
 |[]=>RW
 |k::r=>by unfold sortI;rw[oe,gV,O6]
def kf:∀{l:List (List Int)},l.Nodup->vU (sortI l)
 |[],_=>S8
 |k::r,h=>by
  have h:=P1.mp h
  exact qG (kf h.2) fun z=>h.1 (gV.mp z)
def pk:∀{a b:List (List Int)},vU a->vU b->(∀x,x∈a↔x∈b)->a=b
 |[],[],_,_,_=>rfl
 |[],y::b,_,_,h=>by have:=(h y).mpr (OV ..);cases this
 |x::a,[],_,_,h=>by have:=(h x).mp (OV ..);cases this
 |x::a,y::b,ha,hb,h=>by
  have ha:=Qg.mp ha
  have hb:=Qg.mp hb
  have e:x=y:=by
   rcases O6.mp ((h x).mp (OV ..)) with q | q
   ·exact q
   ·rcases O6.mp ((h y).mpr (OV ..)) with p | p
    ·exact p.symm
    ·have z1:=hb.1 x q
     have z2:=ha.1 y p
     rw[kE _ _ z1] at z2
     cases z2
  subst e
  have Mq:∀k,dW k k≠true:=fun k z=>by have:=kE _ _ z;rw[z] at this;cases this
  rw[pk ha.2 hb.2 fun z=>?_]
  constructor
  ·intro hz
   rcases O6.mp ((h z).mp (OU _ hz)) with q | q
   ·subst q;exact absurd (ha.1 z hz) (Mq z)
   ·exact q
  ·intro hz
   rcases O6.mp ((h z).mpr (OU _ hz)) with q | q
   ·subst q;exact absurd (hb.1 z hz) (Mq z)
   ·exact q
def xa:∀(n:Nat) (l:List Nat),l.Nodup->(∀x∈l,x<n)->l.length=n->∀k,k<n->k∈l
 |0,_,_,_,_,k,hk=>by omega
 |n+1,l,hd,hl,hn,k,hk=>by
  by_cases h:n∈l
  ·by_cases e:k=n
   ·subst e;exact h
   ·refine List.mem_of_mem_erase (xa n (l.erase n) (hd.erase n) (fun x hx=>?_) (by rw[Ti h,hn];rfl) k (by omega))
    have hx:=hd.mem_erase_iff.mp hx
    have:=hl x hx.2
    have:=hx.1
    omega
  ·cases l with
   |nil=>simp at hn
   |cons x r=>
    have hd:=P1.mp hd
    have lt:∀y∈x::r,y<n:=fun y hy=>by
     have:=hl y hy
     have:y≠n:=fun z=>h (by rw[<-z];exact hy)
     omega
    exact absurd (xa n r hd.2 (fun y hy=>lt y (OU _ hy)) (by simpa using hn) x (lt x (OV ..))) hd.1
def zO{ks:List (List Int)}{p:Array Nat}(hd:ks.Nodup)(P:PN ks.length p)(R:Ri (fun i j=>dW (ks.getD i []) (ks.getD j [])) p ks.length):(p.toList.map fun i=>ks.getD i [])=sortI ks:=by
 have hsz:p.toList.length=ks.length:=by rw[Po];exact P.sz
 have Co:∀i (h:i<p.toList.length),p.toList[i]=at' p i:=fun i h=>by
  have h':i<p.size:=by rw[Po] at h;exact h
  rw[eQ,RA h']
  simp
 refine pk ?_ (kf hd) fun x=>?_
 ·refine QM.mpr fun i j hi hj xZ=>?_
  rw[OW] at hi hj
  rw[List.getElem_map,List.getElem_map,Co i hi,Co j hj]
  exact R i j xZ (by omega)
 ·rw[gV]
  constructor
  ·intro hx
   obtain⟨i,hi,rfl⟩:=Pd.mp hx
   obtain⟨j,hj,rfl⟩:=Rk.mp hi
   have:=P.lt j (by omega)
   rw[Co j hj,Pu,OY this]
   exact QS this
  ·intro hx
   obtain⟨k,hk,rfl⟩:=Rk.mp hx
   have Iw:k∈p.toList:=by
    have hn:p.toList.Nodup:=QM.mpr fun i j hi hj xZ z=>by
     rw[Co i hi,Co j hj] at z
     have:=P.inj i j (by omega) (by omega) z
     omega
    exact xa ks.length p.toList hn (fun x hx=>by
     obtain⟨j,hj,rfl⟩:=Rk.mp hx
     rw[Co j hj]
     exact P.lt j (by omega)) hsz k hk
   refine Pd.mpr ⟨k,Iw,?_⟩
   rw[Pu,OY hk]
   rfl
end L3
namespace L3
open PySem PySem.Spec L2 SeqAt HT
open PyProof.Rows hiding St
def tupI(k:List Int):D:= .tup (k.map D.int)
def iT(ks:List (List Int)):Bool:=decide ks.Nodup&&decide (ks.length<64)&&ks.all fun k=>!k.isEmpty
def eL(H:Hp):List V->List (List Int)->Prop:=SO fun v k=>∃a,v= .ref a/\H a=some (.tup (k.map V.int))
def vg{K:O2}{F:Hp}:∀{ws:List V}{ks:List (List Int)},eL F ws ks->(∀k∈ks,k.length<=lim)->DenL K F (ks.map tupI) ws
 |_,_, .nil,_=>rfl
 |_,_, .cons (b:=k) h t,hl=>by
  obtain⟨a,rfl,h⟩:=h
  exact .cons ⟨a,_,rfl,h,DenL.ints k,by rw[OW];exact hl k (OV ..)⟩ (vg t fun k hk=>hl k (OU _ hk))
def rk{X:Cx}{pins:List (Addr×Obj)}{σ:St}{H:Hp}{s:O0}(I:Inv X pins σ H s):∀{vs:List V}{aK:List Value}{ks:List (List Int)},eL H vs ks->Vals vs aK->(∀k∈ks,k≠[])->TupsAt s.heap aK ks
 |_,_,_, .nil,r,_=>by cases r;exact trivial
 |_,_,_, .cons (b:=k) h t,r,hn=>by
  obtain⟨a,rfl,h⟩:=h
  cases r with
  |cons r1 r2=>
   cases (show _=_ from r1)
   obtain⟨us,ru,pt,_⟩:=I.tuple (SqT.of (K:=X.K) h)
   obtain⟨o,q1,q2,m,q3⟩:=pt
   exact⟨⟨a,o,us,m,rfl,q1,q2,q3,intsAre_of ru,hn k (OV ..)⟩,rk I t r2 fun k hk=>hn k (OU _ hk)⟩
def vi{H:Hp}:∀{vs:List V}{ks:List (List Int)}{i:Nat},eL H vs ks->i<vs.length->∃a,vs.getD i .non= .ref a/\H a=some (.tup ((ks.getD i []).map V.int))
 |_,_,i, .nil,hi=>by simp at hi
 |_,_,0, .cons h t,_=>h
 |_,_,i+1, .cons h t,hi=>vi (i:=i) t (by simpa using hi)
def vj{H:Hp}:∀{vs:List V}{ks:List (List Int)},eL H vs ks->vs.length=ks.length
 |_,_, .nil=>rfl
 |_,_, .cons h t=>by rw[O5,O5,vj t]
def rj{H:Hp}{vs:List V}{ks:List (List Int)}(h:eL H vs ks):∀{is:List Nat},(∀i∈is,i<vs.length)->eL H (is.map fun i=>vs.getD i .non) (is.map fun i=>ks.getD i [])
 |[],_=> .nil
 |i::is,hi=> .cons (vi h (hi i (OV ..))) (rj h fun j hj=>hi j (OU _ hj))
def rE:∀{vs:List V}{us:List Value}(i:Nat),Vals vs us->i<vs.length->RelV (vs.getD i .non) (us.getD i Qh)
 |_,_,i, .nil,hi=>by simp at hi
 |_,_,0, .cons h t,_=>h
 |_,_,i+1, .cons h t,hi=>rE i t (by simpa using hi)
def rG{vs:List V}{us:List Value}(h:Vals vs us):∀{is:List Nat},(∀i∈is,i<vs.length)->Vals (is.map fun i=>vs.getD i .non) (is.map fun i=>us.getD i Qh)
 |[],_=> .nil
 |i::is,hi=> .cons (rE i h (hi i (OV ..))) (rG h fun j hj=>hi j (OU _ hj))
section
def rq:∀l:List (List Int),(sortI l).length=l.length
 |[]=>rfl
 |k::r=>by
  have ins:∀(k:List Int) (l:List (List Int)),(insI k l).length=l.length+1:=by
   intro k l
   induction l with
   |nil=>rfl
   |cons x l ih=>
    unfold insI
    split
    ·rfl
    ·rw[O5,ih,O5]
  unfold sortI
  rw[ins,rq r,O5]
end
def oz(k:List Int):List Key:=k.map SA
def Js:List V->Hp->VK->Prop:=fun xs H Q=>∃p ax ks,xs=[.ref p]/\Rd H p (.dT ax)/\ax.map (·.1)=ks.map oz/\iT ks=true/\∀(q:Addr) (ws:List V),H q=none->eL H ws (sortI ks)->Q (.ref q) (upd H q (.lst ws))
def qN{H:Hp}:∀{ax:List (List Key×V)}{xs:List (List Key×Addr×Value)}{ks:List (List Int)},SO (fun (p:List Key×V) (q:List Key×Addr×Value)=>p.1=q.1/\H q.2.1=some (.tup (p.1.map kV))/\RelV p.2 q.2.2) ax xs->
 ax.map (·.1)=ks.map oz->eL H (xs.map fun x=>V.ref x.2.1) ks
 |_,_,[], .nil,_=> .nil
 |_,_,_::_, .nil,e=>by simp at e
 |_,_,[], .cons h t,e=>by simp at e
 |_,_,k::ks, .cons h t,e=>by
  rw[O3,O3] at e
  injection e with e1 e2
  refine .cons ⟨_,rfl,?_⟩ (qN t e2)
  have hk:(oz k).map kV=k.map V.int:=by unfold oz;rw[PH];rfl
  rw[h.2.1,e1,hk]
section
variable{X:Cx}{Xw:Nat->Hp->Prop}{e:Expr}{δs:DA}{pos p:Pos}
def yV(hc:X.calm=true):CallR X (.builtin "sorted") Js:=by
 intro pins s σ H xs us Q I r h
 obtain⟨a,ax,ks,rfl,hH,z0,hk,q⟩:=h
 obtain⟨u,rfl,r1⟩:=r.one
 cases (show u=_ from r1)
 obtain⟨z,lo,xs,rel,o,es,ep,g1,g2,g3,g4,g5⟩:=(show ObjOk X.prog X.w H s.heap a (.dT ax) from hH.ok I.hok)
 unfold iT at hk
 rw[PK,PK] at hk
 have hd:ks.Nodup:=of_decide_eq_true hk.1.1
 have lB:ks.length<64:=of_decide_eq_true hk.1.2
 have gX:∀k∈ks,k≠[]:=fun k Ii z=>by have:=Pl.mp hk.2 k Ii;rw[z] at this;cases this
 have hr:=qN rel z0
 have Il:=vj hr
 rw[OW] at Il
 have FE:es.size=xs.length:=by rw[<-Po,g4,OW]
 have ED:Pe=16777216:=Q0
 refine Calls.call_function_entry kind_sorted plain_sorted entry_sorted (args_sorted1 _) ?_
 unfold Builtin.«sorted»
 refine OX (m:=checkCount "sorted" 1 1 _) (Pb (OX (PySem.W.kdu_collect (A:=X.A.in1) (B7 lo g2 g3) (I.ok.hd hc) g1 (by rw[FE,ED];omega) fun h1 tk acc IP AI=>?_)))
 have HY:acc.toList.length=xs.length:=by rw[Po,<-FE];exact AI.1
 have I1:Inv X pins σ H {s with heap:=h1,toks:=tk}:=I.kept (t':=tk) fun b ob e=>IP b ob e
 have rv:Vals (xs.map fun x=>V.ref x.2.1) acc.toList:=by
  have ext:∀{vs:List V}{us:List Value},vs.length=us.length->(∀(i:Nat) (v:V) (u:Value),vs[i]? =some v->us[i]? =some u->RelV v u)->Vals vs us:=by
   intro vs
   induction vs with
   |nil=>intro us h _;cases us with | nil=>exact .nil | cons _ _=>simp at h
   |cons v vs ih=>
    intro us h hh
    cases us with
    |nil=>simp at h
    |cons u us=>exact .cons (hh 0 v u rfl rfl) (ih (by simpa using h) fun i v u h1 h2=>hh (i+1) v u h1 h2)
  refine ext (by rw[OW,HY]) fun i v u e1 e2=>?_
  rw[Rc] at e2
  obtain⟨en,q1,q2⟩:=AI.2 i u e2
  rw[<-Rc,g4,O_] at q1
  rw[O_] at e1
  cases w:xs[i]? with
  |none=>rw[w] at e1;cases e1
  |some x=>
   rw[w] at e1 q1
   cases e1
   cases q1
   exact q2
 have ht:=rk I1 hr rv gX
 refine OX (wpAny_newList ?_ (by rw[ED];omega))
 have JT:(h1.push (Q3 "list" acc.toList.toArray 0)).get? h1.objs.size=some (Q3 "list" acc.toList.toArray 0):=Pt _ rfl
 refine OX (R7 (Rv slot_list_sort ⟨_,JT,rfl⟩ entry_list_sort (zN (s:={s with heap:=h1.push (Q3 "list" acc.toList.toArray 0),toks:=tk}) JT
  (ht.keep (a:=h1.objs.size) (fun b o _ e=>O4 _ e) (fun o e=>absurd (Pc e) (Qb _))) hd (by omega) fun P h' c' hP hR Kx Ij=>?_) (args_list_sort _)))
 have Kp:∀i∈P.toList,i<(xs.map fun x=>V.ref x.2.1).length:=fun i hi=>by
  obtain⟨j,hj,rfl⟩:=Rk.mp hi
  have h':j<P.size:=by rw[Po] at hj;exact hj
  have:=hP.lt j (by rw[hP.sz] at h';exact h')
  rw[eQ,RA h'] at this
  have e:P.toList[j]=P[j]:=by simp
  rw[e,OW]
  have:P[j]<acc.toList.length:=this
  omega
 have M7:PN ks.length P:=by rw[<-Il,<-HY];exact hP
 have M8:Ri (fun i j=>dW (ks.getD i []) (ks.getD j [])) P ks.length:=by rw[<-Il,<-HY];exact hR
 have JV:=zO hd M7 M8
 have Mm:=rj hr Kp
 rw[JV] at Mm
 refine⟨_,rfl,Pb ⟨_,rfl,⟨.ref h1.objs.size,_,I1.laid (a:=h1.objs.size) (t':=tk) (o:= .lst (P.toList.map fun i=>(xs.map fun x=>V.ref x.2.1).getD i .non)) (fun b ob e=>Ij b ob (PL (Pc e)) (O4 _ e)) (O9 _) ?_,rfl,q _ _ (I1.hok.fresh (O9 _)) Mm⟩⟩⟩
 exact⟨by rw[OW,Po,hP.sz,ED];omega,_,c',rG rv Kp,Kx⟩
def ri{F F':Hp}(e:Same F F'):∀{ws:List V}{ks:List (List Int)},eL F ws ks->eL F' ws ks
 |_,_, .nil=> .nil
 |_,_, .cons ⟨b,q1,q2⟩ t=> .cons ⟨b,q1,e _ _ q2⟩ (ri e t)
def vh{F H:Hp}(hs:Same F H):∀{ws:List V}{ks:List (List Int)},eL H ws ks->∃F',Ext F H F' H/\eL F' ws ks
 |_,_, .nil=>⟨F,Ext.refl hs, .nil⟩
 |_,_, .cons h t=>by
  obtain⟨a,rfl,h⟩:=h
  obtain⟨F1,e1,r1⟩:=vh hs t
  have e2:=Ext.tup (F:=F1) e1.fh h
  refine⟨_,e1.trans e2, .cons ⟨a,rfl,aD⟩ ?_⟩
  exact ri e2.ff r1
def qH:List Key->Option (List Int)
 |[]=>some []
 | .inl i::r=>(qH r).map (i:: ·)
 |_=>none
def fH:List (List Key)->Option (List (List Int))
 |[]=>some []
 |k::r=>match qH k,fH r with
  |some x,some xs=>some (x::xs)
  |_,_=>none
def uw:∀{k:List Key}{x:List Int},qH k=some x->k=oz x
 |[],_,e=>by cases e;rfl
 | .inl i::r,_,e=>by
   unfold qH at e
   cases q:qH r with
   |none=>rw[q] at e;cases e
   |some y=>rw[q] at e;cases e;rw[uw q];rfl
 | .inr _::r,_,e=>by cases e
def lC:∀{kk:List (List Key)}{ks:List (List Int)},fH kk=some ks->kk=ks.map oz
 |[],_,e=>by cases e;rfl
 |k::r,_,e=>by
  unfold fH at e
  split at e
  ·rename_i x xs e1 e2
   cases e
   rw[O3,<-uw e1,<-lC e2]
  ·cases e
def rA:List D->M D
 |[.dct kk ds]=>match fH kk with
  |some ks=>if iT ks&&ks.all (fun k=>decide (k.length<=lim)) then ab (.lst ((sortI ks).map tupI)) else af
  |none=>af
 |_=>af
def jB{α β:Type}:∀{a:List α}{b:List β},a.length=b.length->(a.zip b).map (·.1)=a
 |[],[],_=>rfl
 |x::a,y::b,h=>by rw[Qs,O3,jB (by simpa using h)]
 |[],_::_,h=>by simp at h
 |_::_,[],h=>by simp at h
def DH(hc:X.calm=true)(hg:Gl X "sorted")(hm:X.mg "sorted"=none)(hb:Qi "sorted"=some (.builtin "sorted"))(ha:pT X Xw [e] δs)(he:Ph [e] X.env=[(false,eval e X.env)]:=by rfl):PD X Xw (.Call (.Name "sorted" p) [e] [] pos) (dA rA δs):=
 eG (yV hc) (fun Xw F H vs ds Q s h w=>by
  unfold rA at w
  split at w
  ·rename_i kk ds
   obtain⟨v,rfl,h1⟩:=h.one
   obtain⟨a,ob,ws,rfl,h2,h3,h4,h5⟩:=h1
   split at w
   ·rename_i ks z3
    split at w
    ·rename_i hok
     rw[PK] at hok
     have hl:∀k∈ks,k.length<=lim:=fun k hk=>of_decide_eq_true (Pl.mp hok.2 k hk)
     have lB:ks.length<64:=by
      have:=hok.1
      unfold iT at this
      rw[PK,PK] at this
      exact of_decide_eq_true this.1.2
     refine⟨a,_,ks,rfl, .inr ⟨ob,s _ _ h2⟩,by rw[jB (by rw[h4];exact h3.len),lC z3],hok.1,fun q us hq hr=>?_⟩
     obtain⟨F1,e1,r1⟩:=vh s hr
     have e2:=Ext.lay (o:= .lst us) e1.fh hq
     exact WP.fin w (e1.trans e2) ⟨q,_,rfl,aD,DenL.mono e2.ff (vg r1 fun k hk=>hl k (gV.mp hk)),by rw[OW,rq];unfold lim;omega⟩
    ·exact w.elim
   ·exact w.elim
  ·exact w.elim) hg hm hb ha (by decide) (by decide) he rfl
end
end L3
namespace L3
open PySem PySem.Spec L2
open PyProof.Rows hiding St
def orM{α:Type}(a b:M α):M α:=match a with
 |none=>b
 |some r=>some r
def AR(a b:DA):DA:=fun Z=>orM (a Z) (b Z)
section
variable{X:Cx}{Xw:Nat->Hp->Prop}{e tg:Expr}{δi δi':DA}
def yw(h:vN X Xw tg e δi)(h':vN X Xw tg e δi'):vN X Xw tg e (AR δi δi'):=fun pins s σ H Q I ⟨F,Z,S,w⟩=>by
 unfold AR orM at w
 cases q:δi Z with
 |none=>rw[q] at w;exact h' pins s σ H Q I ⟨F,Z,S,w⟩
 |some r=>rw[q] at w;exact h pins s σ H Q I ⟨F,Z,S,by rw[q];exact w⟩
def gO{st:Stmt}:ki X Xw st (fun _=>af):=fun F₀ H₀ pins s σ H D I ⟨F,Z,S,w⟩=>w.elim
end
def fgt:List Nat->aP->aP
 |[],Z=>Z
 |i::is,Z=>fgt is (Z.set i none)
def Jc(f:aP->aP):Out->M Out
 | .nx Z=>ab (.nx (f Z))
 | .rt d=>ab (.rt d)
def cb(is:List Nat)(τ:DS):DS:=fun Z=>τ Z>>=Jc (fgt is)
def StOk.fgt1{K:O2}{F₀ H₀ F H:Hp}{σ:St}{Z:aP}(s:StOk K F₀ H₀ F H σ Z)(i:Nat):StOk K F₀ H₀ F H σ (Z.set i none):=by
 have get:∀(j:Nat) (sl:Sl),(Z.set i none)[j]? =some (some sl)->Z[j]? =some (some sl):=fun j sl e=>by
  by_cases hj:j=i
  ·subst hj
   by_cases hl:j<Z.length
   ·rw[Pa hl] at e;cases e
   ·rw[R5 (by simpa using hl)] at e;cases e
  ·rw[O1 (PX hj)] at e;exact e
 exact⟨s.ext,⟨s.st.fh,fun j sl e=>s.st.den j sl (get j sl e)⟩,by simp[s.len],fun j c a e e'=>s.own j c a (get j _ e) e',fun j k c c' a e1 e2 e3 e4=>s.sep j k c c' a (get j _ e1) (get k _ e2) e3 e4⟩
def StOk.fgt{K:O2}{F₀ H₀ F H:Hp}{σ:St}:∀(is:List Nat) {Z:aP},StOk K F₀ H₀ F H σ Z->StOk K F₀ H₀ F H σ (L3.fgt is Z)
 |[],_,s=>s
 |i::is,_,s=>StOk.fgt is (s.fgt1 i)
def WPS.fgt{K:O2}{Xw:Nat->Hp->Prop}{F₀ H₀:Hp}{is:List Nat}{m:M Out}{Dn:Ends}(w:WPS K Xw F₀ H₀ (m>>=Jc (L3.fgt is)) Dn):WPS K Xw F₀ H₀ m Dn:=by
 match m,w with
 |none,w=>exact w
 |some (.ok (.nx Z)),w=>exact fun σ F H s=>w σ F H (s.fgt is)
 |some (.ok (.rt d)),w=>exact w
 |some (.ex n),w=>exact w
section
variable{X:Cx}{Xw:Nat->Hp->Prop}{MD:List Stmt}{τ:DS}{is:List Nat}
def bp(h:PSDs X Xw MD τ):PSDs X Xw MD (cb is τ):=fun F₀ H₀=>PSs.weak (h F₀ H₀) fun D σ H ⟨F,Z,s,w⟩=>⟨F,Z,s,WPS.fgt w⟩
end
def MY:Option Sl->Option Sl
 |some (.ow c)=>some (.fz c.d)
 |x=>x
def xW(Z:aP):aP:=Z.map MY
def refA(h:Heap)(P:Addr->Prop)[DecidablePred P](H:Hp):Hp:=fun b=>if P b then(H b).map (mU ((h.get? b).getD {cls:= .none,data:= .fields #[]})) else H b
def wj(ob:Obj)(o:HO):mU ob o=o\/((∃k,o= .dT k)\/∃k,o= .dK k)/\mU ob o= .frz ob o:=by
 cases o<;>first | exact .inl rfl | exact .inr ⟨.inl ⟨_,rfl⟩,rfl⟩ | exact .inr ⟨.inr ⟨_,rfl⟩,rfl⟩
section
variable{X:Cx}{pins:List (Addr×Obj)}{σ:St}{H:Hp}{s:O0}{P:Addr->Prop}[DecidablePred P]
def gT{h:Heap}{b:Addr}(e:H b=none):refA h P H b=none:=by
 unfold refA;split
 ·rw[e];rfl
 ·exact e
def rf{h:Heap}{b:Addr}{o:HO}(e:H b=some o):refA h P H b=some o\/((∃k,o= .dT k)\/∃k,o= .dK k)/\P b/\refA h P H b=some (.frz ((h.get? b).getD {cls:= .none,data:= .fields #[]}) o):=by
 unfold refA;split
 ·rename_i hp
  rw[e]
  rcases wj ((h.get? b).getD {cls:= .none,data:= .fields #[]}) o with q | ⟨q1,q2⟩
  ·exact .inl (by show some _=_;rw[q])
  ·exact .inr ⟨q1,hp,by show some _=_;rw[q2]⟩
 ·exact .inl e
def gS{h:Heap}{b:Addr}{o:HO}(e:H b=some o)(n1:∀k,o≠ .dT k)(n2:∀k,o≠ .dK k):refA h P H b=some o:=by
 rcases rf (P:=P) (h:=h) e with q | ⟨⟨k,q⟩ | ⟨k,q⟩,_⟩
 ·exact q
 ·exact absurd q (n1 k)
 ·exact absurd q (n2 k)
def Inv.refA(I:Inv X pins σ H s):Inv X pins σ (L3.refA s.heap P H) s:=by
 have obj:∀b o,H b=some o->((∃k,o=HO.dT k)\/∃k,o= .dK k)->∃ob,s.heap.get? b=some ob:=fun b o e hu=>by
  have hk:=I.hok b o e
  rcases hu with⟨k,h1⟩ | ⟨k,h1⟩
  ·subst h1;obtain⟨_,_,_,_,ob,_,_,q,_⟩:=hk;exact⟨ob,q⟩
  ·subst h1;obtain⟨_,_,_,_,ob,_,_,q,_⟩:=hk;exact⟨ob,q⟩
 refine⟨I.ok,I.os,I.bare,⟨I.base.keep,I.base.slot,fun b q h1 h2 h3=>gT (I.base.free b q h1 h2 h3),I.base.there,fun b xs q=>gS (I.base.tups b xs q) (fun _ z=>nomatch z) (fun _ z=>nomatch z),
  fun b q1 v q=>gS (I.base.frzs b q1 v q) (fun _ z=>nomatch z) (fun _ z=>nomatch z),fun b ps q=>?_⟩,I.loc,I.cell,gT I.free,fun x c q=>gT (I.freeC x c q),fun p hp=>?_,fun b v q=>?_,I.len⟩
 ·obtain⟨m,this⟩:=I.base.tbls b ps q
  exact⟨m,gS this (fun _ z=>nomatch z) (fun _ z=>nomatch z)⟩
 ·obtain⟨h1,h2,h3⟩:=I.pin p hp
  exact⟨h1,gT h2,h3⟩
 ·have st:∀{c:Addr}{v:HO},ObjOk X.prog X.w H s.heap c v->ObjOk X.prog X.w (L3.refA s.heap P H) s.heap c v:=fun {c v} k=>k.stay (fun _ _ _ q=>q)
   (fun c' q=>gS q (fun _ z=>nomatch z) (fun _ z=>nomatch z)) fun c' xs q=>gS q (fun _ z=>nomatch z) (fun _ z=>nomatch z)
  cases e:H b with
  |none=>rw[gT e] at q;cases q
  |some o=>
   rcases rf (P:=P) (h:=s.heap) e with z | ⟨hu,hp,z⟩
   ·rw[z] at q;cases q;exact st (I.hok b _ e)
   ·rw[z] at q
    cases q
    obtain⟨ob,FQ⟩:=obj b o e hu
    rw[FQ]
    exact⟨FQ,st (I.hok b o e)⟩
def unA(P:Addr->Prop)[DecidablePred P](H:Hp):Hp:=fun b=>if P b then(match H b with | some (.frz _ u)=>some u | x=>x) else H b
def Inv.unA(I:Inv X pins σ H s)(hP:∀b,P b->∀o u,X.H₀ b≠some (.frz o u))(hQ:∀b,P b->∀o u,H b=some (.frz o u)->(∃k,u= .dT k)\/∃k,u= .dK k):Inv X pins σ (L3.unA P H) s:=by
 have non:∀b,H b=none->L3.unA P H b=none:=fun b e=>by unfold L3.unA;rw[e];split<;>rfl
 have keep:∀b o,H b=some o->(∀q u,o≠ .frz q u)->L3.unA P H b=some o:=fun b o e n=>by
  unfold L3.unA;split
  ·rw[e];cases o<;>first | rfl | exact absurd rfl (n _ _)
  ·exact e
 refine⟨I.ok,I.os,I.bare,⟨I.base.keep,I.base.slot,fun b q h1 h2 h3=>non b (I.base.free b q h1 h2 h3),I.base.there,fun b xs q=>keep b _ (I.base.tups b xs q) (fun _ _ z=>nomatch z),
  fun b q1 v q=>?_,fun b ps q=>?_⟩,I.loc,I.cell,non _ I.free,fun x c q=>non _ (I.freeC x c q),fun p hp=>?_,fun b v q=>?_,I.len⟩
 ·have:=I.base.frzs b q1 v q
  unfold L3.unA
  rw[if_neg (fun hp=>hP b hp q1 v q)]
  exact this
 ·obtain⟨m,this⟩:=I.base.tbls b ps q
  exact⟨m,keep b _ this (fun _ _ z=>nomatch z)⟩
 ·obtain⟨h1,h2,h3⟩:=I.pin p hp
  exact⟨h1,non _ h2,h3⟩
 ·have st:∀{c:Addr}{v:HO},ObjOk X.prog X.w H s.heap c v->ObjOk X.prog X.w (L3.unA P H) s.heap c v:=fun {c v} k=>k.stay (fun _ _ _ q=>q)
   (fun c' q=>keep c' _ q (fun _ _ z=>nomatch z)) fun c' xs q=>keep c' _ q (fun _ _ z=>nomatch z)
  cases e:H b with
  |none=>rw[non b e] at q;cases q
  |some o=>
   have ko:=I.hok b o e
   by_cases hf:∃ob u,o= .frz ob u
   ·obtain⟨ob,u,rfl⟩:=hf
    unfold L3.unA at q
    split at q
    ·rw[e] at q
     cases q
     obtain⟨_,k2⟩:=ko
     exact st k2
    ·rw[e] at q;cases q;exact st ko
   ·rw[keep b o e (fun q u z=>hf ⟨q,u,z⟩)] at q
    cases q
    exact st ko
end
mutual
def ui:D->Bool
 | .non=>true
 | .bl _=>true
 | .int _=>true
 | .str _=>true
 | .tup ds=>xV ds
 | .raw _=>false
 | .exc _=>false
 | .scr _=>false
 | .lst _=>false
 | .dct _ _=>false
 | .dci _ _=>false
def xV:List D->Bool
 |[]=>true
 |d::ds=>ui d&&xV ds
end
def nW(d:D):M D:=if ui d then ab d else af
def OwnAt(σ:St)(Z:aP)(b:Addr):Prop:=∃(i:Nat) (c:C),Z[i]? =some (some (Sl.ow c))/\σ[i]? =some (some (V.ref b))
section
variable{K:O2}{F H F' H':Hp}{σ:St}{Z:aP}{h:Heap}{b:Addr}
def OwnAt.obj(S:StE K F H σ Z)(p:OwnAt σ Z b):F b=none/\∃o,H b=some o/\((∃x,o= .lst x)\/(∃x,o= .dT x)\/∃x,o= .dK x):=by
 obtain⟨i,c,h1,h2⟩:=p
 obtain⟨v,h3,a,o,rfl,h4,h5,h6⟩:=S.den i _ h1
 rw[h3] at h2
 cases h2
 refine⟨h5,o,h4,?_⟩
 cases c with
 |lst ds=>obtain⟨vs,rfl,_⟩:=h6;exact .inl ⟨_,rfl⟩
 |dct ks ds=>obtain⟨vs,rfl,_⟩:=h6;exact .inr (.inl ⟨_,rfl⟩)
 |dci ks ds=>obtain⟨vs,rfl,_⟩:=h6;exact .inr (.inr ⟨_,rfl⟩)
open Classical in
noncomputable def fA(σ:St)(Z:aP)(H1 F:Hp):Hp:=fun b=>if OwnAt σ Z b then H1 b else F b
open Classical in
def xU(S:StE K F H σ Z){H1:Hp}:Same F (fA σ Z H1 F):=fun b u e=>by
 unfold fA
 rw[if_neg (fun p=>by rw[(OwnAt.obj S p).1] at e;cases e)]
 exact e
open Classical in
def AA(S:StE K F H σ Z):StE K (fA σ Z (refA h (OwnAt σ Z) H) F) (refA h (OwnAt σ Z) H) σ (xW Z):=by
 refine⟨fun b u e=>?_,fun j sl e=>?_⟩
 ·unfold fA at e
  split at e
  ·exact e
  ·rename_i hp
   unfold refA
   rw[if_neg hp]
   exact S.fh b u e
 ·unfold xW at e
  rw[O_] at e
  cases q:Z[j]? with
  |none=>rw[q] at e;cases e
  |some x=>
   rw[q] at e
   cases x with
   |none=>cases e
   |some y=>
    cases y with
    |fz d=>
     cases e
     obtain⟨v,h1,h2⟩:=S.den j _ q
     exact⟨v,h1,Den.mono (xU S) h2⟩
    |ow c=>
     cases e
     obtain⟨v,h1,a,o,rfl,h4,h5,h6⟩:=S.den j _ q
     refine⟨_,h1,DenC.den (ob:=(h.get? a).getD {cls:= .none,data:= .fields #[]}) h6 (xU S) ?_⟩
     have hp:OwnAt σ Z a:=⟨j,c,q,h1⟩
     unfold fA refA
     rw[if_pos hp,if_pos hp,h4]
     rfl
open Classical in
def ur(S:StE K F H σ Z)(E:Ext (fA σ Z (refA h (OwnAt σ Z) H) F) (refA h (OwnAt σ Z) H) F' H'):
 Ext F H (fun b=>if OwnAt σ Z b then none else F' b) (unA (OwnAt σ Z) H')/\∀b,OwnAt σ Z b->∀o u,H' b=some (.frz o u)->(∃k,u= .dT k)\/∃k,u= .dK k:=by
 have LK:∀b,OwnAt σ Z b->∃o,H b=some o/\H' b=some (mU ((h.get? b).getD {cls:= .none,data:= .fields #[]}) o)/\((∃x,o= .lst x)\/(∃x,o= .dT x)\/∃x,o= .dK x):=fun b hp=>by
  obtain⟨_,o,h1,h2⟩:=OwnAt.obj S hp
  refine⟨o,h1,E.hh b _ ?_,h2⟩
  unfold refA
  rw[if_pos hp,h1]
  rfl
 refine⟨⟨fun b o e=>?_,fun b u e=>?_,fun b u e=>?_,fun b hb=>?_⟩,fun b hp o u e=>?_⟩
 ·unfold unA
  by_cases hp:OwnAt σ Z b
  ·obtain⟨o',h1,h2,h3⟩:=LK b hp
   rw[e] at h1
   cases h1
   rw[if_pos hp,h2]
   rcases h3 with⟨x,rfl⟩ | ⟨x,rfl⟩ | ⟨x,rfl⟩<;>rfl
  ·rw[if_neg hp]
   refine E.hh b o ?_
   unfold refA
   rw[if_neg hp]
   exact e
 ·have hp:¬OwnAt σ Z b:=fun p=>by rw[(OwnAt.obj S p).1] at e;cases e
  show (if OwnAt σ Z b then none else F' b)=_
  rw[if_neg hp]
  refine E.ff b u ?_
  unfold fA
  rw[if_neg hp]
  exact e
 ·have e:(if OwnAt σ Z b then none else F' b)=some u:=e
  split at e
  ·cases e
  ·rename_i hp
   unfold unA
   rw[if_neg hp]
   exact E.fh b u e
 ·show (if OwnAt σ Z b then none else F' b)=F b\/_
  by_cases hp:OwnAt σ Z b
  ·rw[if_pos hp]
   exact .inl (OwnAt.obj S hp).1.symm
  ·rw[if_neg hp]
   have e1:refA h (OwnAt σ Z) H b=H b:=by unfold refA;rw[if_neg hp]
   have e2:fA σ Z (refA h (OwnAt σ Z) H) F b=F b:=by unfold fA;rw[if_neg hp]
   rcases E.new b (by rw[e1];exact hb) with q | q
   ·exact .inl (q.trans e2)
   ·rw[e1] at q;exact .inr q
 ·obtain⟨o',h1,h2,h3⟩:=LK b hp
  rw[e] at h2
  rcases h3 with⟨x,rfl⟩ | ⟨x,rfl⟩ | ⟨x,rfl⟩
  ·cases h2
  ·cases h2;exact .inl ⟨_,rfl⟩
  ·cases h2;exact .inr ⟨_,rfl⟩
open Classical in
mutual
def uk(S:StE K F H σ Z)(E:Ext (fA σ Z (refA h (OwnAt σ Z) H) F) (refA h (OwnAt σ Z) H) F' H'):∀{d:D}{v:V},ui d=true->Den K F' d v->Den K (fun b=>if OwnAt σ Z b then none else F' b) d v
 | .non,_,_,q=>q
 | .bl _,_,_,q=>q
 | .int _,_,_,q=>q
 | .str _,_,_,q=>q
 | .tup ds,_,f,⟨a,vs,h1,h2,h3,h4⟩=>by
   refine⟨a,vs,h1,?_,qz S E ?_ h3,h4⟩
   ·show (if OwnAt σ Z a then none else F' a)=_
    rw[if_neg,h2]
    intro hp
    obtain⟨_,o,k1,k2⟩:=OwnAt.obj S hp
    have k3:fA σ Z (refA h (OwnAt σ Z) H) F a=some (mU ((h.get? a).getD {cls:= .none,data:= .fields #[]}) o):=by
     unfold fA refA
     rw[if_pos hp,if_pos hp,k1]
     rfl
    have k4:=E.ff a _ k3
    rw[h2] at k4
    rcases k2 with⟨x,rfl⟩ | ⟨x,rfl⟩ | ⟨x,rfl⟩<;>cases k4
   ·exact f
 | .raw _,_,f,_=>by cases f
 | .exc _,_,f,_=>by cases f
 | .scr _,_,f,_=>by cases f
 | .lst _,_,f,_=>by cases f
 | .dct _ _,_,f,_=>by cases f
 | .dci _ _,_,f,_=>by cases f
def qz(S:StE K F H σ Z)(E:Ext (fA σ Z (refA h (OwnAt σ Z) H) F) (refA h (OwnAt σ Z) H) F' H'):∀{ds:List D}{vs:List V},xV ds=true->DenL K F' ds vs->DenL K (fun b=>if OwnAt σ Z b then none else F' b) ds vs
 |[],_,_,q=>q
 |d::ds,_,f,⟨v,r,h1,h2,h3⟩=>by
  unfold xV at f
  rw[PK] at f
  exact⟨v,r,h1,uk S E f.1 h2,qz S E f.2 h3⟩
end
end
def nq{α:Type}{m:M α}{a:α}(h:noex m=ab a):m=ab a:=by
 match m,h with
 |some (.ok b),h=>exact h
section
variable{X:Cx}{Xw:Nat->Hp->Prop}{e:Expr}{δ:DE}{τ:DT}
def qX{pins:List (Addr×Obj)}{s:O0}{F H:Hp}{σ:St}{Z:aP}(I:Inv X pins σ H s)(S:StE X.K F H σ Z)(b:Addr)(p:OwnAt σ Z b)(o:Obj)(u:HO):X.H₀ b≠some (.frz o u):=fun z=>by
 obtain⟨_,o',k1,k2⟩:=OwnAt.obj S p
 have:=I.base.frzs b o u z
 rw[k1] at this
 rcases k2 with⟨x,rfl⟩ | ⟨x,rfl⟩ | ⟨x,rfl⟩<;>cases this
def h9{α:Type}(m:M α):noex m=af\/∃a,m=ab a/\noex m=ab a:=by
 rcases m.cs with h | ⟨n,h⟩ | ⟨a,h⟩
 ·subst h;exact .inl rfl
 ·subst h;exact .inl rfl
 ·subst h;exact .inr ⟨a,rfl,rfl⟩
def sU(h:lj X Xw e τ):lj X Xw e (fun Z=>noex (τ (xW Z))):=fun pins s σ H Q I ⟨F,Z,S,w⟩=>by
 classical
 rcases h9 (τ (xW Z)) with q | ⟨b,q,q2⟩
 ·have w:WPB Xw F H (noex (τ (xW Z))) Q:=w
  rw[q] at w
  exact w.elim
 ·have w:WPB Xw F H (noex (τ (xW Z))) Q:=w
  rw[q2] at w
  refine b7 (h pins s σ _ (fun b' H'=>Q b' (unA (OwnAt σ Z) H')/\∀c,OwnAt σ Z c->∀o u,H' c=some (.frz o u)->(∃k,u= .dT k)\/∃k,u= .dK k) (Inv.refA (P:=OwnAt σ Z) I) ⟨_,_,AA (h:=s.heap) S,?_⟩) fun b' s' ⟨H',I',q1,q3⟩=>⟨_,Inv.unA I' (qX I S) q3,q1⟩
  rw[q]
  intro H' F' E
  obtain⟨E1,q3⟩:=ur S E
  exact⟨w _ _ E1,q3⟩
def ET(h:PD X Xw e δ):PD X Xw e (fun Z=>noex (δ (xW Z))>>=nW):=fun pins s σ H Q I ⟨F,Z,S,w⟩=>by
 classical
 rcases h9 (δ (xW Z)) with q | ⟨d,q,q2⟩
 ·have w:WP X.K Xw F H (noex (δ (xW Z))>>=nW) Q:=w
  rw[q] at w
  exact w.elim
 ·have w:WP X.K Xw F H (noex (δ (xW Z))>>=nW) Q:=w
  rw[q2,au] at w
  unfold nW at w
  split at w
  ·rename_i hf
   refine b7 (h pins s σ _ (fun v H'=>Q v (unA (OwnAt σ Z) H')/\∀c,OwnAt σ Z c->∀o u,H' c=some (.frz o u)->(∃k,u= .dT k)\/∃k,u= .dK k) (Inv.refA (P:=OwnAt σ Z) I) ⟨_,_,AA (h:=s.heap) S,?_⟩) fun b' s' ⟨v,H',I',rv,q1,q3⟩=>⟨v,_,Inv.unA I' (qX I S) q3,rv,q1⟩
   rw[q]
   intro v H' F' E dn
   obtain⟨E1,q3⟩:=ur S E
   exact⟨w _ _ _ E1 (uk S E hf dn),q3⟩
  ·exact w.elim
end
abbrev DF:=aP->M C
def WPF(K:O2)(Xw:Nat->Hp->Prop)(F H:Hp)(m:M C)(Q:VK):Prop:=
 match m with
 |none=>False
 |some (.ok c)=>∀a o H' F',Ext F H F' H'->H' a=some o->F' a=none->H a=none->DenC K F' c o->Q (.ref a) H'
 |some (.ex n)=>∀F' H',Ext F H F' H'->Xw n H'
def Oy(K:O2)(Xw:Nat->Hp->Prop)(δ:DF):TE:=fun σ H Q=>∃F Z,StE K F H σ Z/\WPF K Xw F H (δ Z) Q
def E_(X:Cx)(Xw:Nat->Hp->Prop)(e:Expr)(δ:DF):Prop:=PE X e (Oy X.K Xw δ)
def ro(i:Nat)(δ:DF):DS:=fun Z=>δ Z>>=fun c=>ab (.nx (Z.set i (some (.ow c))))
def StOk.setFresh{K:O2}{F₀ H₀ F H F' H':Hp}{σ:St}{Z:aP}(s:StOk K F₀ H₀ F H σ Z){i:Nat}{a:Addr}{o:HO}{c₀:C}(E:Ext F H F' H')(ho:H' a=some o)(nF:F' a=none)(n:H a=none)(h:DenC K F' c₀ o):
 StOk K F₀ H₀ F' H' (σ.set i (some (.ref a))) (Z.set i (some (.ow c₀))):=by
 have hle:=s.len
 have get:∀(j:Nat) (sl:Sl),(Z.set i (some (.ow c₀)))[j]? =some (some sl)->(j=i/\i<Z.length/\sl= .ow c₀)\/(j≠i/\Z[j]? =some (some sl)):=fun j sl e=>by
  by_cases hj:j=i
  ·subst hj
   have hi:j<Z.length:=by
    have:=(OZ.mp e).1
    simpa using this
   rw[Pa hi] at e
   cases e
   exact .inl ⟨rfl,hi,rfl⟩
  ·rw[O1 (PX hj)] at e
   exact .inr ⟨hj,e⟩
 have old:∀(j:Nat) (c:C) (b:Addr),Z[j]? =some (some (.ow c))->σ[j]? =some (some (.ref b))->b≠a:=fun j c b e e' z=>by
  obtain⟨u,h1,b',o,h2,h3,_⟩:=s.st.den j _ e
  rw[h1] at e'
  cases e'
  cases h2
  rw[z,n] at h3
  cases h3
 refine⟨s.ext.trans E,⟨E.fh,fun j sl e=>?_⟩,by simp[hle],fun j c b e e'=>?_,fun j k c c' b e1 e2 e3 e4=>?_⟩
 ·rcases get j sl e with⟨rfl,hi,rfl⟩ | ⟨hj,e⟩
  ·exact⟨.ref a,by rw[Pa (by omega)],a,_,rfl,ho,nF,h⟩
  ·obtain⟨u,h1,h2⟩:=s.st.den j sl e
   exact⟨u,by rw[O1 (PX hj)];exact h1,h2.ext E⟩
 ·rcases get j _ e with⟨rfl,hi,_⟩ | ⟨hj,e⟩
  ·rw[Pa (by omega)] at e'
   cases e'
   exact Same.free s.ext.hh n
  ·rw[O1 (PX hj)] at e'
   exact s.own j c b e e'
 ·rcases get j _ e1 with⟨rfl,hi,_⟩ | ⟨hj,e1⟩
  ·rw[Pa (by omega)] at e3
   cases e3
   rcases get k _ e2 with⟨rfl,_,_⟩ | ⟨hk,e2⟩
   ·rfl
   ·rw[O1 (PX hk)] at e4
    exact absurd rfl (old k c' a e2 e4)
  ·rcases get k _ e2 with⟨KJ,hi,_⟩ | ⟨hk,e2⟩
   ·rw[KJ,Pa (by omega)] at e4
    cases e4
    rw[O1 (PX hj)] at e3
    exact absurd rfl (old j c a (by assumption) e3)
   ·rw[O1 (PX hj)] at e3
    rw[O1 (PX hk)] at e4
    exact s.sep j k c c' b e1 e2 e3 e4
def WPF.mono{K:O2}{Xw:Nat->Hp->Prop}{F H:Hp}{m:M C}{Q Q':VK}(h:WPF K Xw F H m Q)(k:∀v H',Q v H'->Q' v H'):WPF K Xw F H m Q':=by
 match m,h with
 |none,h=>exact h
 |some (.ok d),h=>exact fun a o H' F' e h1 h2 h3 h4=>k _ _ (h a o H' F' e h1 h2 h3 h4)
 |some (.ex n),h=>exact h
def WPF.ext{K:O2}{Xw:Nat->Hp->Prop}{F H F1 H1:Hp}{m:M C}{Q:VK}(e:Ext F H F1 H1)(h:WPF K Xw F H m Q):WPF K Xw F1 H1 m Q:=by
 match m,h with
 |none,h=>exact h
 |some (.ok d),h=>exact fun a o H' F' e' h1 h2 h3 h4=>h a o H' F' (e.trans e') h1 h2 (Same.free e.hh h3) h4
 |some (.ex n),h=>exact fun F2 H2 e2=>h F2 H2 (e.trans e2)
def WPF.bind{K:O2}{Xw:Nat->Hp->Prop}{F H:Hp}{m:M D}{k:D->M C}{Q:VK}(h:WPF K Xw F H (m>>=k) Q):WP K Xw F H m fun v H1=>∃F1 d,Ext F H F1 H1/\Den K F1 d v/\WPF K Xw F1 H1 (k d) Q:=by
 match m,h with
 |none,h=>exact h
 |some (.ok d),h=>exact fun v H2 F2 e2 q=>⟨F2,d,e2,q,WPF.ext e2 (show WPF K Xw F H (k d) Q from h)⟩
 |some (.ex n),h=>exact h
def WPF.bindL{K:O2}{Xw:Nat->Hp->Prop}{F H:Hp}{m:M (List D)}{k:List D->M C}{Q:VK}(h:WPF K Xw F H (m>>=k) Q):WPL K Xw F H m fun v H1=>∃F1 d,Ext F H F1 H1/\DenL K F1 d v/\WPF K Xw F1 H1 (k d) Q:=by
 match m,h with
 |none,h=>exact h
 |some (.ok d),h=>exact fun v H2 F2 e2 q=>⟨F2,d,e2,q,WPF.ext e2 (show WPF K Xw F H (k d) Q from h)⟩
 |some (.ex n),h=>exact h
def Ft(a b:DF):DF:=fun Z=>orM (a Z) (b Z)
def J0(ds:List D):M C:=if ds.length<=lim then ab (.lst ds) else af
section
variable{X:Cx}{Xw:Nat->Hp->Prop}{e k v a b:Expr}{es:List Expr}{δ δ':DF}{δs:DA}{pos pos' p:Pos}{x:Str}{i:Nat}
def DJ(h:E_ X Xw e δ)(h':E_ X Xw e δ'):E_ X Xw e (Ft δ δ'):=fun pins s σ H Q I ⟨F,Z,S,w⟩=>by
 unfold Ft orM at w
 cases q:δ Z with
 |none=>rw[q] at w;exact h' pins s σ H Q I ⟨F,Z,S,w⟩
 |some r=>rw[q] at w;exact h pins s σ H Q I ⟨F,Z,S,by rw[q];exact w⟩
def pe(hN:X.N.Nodup)(hi:X.N[i]? =some x)(hx:Loc X.env.scope x)(he:E_ X Xw e δ)(hf:X.fn x=true\/X.env.scope.names.lookup x=some .local:=by first | exact .inl rfl | exact .inr rfl)
 (hs:SI [.Name x pos'] e pos.line X.env=pure false:=by rfl):
 ki X Xw (.Assign [.Name x pos'] e pos) (ro i δ):=fun F₀ H₀=>PS.weak (lN he (a5 hN hi hx hf) hs) fun D σ H ⟨F,Z,s,w⟩=>by
 refine⟨F,Z,s.st,?_⟩
 unfold ro at w
 match δ Z,w with
 |none,w=>exact w
 |some (.ok c),w=>exact fun a o H' F' E h1 h2 h3 h4=>w _ F' H' (s.setFresh E h1 h2 h3 h4)
 |some (.ex n),w=>exact fun F' H' e'=>w F' H' (s.ext.trans e')
def Ext.fresh{F H:Hp}{p:Addr}{o:HO}(s:Same F H)(hp:H p=none):Ext F H F (upd H p o)/\F p=none:=⟨Ext.free s hp,Same.free s hp⟩
def DK(h:pT X Xw es δs):E_ X Xw (.List es pos) (fun Z=>δs Z>>=J0):=PE.weak (w_ h) fun σ H Q ⟨F,Z,s,w⟩=>by
 refine⟨F,Z,s,WPL.mono (WPF.bindL w) fun vs H1 ⟨F1,ds,e1,q1,w1⟩=>?_⟩
 unfold J0 at w1
 split at w1
 ·rename_i hl
  have hv:=q1.len
  refine⟨by have:=dg;omega,fun p hp=>?_⟩
  obtain⟨E,nF⟩:=Ext.fresh (o:= .lst vs) e1.fh hp
  exact w1 p _ _ F1 E aD nF hp ⟨vs,rfl,q1,hl⟩
 ·exact w1.elim
def HI{pins:List (Addr×Obj)}{σ:St}{H H':Hp}{s:O0}{a:Addr}{y v:V}{u r:Value}{A:P_}{E:Value->O0->Prop}{Q:Unit->O0->Prop}(hu:A.units+1<cLine)(I:Inv X pins σ H s)(g:DPut H a y v H')(ry:RelV y u)(rv:RelV v r)(h:∀s',Inv X pins σ H' s'->Q () s'):
 wpAny (model X.prog X.w) A (dictSet a u r) Q E s:=by
 rcases g with⟨ax,k,e,ey,l,eH⟩ | ⟨ax,k,b,e,ey,eb,l,eH⟩
 ·subst ey eH
  obtain⟨z,hd,vs,rel,dd⟩:=Ar I.hok e
  have hz:vs.length<=Pe:=by rw[<-rel.length];exact z
  have hl:(putK ax k v).length<=Pe:=by have:=dm ax k v;omega
  refine wpAny_dictSet_pairs (hsz:=hz) (md ry) dd fun h' xP hs=>h _ ?_
  have he:∃q,h'.get? a=some q:=let ⟨q,_,_,hq,_⟩:=xP;⟨q,hq⟩
  exact jq I (by rw[e];exact Qu) hs he (wa hl hd (rel.put k rv) xP)
 ·subst ey eH
  cases (show u=PQ b from ry)
  obtain⟨z,hd,xs,rel,dd⟩:=Au I.hok e
  have hz:xs.length<=Pe:=by rw[<-Qx rel];exact z
  have hl:(putK ax k v).length<=Pe:=by have:=dm ax k v;omega
  refine wpAny_dictSet_heap (knd:=QE (a9 X.prog X.w)) (hsz:=hz) (by exact(show A.units<cLine by omega)) (jY I.hok eb) dd fun h' xP hs=>h _ ?_
  obtain⟨q,es,ep,hq,h2,h3,h4,_,h5⟩:=xP
  refine jq I (by rw[e];exact Qu) hs ⟨q,hq⟩ ⟨hl,hd,_,(rel.put k eb rv).keeps fun c ys ec=>?_,q,es,ep,hq,h2,h3,h4,h5⟩
  rw[aw (A8 ec e (fun z=>nomatch z))]
  exact ec
end
section
variable{X:Cx}{Xw:Nat->Hp->Prop}{e k v a b:Expr}{es:List Expr}{δk δv δa δb:DE}{pos p:Pos}{x:Str}{i:Nat}
def ue{o0:HO}{put:Hp->Addr->V->V->Hp->Prop}(hu:X.A.units+1<cLine)(h0:∀(H:Hp) (h:Heap),Qk<h.objs.size->ObjOk X.prog X.w H (h.push {cls:= .type "dict",data:= .dict #[]}) h.objs.size o0){tk tv:TE}(hk:PE X k tk)(hv:PE X v tv):
 PE X (.Dict [some k] [v] pos) (fun σ H Q=>∀p,H p=none->tk σ (upd H p o0) fun y H1=>tv σ H1 fun z H2=>∃H3,DPut H2 p y z H3/\Q (.ref p) H3):=by
 intro pins s σ H Q I q
 have hn:=I.hok.fresh (O9 s.heap.objs.size)
 have I1:=I.laid (a:=s.heap.objs.size) (o:=o0) (h':=s.heap.push {cls:= .type "dict",data:= .dict #[]}) (t':=s.toks) (fun _ _ q=>O4 _ q) (O9 _) (h0 _ s.heap I.big)
 refine wpAny_Dict_any rfl rfl (by simp) (by simp) (b7 (BE hk hv DX pins _ σ _ (fun ps H2=>∃y z H3,ps=[(y,z)]/\DPut H2 s.heap.objs.size y z H3/\Q (.ref s.heap.objs.size) H3) I1 ?_) fun ws s2 ⟨ps,H2,I2,rel,y,z,H3,ep,g,q2⟩=>?_)
 ·refine ?_
  have:=q _ hn
  show tk σ _ fun y H1=>tv σ H1 fun z H2=>∃y' z' H3,[(y,z)]=[(y',z')]/\DPut H2 s.heap.objs.size y' z' H3/\Q (.ref s.heap.objs.size) H3
  have e:(fun (y:V) (H1:Hp)=>tv σ H1 fun z H2=>∃y' z' H3,[(y,z)]=[(y',z')]/\DPut H2 s.heap.objs.size y' z' H3/\Q (.ref s.heap.objs.size) H3)=(fun y H1=>tv σ H1 fun z H2=>∃H3,DPut H2 s.heap.objs.size y z H3/\Q (.ref s.heap.objs.size) H3):=by
   funext y H1
   congr 1
   funext z H2
   refine propext ⟨fun ⟨y',z',H3,ee,r⟩=>?_,fun⟨H3,r⟩=>⟨y,z,H3,rfl,r⟩⟩
   cases ee
   exact⟨H3,r⟩
  rw[e]
  exact this
 ·subst ep
  cases rel with
  | @cons a b as bs h t=>
    cases t
    obtain⟨r1,r2⟩:=h
    unfold storeAll
    rw[SW]
    refine OX (OX (HI hu I2 g r1 r2 fun s3 I3=>?_))
    refine Pb ?_
    show wpAny _ _ (forIn ([]:List (Value×Value)) Q7 _) _ _ _
    rw[List.forIn_nil]
    exact Pb ⟨V.ref s.heap.objs.size,_,I3,rfl,q2⟩
def km(k v:D):M C:=match jX k with
 |some kk=>ab (.dct [kk] [v])
 |none=>af
def l6(k v:D):M C:=match oB k with
 |some kk=>ab (.dci [kk] [v])
 |none=>af
def q_(hu:X.A.units+64<cLine)(hk:PD X Xw k δk)(hv:PD X Xw v δv):E_ X Xw (.Dict [some k] [v] pos) (fun Z=>δk Z>>=fun x=>δv Z>>=fun y=>km x y):=
 PE.weak (ue (o0:= .dT []) (put:=DPut) (by omega) (fun H h hb=>ug h hb) hk hv) fun σ H Q ⟨F,Z,s,w⟩ q hq=>by
  have e0:=Ext.free (o:= .dT []) s.fh hq
  refine⟨F,Z,s.ext e0,?_⟩
  have w:WPF X.K Xw F H (δk Z>>=fun x=>δv Z>>=fun y=>km x y) Q:=w
  match Ii:δk Z,w with
  |none,w=>exact w
  |some (.ex n),w=>exact fun F' H' e'=>w F' H' (e0.trans e')
  |some (.ok kd),w=>
   intro y H1 F1 e1 q1
   refine⟨F1,Z,(s.ext e0).ext e1,?_⟩
   have w:WPF X.K Xw F H (δv Z>>=fun y=>km kd y) Q:=w
   match JX:δv Z,w with
   |none,w=>exact w
   |some (.ex n),w=>exact fun F' H' e'=>w F' H' (e0.trans (e1.trans e'))
   |some (.ok vd),w=>
    intro z H2 F2 e2 q2
    have w3:WPF X.K Xw F H (km kd vd) Q:=w
    clear w
    unfold km at w3
    cases z0:jX kd with
    |none=>rw[z0] at w3;exact w3.elim
    |some kk=>
     rw[z0] at w3
     have E:=e1.trans e2
     have Iv:H2 q=some (.dT []):=E.hh _ _ aD
     have HV:F2 q=none:=by
      have:=E.old (a:=q) (o:= .dT []) aD (fun _ z=>nomatch z)
      rw[this]
      exact Same.free s.fh hq
     unfold jX at z0
     split at z0
     ·rename_i es
      obtain⟨b,ws,rfl,k2,k3,_⟩:=Den.mono e2.ff q1
      have e5:=kD z0 k3
      subst e5
      refine⟨_,DPut.t (k:=kk) Iv (e2.fh _ _ k2) (by rw[Q0];decide),?_⟩
      refine w3 q (.dT (putK [] kk z)) _ F2 ⟨fun c u hc=>?_,(e0.trans E).ff,fun c u hc=>?_,(e0.trans E).new⟩ aD HV hq ⟨[z],rfl, .cons q2 .nil,rfl,show 1<=lim by decide⟩
      ·rw[aw (fun zz=>by rw[zz,hq] at hc;cases hc)]
       exact(e0.trans E).hh c u hc
      ·rw[aw (fun zz=>by rw[zz,HV] at hc;cases hc)]
       exact e2.fh c u hc
     ·cases z0
def zA(hu:X.A.units+64<cLine)(hk:PD X Xw k δk)(hv:PD X Xw v δv):E_ X Xw (.Dict [some k] [v] pos) (fun Z=>δk Z>>=fun x=>δv Z>>=fun y=>l6 x y):=
 PE.weak (ue (o0:= .dK []) (put:=DPut) (by omega) (fun H h hb=>uf h hb) hk hv) fun σ H Q ⟨F,Z,s,w⟩ q hq=>by
  have e0:=Ext.free (o:= .dK []) s.fh hq
  refine⟨F,Z,s.ext e0,?_⟩
  have w:WPF X.K Xw F H (δk Z>>=fun x=>δv Z>>=fun y=>l6 x y) Q:=w
  match Ii:δk Z,w with
  |none,w=>exact w
  |some (.ex n),w=>exact fun F' H' e'=>w F' H' (e0.trans e')
  |some (.ok kd),w=>
   intro y H1 F1 e1 q1
   refine⟨F1,Z,(s.ext e0).ext e1,?_⟩
   have w:WPF X.K Xw F H (δv Z>>=fun y=>l6 kd y) Q:=w
   match JX:δv Z,w with
   |none,w=>exact w
   |some (.ex n),w=>exact fun F' H' e'=>w F' H' (e0.trans (e1.trans e'))
   |some (.ok vd),w=>
    intro z H2 F2 e2 q2
    have w3:WPF X.K Xw F H (l6 kd vd) Q:=w
    clear w
    unfold l6 at w3
    cases z0:oB kd with
    |none=>rw[z0] at w3;exact w3.elim
    |some kk=>
     rw[z0] at w3
     have E:=e1.trans e2
     have Iv:H2 q=some (.dK []):=E.hh _ _ aD
     have HV:F2 q=none:=by
      have:=E.old (a:=q) (o:= .dK []) aD (fun _ z=>nomatch z)
      rw[this]
      exact Same.free s.fh hq
     have e5:=gD z0 (Den.mono e2.ff q1)
     subst e5
     refine⟨_,DPut.k (k:=kk) Iv (by rw[Q0];decide),?_⟩
     refine w3 q (.dK (putK [] kk z)) _ F2 ⟨fun c u hc=>?_,(e0.trans E).ff,fun c u hc=>?_,(e0.trans E).new⟩ aD HV hq ⟨[z],rfl, .cons q2 .nil,rfl,show 1<=lim by decide⟩
     ·rw[aw (fun zz=>by rw[zz,hq] at hc;cases hc)]
      exact(e0.trans E).hh c u hc
     ·rw[aw (fun zz=>by rw[zz,HV] at hc;cases hc)]
      exact e2.fh c u hc
def rN{K:O2}{F H:Hp}{d k:D}{x y:V}{o:Option D}(s:Same F H)(hd:Den K F d x)(hk:Den K F k y)(e:yO d k=some o):
 ∃a ov,x= .ref a/\lg H a y ov/\ov.isSome=o.isSome/\∀d',o=some d'->∃v,ov=some v/\Den K F d' v:=by
 obtain⟨a,ov,h1,h2,h3,h4⟩:=xI (σ:=[some x]) (Z:=[some (.fz d)]) (i:=0) (H:=H) ⟨s,fun i sl q=>by
  match i,q with
  |0,q=>cases q;exact⟨x,rfl,hd⟩
  |i+1,q=>simp at q⟩ rfl hk e
 cases h1
 exact⟨a,ov,rfl,h2,h3,h4⟩
def eO(neg:Bool)(k d:D):M D:=match yO d k with
 |some o=>ab (.bl (if neg then !o.isSome else o.isSome))
 |none=>af
def G3(neg:Bool):R2:=fun y x H Q=>∃a o,x= .ref a/\lg H a y o/\Q (.bl (if neg then !o.isSome else o.isSome)) H
def Bq(hu:X.A.units+64<cLine):OpR X (P6 .In) (G3 false):=fun pins s σ H y x v u Q I ry rx ⟨a,o,ex,g,q⟩=>by
 subst ex
 obtain rfl:u=PQ a:=rx
 exact HG (by omega) I g ry fun s' I'=>⟨.bl o.isSome,_,I',rfl,q⟩
def zw(hu:X.A.units+64<cLine):OpR X (P6 .NotIn) (G3 true):=fun pins s σ H y x v u Q I ry rx ⟨a,o,ex,g,q⟩=>by
 subst ex
 obtain rfl:u=PQ a:=rx
 exact CC (by omega) I g ry fun s' I'=>⟨.bl (!o.isSome),_,I',rfl,q⟩
def sJ{K:O2}{neg:Bool}:tU K (G3 neg) (eO neg):=fun Xw F H y x dk dd Q s hk hd w=>by
 unfold eO at w
 cases he:yO dd dk with
 |none=>rw[he] at w;exact w.elim
 |some o=>
  rw[he] at w
  obtain⟨a,ov,h1,h2,h3,_⟩:=rN s hd hk he
  refine⟨a,ov,h1,h2,?_⟩
  rw[h3]
  exact WP.now w s rfl
def GX(hu:X.A.units+64<cLine)(ha:PD X Xw a δa)(hb:PD X Xw b δb)(hm:P8 .In b=false:=by rfl):lj X Xw (.Compare a [.In] [b] pos) (bH (d2 (eO false) δa δb)):=eo (Bq hu) sJ ha hb hm
def GC(hu:X.A.units+64<cLine)(ha:PD X Xw a δa)(hb:PD X Xw b δb)(hm:P8 .In b=false:=by rfl):PD X Xw (.Compare a [.In] [b] pos) (d2 (eO false) δa δb):=wZ (Bq hu) sJ ha hb hm
def gP(hu:X.A.units+64<cLine)(ha:PD X Xw a δa)(hb:PD X Xw b δb)(hm:P8 .NotIn b=false:=by rfl):lj X Xw (.Compare a [.NotIn] [b] pos) (bH (d2 (eO true) δa δb)):=eo (zw hu) sJ ha hb hm
def cB(d k:D):M D:=match yO d k with
 |some (some v)=>ab v
 |_=>af
def d9(hu:X.A.units+64<cLine)(ha:PD X Xw a δa)(hb:PD X Xw b δb)(hs:E8 b:=by intro _ _;rfl):PD X Xw (.Subscript a b pos) (d2 cB δa δb):=
 PE.weak (DP (by omega) ha hb hs) fun σ H Q ⟨F,Z,s,w⟩=>by
  refine⟨F,Z,s,WP.mono (WP.bind w) fun x H1 ⟨F1,d,e1,q1,w1⟩=>?_⟩
  refine⟨F1,Z,s.ext e1,WP.mono (WP.bind w1) fun y H2 ⟨F2,k,e2,q2,w2⟩=>?_⟩
  unfold cB at w2
  cases he:yO d k with
  |none=>rw[he] at w2;exact w2.elim
  |some o=>
   cases o with
   |none=>rw[he] at w2;exact w2.elim
   |some d'=>
    rw[he] at w2
    obtain⟨a,ov,h1,h2,h3,h4⟩:=rN e2.fh (Den.mono e2.ff q1) q2 he
    obtain⟨v,rfl,hd⟩:=h4 d' rfl
    exact⟨a,v,h1,h2,WP.now w2 e2.fh hd⟩
end
section
variable{X:Cx}{pins:List (Addr×Obj)}{σ:St}{H:Hp}{s:O0}{h':Heap}
def Inv.turnedLaid{t':Nat}{ch:List Addr}{a:Addr}{o:HO}(I:Inv X pins σ H s)(k:∀b q,b∉ch->s.heap.get? b=some q->h'.get? b=some q)(hf:∀b∈ch,pU X pins H b)(hp:s.heap.objs.size<=a)(new:ObjOk X.prog X.w (upd H a o) h' a o):
 Inv X pins σ (upd H a o) {s with heap:=h',toks:=t'}:=by
 have hn:=I.hok.fresh hp
 have EL:∀b u,H b=some u->b∉ch:=fun b u e z=>by rw[(hf b z).1] at e;cases e
 refine I.step (g':=s.gens) (d':=s.drawn) (ch:=ch) (fun b hb=>?_) (fun b q _ _ hc e _=>k b q hc e) (fun b q _ _ hc e _=>⟨q.slots,k b q hc e⟩) (fun b q hc e n=>?_)
  (fun b q hc e=>⟨q,k b q hc e⟩) (fun b xs e=>?_) (fun b q u e=>?_) (fun b ps e=>⟨#[],?_⟩) (fun m hm=>?_) (fun b u e=>?_) I.bare
 ·obtain⟨f0,f1,f2,f3,f4,f5⟩:=hf b hb
  exact⟨f3,f1,f4,f5⟩
 ·rw[aw (fun z=>by rw[z] at e;exact absurd (Pc e) (Nat.not_lt.mpr hp))];exact n
 ·rw[aw (ba e hn)];exact e
 ·rw[aw (ba e hn)];exact e
 ·rw[aw (ba e hn),e];simp
 ·obtain⟨q,es,ep,ho,r⟩:=hm
  exact⟨q,es,ep,k _ q (fun z=>(hf _ z).2.1 rfl) ho,r⟩
 ·by_cases hb:b=a
  ·subst hb;rw[aD] at e;cases e;exact new
  ·rw[aw hb] at e
   refine(I.hok b u e).stay (fun c v hc q=>k c v ?_ q) (fun c q=>by rw[aw (ba q hn)];exact q) fun c xs q=>by rw[aw (ba q hn)];exact q
   rcases hc with z | z
   ·rw[z];exact EL b u e
   ·exact EL c _ z
def Inv.turnedL{t':Nat}{ch:List Addr}(I:Inv X pins σ H s)(k:∀b q,b∉ch->s.heap.get? b=some q->h'.get? b=some q)(hf:∀b∈ch,pU X pins H b):Inv X pins σ H {s with heap:=h',toks:=t'}:=by
 have EL:∀b u,H b=some u->b∉ch:=fun b u e z=>by rw[(hf b z).1] at e;cases e
 refine I.step (g':=s.gens) (d':=s.drawn) (ch:=ch) (fun b hb=>?_) (fun b q _ _ hc e _=>k b q hc e) (fun b q _ _ hc e _=>⟨q.slots,k b q hc e⟩) (fun b q hc e n=>n)
  (fun b q hc e=>⟨q,k b q hc e⟩) (fun b xs e=>e) (fun b q u e=>e) (fun b ps e=>⟨#[],by rw[e];simp⟩) (fun m hm=>?_) (fun b u e=>?_) I.bare
 ·obtain⟨f0,f1,f2,f3,f4,f5⟩:=hf b hb
  exact⟨f3,f1,f4,f5⟩
 ·obtain⟨q,es,ep,ho,r⟩:=hm
  exact⟨q,es,ep,k _ q (fun z=>(hf _ z).2.1 rfl) ho,r⟩
 ·refine(I.hok b u e).stay (fun c v hc q=>k c v ?_ q) (fun c q=>q) fun c xs q=>q
  rcases hc with z | z
  ·rw[z];exact EL b u e
  ·exact EL c _ z
end
def LG(K:O2)(a:Addr):It:=
 ⟨fun i H=>∃xs x,SqL K H a xs/\xs[i]? =some x,fun i H x H'=>∃p,x= .ref p/\H p=none/\∃v,(∀xs,SqL K H a xs->xs[i]? =some v)/\H'=upd H p (.tup [.int (i:Int),v]),fun i H=>∃xs,SqL K H a xs/\xs.length<=i⟩
def zQ{P:Pw}{w:World}{K:O2}{es:List Expr}{x1}{tp:Pos}(l e it:Addr)(Ma:e≠it):
 Turn P w K (.Tuple es x1 tp) (LG K l) [e,it] e (fun i h=>∃old,IsEnum h e it (i:Int) old/\h.IsListIter it l i) where
 mem:=by simp
 obj:=fun i h ⟨old,B9,xn⟩ b hb=>by
  rcases O6.mp hb with z | z
  ·subst z;exact⟨_,B9,fun v z=>nomatch z⟩
  ·have z:b=it:=by simpa using z
   subst z
   obtain⟨o,e1,c,d⟩:=xn
   exact⟨o,e1,fun v z=>by rw[d] at z;cases z⟩
 keep:=fun i h h' ⟨old,B9,xn⟩ k=>⟨old,k e (by simp) _ B9,xn.at fun o q=>k it (by simp) o q⟩
 item:=by
  intro X hP hw hK hc i pins s σ H E I hf st hg
  subst hP hw hK
  obtain⟨old,B9,xn⟩:=st
  obtain⟨xs,x,hq,hx⟩:=hg
  obtain⟨aK,rv,p,hz⟩:=I.list hq
  obtain⟨u,hu,ru⟩:=rv.get hx
  refine wpAny_pyNext_enum_item B9 xn p.isList (x:=u) (by simpa using hu) Ma fun h1 k1 k2 k3 k4 k5=>?_
  refine⟨_,rfl,wpAny_letOwnedTupleGo_enum k1 fun h2 m1 m2=>?_⟩
  have gX:s.heap.objs.size≠e:=R9 (Pc B9)
  have LB:h2.get? s.heap.objs.size=some {cls:= .type "tuple",data:= .seq #[.int i s.toks,u]}:=(m2.2 _ gX).trans k3
  have keep:∀b q,b∉[e,it]->s.heap.get? b=some q->h2.get? b=some q:=fun b q hb e1=>by
   have L5:b≠e:=fun z=>hb (by simp[z])
   have Kq:b≠it:=fun z=>hb (by simp[z])
   exact(m2.2 b L5).trans (k5 b q L5 Kq e1)
  have I2:Inv X pins σ (upd H s.heap.objs.size (.tup [.int (i:Int),x])) {s with heap:=h2,toks:=s.toks+1}:=by
   refine Inv.turnedLaid (s:=s) I keep hf (O9 _) ⟨?_,[.int i s.toks,u], .cons ⟨_,rfl⟩ (.cons ru .nil),_,LB,rfl,_,rfl⟩
   rw[Q0];show 2<=_;decide
  refine⟨.ref s.heap.objs.size,_,I2,rfl,⟨_,rfl,I.hok.fresh (O9 _),x,fun ys hy=>by rw[I.list_inj hy hq];exact hx,rfl⟩,⟨u,?_,?_⟩,fun b hb=>?_⟩
  ·have:((i+1:Nat):Int)=(i:Int)+1:=by push_cast;rfl
   rw[this];exact m1
  ·exact k2.at fun o q=>(m2.2 it (PX Ma)).trans q
  ·rw[aw (fun z=>by
    rcases O6.mp hb with y | y
    ·exact absurd (Pc B9) (by rw[<-y,z];exact Qb _)
    ·have y:b=it:=by simpa using y
     obtain⟨o,q1,_⟩:=id xn
     exact absurd (Pc q1) (by rw[<-y,z];exact Qb _))]
   exact(hf b hb).1
 done:=by
  intro X hP hw hK hc i pins s σ H E I hf st hg
  subst hP hw hK
  obtain⟨old,B9,xn⟩:=st
  obtain⟨xs,hq,hx⟩:=hg
  obtain⟨aK,rv,p,hz⟩:=I.list hq
  have hl:=rv.length
  exact wpAny_pyNext_enum_end (I.ok.hd hc) B9 xn p.isList (by simp;omega) fun h' eb=>⟨rfl,Inv.turnedL (t':=s.toks) (ch:=[it]) I (fun b q hb e1=>eb b q (fun z=>hb (by simp[z])) e1) fun b hb=>hf b (OU _ hb)⟩
 self:=fun A i s Q E st h=>by
  obtain⟨old,B9,xn⟩:=st
  exact wpAny_pyIter_enum B9 h
def AW{K:O2}{F:Hp}{a:Addr}{vs:List V}{ds:List D}(h:SqL K F a vs)(hd:DenL K F ds vs):ItD K F (LG K a) (ds.mapIdx fun i d=> .tup [.int (i:Int),d]):=fun F' H' i s1 s2=>by
 have hs:=Same.seq s2 (Same.seq s1 h)
 refine⟨fun d e=>?_,fun hl=>⟨vs,hs,by rw[List.length_mapIdx,hd.len] at hl;exact hl⟩⟩
 rw[TK] at e
 cases q:ds[i]? with
 |none=>rw[q] at e;cases e
 |some d0=>
  rw[q] at e
  cases e
  obtain⟨v,e1,q1⟩:=hd.get q
  refine⟨⟨vs,v,hs,e1⟩,fun x H'' ⟨p,y1,y2,u,y3,y4⟩=>?_⟩
  subst y1 y4
  have:=y3 vs hs
  rw[e1] at this
  cases this
  have E:=Ext.lay (o:= .tup [.int (i:Int),v]) s2 y2
  exact⟨_,E,p,_,rfl,aD, .cons rfl (.cons (Den.mono E.ff (Den.mono s1 q1)) .nil),by show 2<=lim;decide⟩
section
variable{X:Cx}{Xw:Nat->Hp->Prop}{e:Expr}{es:List Expr}{δs:DA}{pos p tp:Pos}{x1:Nat}
def xR:List D->M (List D)
 |[.lst ds]=>ab (ds.mapIdx fun i d=> .tup [.int (i:Int),d])
 |_=>af
def Bx(hg:Gl X "enumerate")(hm:X.mg "enumerate"=none)(ha:pT X Xw [e] δs)(hs:Ph [e] X.env=[(false,eval e X.env)]:=by rfl):vN X Xw (.Tuple es x1 tp) (.Call (.Name "enumerate" p) [e] [] pos) (fun Z=>δs Z>>=xR):=by
 intro pins s σ H R I ⟨F,Z,S,w⟩
 refine Call_ (oC I hg hm (show Qi "enumerate"=some (.type "enumerate") from rfl) (Q8 (b7 (ha pos pins s σ H (fun vs H1=>∃F1 ds,Ext F H F1 H1/\DenL X.K F1 ds vs/\WPI X.K Xw F1 H1 (xR ds) R) I ⟨F,Z,S,WPI.bindL w⟩) fun us s1 ⟨vs,H1,I1,r1,F1,ds,e1,q1,w1⟩=>?_) hs rfl))
 unfold xR at w1
 split at w1
 ·rename_i ds
  obtain⟨v,rfl,h1⟩:=q1.one
  obtain⟨a,xs,rfl,h2,h3,h4⟩:=h1
  obtain⟨u,rfl,r2⟩:=r1.one
  cases (show u=_ from r2)
  obtain⟨aK,rv,pl,hz⟩:=I1.list (SqL.of (K:=X.K) (e1.fh _ _ h2))
  refine call_enumerate_list pl.isList fun h' k1 k2 k3 k4=>?_
  refine wpAny_pyIter_enum k1 ?_
  refine⟨s1.heap.objs.size+1,[s1.heap.objs.size+1,s1.heap.objs.size],_,_,H1,rfl,I1.kept (t':=s1.toks) fun b o e=>k4 b o e,zQ a _ _ (R9 (SQ _)),⟨.none,k1,k2⟩,fun b hb=>?_,w1 _ _ _ (Ext.refl e1.fh) (AW (SqL.of h2) h3)⟩
  have e:s1.heap.objs.size<=b:=by
   rcases O6.mp hb with z | z
   ·rw[z];exact Nat.le_succ _
   ·have z:b=s1.heap.objs.size:=by simpa using z
    rw[z];exact O9 _
  exact I1.fpOk e (I1.hok.fresh e)
 ·exact w1.elim
end
def A0:Key->D
 | .inl i=> .int i
 | .inr x=> .str x
def Ei(H:Hp)(d:Addr)(od:Obj)(i:Nat)(x:V):Prop:=
 (∃ax k b,H d=some (.frz od (.dT ax))/\(ax.map (·.1))[i]? =some k/\x= .ref b/\H b=some (.tup (k.map kV)))\/
 ∃ax k,H d=some (.frz od (.dK ax))/\(ax.map (·.1))[i]? =some k/\x=kV k
def LF(d:Addr)(od:Obj):It:=
 ⟨fun i H=>(∃ax,H d=some (.frz od (.dT ax))/\i<ax.length)\/∃ax,H d=some (.frz od (.dK ax))/\i<ax.length,fun i H x H'=>H'=H/\Ei H d od i x,
  fun i H=>(∃ax,H d=some (.frz od (.dT ax))/\ax.length<=i)\/∃ax,H d=some (.frz od (.dK ax))/\ax.length<=i⟩
def mK{α β γ:Type}{R:α->β->Prop}{f:α->γ}{g:β->γ}(h:∀a b,R a b->f a=g b):∀{l:List α}{m:List β},SO R l m->l.map f=m.map g
 |_,_, .nil=>rfl
 |_,_, .cons r t=>by rw[O3,O3,h _ _ r,mK h t]
def j4{α β:Type}{R:α->β->Prop}:∀{l:List α}{m:List β}{i:Nat}{a:α},SO R l m->l[i]? =some a->∃b,m[i]? =some b/\R a b
 |_,_,i,_, .nil,e=>by simp at e
 |_,_,0,_, .cons r t,e=>by simp at e;subst e;exact⟨_,rfl,r⟩
 |_,_,i+1,_, .cons r t,e=>by
  obtain⟨b,e1,e2⟩:=j4 (i:=i) t (by simpa using e)
  exact⟨b,by simpa using e1,e2⟩
def zy{prog:Pw}{w:World}{κ:Type}[DecidableEq κ]{knd:KeyKind prog w κ}:∀{es:List QA}{ax:List (κ×Value)}{i:Nat}{kv:κ×Value},Pairs knd es ax->ax[i]? =some kv->∃e,es[i]? =some e/\knd.is kv.1 e.key=true:=by
 intro es ax i kv h e
 induction h generalizing i with
 |nil=>simp at e
 | @cons en OS Hm IS h1 h2 h3 ih=>
   cases i with
   |zero=>simp at e;subst e;exact⟨en,rfl,h1⟩
   |succ i=>
    obtain⟨q,e1,e2⟩:=ih (i:=i) (by simpa using e)
    exact⟨q,by simpa using e1,e2⟩
def F_{k:Key}{u:Value}(h:oA k u=true):RelV (kV k) u:=by
 rcases bM h with⟨i,t,rfl,rfl⟩ | ⟨x,t,rfl,rfl⟩
 ·exact⟨t,rfl⟩
 ·exact⟨t,rfl⟩
def nU{X:Cx}{pins:List (Addr×Obj)}{σ:St}{H:Hp}{s:O0}{d:Addr}{od:Obj}{n:Nat}(I:Inv X pins σ H s)
 (h:(∃ax,H d=some (.frz od (.dT ax))/\n=ax.length)\/∃ax,H d=some (.frz od (.dK ax))/\n=ax.length):
 ∃es ep,(d==Qk)=false/\s.heap.get? d=some od/\od.ExactDict/\od.data= .dict es ep/\es.size=n/\∀i,i<n->∃e x,es[i]? =some e/\RelV x e.key/\Ei H d od i x:=by
 rcases h with⟨ax,e,rfl⟩ | ⟨ax,e,rfl⟩
 ·obtain⟨ho,z,lo,xs,rel,o,es,ep,h1,h2,h3,h4,h5⟩:=(show ObjOk X.prog X.w H s.heap d (.frz od (.dT ax)) from I.hok d _ e)
  rw[ho] at h1
  cases h1
  have hl:es.size=ax.length:=by
   rw[<-Po,h4,OW]
   exact(Qx rel).symm
  refine⟨es,ep,lo,ho,h2,h3,hl,fun i hi=>?_⟩
  obtain⟨q,e1,e2,e3,e4⟩:=j4 rel (OY hi)
  refine⟨TQ (QE (a9 X.prog X.w)) q, .ref q.2.1,?_,rfl, .inl ⟨ax,ax[i].1,q.2.1,e,?_,rfl,e3⟩⟩
  ·rw[<-Rc,h4,O_,e1]
   rfl
  ·rw[O_,OY hi]
   rfl
 ·obtain⟨ho,z,lo,vs,rel,o,es,ep,h1,h2,h3,h4,h5,h6⟩:=(show ObjOk X.prog X.w H s.heap d (.frz od (.dK ax)) from I.hok d _ e)
  rw[ho] at h1
  cases h1
  have hl:es.size=ax.length:=by
   rw[<-Po,h5.length]
   exact(Qx rel).symm
  refine⟨es,ep,lo,ho,h2,h3,hl,fun i hi=>?_⟩
  obtain⟨q,e1,e2,e3⟩:=j4 rel (OY hi)
  obtain⟨en,e4,e5⟩:=zy h5 e1
  refine⟨en,kV ax[i].1,by rw[<-Rc];exact e4,?_, .inr ⟨ax,ax[i].1,e,by rw[O_,OY hi];rfl,rfl⟩⟩
  rw[e2]
  exact F_ e5
def zR{P:Pw}{w:World}{K:O2}{tg:Expr}(d it:Addr)(od:Obj)(es:Array QA)(ep:Nat)(mV:od.data= .dict es ep):
 Turn P w K tg (LF d od) [it] it (fun i h=>h.IsKeyIter it d i es.size ep) where
 mem:=by simp
 obj:=fun i h st b hb=>by
  have e:b=it:=by simpa using hb
  subst e
  obtain⟨o,e,c,dd⟩:=st
  exact⟨o,e,fun v z=>by rw[dd] at z;cases z⟩
 keep:=fun i h h' st k=>st.at fun o e=>k it (by simp) o e
 item:=by
  intro X hP hw hK hc i pins s σ H E I hf st hg
  subst hP hw hK
  obtain⟨n,hn,hi⟩:∃n,((∃ax,H d=some (.frz od (.dT ax))/\n=ax.length)\/∃ax,H d=some (.frz od (.dK ax))/\n=ax.length)/\i<n:=by
   rcases hg with⟨ax,e,hi⟩ | ⟨ax,e,hi⟩
   ·exact⟨_, .inl ⟨ax,e,rfl⟩,hi⟩
   ·exact⟨_, .inr ⟨ax,e,rfl⟩,hi⟩
  obtain⟨Hm,CJ,lo,ho,hx,vQ,hsz,hk⟩:=nU I hn
  rw[mV] at vQ
  cases vQ
  obtain⟨en,x,e1,rx,ka⟩:=hk i hi
  obtain⟨f0,f1,f2,f3,f4,f5⟩:=hf it (by simp)
  refine uK st ho mV e1 fun h' pG sb=>?_
  have I1:Inv X pins σ H {s with heap:=h'}:=I.turned (t':=s.toks) (fun b o hb e=>(sb.2 b hb).trans e) f0 f1 f3 f4 f5
  obtain⟨o,e2,c,dd⟩:=id pG
  exact⟨_,rfl,qE (s:={s with heap:=h'}) e2 c dd (by decide) ⟨x,H,I1,rx,⟨rfl,ka⟩,pG,fun b hb=>(hf b hb).1⟩⟩
 done:=by
  intro X hP hw hK hc i pins s σ H E I hf st hg
  subst hP hw hK
  obtain⟨n,hn,hi⟩:∃n,((∃ax,H d=some (.frz od (.dT ax))/\n=ax.length)\/∃ax,H d=some (.frz od (.dK ax))/\n=ax.length)/\n<=i:=by
   rcases hg with⟨ax,e,hi⟩ | ⟨ax,e,hi⟩
   ·exact⟨_, .inl ⟨ax,e,rfl⟩,hi⟩
   ·exact⟨_, .inr ⟨ax,e,rfl⟩,hi⟩
  obtain⟨Hm,CJ,lo,ho,hx,vQ,hsz,hk⟩:=nU I hn
  rw[mV] at vQ
  cases vQ
  obtain⟨f0,f1,f2,f3,f4,f5⟩:=hf it (by simp)
  exact qy (I.ok.hd hc) st (by omega) ho mV fun h' eb=>⟨rfl,I.turned (t':=s.toks) (fun b o hb e=>eb b o hb e) f0 f1 f3 f4 f5⟩
 self:=fun _ _ _ _ _ st h=>wpAny_pyIter_keyiter st h
def tupK(k:List Key):D:= .tup (k.map A0)
def uR:Key->Bool
 | .inl _=>true
 | .inr x=>decide (x.length<=lim)
def gF:D->M (List D)
 | .dct ks _=>if ks.all (fun k=>decide (k.length<=lim)&&k.all uR) then ab (ks.map tupK) else af
 | .dci ks _=>if ks.all uR then ab (ks.map A0) else af
 |_=>af
def uz{K:O2}{F:Hp}{k:Key}(h:uR k=true):Den K F (A0 k) (kV k):=by
 cases k with
 |inl i=>exact rfl
 |inr x=>exact⟨rfl,of_decide_eq_true h⟩
def qL{K:O2}{F:Hp}:∀{k:List Key},k.all uR=true->DenL K F (k.map A0) (k.map kV)
 |[],_=>rfl
 |x::k,h=>by
  rw[Ro,PK] at h
  exact .cons (uz h.1) (qL h.2)
def AX{K:O2}{F:Hp}{a:Addr}{ob:Obj}{d:D}{ds:List D}(hd:Den K F d (.ref a))(hF:∃u,F a=some (.frz ob u))(e:gF d=ab ds):ItD K F (LF a ob) ds:=fun F' H' i s1 s2=>by
 unfold gF at e
 split at e
 ·rename_i ks es
  split at e
  ·rename_i hok
   obtain rfl:=er e
   obtain⟨a',Ot,vs,z,h2,h3,h4,h5⟩:=hd
   cases z
   obtain⟨u,hu⟩:=hF
   rw[h2] at hu
   cases hu
   have hh:=s2 _ _ (s1 _ _ h2)
   have hz:=jB (a:=ks) (b:=vs) (by rw[h4];exact h3.len)
   have hl:(ks.zip vs).length=ks.length:=by rw[<-OW (f:=(·.1)),hz]
   refine⟨fun d e=>?_,fun hle=> .inl ⟨_,hh,by rw[hl];simpa using hle⟩⟩
   rw[O_] at e
   cases q:ks[i]? with
   |none=>rw[q] at e;cases e
   |some k=>
    rw[q] at e
    cases e
    have hi:=(OZ.mp q).1
    refine⟨.inl ⟨_,hh,by rw[hl];exact hi⟩,fun x H'' ⟨y1,y2⟩=>?_⟩
    subst y1
    have hk:=Pl.mp hok k (Pj q)
    rw[PK] at hk
    rcases y2 with⟨ax,k',b,q1,q2,rfl,q3⟩ | ⟨ax,k',q1,q2,rfl⟩
    ·rw[hh] at q1
     cases q1
     rw[hz,q] at q2
     cases q2
     have E:=Ext.tup (F:=F') s2 q3
     exact⟨_,E,b,_,rfl,aD,qL hk.2,by rw[OW];exact of_decide_eq_true hk.1⟩
    ·rw[hh] at q1;cases q1
  ·exact(dO e).elim
 ·rename_i ks es
  split at e
  ·rename_i hok
   obtain rfl:=er e
   obtain⟨a',Ot,vs,z,h2,h3,h4,h5⟩:=hd
   cases z
   obtain⟨u,hu⟩:=hF
   rw[h2] at hu
   cases hu
   have hh:=s2 _ _ (s1 _ _ h2)
   have hz:=jB (a:=ks) (b:=vs) (by rw[h4];exact h3.len)
   have hl:(ks.zip vs).length=ks.length:=by rw[<-OW (f:=(·.1)),hz]
   refine⟨fun d e=>?_,fun hle=> .inr ⟨_,hh,by rw[hl];simpa using hle⟩⟩
   rw[O_] at e
   cases q:ks[i]? with
   |none=>rw[q] at e;cases e
   |some k=>
    rw[q] at e
    cases e
    have hi:=(OZ.mp q).1
    refine⟨.inr ⟨_,hh,by rw[hl];exact hi⟩,fun x H'' ⟨y1,y2⟩=>?_⟩
    subst y1
    have hk:=Pl.mp hok k (Pj q)
    rcases y2 with⟨ax,k',b,q1,q2,rfl,q3⟩ | ⟨ax,k',q1,q2,rfl⟩
    ·rw[hh] at q1;cases q1
    ·rw[hh] at q1
     cases q1
     rw[hz,q] at q2
     cases q2
     exact⟨F',Ext.refl s2,uz hk⟩
  ·exact(dO e).elim
 ·exact(dO e).elim
section
variable{X:Cx}{Xw:Nat->Hp->Prop}{tg l:Expr}{δ:DE}
def u6(h:PD X Xw l δ):vN X Xw tg l (fun Z=>δ Z>>=gF):=by
 intro pins s σ H R I ⟨F,Z,S,w⟩
 refine b7 (h pins s σ H (fun v H1=>∃F1 d,Ext F H F1 H1/\Den X.K F1 d v/\WPI X.K Xw F1 H1 (gF d) R) I ⟨F,Z,S,WPI.bind w⟩) fun u s1 ⟨v,H1,I1,r1,F1,d,e1,q1,w1⟩=>?_
 rcases(gF d).cs with z | ⟨n,z⟩ | ⟨ds,z⟩
 ·rw[z] at w1;exact w1.elim
 ·exfalso
  unfold gF at z
  split at z
  ·split at z<;>cases z
  ·split at z<;>cases z
  ·cases z
 ·rw[z] at w1
  obtain⟨a,ob,u',rfl,hF,hn⟩:∃a ob u',v= .ref a/\F1 a=some (.frz ob u')/\∃n,((∃ax,H1 a=some (.frz ob (.dT ax))/\n=ax.length)\/∃ax,H1 a=some (.frz ob (.dK ax))/\n=ax.length):=by
   unfold gF at z
   split at z
   ·obtain⟨a,ob,vs,e,h2,_⟩:=q1;exact⟨a,ob,_,e,h2,_, .inl ⟨_,e1.fh _ _ h2,rfl⟩⟩
   ·obtain⟨a,ob,vs,e,h2,_⟩:=q1;exact⟨a,ob,_,e,h2,_, .inr ⟨_,e1.fh _ _ h2,rfl⟩⟩
   ·exact(dO z).elim
  obtain⟨n,hn⟩:=hn
  cases (show u=_ from r1)
  obtain⟨es,ep,lo,ho,hx,hd,hsz,hk⟩:=nU I1 hn
  refine qK lo ho hx hd ?_
  refine⟨s1.heap.objs.size,[s1.heap.objs.size],_,_,H1,rfl,I1.kept (t':=s1.toks) fun b o e=>O4 _ e,zR a _ ob es ep hd,⟨_,Pt _ rfl,rfl,rfl⟩,fun b hb=>?_,w1 _ _ _ (Ext.refl e1.fh) (AX q1 ⟨_,hF⟩ z)⟩
  have e:b=s1.heap.objs.size:=by simpa using hb
  subst e
  exact I1.fpOk (O9 _) (I1.hok.fresh (O9 _))
end
end L3
namespace L3
open PySem
section
variable{prog:Pw}{w:World}{K:Type}[DecidableEq K]{knd:HeapKind prog w K}{A:P_}{E:Value->O0->Prop}{s:O0}
def pD{d a:Addr}{xs:List (K×Addr×Value)}{k:K}{v:Value}{Q:Unit->O0->Prop}(hu:knd.room A)(CZ:knd.is s.heap k a)(hm:s.heap.DictOfH knd d xs)(hsz:xs.length<=Pe)
 (hQ:∀h',h'.DictOfH knd d (R8 xs k a v)->QV d s.heap h'->Q () {s with heap:=h'}):wpAny (model prog w) A (SJ d (.ref a) (knd.hash k) v) Q E s:=by
 obtain⟨o,es,ep,ho,hc,hd,he,KG,hn⟩:=hm
 unfold SJ
 refine R7 (OX (wpAny_dictFind_heap hu CZ ho hd he KG hn (fun C0=>?_) fun j p hj=>?_))
 ·have e0:=atKey_none_of_get C0
  have hz:es.size<=Pe:=by rw[Tr he];exact hsz
  refine OX (wpAny_rule (wpAny_updateDictKeys (hz:=hz) ho hd (hQ _ ?_ (PU ..))))
  rw[storedH_new e0]
  refine⟨_,_,ep+1,Rg _ ho (Sj (Rm hd _)),hc.mapDictKeys _,Rm hd _,by simp[he,TQ],fun x hx=>?_,?_⟩
  ·rcases Pq.mp hx with hx | hx
   ·exact knd.keeps (KG x hx) ho hd (PU ..)
   ·obtain rfl:x=(k,a,v):=by simpa using hx
    exact knd.keeps CZ ho hd (PU ..)
  ·rw[Pz]
   refine P4.mpr ⟨hn,by simp,fun x hx y hy z=>?_⟩
   have hy:y=k:=by simpa using hy
   exact not_mem_keys_of_get C0 (by rw[<-hy,<-z];exact hx)
 ·have e0:=atKey_of_get hn hj
  refine OX (wpAny_rule (OX (wpAny_updateDict ho hd (wpAny_point (hQ _ ?_ (PU ..))))))
  rw[storedH_old e0]
  refine⟨_,_,ep,Rg _ ho (Sj (Obj.data_mapDict hd _)),hc.mapDict _,Obj.data_mapDict hd _,?_,fun x hx=>?_,by rw[keys_map_putAt];exact hn⟩
  ·have:=modify_map_putAt (TQ knd) (fun e:QA=>{e with val:=v}) k v (fun _ _=>rfl) hn hj
   rw[<-he] at this
   obtain⟨l⟩:=es
   simpa using this
  ·obtain⟨y,hy,rfl⟩:=Pd.mp hx
   unfold putAt
   split<;>exact knd.keeps (KG y hy) ho hd (PU ..)
def cN(xs ys:List (K×Addr×Value)):List (K×Addr×Value):=ys.foldl (fun acc y=>R8 acc y.1 y.2.1 y.2.2) xs
def vy(xs:List (K×Addr×Value))(k:K)(a:Addr)(v:Value):(R8 xs k a v).length<=xs.length+1:=by
 unfold R8;split<;>simp
def me:∀(ys xs:List (K×Addr×Value)),(cN xs ys).length<=xs.length+ys.length
 |[],xs=>O9 _
 |y::ys,xs=>by
  have h1:=me ys (R8 xs y.1 y.2.1 y.2.2)
  have h2:=vy xs y.1 y.2.1 y.2.2
  show (cN (R8 xs y.1 y.2.1 y.2.2) ys).length<=_
  rw[O5];omega
def sk{xs ys:List (K×Addr×Value)}{i:Nat}{y:K×Addr×Value}(h:ys[i]? =some y):cN xs (ys.take (i+1))=R8 (cN xs (ys.take i)) y.1 y.2.1 y.2.2:=by
 rw[List.take_add_one,h]
 unfold cN
 rw[List.foldl_append]
 rfl
def mf:∀(ys acc:List (K×Addr×Value)),((acc++ys).map (·.1)).Nodup->cN acc ys=acc++ys
 |[],acc,_=>by simp[cN]
 |y::ys,acc,hn=>by
  show cN (R8 acc y.1 y.2.1 y.2.2) ys=_
  have KP:y.1∉acc.map (·.1):=fun h=>by
   rw[Pz] at hn
   exact(P4.mp hn).2.2 _ h _ (by simp) rfl
  have e0:atKey acc y.1=none:=atKey_none_of_get fun j p hj=>KP (Pd.mpr ⟨_,Pj hj,rfl⟩)
  rw[storedH_new e0,mf ys (acc++[(y.1,y.2.1,y.2.2)]) (by simpa using hn)]
  simp
def rV{id:String}{o:Addr}{ob:Obj}{es:Array QA}{ep:Nat}{Q:Array QA->O0->Prop}(ho:s.heap.get? o=some ob)(hd:ob.data= .dict es ep)
 (hq:∀e∈es.toList,∃a,e.key= .ref a/\s.TypeIs (.ref a) "tuple")(hh:∀e∈es.toList,(es.filter (·.hash==e.hash)).size<=1)(h:Q es s):wpAny (model prog w) A (Sb id o) Q E s:=by
 unfold Sb
 refine OX (Qp ho hd ?_)
 rw[<-Array.forIn_toList]
 refine OX (wpAny_forIn_list _ (fun rest _ s'=>s'=s/\∀e∈rest,e∈es.toList) _ ?_ ?_ _ _ ⟨rfl,fun _ h=>h⟩)
 ·rintro e rest b s' ⟨rfl,hr⟩
  obtain⟨a,ea,ta⟩:=hq e (hr e (OV ..))
  have hf:=hh e (hr e (OV ..))
  have iI:¬((es.filter (·.hash==e.hash)).size>1):=by omega
  rw[ea]
  unfold Builtin.Dict.quietEq
  refine OX (OX (Tp ta F.slot_tuple_eq.lookup (Pb ?_)))
  simp only[iI,if_false]
  have:(some (Value.builtin "tuple.__eq__")==some (Value.builtin "object.__eq__"))=false:=by decide
  simp only[this,Sd,if_true]
  exact Pb ⟨rfl,fun x hx=>hr x (OU _ hx)⟩
 ·rintro b s' ⟨rfl,_⟩
  exact Pb h
def oK{nm:String}{d o:Addr}{xs ys:List (K×Addr×Value)}{Q:Unit->O0->Prop}(hu:knd.room A)(L_:d≠o)(NQ:(o==Qk)=false)(hd:s.heap.DictOfH knd d xs)(ho:s.heap.DictOfH knd o ys)
 (NF:∀{h:Heap}{k:K}{a:Addr},knd.is h k a->∃ob,h.get? a=some ob/\ob.cls= .type "tuple")(hh:xs=[]->(ys.map fun y=>knd.hash y.1).Nodup)(hsz:xs.length+ys.length<=Pe)
 (hQ:∀h',h'.DictOfH knd d (cN xs ys)->QV d s.heap h'->Q () {s with heap:=h'}):wpAny (model prog w) A (SE nm d o) Q E s:=by
 obtain⟨od,MU,MS,y9,vP,mV,Nl,OO,JS⟩:=id hd
 obtain⟨oo,wc,MT,Iu,L8,y7,zZ,KD,C0⟩:=id ho
 have hlen:=Tr zZ
 unfold SE
 rw[if_neg (by simpa using L_)]
 unfold RD
 rw[if_neg (by rw[NQ];exact Pk)]
 refine OX (Pb (OX (Qp Iu y7 ?_)))
 have loop:∀(body:Nat->PUnit->Sem (ForInStep PUnit)),body=(fun i (_:PUnit)=>(do
       let l'<-dictEntries o
       match l'[i]? with
        |some e=>do
         holding [e.key,e.val] (SJ d e.key e.hash e.val)
         let CJ<-dictEpoch o
         if (CJ !=MT)=true then do (unsupported (toString nm++toString ":source-changed-during-callback"):Sem PUnit);pure (Qc Q7) else pure (Qc Q7)
        |_=>do
         (unsupported "internal:dict-merge":Sem PUnit)
         pure (Qc Q7):Sem (ForInStep PUnit)))->wpAny (model prog w) A (forIn [:wc.size] Q7 body) (fun _ s'=>Q () s') E s:=by
  rintro _ rfl
  rw[Std.Legacy.Range.forIn_eq_forIn_range']
  simp only[Std.Legacy.Range.size,Nat.sub_zero,Nat.add_sub_cancel,Nat.div_one]
  refine wpAny_forIn_list _ (fun rest _ s'=>∃h' i,s'={s with heap:=h'}/\rest=P9 i (wc.size - i)/\i<=wc.size/\h'.DictOfH knd d (cN xs (ys.take i))/\h'.get? o=some oo/\QV d s.heap h') _ ?_ ?_ _ _
   ⟨s.heap,0,rfl,by simp,PB _,by simpa[cN] using hd,Iu,Tc _ _⟩
  ·rintro x rest b s' ⟨h',i,rfl,hr,hi,vQ,FT,C2⟩
   have iI:i<wc.size:=by
    by_cases h:i<wc.size
    ·exact h
    ·rw[show wc.size - i=0 by omega] at hr;simp at hr
   rw[show wc.size - i=(wc.size - (i+1))+1 by omega,RT] at hr
   injection hr with h1 h2
   subst h1
   refine OX (Qp FT y7 ?_)
   obtain⟨y,hy⟩:∃y,ys[x]? =some y:=⟨_,OY (by omega)⟩
   rw[entry_at zZ x,hy]
   have NL:(cN xs (ys.take x)).length<=Pe:=by
    have e1:=me (ys.take x) xs
    rw[List.length_take] at e1
    omega
   have NG:knd.is h' y.1 y.2.1:=knd.keeps (KD y (Pj hy)) y9 mV C2
   refine OX (R7 (pD hu NG vQ NL fun LS Ku IB=>?_))
   have EC:LS.get? o=some oo:=(IB.2 o (PX L_)).trans FT
   refine OX (RE EC y7 ?_)
   rw[if_neg (by simp)]
   exact Pb ⟨LS,x+1,rfl,h2,iI,by rw[sk hy];exact Ku,EC,C2.trans IB⟩
  ·rintro b s' ⟨h',i,rfl,hr,hi,vQ,FT,C2⟩
   have vR:i=wc.size:=by
    by_cases h:i<wc.size
    ·rw[show wc.size - i=(wc.size - (i+1))+1 by omega,RT] at hr;exact nomatch hr
    ·omega
   refine hQ h' ?_ C2
   rw[vR,hlen,List.take_length] at vQ;exact vQ
 have go:wpAny (model prog w) A (do
  let HK<-dictEpoch o
  let l<-dictEntries o
  forIn [:l.size] Q7 fun i (_:PUnit)=>(do
   let l'<-dictEntries o
   match l'[i]? with
    |some e=>do
     holding [e.key,e.val] (SJ d e.key e.hash e.val)
     let CJ<-dictEpoch o
     if (CJ !=HK)=true then do (unsupported (toString nm++toString ":source-changed-during-callback"):Sem PUnit);pure (Qc Q7) else pure (Qc Q7)
    |_=>do
     (unsupported "internal:dict-merge":Sem PUnit)
     pure (Qc Q7):Sem (ForInStep PUnit))
  pure ()) Q E s:=by
  refine OX (RE Iu y7 (OX (Qp Iu y7 (OX ?_))))
  exact Qf (loop _ rfl) (fun _ _ h=>Pb h) fun _ _ h=>h
 dsimp only
 split
 ·refine OX (Qp y9 mV ?_)
  split
  ·rename_i Kv
   have IE:xs=[]:=by
    have h0:MU= #[]:=T7.mp Kv
    have:=Tr Nl
    rw[h0] at this
    exact RQ.mp (by simpa using this.symm)
   subst IE
   have NN:=hh rfl
   refine OX (rV Iu y7 (fun e he=>?_) (fun e he=>?_) ?_)
   ·rw[zZ] at he
    obtain⟨y,hy,rfl⟩:=Pd.mp he
    obtain⟨ob,h1,h2⟩:=NF (KD y hy)
    exact⟨y.2.1,rfl,ob,h1,h2⟩
   ·have:(wc.filter (·.hash==e.hash)).size=((ys.map fun y=>knd.hash y.1).filter (· ==e.hash)).length:=by
     rw[<-Po,Array.toList_filter,zZ,List.filter_map,List.filter_map,OW,OW]
     rfl
    rw[this]
    have hc:=List.nodup_iff_count.mp NN e.hash
    rw[List.count_eq_countP,List.countP_eq_length_filter] at hc
    exact hc
   ·have hm:cN ([]:List (K×Addr×Value)) ys=ys:=by
     rw[mf ys [] (by simpa using C0)];rfl
    rw[hm] at hQ
    split
    ·have N3:wc.size<=Pe+1:=by simp at hsz;omega
     refine OX (wpAny_updateDictKeysTo y9 mV (Pb (hQ _ ⟨_,_,MS+1,Rg _ y9 (Sj (Rm mV _)),vP.mapDictKeys _,Rm mV _,zZ,fun x hx=>?_,C0⟩ (PU ..))) N3)
     exact knd.keeps (KD x hx) y9 mV (PU ..)
    ·rename_i gX
     have h0:wc= #[]:=T7.mp (by simpa using gX)
     have NJ:ys=[]:=RQ.mp (by rw[<-hlen,h0];rfl)
     subst NJ
     exact Pb (hQ _ hd (Tc _ _))
  ·exact go
 ·exact go
end
end L3
namespace L3
open PySem PySem.Spec L2
open PyProof.Rows hiding St
def Ee{P:Pw}{w:World}{h:Heap}{k:List Key}{a:Addr}(h1:(QE (a9 P w)).is h k a):∃ob,h.get? a=some ob/\ob.cls= .type "tuple":=by
 obtain⟨ob,aK,n,q1,q2,_⟩:=h1
 exact⟨ob,q1,q2⟩
def iM(ax more:List (List Key×V)):List (List Key×V):=more.foldl (fun acc kv=>putK acc kv.1 kv.2) ax
def yh{H:Hp}:∀{more:List (List Key×V)}{ys:List (List Key×Addr×Value)},KT H more ys->∀{ax:List (List Key×V)}{xs:List (List Key×Addr×Value)},KT H ax xs->KT H (iM ax more) (cN xs ys)
 |_,_, .nil,_,_,q=>q
 |_,_, .cons h t,ax,xs,r=>by
  refine yh t ?_
  have:=KT.put r _ h.2.1 h.2.2
  rw[h.1] at this
  show KT H (putK ax _ _) (R8 xs _ _ _)
  rw[h.1]
  exact this
def oD:∀(more ax:List (List Key×V)),(iM ax more).length<=ax.length+more.length
 |[],ax=>O9 _
 |p::r,ax=>by
  have h1:=oD r (putK ax p.1 p.2)
  have h2:=dm ax p.1 p.2
  show (iM (putK ax p.1 p.2) r).length<=_
  rw[O5];omega
def fU(k:List Int):Int:=reduceHash (Sk (k.map hashInt))
def AJ{P:Pw}{w:World}(k:List Int):(QE (a9 P w)).hash (oz k)=fU k:=by
 show reduceHash (Sk ((oz k).map (IQ w)))=_
 unfold fU oz
 rw[PH]
 rfl
section
variable{X:Cx}{pins:List (Addr×Obj)}{σ:St}{H:Hp}{s:O0}{a b:Addr}{A:P_}{E:Value->O0->Prop}
def Ao{ax more:List (List Key×V)}{ks:List (List Int)}{Q:Value->O0->Prop}(hu:A.units+2<cLine)(I:Inv X pins σ H s)(ha:H a=some (.dT ax))(hb:Rd H b (.dT more))(Hn:a≠b)(hk:more.map (·.1)=ks.map oz)
 (hh:ax=[]->(ks.map fU).Nodup)(hz:ax.length+more.length<=Pe)(h:∀s',Inv X pins σ (upd H a (.dT (iM ax more))) s'->Q .none s'):
 wpAny (model X.prog X.w) A (call (.builtin "dict.update") [.ref a, .ref b]) Q E s:=by
 obtain⟨z1,lo1,xs,Jt,LL⟩:=Au I.hok ha
 obtain⟨z2,Ol,ys,D5,CD⟩:=l8 I.hok hb
 have l1:=Qx Jt
 have l2:=Qx D5
 have hT:=LL.typeIs
 refine Rv SU hT PySem.F.entry_dict_update ?_ (PySem.F.args_dict_update_2 _ _)
 unfold Builtin.«dict.update»
 refine OX ?_
 unfold Builtin.Dict.selfAndRest
 refine OX (wpAny_notOrdered_dict hT ?_)
 show wpAny _ _ (pure (a,[PQ b])) _ _ s
 refine Pb ?_
 show wpAny _ _ (Sz "dict.update" a (.ref b) [] .none) _ _ s
 unfold Sz
 refine OX (wpAny_typeOf CD.typeIs ?_)
 rw[if_neg (by decide)]
 refine OX ?_
 unfold Builtin.Dict.merge
 refine OX ?_
 unfold Builtin.Dict.readDirectly
 refine OX (wpAny_isInstance CD.typeIs isSubtype_dict_dict ?_)
 simp only[Bool.not_true,P7,if_false]
 refine OX (Tp CD.typeIs PySem.F.slot_dict_iter.lookup (Pb ?_))
 simp only[beq_self_eq_true,if_true]
 refine OX (Pb ?_)
 refine oK (knd:=QE (a9 X.prog X.w)) (show A.in1.units<cLine by show A.units+1<cLine;omega) Hn Ol LL CD Ee (fun e0=>?_) (by omega) fun h' xP C2=>?_
 ·have e1:ax=[]:=RQ.mp (by rw[l1,e0];rfl)
  have:=hh e1
  have e2:(ys.map fun y=>(QE (a9 X.prog X.w)).hash y.1)=ks.map fU:=by
   have e3:more.map (·.1)=ys.map (·.1):=mK (fun _ _ r=>r.1) D5
   rw[show (fun y:List Key×Addr×Value=>(QE (a9 X.prog X.w)).hash y.1)=(QE (a9 X.prog X.w)).hash∘(·.1) from rfl,<-PH,<-e3,hk,PH]
   exact Qn fun k _=>AJ k
  rw[e2];exact this
 ·show wpAny _ _ (Builtin.Dict.addKeywords a []>>=_) _ _ _
  refine OX (Pb (Pb ⟨.none,rfl,h _ ?_⟩))
  obtain⟨q,es,ep,hq,h2,h3,h4,_,h5⟩:=xP
  have hl:(iM ax more).length<=Pe:=by have:=oD more ax;omega
  refine jq I (t':=s.toks) (by rw[ha];exact Qu) C2 ⟨q,hq⟩ ⟨hl,lo1,_,(yh D5 Jt).keeps fun c ys ec=>?_,q,es,ep,hq,h2,h3,h4,h5⟩
  rw[aw (A8 ec ha (fun z=>nomatch z))]
  exact ec
end
def b0(ks:List (List Key))(ds:List D):List (List Key)->List D->List (List Key)×List D
 |k::ks',d::ds'=>b0 (cP ks ds k) (b8 ks ds k d) ks' ds'
 |_,_=>(ks,ds)
def Cf(ks:List (List Key))(ds:List D):D->Option C
 | .dct ks' ds'=>match fH ks' with
   |some ns=>if ds.length+ds'.length<=lim/\(ks.isEmpty=true->(ns.map fU).Nodup) then some (.dct (b0 ks ds ks' ds').1 (b0 ks ds ks' ds').2) else none
   |none=>none
 |_=>none
def oI{K:O2}{F:Hp}:∀{ks':List (List Key)}{ds':List D}{vs':List V}{ks:List (List Key)}{ds:List D}{vs:List V},DenL K F ds' vs'->ks'.length=ds'.length->DenL K F ds vs->ks.length=ds.length->
 ∃ws,iM (ks.zip vs) (ks'.zip vs')=(b0 ks ds ks' ds').1.zip ws/\DenL K F (b0 ks ds ks' ds').2 ws/\(b0 ks ds ks' ds').1.length=(b0 ks ds ks' ds').2.length
 |[],[],vs',ks,ds,vs,h',_,h,hl=>⟨vs,rfl,h,hl⟩
 |k::ks',d::ds',vs',ks,ds,vs,⟨v,r,e,h1,h2⟩,Cr,h,hl=>by
  subst e
  obtain⟨ws,e1,e2,e3⟩:=sW (K:=K) (F:=F) h1 k h hl
  obtain⟨us,q1,q2,q3⟩:=oI (ks':=ks') (ds':=ds') (vs':=r) h2 (by simpa using Cr) e2 e3
  refine⟨us,?_,q2,q3⟩
  show iM (putK (ks.zip vs) k v) (ks'.zip r)=_
  rw[e1]
  exact q1
 |[],_::_,_,_,_,_,_,Cr,_,_=>by simp at Cr
 |_::_,[],_,_,_,_,_,Cr,_,_=>by simp at Cr
def BP{κ:Type}[DecidableEq κ]{ks:List κ}{ds:List D}{k:κ}{d:D}(hl:ks.length=ds.length):(b8 ks ds k d).length<=ds.length+1:=by
 unfold b8
 split
 ·rw[i5 ks ds k d hl];omega
 ·simp
def BQ{κ:Type}[DecidableEq κ]{ks:List κ}{ds:List D}{k:κ}{d:D}(hl:ks.length=ds.length):(cP ks ds k).length=(b8 ks ds k d).length:=by
 unfold b8 cP
 split
 ·rw[i5 ks ds k d hl];exact hl
 ·simp[hl]
def oJ:∀{ks':List (List Key)}{ds':List D}{ks:List (List Key)}{ds:List D},ks.length=ds.length->(b0 ks ds ks' ds').2.length<=ds.length+ds'.length
 |[],ds',ks,ds,_=>by show ds.length<=_;omega
 |_::_,[],ks,ds,_=>by show ds.length<=_;simp
 |k::ks',d::ds',ks,ds,hl=>by
  have h1:=oJ (ks':=ks') (ds':=ds') (ks:=cP ks ds k) (ds:=b8 ks ds k d) (BQ hl)
  have h2:=BP (k:=k) (d:=d) hl
  show (b0 (cP ks ds k) (b8 ks ds k d) ks' ds').2.length<=_
  rw[O5];omega
section
variable{X:Cx}{Xw:Nat->Hp->Prop}{o e:Expr}{δ:DE}{pos p apos bc:Pos}{x:Str}{i:Nat}
def zJ(i:Nat)(δ:DE):DS:=fun Z=>match qg Z i with
 |some (.dct ks ds)=>δ Z>>=fun d=>match Cf ks ds d with
  |some c'=>ab (.nx (Z.set i (some (.ow c'))))
  |none=>af
 |_=>af
def GQ{td ty:TE}(hu:X.A.units+2<cLine)(ho:PE X o td)(he:PE X e ty)(m:M1 X o "update" apos e bc):
 PE X (.Call (.Attribute o "update" apos) [e] [] bc) (fun σ H Q=>td σ H fun x H1=>∃a,x= .ref a/\Hv H1 a/\ty σ H1 fun y H2=>∃(b:Addr) (ax more:List (List Key×V)) (ks:List (List Int)),y= .ref b/\H2 a=some (.dT ax)/\Rd H2 b (.dT more)/\a≠b/\more.map (·.1)=ks.map oz/\(ax=[]->(ks.map fU).Nodup)/\ax.length+more.length<=Pe/\Q .non (upd H2 a (.dT (iM ax more)))):=by
 intro pins s σ H Q I h
 refine S2 m.base m.few m.line RK SU (by rfl) (b7 (ho pins s σ H _ I h) fun u s1 ⟨x,H1,I1,rx,a,ex,d,q1⟩=>?_)
 subst ex
 obtain rfl:u=PQ a:=rx
 obtain⟨t1,t2,_⟩:=wx I1 d
 refine⟨t1,t2,?_⟩
 rw[m.trees]
 refine Q6 rfl (Rj (QX (b7 (he pins s1 σ H1 _ I1 q1) fun iv s2 ⟨y,H2,I2,ry,b,ax,more,ks,ey,k1,k2,k3,k4,k5,k6,q2⟩=>RM ?_)))
 subst ey
 obtain rfl:iv=PQ b:=ry
 exact Ao hu I2 k1 k2 k3 k4 k5 k6 fun s3 I3=>⟨.non,_,I3,rfl,q2⟩
def DZ(hu:X.A.units+64<cLine)(hv:PE X (.Name x p) (kg i))(he:PD X Xw e δ)(m:M1 X (.Name x p) "update" apos e bc)(hs:RF (.Call (.Attribute (.Name x p) "update" apos) [e] [] bc) none pos.line X.env=pure false:=by rfl):
 ki X Xw (.Expr (.Call (.Attribute (.Name x p) "update" apos) [e] [] bc) pos) (zJ i δ):=fun F₀ H₀=>PS.weak (nu (GQ (by omega) hv he m) hs) fun D σ H ⟨F,Z,s,w⟩=>by
 unfold zJ at w
 split at w
 ·rename_i ks ds FR
  have hi:=lJ FR
  obtain⟨v,JX,a,oh,rfl,hH,hF,vs,rfl,hd,hl,hz⟩:=s.st.den i _ hi
  refine⟨.ref a,JX,a,rfl, .inr ⟨_, .inl hH⟩,F,Z,s.st,?_⟩
  rcases(δ Z).cs with q | ⟨n,q⟩ | ⟨d,q⟩
  ·rw[q] at w;exact w.elim
  ·rw[q] at w⊢;exact fun F' H' e'=>w F' H' (s.ext.trans e')
  ·rw[q] at w⊢
   intro u H1 F1 e1 hq
   have w:WPS X.K Xw F₀ H₀ (match Cf ks ds d with | some c'=>ab (.nx (Z.set i (some (.ow c')))) | none=>af) D:=w
   cases d with
   |dct ks' ds'=>
    obtain⟨b,ob,vs',rfl,k2,k3,k4,k5⟩:=hq
    cases hc:Cf ks ds (.dct ks' ds') with
    |none=>rw[hc] at w;exact w.elim
    |some c'=>
     rw[hc] at w
     have hc:(match fH ks' with | some ns=>if ds.length+ds'.length<=lim/\(ks.isEmpty=true->(ns.map fU).Nodup) then some (C.dct (b0 ks ds ks' ds').1 (b0 ks ds ks' ds').2) else none | none=>none)=some c':=hc
     cases hn:fH ks' with
     |none=>rw[hn] at hc;cases hc
     |some ns=>
      rw[hn] at hc
      have hc:(if ds.length+ds'.length<=lim/\(ks.isEmpty=true->(ns.map fU).Nodup) then some (C.dct (b0 ks ds ks' ds').1 (b0 ks ds ks' ds').2) else none)=some c':=hc
      split at hc
      ·rename_i H9
       cases hc
       have L9:=DenL.mono e1.ff hd
       have l1:=L9.len
       have l2:=k3.len
       have Hn:a≠b:=fun z=>by
        have:=e1.old hH (fun _ z=>nomatch z)
        rw[hF,z,k2] at this
        cases this
       obtain⟨ws,m1,m2,m3⟩:=oI k3 k4 L9 hl
       refine⟨b,ks.zip vs,ks'.zip vs',ns,rfl,e1.hh _ _ hH, .inr ⟨ob,e1.fh _ _ k2⟩,Hn,by rw[jB (by rw[k4];exact l2),lC hn],fun z=>H9.2 ?_,?_,?_⟩
       ·have:=jB (a:=ks) (b:=vs) (by rw[hl];exact l1)
        rw[z] at this
        rw[<-this];rfl
       ·rw[R3,R3]
        have:=dg
        omega
       ·rw[m1]
        exact w σ F1 _ ((s.ext' e1).chg (c₀:= .dct (b0 ks ds ks' ds').1 (b0 ks ds ks' ds').2) hi JX ⟨ws,rfl,m2,m3,by have:=oJ (ks':=ks') (ds':=ds') hl;omega⟩)
      ·cases hc
   |_=>exact w.elim
 ·exact w.elim
end
section
variable{X:Cx}{Xw:Nat->Hp->Prop}{o e:Expr}{δo δe:DE}{δs:DA}{pos p apos bc:Pos}{x:Str}
def AV:D->Bool
 | .dct _ _=>true
 | .dci _ _=>true
 |_=>false
def C_{K:O2}{F H:Hp}{d:D}{x:V}(s:Same F H)(hd:Den K F d x)(e:AV d=true):∃a,x= .ref a/\Hv H a:=by
 cases d with
 |dct ks ds=>obtain⟨a,ob,vs,rfl,h2,_⟩:=hd;exact⟨a,rfl, .inr ⟨_, .inr ⟨ob,s _ _ h2⟩⟩⟩
 |dci ks ds=>obtain⟨a,ob,vs,rfl,h2,_⟩:=hd;exact⟨a,rfl, .inl ⟨_, .inr ⟨ob,s _ _ h2⟩⟩⟩
 |_=>cases e
def getM(d k v:D):M D:=match yO d k with
 |some (some x)=>ab x
 |some none=>ab v
 |none=>af
def Em(δo δe:DE):DE:=fun Z=>δo Z>>=fun d=>if AV d then δe Z>>=fun k=>getM d k .non else af
def AH{F H:Hp}{d k v:D}{a:Addr}{y z:V}{Q:VK}(s:Same F H)(q1:Den X.K F d (.ref a))(q2:Den X.K F k y)(q3:Den X.K F v z)(w:WP X.K Xw F H (getM d k v) Q):∃ov,lg H a y ov/\Q (ov.getD z) H:=by
 unfold getM at w
 cases Co:yO d k with
 |none=>rw[Co] at w;exact w.elim
 |some o'=>
  rw[Co] at w
  obtain⟨a',ov,zz,h2,h3,h4⟩:=rN s q1 q2 Co
  cases zz
  refine⟨ov,h2,?_⟩
  cases o' with
  |none=>
   cases ov with
   |none=>exact WP.now w s q3
   |some _=>cases h3
  |some d'=>
   obtain⟨v,rfl,hv⟩:=h4 d' rfl
   exact WP.now w s hv
def DD(hu:X.A.units+64<cLine)(ho:PD X Xw o δo)(he:PD X Xw e δe)(m:M1 X o "get" apos e bc):PD X Xw (.Call (.Attribute o "get" apos) [e] [] bc) (Em δo δe):=
 PE.weak (BB (by omega) ho he m) fun σ H Q ⟨F,Z,s,w⟩=>by
  refine⟨F,Z,s,WP.mono (WP.bind w) fun x H1 ⟨F1,d,e1,q1,w1⟩=>?_⟩
  split at w1
  ·rename_i hd
   obtain⟨a,rfl,Oj⟩:=C_ e1.fh q1 hd
   refine⟨a,rfl,Oj,F1,Z,s.ext e1,WP.mono (WP.bind w1) fun y H2 ⟨F2,k,e2,q2,w2⟩=>?_⟩
   exact AH (v:= .non) (z:= .non) e2.fh (Den.mono e2.ff q1) q2 (show V.non=V.non from rfl) w2
  ·exact w1.elim
def qP:List D->M D
 |[.dci ks _]=>ab (.int ks.length)
 |_=>af
def v5:CallR X (.builtin "len") (fun xs H Q=>∃a ax,xs=[.ref a]/\Rd H a (.dK ax)/\Q (.int ax.length) H):=by
 intro pins s σ H xs us Q I r ⟨a,ax,e,h,q⟩
 subst e
 obtain⟨u,rfl,ru⟩:=r.one
 cases (show u=_ from ru)
 exact HH I h fun t s' I'=>⟨.int ax.length,H,I',⟨_,rfl⟩,q⟩
def yu(hg:Gl X "len")(hm:X.mg "len"=none)(ha:pT X Xw [e] δs)(he:Ph [e] X.env=[(false,eval e X.env)]:=by rfl):PD X Xw (.Call (.Name "len" p) [e] [] pos) (dA qP δs):=
 eG v5 (fun Xw F H vs ds Q s h w=>by
  unfold qP at w
  split at w
  ·rename_i ks es
   obtain⟨v,rfl,h1⟩:=h.one
   obtain⟨a,ob,ws,rfl,h2,h3,h4,h5⟩:=h1
   refine⟨a,_,rfl, .inr ⟨ob,s _ _ h2⟩,?_⟩
   rw[tI h3 h4,<-h4]
   exact WP.now w s rfl
  ·exact w.elim) hg hm PySem.boot_len ha (by decide) (by decide) he rfl
end
section
variable{X:Cx}{Xw:Nat->Hp->Prop}{a b:Expr}{δa δb:DE}{pos:Pos}
def g6(neg:Bool):D->D->M D
 | .raw _,_=>af
 | .non, .non=>ab (.bl (!neg))
 |_, .non=>ab (.bl neg)
 |_,_=>af
def yb{K:O2}{neg:Bool}{g:V->Bool}(hg:∀v,g v=if neg then !decide (v= .non) else decide (v= .non)):tU K (fun x y H Q=>y= .non/\Q (.bl (g x)) H) (g6 neg):=fun Xw F H x y dx dy Q s hx hy w=>by
 unfold g6 at w
 split at w
 ·exact w.elim
 ·refine⟨hy,?_⟩
  cases (show x=_ from hx)
  rw[hg]
  cases neg<;>exact WP.now w s rfl
 ·rename_i h1 h2
  refine⟨hy,?_⟩
  have K4:x≠ .non:=by
   rintro rfl
   cases dx with
   |raw v=>exact h1 v rfl
   |non=>exact h2 rfl
   |bl _=>cases (show _=_ from hx)
   |int _=>cases (show _=_ from hx)
   |str _=>cases (show _=_ from hx.1)
   |exc _=>obtain⟨_,z,_⟩:=hx;cases z
   |scr _=>obtain⟨_,z,_⟩:=hx;cases z
   |tup _=>obtain⟨_,_,z,_⟩:=hx;cases z
   |lst _=>obtain⟨_,_,z,_⟩:=hx;cases z
   |dct _ _=>obtain⟨_,_,_,z,_⟩:=hx;cases z
   |dci _ _=>obtain⟨_,_,_,z,_⟩:=hx;cases z
  rw[hg,decide_eq_false K4]
  cases neg<;>exact WP.now w s rfl
 ·exact w.elim
def BL(ha:PD X Xw a δa)(hb:PD X Xw b δb):lj X Xw (.Compare a [.Is] [b] pos) (bH (d2 (g6 false) δa δb)):=eo Gs (yb fun _=>rfl) ha hb
def yA(ha:PD X Xw a δa)(hb:PD X Xw b δb):lj X Xw (.Compare a [.IsNot] [b] pos) (bH (d2 (g6 true) δa δb)):=eo Dt (yb fun _=>rfl) ha hb
end
def wm:List Nat->Ek
 |[]=>HS
 |i::is=>Ew (jF i) (wm is)
def xj:List Nat->List D->aP->aP
 |i::is,d::ds,Z=>xj is ds (Z.set i (some (.fz d)))
 |_,_,Z=>Z
def yC(is:List Nat):D->aP->Option aP
 | .tup ds,Z=>if ds.length=is.length then some (xj is ds Z) else none
 |_,_=>none
def rp{K:O2}{F₀ H₀ F H:Hp}{Q:St->Hp->Prop}:∀(is:List Nat) (ds:List D) (vs:List V) (σ:St) (Z:aP),ds.length=is.length->StOk K F₀ H₀ F H σ Z->DenL K F ds vs->(∀σ',StOk K F₀ H₀ F H σ' (xj is ds Z)->Q σ' H)->wm is vs σ H Q
 |[],[],vs,σ,Z,_,s,h,k=>⟨h,k σ s⟩
 |i::is,d::ds,vs,σ,Z,hl,s,⟨v,r,e,h1,h2⟩,k=>by
  subst e
  exact⟨v,r,rfl,rp is ds r _ _ (by simpa using hl) (s.set h1) h2 k⟩
 |[],_::_,_,_,_,hl,_,_,_=>by simp at hl
 |_::_,[],_,_,_,hl,_,_,_=>by simp at hl
def D3{K:O2}{is:List Nat}:z5 K (HU K is.length (wm is)) (yC is):=fun F₀ H₀ F H σ Z Z' d v Q s q e k=>by
 unfold yC at e
 split at e
 ·rename_i ds
  split at e
  ·rename_i hl
   cases e
   obtain⟨a,vs,rfl,hs,hd,_⟩:=q
   exact⟨a,vs,rfl,SqT.of (s.st.fh _ _ hs),by rw[<-hd.len];exact hl,rp is ds vs σ Z hl s hd k⟩
  ·cases e
 ·cases e
section
end
mutual
def Ep:D->Bool
 | .non=>true
 | .bl _=>true
 | .int _=>true
 | .str _=>true
 | .tup ds=>ua ds
 | .lst ds=>ua ds
 | .raw _=>false
 | .exc _=>false
 | .scr _=>false
 | .dct _ _=>false
 | .dci _ _=>false
def ua:List D->Bool
 |[]=>true
 |d::ds=>Ep d&&ua ds
end
def u0(Z:aP):Bool:=Z.all fun x=>match x with
 |some (.ow (.lst _))=>false
 |_=>true
def Bt{Z:aP}{i:Nat}{ds:List D}(h:u0 Z=true)(e:Z[i]? =some (some (.ow (.lst ds)))):False:=by
 have:=Pl.mp h _ (Pj e)
 cases this
section
variable{K:O2}{F H F' H':Hp}{σ:St}{Z:aP}{h:Heap}{b:Addr}
def OwnAt.dict(S:StE K F H σ Z)(hd:u0 Z=true)(p:OwnAt σ Z b):∃o,H b=some o/\((∃x,o= .dT x)\/∃x,o= .dK x):=by
 obtain⟨i,c,h1,h2⟩:=p
 obtain⟨v,h3,a,o,rfl,h4,h5,h6⟩:=S.den i _ h1
 rw[h3] at h2
 cases h2
 refine⟨o,h4,?_⟩
 cases c with
 |lst ds=>exact(Bt hd h1).elim
 |dct ks ds=>obtain⟨vs,rfl,_⟩:=h6;exact .inl ⟨_,rfl⟩
 |dci ks ds=>obtain⟨vs,rfl,_⟩:=h6;exact .inr ⟨_,rfl⟩
open Classical in
def yl(S:StE K F H σ Z)(hd:u0 Z=true)(E:Ext (fA σ Z (refA h (OwnAt σ Z) H) F) (refA h (OwnAt σ Z) H) F' H'){a:Addr}{o:HO}(e:F' a=some o)(gX:∀q u,o≠ .frz q u):(if OwnAt σ Z a then none else F' a)=some o:=by
 rw[if_neg,e]
 intro hp
 obtain⟨o',k1,k2⟩:=OwnAt.dict S hd hp
 have k3:fA σ Z (refA h (OwnAt σ Z) H) F a=some (mU ((h.get? a).getD {cls:= .none,data:= .fields #[]}) o'):=by
  unfold fA refA
  rw[if_pos hp,if_pos hp,k1]
  rfl
 have k4:=E.ff a _ k3
 rw[e] at k4
 rcases k2 with⟨x,rfl⟩ | ⟨x,rfl⟩<;>cases k4<;>exact gX _ _ rfl
open Classical in
mutual
def Ap(S:StE K F H σ Z)(hd:u0 Z=true)(E:Ext (fA σ Z (refA h (OwnAt σ Z) H) F) (refA h (OwnAt σ Z) H) F' H'):∀{d:D}{v:V},Ep d=true->Den K F' d v->Den K (fun b=>if OwnAt σ Z b then none else F' b) d v
 | .non,_,_,q=>q
 | .bl _,_,_,q=>q
 | .int _,_,_,q=>q
 | .str _,_,_,q=>q
 | .tup ds,_,f,⟨a,vs,h1,h2,h3,h4⟩=>⟨a,vs,h1,yl S hd E h2 (fun _ _ z=>nomatch z),lz S hd E f h3,h4⟩
 | .lst ds,_,f,⟨a,vs,h1,h2,h3,h4⟩=>⟨a,vs,h1,yl S hd E h2 (fun _ _ z=>nomatch z),lz S hd E f h3,h4⟩
 | .raw _,_,f,_=>by cases f
 | .exc _,_,f,_=>by cases f
 | .scr _,_,f,_=>by cases f
 | .dct _ _,_,f,_=>by cases f
 | .dci _ _,_,f,_=>by cases f
def lz(S:StE K F H σ Z)(hd:u0 Z=true)(E:Ext (fA σ Z (refA h (OwnAt σ Z) H) F) (refA h (OwnAt σ Z) H) F' H'):∀{ds:List D}{vs:List V},ua ds=true->DenL K F' ds vs->DenL K (fun b=>if OwnAt σ Z b then none else F' b) ds vs
 |[],_,_,q=>q
 |d::ds,_,f,⟨v,r,h1,h2,h3⟩=>by
  unfold ua at f
  rw[PK] at f
  exact⟨v,r,h1,Ap S hd E f.1 h2,lz S hd E f.2 h3⟩
end
end
def CB(δ:DE):DE:=fun Z=>noex (δ (xW Z))>>=nW
def yJ(τ:DT):DT:=fun Z=>noex (τ (xW Z))
section
end
section
variable{a:Expr}
end
section
end
end L3
namespace L3
open PySem PySem.SetTable
def iK(m b:Nat):Nat->Nat×Nat
 |0=>(b % (m+1),b)
 |k+1=>leap m (iK m b k).1 (iK m b k).2
def Ht(m i:Nat):Nat:=(i*5+1) % (m+1)
def it(m:Nat):Nat->Nat->Nat
 |0,x=>x
 |n+1,x=>Ht m (it m n x)
def oq(m:Nat):∀a b x,it m (a+b) x=it m a (it m b x)
 |0,b,x=>by rw[SF];rfl
 |a+1,b,x=>by rw[Ub];show Ht m _=Ht m _;rw[oq m a b x]
def IH(m b:Nat):∀k,(iK m b k).2=b / 32 ^ k
 |0=>by simp[iK]
 |k+1=>by
  show (iK m b k).2 / 32=_
  rw[IH m b k,Tz,Nat.pow_succ]
def x_{m b:Nat}(hb:b<2 ^ 64):∀k,(iK m b (k+13)).1=it m k (iK m b 13).1
 |0=>by rw[SF];rfl
 |k+1=>by
  rw[Ub]
  have hq:(iK m b (k+13)).2 / 32=0:=by
   rw[IH]
   refine Nat.div_eq_of_lt ?_
   refine Ua (m:=b / 32 ^ 13) ?_ ?_
   ·rw[Nat.pow_add,Nat.mul_comm,<-Tz]
    exact Nat.div_le_self ..
   ·have:b / 32 ^ 13<1:=Nat.div_lt_of_lt_mul (by omega)
    omega
  show ((iK m b (k+13)).1*5+1+(iK m b (k+13)).2 / 32) % (m+1)=Ht m _
  rw[hq,x_ hb k]
  rfl
def Ka(m:Nat):Prop:=m=7\/m=31\/m=127
def Lj(m:Nat):Nat->Nat->List Nat
 |0,_=>[]
 |n+1,x=>x::Lj m n (Ht m x)
def wW(m:Nat):∀(n x j:Nat),j∈Lj m n x->∃a,a<n/\it m a x=j
 |0,x,j,h=>by cases h
 |n+1,x,j,h=>by
  rcases O6.mp h with rfl | h
  ·exact⟨0,by omega,rfl⟩
  ·obtain⟨a,ha,e⟩:=wW m n (Ht m x) j h
   exact⟨a+1,by omega,by rw[oq m a 1 x];exact e⟩
def Dy{m:Nat}(hm:Ka m):(∀j,j<m+1->j∈Lj m (m+1) 0)/\it m (m+1) 0=0:=by
 rcases hm with rfl | rfl | rfl
 ·exact⟨by decide+kernel,by decide+kernel⟩
 ·exact⟨by decide+kernel,by decide+kernel⟩
 ·exact⟨by decide+kernel,by decide+kernel⟩
def MN{m:Nat}(hm:Ka m){i j:Nat}(hi:i<m+1)(hj:j<m+1):∃n,n<=m/\it m n i=j:=by
 obtain⟨h1,h2⟩:=Dy hm
 obtain⟨a,ha,rfl⟩:=wW m _ 0 i (h1 i hi)
 obtain⟨b,hb,rfl⟩:=wW m _ 0 j (h1 j hj)
 by_cases h:a<=b
 ·exact⟨b - a,by omega,by rw[<-oq,Nat.sub_add_cancel h]⟩
 ·refine⟨m+1 - a+b,by omega,?_⟩
  rw[<-oq,show m+1 - a+b+a=b+(m+1) by omega,oq,h2]
def IG(m b k:Nat):(iK m b k).1<m+1:=by
 cases k with
 |zero=>exact Tn _ (by omega)
 |succ k=>exact Tn _ (by omega)
def reach{m b:Nat}(hm:Ka m)(hb:b<2 ^ 64){j:Nat}(hj:j<m+1):∃k,k<=m+13/\(iK m b k).1=j:=by
 obtain⟨n,hn,e⟩:=MN hm (IG m b 13) hj
 exact⟨n+13,by omega,by rw[x_ hb,e]⟩
def vals(o:Array (Option Nat))(n:Nat):List Nat:=(Px n).filterMap fun j=>o.getD j none
end L3
namespace L3
open PySem PySem.Spec L2 HT
open PyProof.Rows hiding St
def items_int{P:Pw}{w:World}:∀{us:List Value}{ns:List Int},RV us ns->ItemsAre (intKind P w) ns us
 |_,_, .nil=> .nil
 |_,_, .cons n t h=> .cons (intKind_is _ _ _ _) (items_int h)
end L3
namespace L3
open PySem PySem.Spec L2
open PyProof.Rows hiding St
section
end
end L3
namespace L3
open PySem PySem.Spec L2 SeqAt HT
open PyProof.Rows hiding St
section
def Mo:D->List D->M D
 | .lst ds,[.int n]=>match nums ds with
   |some ns=>if ns.contains n then ab (.int (ns.idxOf n)) else af
   |none=>af
 |_,_=>af
end
section
variable{X:Cx}{Xw:Nat->Hp->Prop}{a b e:Expr}{p:Pos}
def anyF(x:D):List D->Option Bool
 |[]=>some false
 |y::ys=>match mT 6 y x,anyF x ys with
  |some p,some q=>some (p||q)
  |_,_=>none
def wk(neg:Bool):D->D->M D
 |x, .lst ys=>match anyF x ys with
  |some r=>ab (.bl (if neg then !r else r))
  |none=>af
 |_,_=>af
def xG{pins:List (Addr×Obj)}{σ:St}{F H:Hp}{s:O0}{A:P_}{x:D}{v:V}{u:Value}(I:Inv X pins σ H s)(hs:Same F H)(hu:A.units+6<cLine)(hx:Den X.K F x v)(rx:RelV v u):
 ∀{ys:List D}{vs:List V}{aK:List Value}{r:Bool},anyF x ys=some r->DenL X.K F ys vs->Vals vs aK->∃f:List Bool,f.length=aK.length/\f.any id=r/\∀i (h:i<aK.length),EqAt A s aK[i] u (f.getD i false)
 |[],_,_,_,e,h,r=>by
  cases e
  cases (show _=_ from h)
  cases r
  exact⟨[],rfl,rfl,fun i h=>absurd h (Nat.not_lt_zero _)⟩
 |y::ys,_,_,_,e,⟨w,ws,h1,h2,h3⟩,r=>by
  subst h1
  unfold anyF at e
  split at e
  ·rename_i p q e1 e2
   cases e
   cases r with
   | @cons _ t _ ts r1 r2=>
     obtain⟨f,l1,l2,l3⟩:=xG I hs hu hx rx e2 h3 r2
     refine⟨p::f,by simp[l1],by simp[<-l2],fun i hi=>?_⟩
     cases i with
     |zero=>exact(rY I hs 6 A y x w v t u _ hu h2 hx r1 rx e1).eq
     |succ i=>exact l3 i (by simpa using hi)
  ·cases e
open Classical in
def Cw{pins:List (Addr×Obj)}{σ:St}{F H:Hp}{s:O0}{A:P_}{x:D}{v:V}{u:Value}(I:Inv X pins σ H s)(hs:Same F H)(hu:A.units+6<cLine)(hx:Den X.K F x v)(rx:RelV v u){ys:List D}{vs:List V}{aK:List Value}{r:Bool}(e:anyF x ys=some r)(hd:DenL X.K F ys vs)(rv:Vals vs aK):
 ∃g:Value->Bool,aK.toArray.any g=r/\∀t∈aK.toArray,EqAt A s t u (g t):=by
 obtain⟨f,l1,l2,l3⟩:=xG I hs hu hx rx e hd rv
 have key:∀w,decide (∃i,aK[i]? =some w/\f.getD i false=true)=true↔∃i,aK[i]? =some w/\f.getD i false=true:=fun w=>decide_eq_true_iff
 refine⟨fun w=>decide (∃i,aK[i]? =some w/\f.getD i false=true),?_,fun t ht=>?_⟩
 ·rw[<-l2,S0]
  simp only[List.any_toArray,SH,key]
  constructor
  ·rintro⟨w,_,i,e1,e2⟩
   have hi:i<f.length:=by rw[l1];exact(OZ.mp e1).1
   rw[Pu,OY hi] at e2
   exact⟨_,QS hi,e2⟩
  ·rintro⟨b,hb,e1⟩
   obtain⟨i,hi,rfl⟩:=Rq hb
   refine⟨aK[i]'(by omega),QS _,i,OY _,?_⟩
   rw[Pu,OY hi]
   exact e1
 ·have ht:t∈aK:=by simpa using ht
  by_cases h:∃i,aK[i]? =some t/\f.getD i false=true
  ·obtain⟨i,e1,e2⟩:=id h
   obtain⟨hi,e3⟩:=OZ.mp e1
   have:=l3 i hi
   rw[e2,e3] at this
   show EqAt A s t u (decide (∃i,aK[i]? =some t/\f.getD i false=true))
   rw[decide_eq_true h]
   exact this
  ·obtain⟨i,hi,rfl⟩:=Rq ht
   have:=l3 i hi
   have e2:f.getD i false=false:=by
    cases q:f.getD i false with
    |false=>rfl
    |true=>exact absurd ⟨i,OY hi,q⟩ h
   rw[e2] at this
   show EqAt A s aK[i] u (decide (∃j,aK[j]? =some aK[i]/\f.getD j false=true))
   rw[decide_eq_false h]
   exact this
def Jn(K:O2)(neg:Bool):R2:=fun x y H Q=>∃F dx ys vs p r,Same F H/\Den K F dx x/\anyF dx ys=some r/\DenL K F ys vs/\y= .ref p/\SqL K H p vs/\Q (.bl (if neg then !r else r)) H
def FV{neg:Bool}{K:O2}:tU K (Jn K neg) (wk neg):=fun Xw F H x y dx dy Q s hx hy w=>by
 unfold wk at w
 split at w
 ·rename_i ys
  split at w
  ·rename_i r e1
   obtain⟨p,vs,h1,h2,h3,_⟩:=hy
   exact⟨F,dx,ys,vs,p,r,s,hx,e1,h3,h1,SqL.of (s _ _ h2),WP.now w s rfl⟩
  ·exact w.elim
 ·exact w.elim
end
end L3
namespace L3
open PySem PySem.Spec L2 HT
open PyProof.Rows hiding St
section
end
end L3
namespace L3
open PySem PySem.Spec L2 SeqAt HT
open PyProof.Rows hiding St
section
variable{X:Cx}{pins:List (Addr×Obj)}{σ:St}{H:Hp}{s:O0}{a:Addr}{ax:List (Key×V)}{k:Key}{z:V}{u r:Value}{A:P_}{E:Value->O0->Prop}
def An{Q:Value->O0->Prop}(I:Inv X pins σ H s)(e:H a=some (.dK ax))(ry:RelV (kV k) u)(rz:RelV z r)(hl:ax.length<Pe)
 (h1:∀v w' s',eK ax k=some v->Inv X pins σ H s'->RelV v w'->Q w' s')
 (h2:∀s',eK ax k=none->Inv X pins σ (upd H a (.dK (putK ax k z))) s'->Q r s'):
 wpAny (model X.prog X.w) A (call (.builtin "dict.setdefault") [.ref a,u,r]) Q E s:=by
 obtain⟨zz,hd,vs,rel,dd⟩:=Ar I.hok e
 have hz:vs.length<=Pe:=by rw[<-rel.length];exact zz
 have Cr:(putK ax k z).length<=Pe:=by have:=dm ax k z;omega
 have rv:=rel.val k
 refine call_meetsIn Sx dd.typeIs PySem.F.entry_dict_setdefault (PySem.F.args_dict_setdefault_3 _ _ _) (kt_meets_setdefault (a9 X.prog X.w) a (md ry) hd r) ⟨vs,dd,hz,fun v hv=>?_,fun hn h' xP hs=>?_⟩
 ·cases q:eK ax k with
  |none=>rw[q] at rv;rw[RelO.none_of rv] at hv;cases hv
  |some v0=>
   rw[q] at rv
   obtain⟨w',hw,vT⟩:=RelO.some_of rv
   rw[hw] at hv
   cases hv
   exact h1 v0 _ _ q (I.tok _) vT
 ·cases q:eK ax k with
  |some v0=>rw[q] at rv;obtain⟨w',hw,_⟩:=RelO.some_of rv;rw[hw] at hn;cases hn
  |none=>
   have he:∃q,h'.get? a=some q:=let ⟨q,_,_,hq,_⟩:=xP;⟨q,hq⟩
   exact h2 _ q (jq I (by rw[e];exact Qu) hs he (wa Cr hd (rel.put k rz) xP))
end
section
variable{X:Cx}{o e f:Expr}{apos bc:Pos}{td ty tx:TE}
def E3(td ty tx:TE):TE:=fun σ H Q=>td σ H fun x H1=>∃a,x= .ref a/\Hv H1 a/\ty σ H1 fun y H2=>tx σ H2 fun z H3=>∃ax k,H3 a=some (.dK ax)/\y=kV k/\ax.length<Pe/\
 (∀v,eK ax k=some v->Q v H3)/\(eK ax k=none->Q z (upd H3 a (.dK (putK ax k z))))
def DQ(ho:PE X o td)(he:PE X e ty)(hf:PE X f tx)(m:M2 X o "setdefault" apos e f bc):PE X (.Call (.Attribute o "setdefault" apos) [e,f] [] bc) (E3 td ty tx):=by
 intro pins s σ H Q I h
 refine S2 m.base m.few m.line RK Sx PySem.F.type_dict_setdefault (b7 (ho pins s σ H _ I h) fun u s1 ⟨x,H1,I1,rx,a,ex,d,q1⟩=>?_)
 subst ex
 obtain rfl:u=PQ a:=rx
 obtain⟨t1,t2,_⟩:=wx I1 d
 refine⟨t1,t2,?_⟩
 rw[m.trees]
 refine Q6 rfl (Rj (QX (b7 (he pins s1 σ H1 _ I1 q1) fun iv s2 ⟨y,H2,I2,ry,q2⟩=>
  QX (b7 (hf pins s2 σ H2 _ I2 q2) fun fv s3 ⟨z,H3,I3,rz,ax,k,e1,ey,hl,g1,g2⟩=>RM ?_))))
 subst ey
 exact An I3 e1 ry rz hl (fun v w' s' q I4 r4=>⟨v,H3,I4,r4,g1 v q⟩) fun s' q I4=>⟨z,_,I4,rz,g2 q⟩
end
abbrev nE:=List (Key×List Key)
def pX(ks:List Key)(k:Key):Bool:=ks.any fun x=>decide (x=k)
def kA{ks:List Key}{k:Key}:pX ks k=true↔k∈ks:=by
 unfold pX
 rw[SH]
 exact⟨fun ⟨x,h1,h2⟩=>(of_decide_eq_true h2)▸h1,fun h=>⟨k,h,decide_eq_true rfl⟩⟩
def tu(ps:nE)(k:Key):nE:=if pX (ps.map (·.1)) k then ps else ps++[(k,[])]
def nG(ps:nE)(k j:Key):nE:=ps.map fun p=>if p.1=k then(p.1,if pX p.2 j then p.2 else p.2++[j]) else p
def tR(ps:nE):Bool:=decide (ps.length<lim)&&ps.all fun p=>decide (p.2.length<lim)
def inD(ks:List Key):D:= .dci ks (ks.map fun _=> .bl true)
def ra(ps:nE):D:= .dci (ps.map (·.1)) (ps.map fun p=>inD p.2)
def j1(oi:Nat)(tc:DT)(δk:DE)(k:Key)(Z:aP):List D->nE->M nE
 |[],ps=>ab ps
 |d::ds,ps=>noex (tc (Z.set oi (some (.fz d))))>>=fun b=>if b then noex (δk (Z.set oi (some (.fz d))))>>=fun kd=>match oB kd with
   |some j=>if tR ps then j1 oi tc δk k Z ds (nG ps k j) else af
   |none=>af
  else j1 oi tc δk k Z ds ps
def fK(ci oi:Nat)(δk:DE)(δj:DA)(tc:DT)(δk2:DE)(Z:aP):List D->nE->M nE
 |[],ps=>ab ps
 |d::ds,ps=>noex (δk (Z.set ci (some (.fz d))))>>=fun kd=>match oB kd with
   |some k=>if tR ps then noex (δj (Z.set ci (some (.fz d))))>>=fun es=>j1 oi tc δk2 k (Z.set ci (some (.fz d))) es (tu ps k)>>=fun iB=>fK ci oi δk δj tc δk2 Z ds iB else af
   |none=>af
def nJ(Z:aP):Bool:=Z.all fun x=>match x with | some (.ow _)=>false | _=>true
def vm(ni ci mi oi:Nat)(δi:DA)(δk:DE)(δj:DA)(tc:DT)(δk2:DE):DS:=fun Z=>match qg Z ni with
 |some (.dci [] [])=>if nJ (fgt [ni,ci,mi,oi] Z) then noex (δi (fgt [ni,ci,mi,oi] Z))>>=fun ds=>noex (fK ci oi δk δj tc δk2 (fgt [ni,ci,mi,oi] Z) ds [])>>=fun ps=>
   if tR ps then ab (.nx ((fgt [ni,ci,mi,oi] Z).set ni (some (.fz (ra ps))))) else af else af
 |_=>af
def Ext.of_chg{F₀ H₀ F H:Hp}{b:Addr}{o:HO}(e:Ext F₀ H₀ F H)(h1:F b=none)(h2:H₀ b=none):Ext F₀ H₀ F (upd H b o):=
 ⟨fun c u q=>by rw[aw (fun z=>by rw[z,h2] at q;cases q)];exact e.hh c u q,e.ff,fun c u q=>by rw[aw (fun z=>by rw[z,h1] at q;cases q)];exact e.fh c u q,e.new⟩
def StE.fzH{K:O2}{F H H':Hp}{σ:St}{Z:aP}(s:StE K F H σ Z)(h:nJ Z=true)(e:Same F H'):StE K F H' σ Z:=
 ⟨e,fun i sl q=>by
  obtain⟨v,h1,h2⟩:=s.den i sl q
  refine⟨v,h1,?_⟩
  cases sl with
  |fz d=>exact h2
  |ow c=>have:=Pl.mp h _ (Pj q);cases this⟩
def get_set{α:Type}{l:List (Option α)}{i j:Nat}{x:Option α}{y:α}(h:(l.set i x)[j]? =some (some y)):(j=i/\x=some y)\/(j≠i/\l[j]? =some (some y)):=by
 by_cases hj:j=i
 ·subst hj
  have hi:j<l.length:=by have:=(OZ.mp h).1;simpa using this
  rw[Pa hi] at h
  exact .inl ⟨rfl,Pg h⟩
 ·rw[O1 (PX hj)] at h
  exact .inr ⟨hj,h⟩
def lp{Z:aP}(h:nJ Z=true)(i:Nat){x:Option Sl}(hx:∀c,x≠some (.ow c)):nJ (Z.set i x)=true:=Pl.mpr fun y hy=>by
 rcases List.mem_or_eq_of_mem_set hy with q | q
 ·exact Pl.mp h y q
 ·subst q
  match y,hx with
  |none,_=>rfl
  |some (.fz d),_=>rfl
  |some (.ow c),hx=>exact absurd rfl (hx c)
structure Nr (K:O2) (F₀ H₀ G F H:Hp) (σ:St) (Z:aP) (ni:Nat) (a:Addr) (bs:List Addr) (ps:nE):Prop where
 ext:Ext F₀ H₀ F H
 gf:Same G F
 st:StE K F H σ Z
 len:Z.length=σ.length
 near:σ[ni]? =some (some (.ref a))
 ha:H a=some (.dK ((ps.map (·.1)).zip (bs.map V.ref)))
 hb:∀(i:Nat) (b:Addr) (p:Key×List Key),bs[i]? =some b->ps[i]? =some p->H b=some (.dK (p.2.map fun k=>(k,V.bl true)))
 sz:bs.length=ps.length
 nd:(a::bs).Nodup
 fr:∀b∈a::bs,F b=none/\H₀ b=none
 fz:nJ Z=true
section
variable{K:O2}{F₀ H₀ G G' F H F' H':Hp}{σ:St}{Z:aP}{ni:Nat}{a:Addr}{bs:List Addr}{ps:nE}
def Nr.at(n:Nr K F₀ H₀ G F H σ Z ni a bs ps){b:Addr}(hb:b∈a::bs):∃ax,H b=some (.dK ax):=by
 rcases O6.mp hb with rfl | hb
 ·exact⟨_,n.ha⟩
 ·obtain⟨i,hi,rfl⟩:=Rq hb
  exact⟨_,n.hb i _ (ps[i]'(by rw[<-n.sz];exact hi)) (OY hi) (OY _)⟩
def Nr.ext'(n:Nr K F₀ H₀ G F H σ Z ni a bs ps)(e:Ext F H F' H'):Nr K F₀ H₀ G F' H' σ Z ni a bs ps:=
 ⟨n.ext.trans e,n.gf.trans e.ff,n.st.ext e,n.len,n.near,e.hh _ _ n.ha,fun i b p h1 h2=>e.hh _ _ (n.hb i b p h1 h2),n.sz,n.nd,fun b hb=>by
  obtain⟨ax,hk⟩:=n.at hb
  exact⟨by rw[e.old hk fun ts z=>nomatch z];exact(n.fr b hb).1,(n.fr b hb).2⟩,n.fz⟩
def Nr.rg(n:Nr K F₀ H₀ G F H σ Z ni a bs ps)(e:Same G' F):Nr K F₀ H₀ G' F H σ Z ni a bs ps:=⟨n.ext,e,n.st,n.len,n.near,n.ha,n.hb,n.sz,n.nd,n.fr,n.fz⟩
def Nr.put(n:Nr K F₀ H₀ G F H σ Z ni a bs ps){j:Nat}(hj:j≠ni){d:D}{v:V}(h:Den K F d v):Nr K F₀ H₀ G F H (σ.set j (some v)) (Z.set j (some (.fz d))) ni a bs ps:=
 ⟨n.ext,n.gf,⟨n.st.fh,fun i sl q=>by
  rcases get_set q with⟨rfl,e⟩ | ⟨gX,q⟩
  ·cases e
   have hi:i<Z.length:=by have:=(OZ.mp q).1;simpa using this
   exact⟨v,by rw[Pa (by rw[<-n.len];exact hi)],h⟩
  ·obtain⟨u,h1,h2⟩:=n.st.den i sl q
   exact⟨u,by rw[O1 (PX gX)];exact h1,h2⟩⟩,by simp[n.len],by rw[O1 hj];exact n.near,n.ha,n.hb,n.sz,n.nd,n.fr,lp n.fz _ (fun c z=>nomatch z)⟩
def Nr.put0(n:Nr K F₀ H₀ G F H σ Z ni a bs ps){j:Nat}(hj:j≠ni)(v:V):Nr K F₀ H₀ G F H (σ.set j (some v)) (Z.set j none) ni a bs ps:=
 ⟨n.ext,n.gf,⟨n.st.fh,fun i sl q=>by
  rcases get_set q with⟨rfl,e⟩ | ⟨gX,q⟩
  ·cases e
  ·obtain⟨u,h1,h2⟩:=n.st.den i sl q
   exact⟨u,by rw[O1 (PX gX)];exact h1,h2⟩⟩,by simp[n.len],by rw[O1 hj];exact n.near,n.ha,n.hb,n.sz,n.nd,n.fr,lp n.fz _ (fun c z=>nomatch z)⟩
def Nr.fgt0(n:Nr K F₀ H₀ G F H σ Z ni a bs ps)(j:Nat):Nr K F₀ H₀ G F H σ (Z.set j none) ni a bs ps:=
 ⟨n.ext,n.gf,⟨n.st.fh,fun i sl q=>by
  rcases get_set q with⟨rfl,e⟩ | ⟨gX,q⟩
  ·cases e
  ·exact n.st.den i sl q⟩,by simp[n.len],n.near,n.ha,n.hb,n.sz,n.nd,n.fr,lp n.fz _ (fun c z=>nomatch z)⟩
def sj{α β:Type}{l:List α}{i:Nat}{f:α->β}{y:β}(h:(l.map f)[i]? =some y):∃x,l[i]? =some x/\f x=y:=by
 rw[O_] at h
 exact Th.mp h
def zF(ks:List Key)(j:Key):putK (ks.map fun k=>(k,V.bl true)) j (V.bl true)=(if pX ks j then ks else ks++[j]).map fun k=>(k,V.bl true):=by
 unfold putK
 have e:((ks.map fun k=>(k,V.bl true)).any fun kv=>decide (kv.1=j))=pX ks j:=by
  rw[S0,SH,kA]
  constructor
  ·rintro⟨kv,h1,h2⟩
   obtain⟨k,hk,rfl⟩:=Pd.mp h1
   exact(of_decide_eq_true h2:k=j)▸hk
  ·exact fun h=>⟨(j,V.bl true),Pd.mpr ⟨j,h,rfl⟩,by simp⟩
 rw[e]
 by_cases hj:pX ks j=true
 ·rw[if_pos hj,if_pos hj,PH]
  refine Qn fun k _=>?_
  show (if k=j then(k,V.bl true) else(k,V.bl true))=_
  split<;>rfl
 ·rw[if_neg hj,if_neg hj,Pz];rfl
def tW(ps:nE)(k j:Key):(nG ps k j).map (·.1)=ps.map (·.1):=by
 unfold nG
 rw[PH]
 refine Qn fun p _=>?_
 show (if p.1=k then(p.1,_) else p).1=p.1
 split<;>rfl
def Nr.add(n:Nr K F₀ H₀ G F H σ Z ni a bs ps)(kn:(ps.map (·.1)).Nodup){i:Nat}{b:Addr}{p:Key×List Key}(hi:bs[i]? =some b)(hp:ps[i]? =some p)(j:Key):
 Nr K F₀ H₀ G F (upd H b (.dK (putK (p.2.map fun k=>(k,V.bl true)) j (V.bl true)))) σ Z ni a bs (nG ps p.1 j):=by
 have hm:b∈a::bs:=OU _ (Pj hi)
 have gX:a≠b:=fun z=>(P1.mp n.nd).1 (z▸Pj hi)
 have e:=n.ext.of_chg (o:= .dK (putK (p.2.map fun k=>(k,V.bl true)) j (V.bl true))) (n.fr b hm).1 (n.fr b hm).2
 refine⟨e,n.gf,n.st.fzH n.fz e.fh,n.len,n.near,?_,fun i' b' p' h1 h2=>?_,by rw[n.sz];simp[nG],n.nd,n.fr,n.fz⟩
 ·rw[aw gX,tW];exact n.ha
 ·obtain⟨q,hq,rfl⟩:=sj (show (ps.map _)[i']? =_ from h2)
  by_cases Ky:i'=i
  ·subst Ky
   rw[hi] at h1
   cases h1
   rw[hp] at hq
   cases hq
   rw[aD,if_pos rfl,zF]
  ·have Kr:b'≠b:=fun z=>by
    subst z
    exact Ky ((Sy (OZ.mp h1).1 (P1.mp n.nd).2).mp (h1.trans hi.symm))
   have NX:q.1≠p.1:=fun z=>by
    exact Ky ((Sy (by simpa using (OZ.mp hq).1) kn).mp (by rw[O_,O_,hq,hp];exact congrArg some z))
   rw[aw Kr,if_neg NX]
   exact n.hb i' b' q h1 hq
def pK{κ:Type}[DecidableEq κ]:∀{ks:List κ}{vs:List V}(k:κ),ks.length=vs.length->
 (match eK (ks.zip vs) k with | some v=>∃i:Nat,ks[i]? =some k/\vs[i]? =some v | none=>k∉ks)
 |[],[],k,_=>by simp[eK]
 |k'::ks,v::vs,k,hl=>by
  rw[Qs]
  by_cases e:k'=k
  ·rw[jk (p:=(k',v)) e]
   exact⟨0,by simp[e],rfl⟩
  ·rw[jj (p:=(k',v)) e]
   have:=pK (ks:=ks) (vs:=vs) k (by simpa using hl)
   cases q:eK (ks.zip vs) k with
   |none=>rw[q] at this;exact fun z=>(O6.mp z).elim (fun z=>e z.symm) this
   |some u=>rw[q] at this;obtain⟨i,h1,h2⟩:=this;exact⟨i+1,by simpa using h1,by simpa using h2⟩
 |[],_::_,_,hl=>by simp at hl
 |_::_,[],_,hl=>by simp at hl
def vc{κ:Type}[DecidableEq κ]{ax:List (κ×V)}{k:κ}{v:V}(h:eK ax k=none):putK ax k v=ax++[(k,v)]:=by
 unfold putK
 rw[ji,h]
 rfl
def Nr.new(n:Nr K F₀ H₀ G F H σ Z ni a bs ps){p:Addr}(hp:H p=none){k:Key}(hk:eK ((ps.map (·.1)).zip (bs.map V.ref)) k=none):
 Nr K F₀ H₀ G F (upd (upd H p (.dK [])) a (.dK (putK ((ps.map (·.1)).zip (bs.map V.ref)) k (.ref p)))) σ Z ni a (bs++[p]) (ps++[(k,[])]):=by
 have gX:∀b∈a::bs,b≠p:=fun b hb z=>by
  obtain⟨ax,h⟩:=n.at hb
  rw[z,hp] at h
  cases h
 have ha:=gX a OV
 have e0:=n.ext.trans (Ext.free (o:= .dK []) n.st.fh hp)
 have hF:F p=none:=Same.free n.st.fh hp
 have hH:H₀ p=none:=Same.free n.ext.hh hp
 have e:=e0.of_chg (o:= .dK (putK ((ps.map (·.1)).zip (bs.map V.ref)) k (.ref p))) (n.fr a OV).1 (n.fr a OV).2
 have nd:=P1.mp n.nd
 refine⟨e,n.gf,n.st.fzH n.fz e.fh,n.len,n.near,?_,fun i b q h1 h2=>?_,by simp[n.sz],?_,fun b hb=>?_,n.fz⟩
 ·rw[aD,vc hk,Pz,Pz,R1 (by simp[n.sz])]
  rfl
 ·by_cases hi:i<bs.length
  ·rw[PJ hi] at h1
   rw[PJ (by rw[<-n.sz];exact hi)] at h2
   have hm:=Pj h1
   rw[aw (fun z:b=a=>nd.1 (z▸hm)),aw (gX b (OU _ hm))]
   exact n.hb i b q h1 h2
  ·have Ih:i=bs.length:=by
    have:=(OZ.mp h1).1
    simp at this
    omega
   subst Ih
   rw[QG] at h1
   cases h1
   rw[n.sz,QG] at h2
   cases h2
   rw[aw (PX ha),aD]
   rfl
 ·rw[P1,Pq]
  refine⟨fun z=>z.elim nd.1 fun z=>ha (Pp.mp z),?_⟩
  rw[P4]
  exact⟨nd.2,by simp,fun x hx y hy z=>gX x (OU _ hx) (by rw[z];exact Pp.mp hy)⟩
 ·rcases O6.mp hb with rfl | hb
  ·exact n.fr _ OV
  ·rcases Pq.mp hb with hb | hb
   ·exact n.fr b (OU _ hb)
   ·cases Pp.mp hb;exact⟨hF,hH⟩
def Nr.gar(n:Nr K F₀ H₀ G F H σ Z ni a bs ps){p:Addr}(hp:H p=none):Nr K F₀ H₀ G F (upd H p (.dK [])) σ Z ni a bs ps:=n.ext' (Ext.free n.st.fh hp)
end
def rh{X:Cx}{pins:List (Addr×Obj)}{σ:St}{s:O0}:∀{bs:List Addr}{H:Hp},Inv X pins σ H s->bs.Nodup->(∀b∈bs,∃ax,H b=some (.dK ax))->
 ∃H',Inv X pins σ H' s/\(∀b∈bs,∀ax,H b=some (.dK ax)->∃ob,H' b=some (.frz ob (.dK ax)))/\∀c,c∉bs->H' c=H c
 |[],H,I,_,_=>⟨H,I,fun b hb=>(nomatch hb),fun _ _=>rfl⟩
 |b::bs,H,I,nd,h=>by
  obtain⟨ax,e⟩:=h b OV
  have nd:=P1.mp nd
  obtain⟨H',I',h1,h2⟩:=rh (bs:=bs) (L3.Inv.refrz I e (o':= .frz _ (.dK ax)) (.inr ⟨_,rfl, .inr ⟨_,rfl,rfl⟩⟩)) nd.2 fun c hc=>by
   rw[aw (fun z:c=b=>nd.1 (z▸hc))]
   exact h c (OU _ hc)
  refine⟨H',I',fun c hc IS e'=>?_,fun c hc=>?_⟩
  ·rcases O6.mp hc with rfl | hc
   ·rw[e] at e'
    cases e'
    exact⟨_,by rw[h2 _ nd.1,aD]⟩
   ·exact h1 c hc IS (by rw[aw (fun z:c=b=>nd.1 (z▸hc))];exact e')
  ·rw[h2 c fun z=>hc (OU _ z),aw fun z:c=b=>hc (z▸OV)]
def Ci(ks:List Key):ks.map (fun k=>(k,V.bl true))=ks.zip (ks.map fun _=>V.bl true):=by
 induction ks with
 |nil=>rfl
 |cons k ks ih=>rw[O3,O3,Qs,ih]
def DenL.trues{K:O2}{F:Hp}:∀(ks:List Key),DenL K F (ks.map fun _=>D.bl true) (ks.map fun _=>V.bl true)
 |[]=>rfl
 |_::ks=> .cons rfl (DenL.trues ks)
def DenL.ins{K:O2}{F:Hp}:∀{ps:nE}{bs:List Addr},bs.length=ps.length->(∀(i:Nat) (b:Addr) (p:Key×List Key),bs[i]? =some b->ps[i]? =some p->Den K F (inD p.2) (.ref b))->DenL K F (ps.map fun p=>inD p.2) (bs.map V.ref)
 |[],[],_,_=>rfl
 |p::ps,b::bs,hl,h=> .cons (h 0 b p rfl rfl) (DenL.ins (by simpa using hl) fun i b' p' h1 h2=>h (i+1) b' p' (by simpa using h1) (by simpa using h2))
 |[],_::_,hl,_=>by simp at hl
 |_::_,[],hl,_=>by simp at hl
def Nr.fin{X:Cx}{pins:List (Addr×Obj)}{s:O0}{F₀ H₀ G F H:Hp}{σ:St}{Z:aP}{ni:Nat}{a:Addr}{bs:List Addr}{ps:nE}(n:Nr X.K F₀ H₀ G F H σ Z ni a bs ps)(I:Inv X pins σ H s)(ok:tR ps=true):
 ∃F' H',Inv X pins σ H' s/\StOk X.K F₀ H₀ F' H' σ (Z.set ni (some (.fz (ra ps)))):=by
 obtain⟨MA,Ov⟩:=Qt.mp ok
 have MA:=of_decide_eq_true MA
 obtain⟨H',I',h1,h2⟩:=rh I n.nd fun b hb=>n.at hb
 let F':Hp:=fun c=>if c∈a::bs then H' c else F c
 have f1:∀c,c∈a::bs->F' c=H' c:=fun c hc=>if_pos hc
 have f2:∀c,c∉a::bs->F' c=F c:=fun c hc=>if_neg hc
 have ff:Same F F':=fun c u q=>by rw[f2 c fun z=>by rw[(n.fr c z).1] at q;cases q];exact q
 have fh:Same F' H':=fun c u q=>by
  by_cases z:c∈a::bs
  ·rw[f1 c z] at q;exact q
  ·rw[f2 c z] at q;rw[h2 c z];exact n.st.fh c u q
 have e:Ext F₀ H₀ F' H':=⟨fun c u q=>by rw[h2 c fun z=>by rw[(n.fr c z).2] at q;cases q];exact n.ext.hh c u q,n.ext.ff.trans ff,fh,fun c hc=>by
  have z:c∉a::bs:=fun z=>hc (n.fr c z).2
  rw[f2 c z]
  exact n.ext.new c hc⟩
 have hd:Den X.K F' (ra ps) (.ref a):=by
  obtain⟨ob,FQ⟩:=h1 a OV _ n.ha
  refine⟨a,ob,bs.map V.ref,rfl,by rw[f1 a OV];exact FQ,DenL.ins n.sz fun i b p q1 q2=>?_,by simp,by simp;omega⟩
  have hm:b∈a::bs:=OU _ (Pj q1)
  obtain⟨Ou,KR⟩:=h1 b hm _ (n.hb i b p q1 q2)
  have:=of_decide_eq_true (Pl.mp Ov p (Pj q2))
  exact⟨b,Ou,p.2.map fun _=>V.bl true,rfl,by rw[f1 b hm,KR,Ci],DenL.trues _,by simp,by simp;omega⟩
 have IX:∀(i:Nat) (c:C),(Z.set ni (some (.fz (ra ps))))[i]? ≠some (some (.ow c)):=fun i c q=>by
  rcases get_set q with⟨_,z⟩ | ⟨_,q⟩
  ·cases z
  ·have:=Pl.mp n.fz _ (Pj q)
   cases this
 refine⟨F',H',I',e,⟨fh,fun i sl q=>?_⟩,by simp[n.len],fun i c b q=>absurd q (IX i c),fun i j c c' b q=>absurd q (IX i c)⟩
 rcases get_set q with⟨rfl,z⟩ | ⟨_,q⟩
 ·cases z
  exact⟨.ref a,n.near,hd⟩
 ·obtain⟨v,q1,q2⟩:=n.st.den i sl q
  refine⟨v,q1,?_⟩
  cases sl with
  |fz d=>exact Den.mono ff q2
  |ow c=>have:=Pl.mp n.fz _ (Pj q);cases this
def xk{ps:nE}{k:Key}(h:k∈ps.map (·.1)):tu ps k=ps:=by
 unfold tu;rw[if_pos (kA.mpr h)]
def B3{ps:nE}{k:Key}(h:k∉ps.map (·.1)):tu ps k=ps++[(k,[])]:=by
 unfold tu;rw[if_neg (fun z=>h (kA.mp z))]
def B1{Z:aP}{j:Nat}(h:∀sl,Z[j]? ≠some (some sl)):Z.set j none=Z:=by
 refine Ue fun i=>?_
 by_cases hi:i=j
 ·subst hi
  by_cases hl:i<Z.length
  ·rw[Pa hl]
   cases q:Z[i]? with
   |none=>rw[RB] at q;omega
   |some x=>
    cases x with
    |none=>rfl
    |some sl=>exact absurd q (h sl)
  ·rw[RB.mpr (by simp;omega),RB.mpr (by omega)]
 ·rw[O1 (PX hi)]
def xQ{α:Type}{l:List α}{i:Nat}{d:α}(hd:l[i]? =some d):l.drop i=d::l.drop (i+1):=by
 obtain⟨hi,e⟩:=OZ.mp hd
 rw[RC hi,e]
def Gk{ps:nE}{i:Nat}{p:Key×List Key}(ok:tR ps=true)(h:ps[i]? =some p):p.2.length<lim:=of_decide_eq_true (Pl.mp (Qt.mp ok).2 p (Pj h))
def Dm{ps:nE}(ok:tR ps=true):ps.length<lim:=of_decide_eq_true (Qt.mp ok).1
section
variable{X:Cx}{Xw:Nat->Hp->Prop}{D':Ends}{tc:DT}{δk δk2:DE}{δj:DA}{F₀ H₀ G:Hp}{Z:aP}{ni ci mi oi:Nat}{a b:Addr}{bs:List Addr}{yx ps:nE}{J:It}{es ds:List D}{σ:St}{F H:Hp}
abbrev JE(X:Cx)(Xw:Nat->Hp->Prop)(tc:DT)(mi:Nat)(δk:DE):TS:=JC (J4 X.K Xw tc) (EZ (kg mi) (tD X.K Xw δk) (tC (.bl true))) E4
def yk{i:Nat}{k:Key}(g7:oi≠ni)(JU:oi≠mi)(Na:Z.set oi none=Z)(hi:bs[i]? =some b)(it:ItD X.K G J es)
 (fin:∀σ F H,Nr X.K F₀ H₀ G F H σ Z ni a bs yx->(yx.map (·.1)).Nodup->D'.nx σ H)
 (n:Nr X.K F₀ H₀ G F H σ Z ni a bs ps)(kn:(ps.map (·.1)).Nodup)(hm:σ[mi]? =some (some (.ref b)))(hk:∃p,ps[i]? =some p/\p.1=k)(w:j1 oi tc δk k Z es ps=ab yx):
 ∃W:Nat->Nat->St->Hp->Prop,(∃m,W 0 m σ H)/\∀i m σ H,W i m σ H->(J.stop i H/\D'.nx σ H)\/(J.go i H/\∃N:St->Hp->Prop,(∀σ' H',N σ' H'->∃m',m'<m/\W (i+1) m' σ' H')/\∀x H',J.yld i H x H'->jF oi x σ H' fun σ2 H2=>JE X Xw tc mi δk {D' with nx:=N,ct:=N,bk:=D'.nx} σ2 H2):=by
 refine⟨fun t m σ H=>m=es.length - t/\t<=es.length/\∃F ps,Nr X.K F₀ H₀ G F H σ Z ni a bs ps/\(ps.map (·.1)).Nodup/\σ[mi]? =some (some (.ref b))/\(∃p,ps[i]? =some p/\p.1=k)/\j1 oi tc δk k Z (es.drop t) ps=ab yx,⟨es.length,by simp,PB _,F,ps,n,kn,hm,hk,by simpa using w⟩,?_⟩
 rintro t m σ2 H2 ⟨rfl,N2,F2,z4,n2,Gg,FL,JP,w2⟩
 by_cases iI:t<es.length
 ·obtain⟨d,hd⟩:∃d,es[t]? =some d:=⟨_,OY iI⟩
  obtain⟨FG,wu⟩:=(it F2 H2 t n2.gf n2.st.fh).1 d hd
  rw[xQ hd] at w2
  unfold j1 at w2
  obtain⟨bv,hb,w3⟩:=c_ w2
  have hb:=nq hb
  refine .inr ⟨FG,fun σ' H'=>∃F' iB,Nr X.K F₀ H₀ G F' H' σ' Z ni a bs iB/\(iB.map (·.1)).Nodup/\σ'[mi]? =some (some (.ref b))/\(∃p,iB[i]? =some p/\p.1=k)/\j1 oi tc δk k Z (es.drop (t+1)) iB=ab yx,
   fun σ' H' ⟨F',iB,h⟩=>⟨es.length - (t+1),by omega,rfl,iI,F',iB,h⟩,fun x H3 y3=>?_⟩
  obtain⟨F3,xT,q3⟩:=wu x H3 y3
  have n4:=(n2.ext' xT).put g7 q3
  have KN:(σ2.set oi (some x))[mi]? =some (some (.ref b)):=by rw[O1 JU];exact FL
  have back:∀{σ':St}{F' H':Hp}{iB:nE},Nr X.K F₀ H₀ G F' H' σ' (Z.set oi (some (.fz d))) ni a bs iB->Nr X.K F₀ H₀ G F' H' σ' Z ni a bs iB:=fun {σ' F' H' iB} n=>by
   have:=n.fgt0 oi
   rw[List.set_set,Na] at this
   exact this
  refine⟨F3,Z.set oi (some (.fz d)),n4.st,?_⟩
  rw[hb]
  intro H5 F5 e5
  have n5:=n4.ext' e5
  cases bv with
  |false=>exact⟨F5,z4,back n5,Gg,KN,JP,w3⟩
  |true=>
   obtain⟨kd,CY,w4⟩:=c_ (show (noex (δk (Z.set oi (some (.fz d))))>>=_)=ab yx from w3)
   have CY:=nq CY
   refine⟨.ref b,KN,F5,Z.set oi (some (.fz d)),n5.st,?_⟩
   rw[CY]
   intro v H6 F6 e6 q6
   cases hj:oB kd with
   |none=>rw[hj] at w4;exact(dO w4).elim
   |some j=>
    rw[hj] at w4
    have w4:(if tR z4 then j1 oi tc δk k Z (es.drop (t+1)) (nG z4 k j) else af)=ab yx:=w4
    split at w4
    ·rename_i ok
     obtain⟨p,hp,rfl⟩:=JP
     have n6:=n5.ext' e6
     have e1:=gD hj q6
     subst e1
     have hl:=Gk ok hp
     have:=dg
     refine⟨b,_,rfl,DPut.k (n6.hb i b p hi hp) (by rw[OW];omega),F6,nG z4 p.1 j,back (n6.add Gg hi hp j),by rw[tW];exact Gg,KN,?_,w4⟩
     refine⟨(if p.1=p.1 then(p.1,if pX p.2 j then p.2 else p.2++[j]) else p),?_,by rw[if_pos rfl]⟩
     unfold nG
     rw[O_,hp]
     rfl
    ·exact(dO w4).elim
 ·have ht:t=es.length:=by omega
  subst ht
  rw[RU] at w2
  have:=er (show ab z4=ab yx from w2)
  subst this
  exact .inl ⟨(it F2 H2 es.length n2.gf n2.st.fh).2 (O9 _),fin σ2 F2 H2 n2 Gg⟩
abbrev Lw(X:Cx)(Xw:Nat->Hp->Prop)(tc:DT)(ni mi oi:Nat)(δk:DE)(δj:DA)(δk2:DE):TS:=JG (Jy (E3 (kg ni) (tD X.K Xw δk) Ca) (jF mi)) (JB (MH X.K Xw δj) (jF oi) (JE X Xw tc mi δk2))
def A9(Ni:ci≠ni)(KO:mi≠ni)(g7:oi≠ni)(Nh:ci≠mi)(L8:ci≠oi)(JU:oi≠mi)(Zc:Z.set ci none=Z)(Zm:Z.set mi none=Z)(Zo:Z.set oi none=Z)(JQ:mi<Z.length)(it:ItD X.K G J ds)
 (fin:∀σ F H bs,Nr X.K F₀ H₀ G F H σ Z ni a bs yx->D'.nx σ H)
 (n:Nr X.K F₀ H₀ G F H σ Z ni a bs ps)(kn:(ps.map (·.1)).Nodup)(w:fK ci oi δk δj tc δk2 Z ds ps=ab yx):
 ∃W:Nat->Nat->St->Hp->Prop,(∃m,W 0 m σ H)/\∀i m σ H,W i m σ H->(J.stop i H/\D'.nx σ H)\/(J.go i H/\∃N:St->Hp->Prop,(∀σ' H',N σ' H'->∃m',m'<m/\W (i+1) m' σ' H')/\∀x H',J.yld i H x H'->jF ci x σ H' fun σ2 H2=>Lw X Xw tc ni mi oi δk δj δk2 {D' with nx:=N,ct:=N,bk:=D'.nx} σ2 H2):=by
 refine⟨fun t m σ H=>m=ds.length - t/\t<=ds.length/\∃F ps bs,Nr X.K F₀ H₀ G F H σ Z ni a bs ps/\(ps.map (·.1)).Nodup/\fK ci oi δk δj tc δk2 Z (ds.drop t) ps=ab yx,⟨ds.length,by simp,PB _,F,ps,bs,n,kn,by simpa using w⟩,?_⟩
 rintro t m σ2 H2 ⟨rfl,N2,F2,z4,HB,n2,Gg,w2⟩
 by_cases iI:t<ds.length
 ·obtain⟨d,hd⟩:∃d,ds[t]? =some d:=⟨_,OY iI⟩
  obtain⟨FG,wu⟩:=(it F2 H2 t n2.gf n2.st.fh).1 d hd
  rw[xQ hd] at w2
  unfold fK at w2
  obtain⟨kd,CY,w3⟩:=c_ w2
  have CY:=nq CY
  cases hj:oB kd with
  |none=>rw[hj] at w3;exact(dO w3).elim
  |some k=>
  rw[hj] at w3
  have w3:(if tR z4 then noex (δj (Z.set ci (some (.fz d))))>>=fun es=>j1 oi tc δk2 k (Z.set ci (some (.fz d))) es (tu z4 k)>>=fun iB=>fK ci oi δk δj tc δk2 Z (ds.drop (t+1)) iB else af)=ab yx:=w3
  by_cases ok:tR z4=true
  ·rw[if_pos ok] at w3
   obtain⟨es,FE,w4⟩:=c_ w3
   have FE:=nq FE
   obtain⟨MB,h3,w5⟩:=c_ w4
   refine .inr ⟨FG,fun σ' H'=>∃F' iB Fg,Nr X.K F₀ H₀ G F' H' σ' Z ni a Fg iB/\(iB.map (·.1)).Nodup/\fK ci oi δk δj tc δk2 Z (ds.drop (t+1)) iB=ab yx,
    fun σ' H' ⟨F',iB,Fg,h⟩=>⟨ds.length - (t+1),by omega,rfl,iI,F',iB,Fg,h⟩,fun x H3 y3=>?_⟩
   obtain⟨F3,xT,q3⟩:=wu x H3 y3
   have n4:=(n2.ext' xT).put Ni q3
   generalize HW:Z.set ci (some (.fz d))=Z1 at*
   have Z1m:Z1.set mi none=Z1:=by rw[<-HW,List.set_comm _ _ Nh,Zm]
   have Z1o:Z1.set oi none=Z1:=by rw[<-HW,List.set_comm _ _ L8,Zo]
   have back:∀{σ':St}{G' F' H':Hp}{Fg:List Addr}{iB:nE},Nr X.K F₀ H₀ G' F' H' σ' Z1 ni a Fg iB->Nr X.K F₀ H₀ G' F' H' σ' Z ni a Fg iB:=fun {σ' G' F' H' Fg iB} n=>by
    have:=n.fgt0 ci
    rw[<-HW,List.set_set,Zc] at this
    exact this
   refine⟨.ref a,n4.near,a,rfl, .inl ⟨_, .inl n4.ha⟩,F3,Z1,n4.st,?_⟩
   rw[CY]
   intro v H5 F5 e5 q5
   have e1:=gD hj q5
   subst e1
   have n5:=n4.ext' e5
   intro p hp
   have hsz:=Dm ok
   have FJ:=dg
   refine⟨_,k,(n5.gar hp).ha,rfl,by rw[R3,OW,OW,n5.sz,Nat.min_self];omega,fun v hv=>?_,fun hn=>?_⟩
   ·have hz:=pK (ks:=z4.map (·.1)) (vs:=HB.map V.ref) k (by simp[n5.sz])
    rw[hv] at hz
    obtain⟨i,z1,z2⟩:=hz
    obtain⟨pr,NV,NU⟩:=sj z1
    obtain⟨b,hb,rfl⟩:=sj z2
    rw[xk (Pj z1)] at h3
    have n7:=(n5.gar hp).put0 KO (.ref b)
    rw[Z1m] at n7
    refine⟨F5,Z1,n7.st,?_⟩
    rw[FE]
    intro J' H8 F8 e8 K_
    have n8:=(n7.ext' e8).rg (Same.refl _)
    have hG:Same G F8:=(n7.ext' e8).gf
    exact yk g7 JU Z1o hb K_ (fun σ' F' H' n' Lb=>⟨F',MB,HB,back (n'.rg (hG.trans n'.gf)),Lb,w5⟩) n8 Gg (Pa (by rw[<-n4.len,<-HW];simpa using JQ)) ⟨pr,NV,NU⟩ h3
   ·have hz:=pK (ks:=z4.map (·.1)) (vs:=HB.map V.ref) k (by simp[n5.sz])
    rw[hn] at hz
    rw[B3 hz] at h3
    have n7:=(n5.new hp hn).put0 KO (.ref p)
    rw[Z1m] at n7
    refine⟨F5,Z1,n7.st,?_⟩
    rw[FE]
    intro J' H8 F8 e8 K_
    have n8:=(n7.ext' e8).rg (Same.refl _)
    have hG:Same G F8:=(n7.ext' e8).gf
    refine yk (i:=HB.length) g7 JU Z1o QG K_ (fun σ' F' H' n' Lb=>⟨F',MB,_,back (n'.rg (hG.trans n'.gf)),Lb,w5⟩) n8 ?_ (Pa (by rw[<-n4.len,<-HW];simpa using JQ)) ⟨(k,[]),by rw[n5.sz];exact QG,rfl⟩ h3
    rw[Pz,P4]
    exact⟨Gg,by simp,fun x hx y hy z=>hz (by rw[z] at hx;cases Pp.mp hy;exact hx)⟩
  ·rw[if_neg ok] at w3;exact(dO w3).elim
 ·have ht:t=ds.length:=by omega
  subst ht
  rw[RU] at w2
  have:=er (show ab z4=ab yx from w2)
  subst this
  exact .inl ⟨(it F2 H2 ds.length n2.gf n2.st.fh).2 (O9 _),fin σ2 F2 H2 HB n2⟩
def BH{δi:DA}{Lz LA iter AZ k1 k2 test:Expr}{x y:Str}{p q q2 apos As bc p1 p2 p3 p4 p5 p6 p7:Pos}{j0:Nat}(hp:Tv (model X.prog X.w) X.A X.env X.xe)(hc:X.calm=true)(hu:X.A.units+64<cLine)
 (hi:vN X Xw Lz iter δi)(Nq:PG X Lz (jF ci))(hv:PE X (.Name x p) (kg ni))(hk:PD X Xw k1 δk)(m:M2 X (.Name x p) "setdefault" apos k1 (.Dict [] [] As) bc)(Nv:PG X (.Name y q) (jF mi))
 (hj:vN X Xw LA AZ δj)(Nt:PG X LA (jF oi))(ht:lj X Xw test tc)(N_:PE X (.Name y q2) (kg mi))(JP:PD X Xw k2 δk2)
 (JQ:X.N[mi]? =some y:=by rfl)
 (gX:[ni,ci,mi,oi].Nodup:=by decide)
 (hs:∀x,QP iter X.env x=pure x:=by intro _;rfl)(Hq:∀x,QP AZ X.env x=pure x:=by intro _;rfl)
 (Ob:SI [.Name y q] (.Call (.Attribute (.Name x p) "setdefault" apos) [k1, .Dict [] [] As] [] bc) p1.line X.env=pure false:=by rfl)
 (Oc:swappedStores [.Name y q] (.Call (.Attribute (.Name x p) "setdefault" apos) [k1, .Dict [] [] As] [] bc) X.env=pure none:=by rfl)
 (Od:(RZ [.Name y q] X.env).map (·.2)=[assign (.Name y q) X.env]:=by rfl)
 (Oe:RF (.Constant (.bool true) j0 p3) (some (.Subscript (.Name y q2) k2 p2)) p4.line X.env=pure false:=by rfl):
 ki X Xw (.For Lz iter [.Assign [.Name y q] (.Call (.Attribute (.Name x p) "setdefault" apos) [k1, .Dict [] [] As] [] bc) p1,
  .For LA AZ [.If test [.Assign [.Subscript (.Name y q2) k2 p2] (.Constant (.bool true) j0 p3) p4] [] p5] [] p6] [] p7) (vm ni ci mi oi δi δk δj tc δk2):=fun F₀ H₀ pins sh σ H D I ⟨F,Z,s,w⟩=>by
 have NW:=xb (pos:=p7) hp hc hi Nq (va (lN (pos:=p1) (DQ hv hk (u7 (pos:=As)) m) Nv Ob Oc Od) (nv (xb (pos:=p6) hp hc hj Nt (nv (EW (pos:=p5) ht (nv (yy (by omega) N_ JP (EU (b:=true) (j:=j0) (pos:=p3)) Oe)) yz)) Hq))) hs
 have Ir:=gX
 simp only[P1,O6,List.not_mem_nil,or_false,not_or] at Ir
 obtain⟨⟨n1,n2,n3⟩,⟨n4,n5⟩,n6,_⟩:=Ir
 unfold vm at w
 split at w
 ·rename_i ho
  have FR:=lJ ho
  obtain⟨u,L4,a,o,rfl,Nb,Nc,vs,rfl,Oa,_,_⟩:=s.st.den ni _ FR
  cases (show vs=[] from Oa)
  have h0:=s.own ni _ a FR L4
  have s0:=s.fgt [ni,ci,mi,oi]
  have hlen:(fgt [ni,ci,mi,oi] Z).length=Z.length:=by simp[fgt]
  have gn:∀j∈[ni,ci,mi,oi],(fgt [ni,ci,mi,oi] Z).set j none=fgt [ni,ci,mi,oi] Z:=fun j hj=>B1 fun sl q=>by
   have hj:j=ni\/j=ci\/j=mi\/j=oi:=by simpa using hj
   rcases get_set q with⟨_,z⟩ | ⟨h4,q⟩
   ·cases z
   rcases get_set q with⟨_,z⟩ | ⟨h3,q⟩
   ·cases z
   rcases get_set q with⟨_,z⟩ | ⟨h2,q⟩
   ·cases z
   rcases get_set q with⟨_,z⟩ | ⟨h1,q⟩
   ·cases z
   rcases hj with z | z | z | z
   ·exact h1 z
   ·exact h2 z
   ·exact h3 z
   ·exact h4 z
  generalize fgt [ni,ci,mi,oi] Z=Z0 at*
  split at w
  ·rename_i Np
   rcases h9 (δi Z0) with q | ⟨ds,q,q'⟩
   ·rw[q] at w;exact w.elim
   rw[q'] at w
   have w:WPS X.K Xw F₀ H₀ (noex (fK ci oi δk δj tc δk2 Z0 ds [])>>=fun ps=>if tR ps then ab (.nx (Z0.set ni (some (.fz (ra ps))))) else af) D:=w
   rcases h9 (fK ci oi δk δj tc δk2 Z0 ds []) with q2 | ⟨ps,q2,Ox⟩
   ·rw[q2] at w;exact w.elim
   rw[Ox] at w
   have w:WPS X.K Xw F₀ H₀ (if tR ps then ab (.nx (Z0.set ni (some (.fz (ra ps))))) else af) D:=w
   by_cases ok:tR ps=true
   ·rw[if_pos ok] at w
    have Oo:Nr X.K F₀ H₀ F F H σ Z0 ni a [] []:=⟨s0.ext,Same.refl _,s0.st,s0.len,L4,Nb,fun i b p z=>by simp at z,rfl,by simp,fun b hb=>by
     cases Pp.mp hb
     exact⟨Nc,h0⟩,Np⟩
    have hD:=NW pins sh σ H {D with nx:=fun σ H=>∃F bs G,Nr X.K F₀ H₀ G F H σ Z0 ni a bs ps} I ⟨F,Z0,s0.st,by
     rw[q]
     intro J H1 F1 e1 it
     have Om:=(Oo.ext' e1).rg (Same.refl _)
     exact A9 (PX n1) (PX n2) (PX n3) n4 n5 (PX n6) (gn ci (by simp)) (gn mi (by simp)) (gn oi (by simp)) (by rw[hlen,s.len,I.len];exact(OZ.mp JQ).1) it (fun σ F H bs n=>⟨F,bs,F1,n⟩) Om (by simp) q2⟩
    refine b7 hD fun f s' hq=>?_
    cases f with
    |next=>
     obtain⟨σ',H',I',F',bs,G,n⟩:=hq
     obtain⟨F2,H2,I2,so⟩:=n.fin I' ok
     exact⟨σ',H2,I2,w σ' F2 H2 so⟩
    |brk=>exact hq
    |cont=>exact hq
    |ret u=>exact hq
   ·rw[if_neg ok] at w;exact w.elim
  ·exact w.elim
 ·exact w.elim
end
section
variable{X:Cx}{Xw:Nat->Hp->Prop}{a b:Expr}{δa δb:DE}{pos:Pos}
def Gr(hu:X.A.units+64<cLine):OpR X (P6 .In) (Jn X.K false):=by
 intro pins s σ H x y v u Q I rx ry h
 obtain⟨F,dx,ys,vs,p,r,hs,hx,ex,hd,rfl,hq,q⟩:=h
 cases (show u=_ from ry)
 have N6:X.A.in1.units+6<cLine:=by show X.A.units+1+6<cLine;omega
 obtain⟨aK,rv,pl,hz⟩:=I.list hq
 obtain⟨g,e1,e2⟩:=Cw (A:=X.A.in1) I hs N6 hx rx ex hd rv
 refine SeqAt.in_listAt g pl.isList e2 ⟨.bl _,H,I,rfl,?_⟩
 rw[e1]
 exact q
def GY(hu:X.A.units+64<cLine)(ha:PD X Xw a δa)(hb:PD X Xw b δb)(hm:P8 .In b=false:=by rfl):lj X Xw (.Compare a [.In] [b] pos) (bH (d2 (wk false) δa δb)):=eo (Gr hu) FV ha hb hm
end
end L3
namespace L3
def Jv(n:Nat)(δs:DA):DS:=fun _=>af
end L3
namespace K1
open PySem PySem.Spec L2 L3
open PyProof.Rows hiding St
def xA:DS:=(aX (fE (dA g8 (aC (dV 0) (aC (dC (.raw (.ty "int"))) aN))) (En (dA g8 (aC (dV 0) (aC (dC (.raw (.ty "bool"))) aN))))))
def a_:List D->M D:=bS 1 (xA)
def vG:DS:=(aX (fE (dA g8 (aC (dV 0) (aC (dC (.raw (.ty "str"))) aN))) (fE (d2 lA (dA bh (aC (dV 0) aN)) (dC (.int 1))) (d2 (AD false) (dV 0) (dC (.str "abcdef"))))))
def bW:List D->M D:=bS 1 (vG)
def pO:DS:=(aX (bB 0 (fun Z=>(aC (dA bh (aC (d2 aU (dV 0) (dC (.int 0))) aN)) aN) Z>>=f6) cI (dA dF (aC (dV 2) (aC (dV 0) aN)))))
def aW:List D->M D:=bS 2 (pO)
def vK:DS:=(aX (d2 pW (d2 aU (dV 0) (d2 aU (dV 1) (dC (.int 0)))) (d2 aU (dV 1) (dC (.int 1)))))
def bK:List D->M D:=bS 2 (vK)
def xy:DS:=(ay (bg 3 (dA rJ (aC (d2 gB (d2 aU (dV 0) (dC (.int 0))) (d2 aU (dV 1) (dC (.int 0)))) aN))) (ay (bg 4 (dA rJ (aC (d2 gB (d2 aU (dV 0) (dC (.int 1))) (d2 aU (dV 1) (dC (.int 1)))) aN))) (ay (fb (bH (d2 lA (dV 2) (dC (.int 4)))) (aX (d2 lA (d2 cz (dV 3) (dV 4)) (dC (.int 1)))) bY) (aX (d2 lA (dA pZ (aC (dV 3) (aC (dV 4) aN))) (dC (.int 1)))))))
def df:List D->M D:=bS 5 (xy)
def Eh:DS:=(ay (vn 1) (ay (fun Z=>noex ((dq (putN 2) (AR (de (dV 0)) (fun Z=>(dV 0) Z>>=gF)) (cb [2] (eU 1 (dV 2) (dC (.bl true))))) Z)) (tT 1 (aX (dV 1)))))
def g0:List D->M D:=bS 3 (Eh)
def pQ:DS:=(ay (fb (bH (d2 lA (dV 0) (dA eF aN))) (aX (d2 iH (dC (.int 7)) (dV 1))) bY) (aX (d2 cz (d2 AE (dV 0) (d2 kz (dV 1) (dA bh (aC (dV 0) aN)))) (d2 iH (dC (.int 6553)) (d2 pV (dV 1) (dA bh (aC (dV 0) aN)))))))
def fG:List D->M D:=bS 2 (pQ)
def vH:DS:=(ay (fb (k_ (cH (b_ (dA g8 (aC (dV 0) (aC (dC (.raw (.ty "str"))) aN))))) (cH (bH (vO (fun i j=>decide (i<=j)) (fun i j=>decide (i<=j)) (dC (.int 1)) (dA bh (aC (dV 0) aN)) (dC (.int 8)))))) (aX (dC (.bl false))) bY) (aX (dA allM (aC (bB 0 (fun Z=>(dV 0) Z>>=G9) cI (aq 1 bW (aC (dV 0) aN))) aN))))
def fF:List D->M D:=bS 1 (vH)
def rH:DS:=(ay (fb (k_ (cH (b_ (dA g8 (aC (dV 1) (aC (dC (.raw (.ty "tuple"))) aN))))) (bH (d2 kh (dA bh (aC (dV 1) aN)) (dC (.int 2))))) (aX (dC (.bl false))) bY) (ay (fb (k_ (cH (b_ (aq 1 a_ (aC (d2 aU (dV 1) (dC (.int 0))) aN)))) (cH (b_ (aq 1 a_ (aC (d2 aU (dV 1) (dC (.int 1))) aN))))) (aX (dC (.bl false))) bY) (aX (fE (vO (fun i j=>decide (i<=j)) (fun i j=>decide (i<j)) (dC (.int 0)) (d2 aU (dV 1) (dC (.int 0))) (dA bh (aC (dV 0) aN))) (vO (fun i j=>decide (i<=j)) (fun i j=>decide (i<j)) (dC (.int 0)) (d2 aU (dV 1) (dC (.int 1))) (dA bh (aC (d2 aU (dV 0) (dC (.int 0))) aN)))))))
def jr:List D->M D:=bS 2 (rH)
def vM:DS:=(fb (k_ (cH (b_ (aq 1 a_ (aC (dV 0) aN)))) (bH (d2 (CP true) (dV 0) (dA dF (aC (dC (.int 4)) (aC (dC (.int 8)) aN)))))) (Jv 1 (aC (dC (.str "ways are 4 or 8")) aN)) bY)
def bL:List D->M D:=bS 1 (vM)
def vE:DS:=(ay (s_ 1) (ay (fun Z=>noex ((dq (putN 2) (fun Z=>(aC (dA bh (aC (dV 0) aN)) aN) Z>>=f6) (cb [2] (BX 1 (aq 2 aW (aC (dV 0) (aC (dV 2) aN)))))) Z)) (tT 1 (aX (dV 1)))))
def cu:List D->M D:=bS 3 (vE)
def tN:DS:=(ay (s_ 3) (ay (fun Z=>noex ((dq (putN 4) (fun Z=>(aC (dA pZ (aC (d2 gB (d2 aU (dV 1) (dC (.int 0))) (dC (.int 1))) (aC (dC (.int 0)) aN))) (aC (dA zl (aC (d2 cz (d2 aU (dV 1) (dC (.int 0))) (dC (.int 2))) (aC (dA bh (aC (dV 0) aN)) aN))) aN)) Z>>=rn) (cb [4,5] (dq (putN 5) (fun Z=>(aC (dA pZ (aC (d2 gB (d2 aU (dV 1) (dC (.int 1))) (dC (.int 1))) (aC (dC (.int 0)) aN))) (aC (dA zl (aC (d2 cz (d2 aU (dV 1) (dC (.int 1))) (dC (.int 2))) (aC (dA bh (aC (d2 aU (dV 0) (dC (.int 0))) aN)) aN))) aN)) Z>>=rn) (cb [5] (fb (b_ (aq 3 df (aC (dV 1) (aC (dA dF (aC (dV 4) (aC (dV 5) aN))) (aC (dV 2) aN))))) (i7 3 (dA dF (aC (dV 4) (aC (dV 5) aN)))) bY))))) Z)) (tT 3 (aX (dV 3)))))
def a8:List D->M D:=bS 6 (tN)
def mN:DS:=(ay (bg 3 (d2 kz (d2 cz (d2 iH (d2 kz (aq 2 fG (aC (dV 0) (aC (dV 1) aN))) (dC (.int 2147483563))) (dC (.int 69069))) (d2 iH (dC (.int 104723)) (d2 cz (dV 1) (dC (.int 1))))) (dC (.int 2147483563)))) (ay (bg 3 (d2 kz (d2 cz (d2 iH (dV 3) (dV 3)) (d2 pV (dV 3) (dC (.int 3)))) (dC (.int 2147483399)))) (aX (d2 kz (d2 pV (d2 kz (d2 cz (d2 iH (dV 3) (dV 3)) (d2 pV (dV 3) (dC (.int 7)))) (dC (.int 2147483647))) (dC (.int 11))) (dV 2)))))
def aR:List D->M D:=bS 4 (mN)
def pP:DS:=(ay (fb (k_ (cH (b_ (dA g8 (aC (dV 0) (aC (dC (.raw (.ty "tuple"))) aN))))) (cH (bH (vO (fun i j=>decide (i<=j)) (fun i j=>decide (i<=j)) (dC (.int 1)) (dA bh (aC (dV 0) aN)) (dC (.int 8)))))) (aX (dC (.bl false))) bY) (ay (fb (cH (b_ (dA allM (aC (bB 0 (t_ (dV 0)) cI (aq 1 fF (aC (dV 0) aN))) aN)))) (aX (dC (.bl false))) bY) (aX (dA allM (aC (bB 0 (t_ (dV 0)) cI (d2 lA (dA bh (aC (dV 0) aN)) (dA bh (aC (d2 aU (dV 1) (dC (.int 0))) aN)))) aN)))))
def gZ:List D->M D:=bS 1 (pP)
def vL:DS:=(fb (cH (b_ (aq 2 jr (aC (dV 0) (aC (dV 1) aN))))) (Jv 2 (aC (dC (.str "a tuple (row, column) on the board is asked for")) aN)) bY)
def cw:List D->M D:=bS 2 (vL)
def tK:DS:=(ay (bg 3 (aq 2 bK (aC (dV 0) (aC (dV 1) aN)))) (aX (bB 0 (de (aq 3 a8 (aC (dV 0) (aC (dV 1) (aC (dV 2) aN))))) (bH (d2 lA (aq 2 bK (aC (dV 1) (aC (dV 0) aN))) (dV 4))) (dV 0))))
def cy:List D->M D:=bS 4 (tK)
def vI:DS:=(ay (bg 3 (d2 cz (dC (.int 1)) (aq 3 aR (aC (dV 0) (aC (dV 1) (aC (dV 2) aN)))))) (ay (bg 4 (d2 cz (dC (.int 1)) (aq 3 aR (aC (dV 0) (aC (d2 cz (dV 1) (dC (.int 1))) (aC (dV 2) aN)))))) (ay (bg 5 (d2 eP (dA eF (aC (dC (.str "ab")) (aC (dC (.str "abc")) (aC (dC (.str "aab")) (aC (dC (.str "fa")) aN))))) (aq 3 aR (aC (dV 0) (aC (d2 cz (dV 1) (dC (.int 2))) (aC (dC (.int 4)) aN)))))) (ay (bg 6 (dA dF aN)) (ay (fun Z=>noex ((dq (putN 7) (fun Z=>(aC (dV 3) aN) Z>>=f6) (cb [7,8] (ay (bg 8 (bB 0 (fun Z=>(aC (dV 4) aN) Z>>=f6) cI (d2 pW (dV 6) (aq 3 aR (aC (dV 1) (aC (d2 cz (d2 cz (d2 cz (dV 2) (dC (.int 3))) (d2 iH (dC (.int 7)) (dV 8))) (dV 0)) (aC (dA bh (aC (dV 6) aN)) aN))))))) (bg 6 (d2 uu (dV 6) (dA dF (aC (dM IM joinM (dC (.str "")) (aC (dV 8) aN)) aN))))))) Z)) (aX (dV 6)))))))
def eE:List D->M D:=bS 9 (vI)
def tM:DS:=(fb (cH (b_ (aq 1 gZ (aC (dV 0) aN)))) (Jv 0 (aC (dC (.str "a tuple of 1 to 8 texts of 1 to 8 letters, all as long, is asked for")) aN)) bY)
def bx:List D->M D:=bS 1 (tM)
def tP:DS:=(ay (ro 3 (fun Z=>(dV 1) Z>>=fun x=>(dC .non) Z>>=fun y=>km x y)) (ay (bg 4 (dA eF (aC (dV 1) aN))) (ay (fun Z=>noex ((pq (b_ (dV 4)) (cb [5,6,7] (ay (s_ 5) (ay (dq (putN 6) (de (dV 4)) (cb [6,7] (dq (putN 7) (de (aq 3 cy (aC (dV 0) (aC (dV 6) (aC (dV 2) aN))))) (cb [7] (fb (yJ (bH (d2 (eO true) (dV 7) (dV 3)))) (ay (eU 3 (dV 7) (dV 6)) (i7 5 (dV 7))) bY))))) (tT 5 (bg 4 (dV 5))))))) Z)) (tT 3 (aX (dV 3))))))
def bo:List D->M D:=bS 8 (tP)
def l5:DS:=(ay (fM (aq 1 bx (aC (dV 0) aN))) (ay (fM (aq 1 bL (aC (dV 1) aN))) (ay (fM (aq 2 cw (aC (dV 0) (aC (dV 2) aN)))) (fM (aq 2 cw (aC (dV 0) (aC (dV 3) aN)))))))
def bf:List D->M D:=bS 4 (l5)
def zV:DS:=(ay (fM (aq 4 bf (aC (dV 0) (aC (dV 1) (aC (dV 2) (aC (dV 3) aN)))))) (aX (d2 (eO false) (dV 3) (aq 3 bo (aC (dV 0) (aC (dV 2) (aC (dV 1) aN)))))))
def fm:List D->M D:=bS 4 (zV)
def E6:DS:=(ay (fM (aq 4 bf (aC (dV 0) (aC (dV 1) (aC (dV 2) (aC (dV 3) aN)))))) (ay (bg 4 (aq 3 bo (aC (dV 0) (aC (dV 3) (aC (dV 1) aN))))) (ay (fb (bH (d2 (eO true) (dV 2) (dV 4))) (aX (dC .non)) bY) (ay (ro 5 (fun Z=>(aC (dV 2) aN) Z>>=J0)) (ay (fun Z=>noex ((pq (yJ (bH (d2 kh (d2 eP (dV 5) (d1 sm (dC (.int 1)))) (dV 3)))) (i7 5 (CB (d2 cB (dV 4) (d2 eP (dV 5) (d1 sm (dC (.int 1)))))))) Z)) (tT 5 (aX (dV 5))))))))
def l9:List D->M D:=bS 6 (E6)
def tO:DS:=(ay (vn 1) (ay (fun Z=>noex ((dq (yC [2,3]) (fun Z=>(aC (dV 0) aN) Z>>=xR) (cb [2,3,4] (dq (putN 4) (de (dV 3)) (cb [4] (eU 1 (dV 4) (dV 2)))))) Z)) (tT 1 (aX (dV 1)))))
def bG:List D->M D:=bS 5 (tO)
def vF:DS:=(ay (ro 2 (Ft (fun Z=>(dV 1) Z>>=fun x=>(dC (.int 0)) Z>>=fun y=>km x y) (fun Z=>(dV 1) Z>>=fun x=>(dC (.int 0)) Z>>=fun y=>l6 x y))) (ay (bg 3 (dA eF (aC (dV 1) aN))) (ay (fun Z=>noex ((pq (b_ (dV 3)) (cb [4,5,6] (ay (s_ 4) (ay (dq (putN 5) (de (dV 3)) (cb [5,6] (dq (putN 6) (AR (de (d2 cB (dV 0) (dV 5))) (fun Z=>(d2 cB (dV 0) (dV 5)) Z>>=gF)) (cb [6] (fb (yJ (bH (d2 (eO true) (dV 6) (dV 2)))) (ay (eU 2 (dV 6) (CB (d2 cz (d2 cB (dV 2) (dV 5)) (dC (.int 1))))) (i7 4 (dV 6))) bY))))) (tT 4 (bg 3 (dV 4))))))) Z)) (tT 2 (aX (dV 2))))))
def br:List D->M D:=bS 7 (vF)
def vJ:DS:=(ay (bg 1 (dA eF aN)) (ay (fun Z=>noex ((dq (putN 2) (fun Z=>(aC (dA bh (aC (dV 0) aN)) aN) Z>>=f6) (cb [2] (bg 1 (d2 qC (dV 1) (bB 0 (fun Z=>(aC (dA bh (aC (d2 aU (dV 0) (dC (.int 0))) aN)) aN) Z>>=f6) cI (dA dF (aC (dV 3) (aC (dV 0) aN)))))))) Z)) (aX (dV 1))))
def cT:List D->M D:=bS 3 (vJ)
def xB:DS:=(aX (d2 pW (d2 aU (dV 0) (d2 aU (dV 1) (dC (.int 0)))) (d2 aU (dV 1) (dC (.int 1)))))
def dS:List D->M D:=bS 2 (xB)
def pS:DS:=(fb (k_ (cH (b_ (dA g8 (aC (dV 0) (aC (dC (.raw (.ty "list"))) aN))))) (cH (b_ (dA allM (aC (bB 0 (de (dV 0)) cI (aq 1 bW (aC (dV 0) aN))) aN))))) (Jv 3 (aC (dC (.str "a list of letters from a to f is asked for")) aN)) bY)
def dE:List D->M D:=bS 1 (pS)
def qk:DS:=(fb (k_ (cH (b_ (aq 1 a_ (aC (dV 1) aN)))) (cH (bH (vO (fun i j=>decide (i<=j)) (fun i j=>decide (i<j)) (dC (.int 0)) (dV 1) (dV 0))))) (Jv 4 (aC (dC (.str "the number of a patch of the board is asked for")) aN)) bY)
def cK:List D->M D:=bS 2 (qk)
def pR:DS:=(ay (bg 3 (aq 1 bG (aC (dV 2) aN))) (ay (E0 4) (ay (fun Z=>noex ((vm 4 5 6 7 (de (aq 1 cu (aC (dV 0) aN))) (d2 cB (dV 3) (dV 5)) (de (aq 3 a8 (aC (dV 0) (aC (dV 5) (aC (dV 1) aN))))) (bH (d2 kh (d2 cB (dV 3) (dV 7)) (d2 cB (dV 3) (dV 5)))) (d2 cB (dV 3) (dV 7))) Z)) (tT 4 (aX (dV 4))))))
def ck:List D->M D:=bS 8 (pR)
def tL:DS:=(ay (bg 3 (aq 1 g0 (aC (dV 1) aN))) (ay (vn 4) (ay (fun Z=>noex ((dq (putN 5) (de (dV 1)) (cb [5] (eU 4 (dV 5) (bB 0 (de (aq 3 a8 (aC (dV 0) (aC (dV 5) (aC (dV 2) aN))))) (bH (d2 (eO false) (dV 0) (dV 4))) (dV 0))))) Z)) (tT 4 (aX (dV 4))))))
def eV:List D->M D:=bS 6 (tL)
def qj:DS:=(aX (dA dF (aC (aq 3 aR (aC (dV 0) (aC (dV 1) (aC (dA bh (aC (dV 2) aN)) aN)))) (aC (aq 3 aR (aC (dV 0) (aC (d2 cz (dV 1) (dC (.int 1))) (aC (dA bh (aC (d2 aU (dV 2) (dC (.int 0))) aN)) aN)))) aN))))
def bJ:List D->M D:=bS 3 (qj)
def qi:DS:=(ay (s_ 2) (ay (vn 3) (ay (fun Z=>noex ((dq (putN 4) (de (aq 1 cu (aC (dV 0) aN))) (cb [4,5] (fb (yJ (bH (d2 (eO true) (dV 4) (dV 3)))) (ay (bg 5 (dA rA (aC (aq 3 bo (aC (dV 0) (aC (dV 4) (aC (dV 1) aN)))) aN))) (ay (i7 2 (dV 5)) (zJ 3 (aq 1 g0 (aC (dV 5) aN))))) bY))) Z)) (tT 2 (aX (dV 2))))))
def bI:List D->M D:=bS 6 (qi)
def tQ:DS:=(ay (fM (aq 1 bx (aC (dV 0) aN))) (ay (fM (aq 1 bL (aC (dV 1) aN))) (ay (fM (aq 1 dE (aC (dV 2) aN))) (ay (fM (aq 2 cw (aC (dV 0) (aC (dV 3) aN)))) (ay (fM (aq 2 cw (aC (dV 0) (aC (dV 4) aN)))) (ay (bg 5 (aq 3 eV (aC (dV 0) (aC (bB 0 (de (aq 1 cu (aC (dV 0) aN))) (bH (d2 (wk false) (aq 2 bK (aC (dV 1) (aC (dV 0) aN))) (dV 3))) (dV 0)) (aC (dV 1) aN))))) (ay (fb (bH (d2 (eO true) (dV 3) (dV 5))) (aX (dC .non)) bY) (aX (Em (aq 2 br (aC (dV 5) (aC (dV 3) aN))) (dV 4))))))))))
def aG:List D->M D:=bS 6 (tQ)
def xC:DS:=(ay (fM (aq 1 bx (aC (dV 0) aN))) (ay (fM (aq 1 bL (aC (dV 1) aN))) (ay (bg 2 (aq 1 bG (aC (aq 2 bI (aC (dV 0) (aC (dV 1) aN))) aN))) (ay (s_ 3) (ay (fun Z=>noex ((dq (putN 4) (fun Z=>(aC (dA bh (aC (dV 0) aN)) aN) Z>>=f6) (cb [4] (i7 3 (bB 0 (de (aq 2 aW (aC (dV 0) (aC (dV 4) aN)))) cI (d2 cB (dV 3) (dV 0)))))) Z)) (tT 3 (aX (dV 3))))))))
def dU:List D->M D:=bS 5 (xC)
def lY:DS:=(ay (fM (aq 4 bf (aC (dV 0) (aC (dV 1) (aC (dV 2) (aC (dV 3) aN)))))) (ay (bg 4 (aq 2 bI (aC (dV 0) (aC (dV 1) aN)))) (ay (bg 5 (aq 1 bG (aC (dV 4) aN))) (aX (d2 cB (aq 2 br (aC (aq 3 ck (aC (dV 0) (aC (dV 1) (aC (dV 4) aN)))) (aC (d2 cB (dV 5) (dV 2)) aN))) (d2 cB (dV 5) (dV 3)))))))
def aH:List D->M D:=bS 6 (lY)
def Cj:DS:=(ay (fM (aq 1 bx (aC (dV 0) aN))) (ay (fM (aq 1 bL (aC (dV 1) aN))) (aX (aq 3 ck (aC (dV 0) (aC (dC (.int 4)) (aC (aq 2 bI (aC (dV 0) (aC (dV 1) aN))) aN)))))))
def ku:List D->M D:=bS 2 (Cj)
def zW:DS:=(ay (bg 4 (aq 2 ku (aC (dV 0) (aC (dV 1) aN)))) (ay (fM (aq 2 cK (aC (dA qP (aC (dV 4) aN)) (aC (dV 2) aN)))) (ay (fM (aq 2 cK (aC (dA qP (aC (dV 4) aN)) (aC (dV 3) aN)))) (aX (d2 cB (aq 2 br (aC (dV 4) (aC (dV 2) aN))) (dV 3))))))
def fo:List D->M D:=bS 5 (zW)
def mO:DS:=(bg 1 (aq 3 eE (aC (dV 0) (aC (dC (.int 0)) (aC (dC (.int 3)) aN)))))
def mP:DS:=(bg 2 (dA eF (aC (dC (.str "a")) (aC (dC (.str "b")) (aC (dC (.str "c")) (aC (dC (.str "f")) aN))))))
def mQ:DS:=(fun Z=>noex ((dq (putN 3) (t_ (dA dF (aC (dC (.int 4)) (aC (dC (.int 8)) aN)))) (cb [3,4,5,6,7,8,9,10,11,12,13,14,15] (ay (bg 4 (aq 3 bJ (aC (dV 0) (aC (d2 cz (dC (.int 60)) (dV 3)) (aC (dV 1) aN))))) (ay (bg 5 (aq 3 bJ (aC (dV 0) (aC (d2 cz (dC (.int 80)) (dV 3)) (aC (dV 1) aN))))) (ay (bg 6 (dA eF (aC (aq 2 dS (aC (dV 1) (aC (dV 4) aN))) aN))) (ay (bg 7 (aq 2 dU (aC (dV 1) (aC (dV 3) aN)))) (dq (putN 8) (de (aq 1 cT (aC (dV 1) aN))) (cb [8,9,10,11,12,13,14,15] (ay (bg 9 (aq 4 aH (aC (dV 1) (aC (dV 3) (aC (dV 4) (aC (dV 8) aN)))))) (ay (fb (bH (d2 kh (dV 9) (aq 4 aH (aC (dV 1) (aC (dV 3) (aC (dV 8) (aC (dV 4) aN))))))) (aX (dC (.bl false))) bY) (ay (fb (bH (d2 kh (d2 lA (dV 9) (dC (.int 0))) (aq 4 fm (aC (dV 1) (aC (dV 3) (aC (dV 4) (aC (dV 8) aN))))))) (aX (dC (.bl false))) bY) (ay (fb (bH (d2 CO (dV 9) (d2 cz (aq 4 aH (aC (dV 1) (aC (dV 3) (aC (dV 4) (aC (dV 5) aN))))) (aq 4 aH (aC (dV 1) (aC (dV 3) (aC (dV 5) (aC (dV 8) aN)))))))) (aX (dC (.bl false))) bY) (ay (bg 10 (aq 4 fo (aC (dV 1) (aC (dV 3) (aC (d2 eP (d2 eP (dV 7) (d2 aU (dV 4) (dC (.int 0)))) (d2 aU (dV 4) (dC (.int 1)))) (aC (d2 eP (d2 eP (dV 7) (d2 aU (dV 8) (dC (.int 0)))) (d2 aU (dV 8) (dC (.int 1)))) aN)))))) (ay (fb (k_ (bH (d2 CO (dV 9) (dV 10))) (kl (bH (d2 lA (dV 3) (dC (.int 4)))) (bH (d2 kh (dV 9) (dV 10))))) (aX (dC (.bl false))) bY) (ay (bg 11 (aq 4 l9 (aC (dV 1) (aC (dV 3) (aC (dV 4) (aC (dV 8) aN)))))) (ay (fb (bH (d2 kh (aq 5 aG (aC (dV 1) (aC (dV 3) (aC (dV 6) (aC (dV 4) (aC (dV 8) aN)))))) (Am (bH (d2 (g6 false) (dV 11) (dC .non))) (dC .non) (d2 gB (dA bh (aC (dV 11) aN)) (dC (.int 1)))))) (aX (dC (.bl false))) bY) (ay (bg 12 (dA rJ (aC (d2 gB (d2 aU (dV 4) (dC (.int 0))) (d2 aU (dV 8) (dC (.int 0)))) aN))) (ay (bg 13 (dA rJ (aC (d2 gB (d2 aU (dV 4) (dC (.int 1))) (d2 aU (dV 8) (dC (.int 1)))) aN))) (ay (bg 14 (Am (bH (d2 lA (dV 3) (dC (.int 4)))) (d2 cz (dV 12) (dV 13)) (dA pZ (aC (dV 12) (aC (dV 13) aN))))) (ay (fb (bH (d2 kh (aq 5 aG (aC (dV 1) (aC (dV 3) (aC (dV 2) (aC (dV 4) (aC (dV 8) aN)))))) (dV 14))) (aX (dC (.bl false))) bY) (ay (bg 15 (aq 5 aG (aC (dV 1) (aC (dV 3) (aC (d2 qC (dV 6) (dA eF (aC (dC (.str "b")) aN))) (aC (dV 4) (aC (dV 8) aN))))))) (ay (fb (kl (bH (d2 (g6 true) (dV 11) (dC .non))) (k_ (bH (d2 (g6 false) (dV 15) (dC .non))) (bH (d2 CO (dV 15) (d2 gB (dA bh (aC (dV 11) aN)) (dC (.int 1))))))) (aX (dC (.bl false))) bY) (fb (kl (bH (d2 (g6 true) (dV 15) (dC .non))) (bH (d2 HR (dV 15) (dV 14)))) (aX (dC (.bl false))) bY))))))))))))))))))))))) Z))
def mR:DS:=(aX (dC (.bl true)))
def lZ:DS:=(ay mO (ay mP (ay mQ mR)))
def js:List D->M D:=bS 16 lZ
structure Bl (K:O2) (mg:Str->Option Value) (base:Heap) (cv:Nat->Value) (cA:Nat->Addr) (Cp:Addr):Prop where
 len:mg "len"=none
 isinstance:mg "isinstance"=none
 all:mg "all"=none
 abs:mg "abs"=none
 max:mg "max"=none
 min:mg "min"=none
 range:mg "range"=none
 str:mg "str"=none
 int:mg "int"=none
 bool:mg "bool"=none
 tuple:mg "tuple"=none
 list:mg "list"=none
 sorted:mg "sorted"=none
 enumerate:mg "enumerate"=none
 LETTERS:∃t,mg "LETTERS"=some (.str "abcdef" t)
 MOST_ROWS:∃t,mg "MOST_ROWS"=some (.int 8 t)
 MOST_COLUMNS:∃t,mg "MOST_COLUMNS"=some (.int 8 t)
section
variable{P:Pw}{w:World}{K:O2}{mg:Str->Option Value}{base:Heap}{cv:Nat->Value}{cA:Nat->Addr}{Cp:Addr}{f:Addr}
abbrev j_:Stmt:=top 11
def oO:List Str:=["thing"]
def oY:List Str:=["thing"]
def vq:FnScope oO oY (ak j_):=⟨rfl,rfl,rfl,by decide+kernel,rfl,by decide+kernel,by decide+kernel⟩
def uU(B:Bl K mg base cv cA Cp)(T:bj K mg "is_whole" j_ f):ao P w K mg base cv 1 "is_whole" 1 (a_):=
 az (N:=oO) (ps:=oY) T vq (fun _ _ _ _ _ _ us hl=>match us,hl with | [_],_=>rfl) fun b9 A outer s H E hr=>
  (ar (aA (sQ (j6 rfl B.isinstance rfl (aa (ae (pv 0)) (aa (o8 rfl B.int rfl) ag))) (w9 (GG (j6 rfl B.isinstance rfl (aa (ae (pv 0)) (aa (o8 rfl B.bool rfl) ag))))))))
abbrev i_:Stmt:=top 12
def ml:List Str:=["thing"]
def mD:List Str:=["thing"]
def th:FnScope ml mD (ak i_):=⟨rfl,rfl,rfl,by decide+kernel,rfl,by decide+kernel,by decide+kernel⟩
def sA(B:Bl K mg base cv cA Cp)(T:bj K mg "is_letter" i_ f):ao P w K mg base cv 1 "is_letter" 1 (bW):=
 az (N:=ml) (ps:=mD) T th (fun _ _ _ _ _ _ us hl=>match us,hl with | [_],_=>rfl) fun b9 A outer s H E hr=>
  (ar (aA (sQ (j6 rfl B.isinstance rfl (aa (ae (pv 0)) (aa (o8 rfl B.str rfl) ag))) (sQ (u5 hr.units (bT rfl B.len (aa (ae (pv 0)) ag)) av) (w9 (GD (ae (pv 0)) (DI rfl B.LETTERS (by decide))))))))
abbrev dI:Stmt:=top 20
def dG:List Str:=["board","row"]
def iU:List Str:=["board","row"]
def m7:FnScope dG iU (ak dI):=⟨rfl,rfl,rfl,by decide+kernel,rfl,by decide+kernel,by decide+kernel⟩
def mX(B:Bl K mg base cv cA Cp)(T:bj K mg "cells_of_row" dI f):ao P w K mg base cv 1 "cells_of_row" 2 (aW):=
 az (N:=dG) (ps:=iU) T m7 (fun _ _ _ _ _ _ us hl=>match us,hl with | [_,_],_=>rfl) fun b9 A outer s H E hr=>
  (ar (aA (ek (tn:=["column"]) (n:=0) (cg (N:=dG) (osc:=(ak dI)) rfl rfl (by decide+kernel)) rfl rfl (dh rfl B.range (aa (bT rfl B.len (aa (a7 (ae (pv 0)) av) ag)) ag)) (fun _ _ _ _ _ _ _=>dP (show Qw (((["column"]:List Str))++dj ["column"] dG) by decide+kernel) rfl rfl) (fun _ _ _ _ _ _=>eJ) (fun _ _ _ _ _ _=>(ij (aa (ae (pv 2)) (aa (ae (pv 0)) ag)))))))
abbrev jb:Stmt:=top 22
def mn:List Str:=["board","cell"]
def mH:List Str:=["board","cell"]
def tj:FnScope mn mH (ak jb):=⟨rfl,rfl,rfl,by decide+kernel,rfl,by decide+kernel,by decide+kernel⟩
def sF(B:Bl K mg base cv cA Cp)(T:bj K mg "letter_of" jb f):ao P w K mg base cv 1 "letter_of" 2 (bK):=
 az (N:=mn) (ps:=mH) T tj (fun _ _ _ _ _ _ us hl=>match us,hl with | [_,_],_=>rfl) fun b9 A outer s H E hr=>
  (ar (aA (w6 (a7 (ae (pv 0)) (a7 (ae (pv 1)) av)) (a7 (ae (pv 1)) av))))
abbrev j9:Stmt:=top 23
def oN:List Str:=["one","other","ways","down","along"]
def oW:List Str:=["one","other","ways"]
def je:FnScope oN oW (ak j9):=⟨rfl,rfl,rfl,by decide+kernel,rfl,by decide+kernel,by decide+kernel⟩
def uS(B:Bl K mg base cv cA Cp)(T:bj K mg "are_next" j9 f):ao P w K mg base cv 1 "are_next" 3 (df):=
 az (N:=oN) (ps:=oW) T je (fun _ _ _ _ _ _ us hl=>match us,hl with | [_,_,_],_=>rfl) fun b9 A outer s H E hr=>
  (ah (aE je.nd rfl (.inl rfl) (sO rfl B.abs (aa (iZ (a7 (ae (pv 0)) av) (a7 (ae (pv 1)) av)) ag) rfl)) (ah (aE je.nd rfl (.inl rfl) (sO rfl B.abs (aa (iZ (a7 (ae (pv 0)) av) (a7 (ae (pv 1)) av)) ag) rfl)) (ah (bz (vb hr.units (ae (pv 2)) av) (ar (aA (u5 hr.units (b5 (ae (pv 3)) (ae (pv 4))) av))) a6) (ar (aA (u5 hr.units (sS rfl rfl B.max rfl (aa (ae (pv 3)) (aa (ae (pv 4)) ag))) av))))))
abbrev tf:Stmt:=top 25
def yi:List Str:=["things","found","thing"]
def yo:List Str:=["things"]
def pA:FnScope yi yo (ak tf):=⟨rfl,rfl,rfl,by decide+kernel,rfl,by decide+kernel,by decide+kernel⟩
def Bn(B:Bl K mg base cv cA Cp)(T:bj K mg "keyed" tf f):ao P w K mg base cv 1 "keyed" 1 (g0):=
 az (N:=yi) (ps:=yo) T pA (fun _ _ _ _ _ _ us hl=>match us,hl with | [_],_=>rfl) fun b9 A outer s H E hr=>
  (ah (kW pA.nd rfl (.inl rfl)) (ah (cO (bX Pn rfl (yw (bE (ae (pv 0))) (u6 (ae (pv 0)))) (a5 pA.nd rfl (.inl rfl)) bF (bp (ar (i4 hr.units (pv 1) (ae (pv 2)) fL))))) (ar (cY (i:=1) (aA (ae (pv 1)))))))
abbrev ir:Stmt:=top 31
def kI:List Str:=["found","numbers","number","patch","cell"]
def kS:List Str:=["found"]
def c8:FnScope kI kS (ak ir):=⟨rfl,rfl,rfl,by decide+kernel,rfl,by decide+kernel,by decide+kernel⟩
def qd(B:Bl K mg base cv cA Cp)(T:bj K mg "numbers_of" ir f):ao P w K mg base cv 1 "numbers_of" 1 (bG):=
 az (N:=kI) (ps:=kS) T c8 (fun _ _ _ _ _ _ us hl=>match us,hl with | [_],_=>rfl) fun b9 A outer s H E hr=>
  (ah (kW c8.nd rfl (.inl rfl)) (ah (cO (bX Pn rfl (Bx rfl B.enumerate (aa (ae (pv 0)) ag)) (GS rfl (u9 (a5 c8.nd rfl (.inl rfl)) (u9 (a5 c8.nd rfl (.inl rfl)) DU))) (D3 (is:=[2,3])) (bp (ar (bX Pn rfl (bE (ae (pv 3))) (a5 c8.nd rfl (.inl rfl)) bF (bp (ar (i4 hr.units (pv 1) (ae (pv 4)) (ae (pv 2)))))))))) (ar (cY (i:=1) (aA (ae (pv 1)))))))
abbrev i9:Stmt:=top 34
def mj:List Str:=["near","start","far","ring","further","thing","other"]
def mC:List Str:=["near","start"]
def cG:FnScope mj mC (ak i9):=⟨rfl,rfl,rfl,by decide+kernel,rfl,by decide+kernel,by decide+kernel⟩
def sy(B:Bl K mg base cv cA Cp)(T:bj K mg "distances" i9 f):ao P w K mg base cv 1 "distances" 2 (br):=
 az (N:=mj) (ps:=mC) T cG (fun _ _ _ _ _ _ us hl=>match us,hl with | [_,_],_=>rfl) fun b9 A outer s H E hr=>
  (ah (pe cG.nd rfl (.inl rfl) (DJ (q_ hr.units (ae (pv 1)) av) (zA hr.units (ae (pv 1)) av))) (ah (aE cG.nd rfl (.inl rfl) (iX (aa (ae (pv 1)) ag))) (ah (cO (lO Pn (cF (ae (pv 3))) (bp (ah (jz cG.nd rfl (.inl rfl)) (ah (bX Pn rfl (bE (ae (pv 3))) (a5 cG.nd rfl (.inl rfl)) bF (bp (ar (bX Pn rfl (yw (bE (d9 hr.units (ae (pv 0)) (ae (pv 5)))) (u6 (d9 hr.units (ae (pv 0)) (ae (pv 5))))) (a5 cG.nd rfl (.inl rfl)) bF (bp (ar (bz (sU (gP hr.units (ae (pv 6)) (ae (pv 2)))) (ah (i4 hr.units (pv 2) (ae (pv 6)) (ET (b5 (d9 hr.units (ae (pv 2)) (ae (pv 5))) av))) (ar (jy (pv 4) (ae (pv 6))))) a6))))))) (ar (cY (i:=4) (aE cG.nd rfl (.inl rfl) (ae (pv 4)))))))))) (ar (cY (i:=2) (aA (ae (pv 2))))))))
abbrev kc:Stmt:=top 47
def oP:List Str:=["_law_script","_law_k"]
def oZ:List Str:=["_law_script","_law_k"]
def vu:FnScope oP oZ (ak kc):=⟨rfl,rfl,rfl,by decide+kernel,rfl,by decide+kernel,by decide+kernel⟩
def uV(B:Bl K mg base cv cA Cp)(T:bj K mg "_law_cell" kc f):ao P w K mg base cv 1 "_law_cell" 2 (fG):=
 az (N:=oP) (ps:=oZ) T vu (fun _ _ _ _ _ _ us hl=>match us,hl with | [_,_],_=>rfl) fun b9 A outer s H E hr=>
  (ah (bz (vb hr.units (ae (pv 0)) (iX ag)) (ar (aA (j8 av (ae (pv 1))))) a6) (ar (aA (b5 (GF (ae (pv 0)) (lL (ae (pv 1)) (bT rfl B.len (aa (ae (pv 0)) ag)))) (j8 av (sR (ae (pv 1)) (bT rfl B.len (aa (ae (pv 0)) ag))))))))
abbrev f9:Stmt:=top 50
def fX:List Str:=["_law_board_here","_law_found","_law_row"]
def mF:List Str:=["_law_board_here"]
def fi:FnScope fX mF (ak f9):=⟨rfl,rfl,rfl,by decide+kernel,rfl,by decide+kernel,by decide+kernel⟩
def sD(B:Bl K mg base cv cA Cp)(T:bj K mg "_law_cells" f9 f):ao P w K mg base cv 1 "_law_cells" 1 (cT):=
 az (N:=fX) (ps:=mF) T fi (fun _ _ _ _ _ _ us hl=>match us,hl with | [_],_=>rfl) fun b9 A outer s H E hr=>
  (ah (aE fi.nd rfl (.inl rfl) (iX ag)) (ah (cO (bX Pn rfl (dh rfl B.range (aa (bT rfl B.len (aa (ae (pv 0)) ag)) ag)) (a5 fi.nd rfl (.inr rfl)) bF (bp (ar (aE fi.nd rfl (.inl rfl) (yp (ae (pv 1)) (ek (tn:=["_law_column"]) (n:=0) (cg (N:=fX) (osc:=(ak f9)) rfl rfl (by decide+kernel)) rfl rfl (dh rfl B.range (aa (bT rfl B.len (aa (a7 (ae (pv 0)) av) ag)) ag)) (fun _ _ _ _ _ _ _=>dP (show Qw (((["_law_column"]:List Str))++dj ["_law_column"] fX) by decide+kernel) rfl rfl) (fun _ _ _ _ _ _=>eJ) (fun _ _ _ _ _ _=>(ij (aa (ae (pv 3)) (aa (ae (pv 0)) ag))))))))))) (ar (aA (ae (pv 1))))))
abbrev ke:Stmt:=top 51
def oQ:List Str:=["_law_board_here","_law_cell_here"]
def o3:List Str:=["_law_board_here","_law_cell_here"]
def vv:FnScope oQ o3 (ak ke):=⟨rfl,rfl,rfl,by decide+kernel,rfl,by decide+kernel,by decide+kernel⟩
def uW(B:Bl K mg base cv cA Cp)(T:bj K mg "_law_sign" ke f):ao P w K mg base cv 1 "_law_sign" 2 (dS):=
 az (N:=oQ) (ps:=o3) T vv (fun _ _ _ _ _ _ us hl=>match us,hl with | [_,_],_=>rfl) fun b9 A outer s H E hr=>
  (ar (aA (w6 (a7 (ae (pv 0)) (a7 (ae (pv 1)) av)) (a7 (ae (pv 1)) av))))
abbrev kY:Stmt:=top 13
def kF:List Str:=["thing"]
def u3:List Str:=["thing"]
def zK:FnScope kF u3 (ak kY):=⟨rfl,rfl,rfl,by decide+kernel,rfl,by decide+kernel,by decide+kernel⟩
def zt(B:Bl K mg base cv cA Cp)(iD:ao P w K mg base cv 1 "is_letter" 1 bW)(T:bj K mg "is_row" kY f):ao P w K mg base cv 2 "is_row" 1 (fF):=
 az (N:=kF) (ps:=u3) T zK (fun _ _ _ _ _ _ us hl=>match us,hl with | [_],_=>rfl) fun b9 A outer s H E hr=>
  (ah (bz (PDW.t (ik (cE (cF (j6 rfl B.isinstance rfl (aa (ae (pv 0)) (aa (o8 rfl B.str rfl) ag))))) (e_ (cE (xc oV oV av (bT rfl B.len (aa (ae (pv 0)) ag)) (yr rfl B.MOST_COLUMNS)))))) (ar (aA fL)) a6) (ar (aA (sP rfl rfl B.all rfl (aa (ek (tn:=["sign"]) (n:=0) (cg (N:=kF) (osc:=(ak kY)) rfl rfl (by decide+kernel)) rfl rfl (DL (ae (pv 0))) (fun _ _ _ _ _ _ _=>dP (show Qw (((["sign"]:List Str))++dj ["sign"] kF) by decide+kernel) rfl rfl) (fun _ _ _ _ _ _=>eJ) (fun _ _ _ _ _ _=>(aO iD (hr.mono (by decide)) rfl bP (aa (ae (pv 0)) ag) rfl))) ag)))))
abbrev lV:Stmt:=top 15
def qU:List Str:=["board","thing"]
def q0:List Str:=["board","thing"]
def xh:FnScope qU q0 (ak lV):=⟨rfl,rfl,rfl,by decide+kernel,rfl,by decide+kernel,by decide+kernel⟩
def wR(B:Bl K mg base cv cA Cp)(dR:ao P w K mg base cv 1 "is_whole" 1 a_)(T:bj K mg "is_cell" lV f):ao P w K mg base cv 2 "is_cell" 2 (jr):=
 az (N:=qU) (ps:=q0) T xh (fun _ _ _ _ _ _ us hl=>match us,hl with | [_,_],_=>rfl) fun b9 A outer s H E hr=>
  (ah (bz (PDW.t (ik (cE (cF (j6 rfl B.isinstance rfl (aa (ae (pv 1)) (aa (o8 rfl B.tuple rfl) ag))))) (e_ (mL hr.units (bT rfl B.len (aa (ae (pv 1)) ag)) av)))) (ar (aA fL)) a6) (ah (bz (PDW.t (ik (cE (cF (aO dR (hr.mono (by decide)) rfl aT (aa (a7 (ae (pv 1)) av) ag) rfl))) (e_ (cE (cF (aO dR (hr.mono (by decide)) rfl aT (aa (a7 (ae (pv 1)) av) ag) rfl)))))) (ar (aA fL)) a6) (ar (aA (sQ (Bu oV yn av (a7 (ae (pv 1)) av) (bT rfl B.len (aa (ae (pv 0)) ag))) (w9 (Bu oV yn av (a7 (ae (pv 1)) av) (bT rfl B.len (aa (a7 (ae (pv 0)) av) ag)))))))))
abbrev dJ:Stmt:=top 18
def dH:List Str:=["thing"]
def iW:List Str:=["thing"]
def m8:FnScope dH iW (ak dJ):=⟨rfl,rfl,rfl,by decide+kernel,rfl,by decide+kernel,by decide+kernel⟩
def mZ(B:Bl K mg base cv cA Cp)(iD:ao P w K mg base cv 1 "is_letter" 1 bW)(T:bj K mg "need_letters" dJ f):ao P w K mg base cv 2 "need_letters" 1 (dE):=
 az (N:=dH) (ps:=iW) T m8 (fun _ _ _ _ _ _ us hl=>match us,hl with | [_],_=>rfl) fun b9 A outer s H E hr=>
  (ar (bz (PDW.t (ik (cE (cF (j6 rfl B.isinstance rfl (aa (ae (pv 0)) (aa (o8 rfl B.list rfl) ag))))) (e_ (cE (cF (sP rfl rfl B.all rfl (aa (ek (tn:=["part"]) (n:=0) (cg (N:=dH) (osc:=(ak dJ)) rfl rfl (by decide+kernel)) rfl rfl (bE (ae (pv 0))) (fun _ _ _ _ _ _ _=>dP (show Qw (((["part"]:List Str))++dj ["part"] dH) by decide+kernel) rfl rfl) (fun _ _ _ _ _ _=>eJ) (fun _ _ _ _ _ _=>(aO iD (hr.mono (by decide)) rfl bP (aa (ae (pv 0)) ag) rfl))) ag))))))) (ar gO) a6))
abbrev jd:Stmt:=top 19
def mr:List Str:=["thing"]
def mJ:List Str:=["thing"]
def tq:FnScope mr mJ (ak jd):=⟨rfl,rfl,rfl,by decide+kernel,rfl,by decide+kernel,by decide+kernel⟩
def sH(B:Bl K mg base cv cA Cp)(dR:ao P w K mg base cv 1 "is_whole" 1 a_)(T:bj K mg "need_ways" jd f):ao P w K mg base cv 2 "need_ways" 1 (bL):=
 az (N:=mr) (ps:=mJ) T tq (fun _ _ _ _ _ _ us hl=>match us,hl with | [_],_=>rfl) fun b9 A outer s H E hr=>
  (ar (bz (PDW.t (ik (cE (cF (aO dR (hr.mono (by decide)) rfl aT (aa (ae (pv 0)) ag) rfl))) (e_ (zD (ae (pv 0)) (ij (aa av (aa av ag))))))) (ar gO) a6))
abbrev i8:Stmt:=top 21
def mh:List Str:=["board","found","row"]
def mB:List Str:=["board"]
def iw:FnScope mh mB (ak i8):=⟨rfl,rfl,rfl,by decide+kernel,rfl,by decide+kernel,by decide+kernel⟩
def sx(B:Bl K mg base cv cA Cp)(fw:ao P w K mg base cv 1 "cells_of_row" 2 aW)(T:bj K mg "all_cells" i8 f):ao P w K mg base cv 2 "all_cells" 1 (cu):=
 az (N:=mh) (ps:=mB) T iw (fun _ _ _ _ _ _ us hl=>match us,hl with | [_],_=>rfl) fun b9 A outer s H E hr=>
  (ah (jz iw.nd rfl (.inl rfl)) (ah (cO (bX Pn rfl (dh rfl B.range (aa (bT rfl B.len (aa (ae (pv 0)) ag)) ag)) (a5 iw.nd rfl (.inl rfl)) bF (bp (ar (DY (pv 1) (aO fw (hr.mono (by decide)) rfl bP (aa (ae (pv 0)) (aa (ae (pv 2)) ag)) rfl)))))) (ar (cY (i:=1) (aA (ae (pv 1)))))))
abbrev ip:Stmt:=top 24
def kH:List Str:=["board","cell","ways","found","row","column"]
def kR:List Str:=["board","cell","ways"]
def ez:FnScope kH kR (ak ip):=⟨rfl,rfl,rfl,by decide+kernel,rfl,by decide+kernel,by decide+kernel⟩
def qc(B:Bl K mg base cv cA Cp)(vY:ao P w K mg base cv 1 "are_next" 3 df)(T:bj K mg "next_cells" ip f):ao P w K mg base cv 2 "next_cells" 3 (a8):=
 az (N:=kH) (ps:=kR) T ez (fun _ _ _ _ _ _ us hl=>match us,hl with | [_,_,_],_=>rfl) fun b9 A outer s H E hr=>
  (ah (jz ez.nd rfl (.inl rfl)) (ah (cO (bX Pn rfl (o9 rfl B.range (aa (sS rfl rfl B.max rfl (aa (iZ (a7 (ae (pv 1)) av) av) (aa av ag))) (aa (Bv rfl rfl B.min rfl (aa (b5 (a7 (ae (pv 1)) av) av) (aa (bT rfl B.len (aa (ae (pv 0)) ag)) ag))) ag))) (a5 ez.nd rfl (.inl rfl)) bF (bp (ar (bX Pn rfl (o9 rfl B.range (aa (sS rfl rfl B.max rfl (aa (iZ (a7 (ae (pv 1)) av) av) (aa av ag))) (aa (Bv rfl rfl B.min rfl (aa (b5 (a7 (ae (pv 1)) av) av) (aa (bT rfl B.len (aa (a7 (ae (pv 0)) av) ag)) ag))) ag))) (a5 ez.nd rfl (.inl rfl)) bF (bp (ar (bz (cF (aO vY (hr.mono (by decide)) rfl bP (aa (ae (pv 1)) (aa (ij (aa (ae (pv 4)) (aa (ae (pv 5)) ag))) (aa (ae (pv 2)) ag))) rfl)) (ar (jy (pv 3) (ij (aa (ae (pv 4)) (aa (ae (pv 5)) ag))))) a6)))))))) (ar (cY (i:=3) (aA (ae (pv 3)))))))
abbrev gm:Stmt:=top 42
def jJ:List Str:=["many","thing"]
def jN:List Str:=["many","thing"]
def pC:FnScope jJ jN (ak gm):=⟨rfl,rfl,rfl,by decide+kernel,rfl,by decide+kernel,by decide+kernel⟩
def oU(B:Bl K mg base cv cA Cp)(dR:ao P w K mg base cv 1 "is_whole" 1 a_)(T:bj K mg "need_number" gm f):ao P w K mg base cv 2 "need_number" 2 (cK):=
 az (N:=jJ) (ps:=jN) T pC (fun _ _ _ _ _ _ us hl=>match us,hl with | [_,_],_=>rfl) fun b9 A outer s H E hr=>
  (ar (bz (PDW.t (ik (cE (cF (aO dR (hr.mono (by decide)) rfl aT (aa (ae (pv 1)) ag) rfl))) (e_ (cE (xc oV yn av (ae (pv 1)) (ae (pv 0))))))) (ar gO) a6))
abbrev ja:Stmt:=top 48
def mm:List Str:=["_law_script","_law_k","_law_many","_law_cell_here"]
def mG:List Str:=["_law_script","_law_k","_law_many"]
def iy:FnScope mm mG (ak ja):=⟨rfl,rfl,rfl,by decide+kernel,rfl,by decide+kernel,by decide+kernel⟩
def sE(B:Bl K mg base cv cA Cp)(v3:ao P w K mg base cv 1 "_law_cell" 2 fG)(T:bj K mg "_law_drawn" ja f):ao P w K mg base cv 2 "_law_drawn" 3 (aR):=
 az (N:=mm) (ps:=mG) T iy (fun _ _ _ _ _ _ us hl=>match us,hl with | [_,_,_],_=>rfl) fun b9 A outer s H E hr=>
  (ah (aE iy.nd rfl (.inl rfl) (lL (b5 (j8 (lL (aO v3 (hr.mono (by decide)) rfl aT (aa (ae (pv 0)) (aa (ae (pv 1)) ag)) rfl) av) av) (j8 av (b5 (ae (pv 1)) av))) av)) (ah (aE iy.nd rfl (.inl rfl) (lL (b5 (j8 (ae (pv 3)) (ae (pv 3))) (sR (ae (pv 3)) av)) av)) (ar (aA (lL (sR (lL (b5 (j8 (ae (pv 3)) (ae (pv 3))) (sR (ae (pv 3)) av)) av) av) (ae (pv 2)))))))
abbrev fN:Stmt:=top 14
def dY:List Str:=["thing"]
def oX:List Str:=["thing"]
def vp:FnScope dY oX (ak fN):=⟨rfl,rfl,rfl,by decide+kernel,rfl,by decide+kernel,by decide+kernel⟩
def uT(B:Bl K mg base cv cA Cp)(Ac:ao P w K mg base cv 2 "is_row" 1 fF)(T:bj K mg "is_board" fN f):ao P w K mg base cv 3 "is_board" 1 (gZ):=
 az (N:=dY) (ps:=oX) T vp (fun _ _ _ _ _ _ us hl=>match us,hl with | [_],_=>rfl) fun b9 A outer s H E hr=>
  (ah (bz (PDW.t (ik (cE (cF (j6 rfl B.isinstance rfl (aa (ae (pv 0)) (aa (o8 rfl B.tuple rfl) ag))))) (e_ (cE (xc oV oV av (bT rfl B.len (aa (ae (pv 0)) ag)) (yr rfl B.MOST_ROWS)))))) (ar (aA fL)) a6) (ah (bz (cE (cF (sP rfl rfl B.all rfl (aa (ek (tn:=["row"]) (n:=0) (cg (N:=dY) (osc:=(ak fN)) rfl rfl (by decide+kernel)) rfl rfl (sT (ae (pv 0))) (fun _ _ _ _ _ _ _=>dP (show Qw (((["row"]:List Str))++dj ["row"] dY) by decide+kernel) rfl rfl) (fun _ _ _ _ _ _=>eJ) (fun _ _ _ _ _ _=>(aO Ac (hr.mono (by decide)) rfl bP (aa (ae (pv 0)) ag) rfl))) ag)))) (ar (aA fL)) a6) (ar (aA (sP rfl rfl B.all rfl (aa (ek (tn:=["row"]) (n:=0) (cg (N:=dY) (osc:=(ak fN)) rfl rfl (by decide+kernel)) rfl rfl (sT (ae (pv 0))) (fun _ _ _ _ _ _ _=>dP (show Qw (((["row"]:List Str))++dj ["row"] dY) by decide+kernel) rfl rfl) (fun _ _ _ _ _ _=>eJ) (fun _ _ _ _ _ _=>(u5 hr.units (bT rfl B.len (aa (ae (pv 0)) ag)) (bT rfl B.len (aa (a7 (ae (pv 1)) av) ag))))) ag))))))
abbrev jc:Stmt:=top 17
def mq:List Str:=["board","thing"]
def mI:List Str:=["board","thing"]
def tm:FnScope mq mI (ak jc):=⟨rfl,rfl,rfl,by decide+kernel,rfl,by decide+kernel,by decide+kernel⟩
def sG(B:Bl K mg base cv cA Cp)(yR:ao P w K mg base cv 2 "is_cell" 2 jr)(T:bj K mg "need_cell" jc f):ao P w K mg base cv 3 "need_cell" 2 (cw):=
 az (N:=mq) (ps:=mI) T tm (fun _ _ _ _ _ _ us hl=>match us,hl with | [_,_],_=>rfl) fun b9 A outer s H E hr=>
  (ar (bz (cE (cF (aO yR (hr.mono (by decide)) rfl aT (aa (ae (pv 0)) (aa (ae (pv 1)) ag)) rfl))) (ar gO) a6))
abbrev fc:Stmt:=top 28
def eW:List Str:=["board","cell","ways","letter"]
def kO:List Str:=["board","cell","ways"]
def jO:FnScope eW kO (ak fc):=⟨rfl,rfl,rfl,by decide+kernel,rfl,by decide+kernel,by decide+kernel⟩
def p_(B:Bl K mg base cv cA Cp)(fR:ao P w K mg base cv 1 "letter_of" 2 bK)(du:ao P w K mg base cv 2 "next_cells" 3 a8)(T:bj K mg "like_cells" fc f):ao P w K mg base cv 3 "like_cells" 3 (cy):=
 az (N:=eW) (ps:=kO) T jO (fun _ _ _ _ _ _ us hl=>match us,hl with | [_,_,_],_=>rfl) fun b9 A outer s H E hr=>
  (ah (aE jO.nd rfl (.inr rfl) (aO fR (hr.mono (by decide)) rfl aT (aa (ae (pv 0)) (aa (ae (pv 1)) ag)) rfl)) (ar (aA (ek (tn:=["near"]) (n:=0) (cg (N:=eW) (osc:=(ak fc)) rfl rfl (by decide+kernel)) rfl rfl (bE (aO du (hr.mono (by decide)) rfl aT (aa (ae (pv 0)) (aa (ae (pv 1)) (aa (ae (pv 2)) ag))) rfl)) (fun _ _ _ _ _ _ _=>dP (show Qw (((["near"]:List Str))++dj ["near"] eW) by decide+kernel) rfl rfl) (fun _ _ _ _ _ _=>(pI (vb hr.units (aO fR (hr.mono (by decide)) rfl bP (aa (ae (pv 1)) (aa (ae (pv 0)) ag)) rfl) (ae (pv 4))))) (fun _ _ _ _ _ _=>(ae (pv 0)))))))
abbrev fO:Stmt:=top 32
def iN:List Str:=["board","ways","found","numbers","near","cell","mine","other"]
def iV:List Str:=["board","ways","found"]
def bV:FnScope iN iV (ak fO):=⟨rfl,rfl,rfl,by decide+kernel,rfl,by decide+kernel,by decide+kernel⟩
def mY(B:Bl K mg base cv cA Cp)(dw:ao P w K mg base cv 1 "numbers_of" 1 bG)(eB:ao P w K mg base cv 2 "all_cells" 1 cu)(du:ao P w K mg base cv 2 "next_cells" 3 a8)(T:bj K mg "near_numbers" fO f):ao P w K mg base cv 3 "near_numbers" 3 (ck):=
 az (N:=iN) (ps:=iV) T bV (fun _ _ _ _ _ _ us hl=>match us,hl with | [_,_,_],_=>rfl) fun b9 A outer s H E hr=>
  (ah (aE bV.nd rfl (.inl rfl) (aO dw (hr.mono (by decide)) rfl aT (aa (ae (pv 2)) ag) rfl)) (ah (BI bV.nd rfl (.inl rfl)) (ah (cO (BH Pn rfl hr.units (bE (aO eB (hr.mono (by decide)) rfl bP (aa (ae (pv 0)) ag) rfl)) (a5 bV.nd rfl (.inl rfl)) (pv 4) (d9 hr.units (ae (pv 3)) (ae (pv 5))) ⟨rfl,rfl,rfl,rfl⟩ (a5 bV.nd rfl (.inl rfl)) (bE (aO du (hr.mono (by decide)) rfl bP (aa (ae (pv 0)) (aa (ae (pv 5)) (aa (ae (pv 1)) ag))) rfl)) (a5 bV.nd rfl (.inl rfl)) (mL hr.units (d9 hr.units (ae (pv 3)) (ae (pv 7))) (d9 hr.units (ae (pv 3)) (ae (pv 5)))) (pv 6) (d9 hr.units (ae (pv 3)) (ae (pv 7))))) (ar (cY (i:=4) (aA (ae (pv 4))))))))
abbrev fe:Stmt:=top 33
def eX:List Str:=["board","some","ways","among","near","cell"]
def kP:List Str:=["board","some","ways"]
def eu:FnScope eX kP (ak fe):=⟨rfl,rfl,rfl,by decide+kernel,rfl,by decide+kernel,by decide+kernel⟩
def qa(B:Bl K mg base cv cA Cp)(rP:ao P w K mg base cv 1 "keyed" 1 g0)(du:ao P w K mg base cv 2 "next_cells" 3 a8)(T:bj K mg "near_among" fe f):ao P w K mg base cv 3 "near_among" 3 (eV):=
 az (N:=eX) (ps:=kP) T eu (fun _ _ _ _ _ _ us hl=>match us,hl with | [_,_,_],_=>rfl) fun b9 A outer s H E hr=>
  (ah (aE eu.nd rfl (.inr rfl) (aO rP (hr.mono (by decide)) rfl aT (aa (ae (pv 1)) ag) rfl)) (ah (kW eu.nd rfl (.inl rfl)) (ah (cO (bX Pn rfl (bE (ae (pv 1))) (a5 eu.nd rfl (.inl rfl)) bF (bp (ar (i4 hr.units (pv 4) (ae (pv 5)) (ek (tn:=["other"]) (n:=0) (cg (N:=eX) (osc:=(ak fe)) rfl rfl (by decide+kernel)) rfl rfl (bE (aO du (hr.mono (by decide)) rfl bP (aa (ae (pv 0)) (aa (ae (pv 5)) (aa (ae (pv 2)) ag))) rfl)) (fun _ _ _ _ _ _ _=>dP (show Qw (((["other"]:List Str))++dj ["other"] eX) by decide+kernel) rfl rfl) (fun _ _ _ _ _ _=>(pI (GX hr.units (ae (pv 0)) (ae (pv 4))))) (fun _ _ _ _ _ _=>(ae (pv 0))))))))) (ar (cY (i:=4) (aA (ae (pv 4))))))))
abbrev f7:Stmt:=top 49
def fW:List Str:=["_law_script","_law_at","_law_most","_law_rows","_law_wide","_law_alphabet","_law_found","_law_row","_law_signs"]
def mE:List Str:=["_law_script","_law_at","_law_most"]
def bZ:FnScope fW mE (ak f7):=⟨rfl,rfl,rfl,by decide+kernel,rfl,by decide+kernel,by decide+kernel⟩
def sC(B:Bl K mg base cv cA Cp)(cQ:ao P w K mg base cv 2 "_law_drawn" 3 aR)(T:bj K mg "_law_board" f7 f):ao P w K mg base cv 3 "_law_board" 3 (eE):=
 az (N:=fW) (ps:=mE) T bZ (fun _ _ _ _ _ _ us hl=>match us,hl with | [_,_,_],_=>rfl) fun b9 A outer s H E hr=>
  (ah (aE bZ.nd rfl (.inl rfl) (b5 av (aO cQ (hr.mono (by decide)) rfl aT (aa (ae (pv 0)) (aa (ae (pv 1)) (aa (ae (pv 2)) ag))) rfl))) (ah (aE bZ.nd rfl (.inl rfl) (b5 av (aO cQ (hr.mono (by decide)) rfl aT (aa (ae (pv 0)) (aa (b5 (ae (pv 1)) av) (aa (ae (pv 2)) ag))) rfl))) (ah (aE bZ.nd rfl (.inr rfl) (j7 (iX (aa gh (aa gh (aa gh (aa gh ag))))) (aO cQ (hr.mono (by decide)) rfl aT (aa (ae (pv 0)) (aa (b5 (ae (pv 1)) av) (aa av ag))) rfl))) (ah (aE bZ.nd rfl (.inl rfl) (ij ag)) (ah (cO (bX Pn rfl (dh rfl B.range (aa (ae (pv 3)) ag)) (a5 bZ.nd rfl (.inr rfl)) bF (bp (ah (u_ (tn:=["_law_k"]) (n:=0) bZ.nd rfl (.inl rfl) (cg (N:=fW) (osc:=(ak f7)) rfl rfl (by decide+kernel)) rfl rfl (dh rfl B.range (aa (ae (pv 4)) ag)) (fun _ _ _ _ _ _ _=>dP (show Qw (((["_law_k"]:List Str))++dj ["_law_k"] fW) by decide+kernel) rfl rfl) (fun _ _ _ _ _ _=>eJ) (fun _ _ _ _ _ _=>(w6 (ae (pv 6)) (aO cQ (hr.mono (by decide)) rfl bP (aa (ae (pv 1)) (aa (b5 (b5 (b5 (ae (pv 2)) av) (j8 av (ae (pv 8)))) (ae (pv 0))) (aa (bT rfl B.len (aa (ae (pv 6)) ag)) ag))) rfl)))) (ar (aE bZ.nd rfl (.inl rfl) (DC (ae (pv 6)) (ij (aa (DG gh (aa (ae (pv 8)) ag)) ag))))))))) (ar (aA (ae (pv 6)))))))))
abbrev gk:Stmt:=top 52
def jI:List Str:=["_law_script","_law_at","_law_board_here"]
def jM:List Str:=["_law_script","_law_at","_law_board_here"]
def pB:FnScope jI jM (ak gk):=⟨rfl,rfl,rfl,by decide+kernel,rfl,by decide+kernel,by decide+kernel⟩
def oT(B:Bl K mg base cv cA Cp)(cQ:ao P w K mg base cv 2 "_law_drawn" 3 aR)(T:bj K mg "_law_cell_in" gk f):ao P w K mg base cv 3 "_law_cell_in" 3 (bJ):=
 az (N:=jI) (ps:=jM) T pB (fun _ _ _ _ _ _ us hl=>match us,hl with | [_,_,_],_=>rfl) fun b9 A outer s H E hr=>
  (ar (aA (ij (aa (aO cQ (hr.mono (by decide)) rfl aT (aa (ae (pv 0)) (aa (ae (pv 1)) (aa (bT rfl B.len (aa (ae (pv 2)) ag)) ag))) rfl) (aa (aO cQ (hr.mono (by decide)) rfl aT (aa (ae (pv 0)) (aa (b5 (ae (pv 1)) av) (aa (bT rfl B.len (aa (a7 (ae (pv 2)) av) ag)) ag))) rfl) ag)))))
abbrev il:Stmt:=top 16
def kG:List Str:=["thing"]
def kQ:List Str:=["thing"]
def qh:FnScope kG kQ (ak il):=⟨rfl,rfl,rfl,by decide+kernel,rfl,by decide+kernel,by decide+kernel⟩
def qb(B:Bl K mg base cv cA Cp)(vZ:ao P w K mg base cv 3 "is_board" 1 gZ)(T:bj K mg "need_board" il f):ao P w K mg base cv 4 "need_board" 1 (bx):=
 az (N:=kG) (ps:=kQ) T qh (fun _ _ _ _ _ _ us hl=>match us,hl with | [_],_=>rfl) fun b9 A outer s H E hr=>
  (ar (bz (cE (cF (aO vZ (hr.mono (by decide)) rfl aT (aa (ae (pv 0)) ag) rfl))) (ar gO) a6))
abbrev iu:Stmt:=top 29
def kJ:List Str:=["board","start","ways","back","ring","further","cell","near"]
def kT:List Str:=["board","start","ways"]
def b6:FnScope kJ kT (ak iu):=⟨rfl,rfl,rfl,by decide+kernel,rfl,by decide+kernel,by decide+kernel⟩
def qe(B:Bl K mg base cv cA Cp)(rQ:ao P w K mg base cv 3 "like_cells" 3 cy)(T:bj K mg "steps_back" iu f):ao P w K mg base cv 4 "steps_back" 3 (bo):=
 az (N:=kJ) (ps:=kT) T b6 (fun _ _ _ _ _ _ us hl=>match us,hl with | [_,_,_],_=>rfl) fun b9 A outer s H E hr=>
  (ah (pe b6.nd rfl (.inl rfl) (q_ hr.units (ae (pv 1)) iY)) (ah (aE b6.nd rfl (.inl rfl) (iX (aa (ae (pv 1)) ag))) (ah (cO (lO Pn (cF (ae (pv 4))) (bp (ah (jz b6.nd rfl (.inl rfl)) (ah (bX Pn rfl (bE (ae (pv 4))) (a5 b6.nd rfl (.inl rfl)) bF (bp (ar (bX Pn rfl (bE (aO rQ (hr.mono (by decide)) rfl bP (aa (ae (pv 0)) (aa (ae (pv 6)) (aa (ae (pv 2)) ag))) rfl)) (a5 b6.nd rfl (.inl rfl)) bF (bp (ar (bz (sU (gP hr.units (ae (pv 7)) (ae (pv 3)))) (ah (i4 hr.units (pv 3) (ae (pv 7)) (ae (pv 6))) (ar (jy (pv 5) (ae (pv 7))))) a6))))))) (ar (cY (i:=5) (aE b6.nd rfl (.inl rfl) (ae (pv 5)))))))))) (ar (cY (i:=3) (aA (ae (pv 3))))))))
abbrev eg:Stmt:=top 27
def gH:List Str:=["board","ways","one","other"]
def gL:List Str:=["board","ways","one","other"]
def kZ:FnScope gH gL (ak eg):=⟨rfl,rfl,rfl,by decide+kernel,rfl,by decide+kernel,by decide+kernel⟩
def kM(B:Bl K mg base cv cA Cp)(cx:ao P w K mg base cv 4 "need_board" 1 bx)(cR:ao P w K mg base cv 2 "need_ways" 1 bL)(eD:ao P w K mg base cv 3 "need_cell" 2 cw)(T:bj K mg "need_two_cells" eg f):ao P w K mg base cv 5 "need_two_cells" 4 (bf):=
 az (N:=gH) (ps:=gL) T kZ (fun _ _ _ _ _ _ us hl=>match us,hl with | [_,_,_,_],_=>rfl) fun b9 A outer s H E hr=>
  (ah (bR (aO cx (hr.mono (by decide)) rfl aT (aa (ae (pv 0)) ag) rfl)) (ah (bR (aO cR (hr.mono (by decide)) rfl aT (aa (ae (pv 1)) ag) rfl)) (ah (bR (aO eD (hr.mono (by decide)) rfl aT (aa (ae (pv 0)) (aa (ae (pv 2)) ag)) rfl)) (ar (bR (aO eD (hr.mono (by decide)) rfl aT (aa (ae (pv 0)) (aa (ae (pv 3)) ag)) rfl))))))
abbrev gj:Stmt:=top 30
def jH:List Str:=["board","ways","found","seen","cell","patch"]
def jL:List Str:=["board","ways"]
def cV:FnScope jH jL (ak gj):=⟨rfl,rfl,rfl,by decide+kernel,rfl,by decide+kernel,by decide+kernel⟩
def oS(B:Bl K mg base cv cA Cp)(eB:ao P w K mg base cv 2 "all_cells" 1 cu)(dz:ao P w K mg base cv 4 "steps_back" 3 bo)(rP:ao P w K mg base cv 1 "keyed" 1 g0)(T:bj K mg "all_patches" gj f):ao P w K mg base cv 5 "all_patches" 2 (bI):=
 az (N:=jH) (ps:=jL) T cV (fun _ _ _ _ _ _ us hl=>match us,hl with | [_,_],_=>rfl) fun b9 A outer s H E hr=>
  (ah (jz cV.nd rfl (.inl rfl)) (ah (kW cV.nd rfl (.inl rfl)) (ah (cO (bX Pn rfl (bE (aO eB (hr.mono (by decide)) rfl bP (aa (ae (pv 0)) ag) rfl)) (a5 cV.nd rfl (.inl rfl)) bF (bp (ar (bz (sU (gP hr.units (ae (pv 4)) (ae (pv 3)))) (ah (aE cV.nd rfl (.inl rfl) (DH rfl rfl B.sorted rfl (aa (aO dz (hr.mono (by decide)) rfl bP (aa (ae (pv 0)) (aa (ae (pv 4)) (aa (ae (pv 1)) ag))) rfl) ag))) (ah (jy (pv 2) (ae (pv 5))) (ar (DZ hr.units (pv 3) (aO rP (hr.mono (by decide)) rfl bP (aa (ae (pv 5)) ag) rfl) ⟨rfl,rfl,rfl,rfl⟩)))) a6))))) (ar (cY (i:=2) (aA (ae (pv 2))))))))
abbrev fg:Stmt:=top 40
def eY:List Str:=["board","ways","letters","one","other","near"]
def kU:List Str:=["board","ways","letters","one","other"]
def jP:FnScope eY kU (ak fg):=⟨rfl,rfl,rfl,by decide+kernel,rfl,by decide+kernel,by decide+kernel⟩
def qf(B:Bl K mg base cv cA Cp)(cx:ao P w K mg base cv 4 "need_board" 1 bx)(cR:ao P w K mg base cv 2 "need_ways" 1 bL)(nO:ao P w K mg base cv 2 "need_letters" 1 dE)(eD:ao P w K mg base cv 3 "need_cell" 2 cw)(rR:ao P w K mg base cv 3 "near_among" 3 eV)(eC:ao P w K mg base cv 1 "distances" 2 br)(eB:ao P w K mg base cv 2 "all_cells" 1 cu)(fR:ao P w K mg base cv 1 "letter_of" 2 bK)(T:bj K mg "steps_over" fg f):ao P w K mg base cv 5 "steps_over" 5 (aG):=
 az (N:=eY) (ps:=kU) T jP (fun _ _ _ _ _ _ us hl=>match us,hl with | [_,_,_,_,_],_=>rfl) fun b9 A outer s H E hr=>
  (ah (bR (aO cx (hr.mono (by decide)) rfl aT (aa (ae (pv 0)) ag) rfl)) (ah (bR (aO cR (hr.mono (by decide)) rfl aT (aa (ae (pv 1)) ag) rfl)) (ah (bR (aO nO (hr.mono (by decide)) rfl aT (aa (ae (pv 2)) ag) rfl)) (ah (bR (aO eD (hr.mono (by decide)) rfl aT (aa (ae (pv 0)) (aa (ae (pv 3)) ag)) rfl)) (ah (bR (aO eD (hr.mono (by decide)) rfl aT (aa (ae (pv 0)) (aa (ae (pv 4)) ag)) rfl)) (ah (aE jP.nd rfl (.inl rfl) (aO rR (hr.mono (by decide)) rfl aT (aa (ae (pv 0)) (aa (ek (tn:=["cell"]) (n:=0) (cg (N:=eY) (osc:=(ak fg)) rfl rfl (by decide+kernel)) rfl rfl (bE (aO eB (hr.mono (by decide)) rfl aT (aa (ae (pv 0)) ag) rfl)) (fun _ _ _ _ _ _ _=>dP (show Qw (((["cell"]:List Str))++dj ["cell"] eY) by decide+kernel) rfl rfl) (fun _ _ _ _ _ _=>(pI (GY hr.units (aO fR (hr.mono (by decide)) rfl bP (aa (ae (pv 1)) (aa (ae (pv 0)) ag)) rfl) (ae (pv 3))))) (fun _ _ _ _ _ _=>(ae (pv 0)))) (aa (ae (pv 1)) ag))) rfl)) (ah (bz (gP hr.units (ae (pv 3)) (ae (pv 5))) (ar (aA iY)) a6) (ar (aA (DD hr.units (aO eC (hr.mono (by decide)) rfl aT (aa (ae (pv 5)) (aa (ae (pv 3)) ag)) rfl) (ae (pv 4)) ⟨rfl,rfl,rfl,rfl⟩))))))))))
abbrev iq:Stmt:=top 35
def hX:List Str:=["board","ways","numbers","told","row"]
def o4:List Str:=["board","ways"]
def f_:FnScope hX o4 (ak iq):=⟨rfl,rfl,rfl,by decide+kernel,rfl,by decide+kernel,by decide+kernel⟩
def uX(B:Bl K mg base cv cA Cp)(cx:ao P w K mg base cv 4 "need_board" 1 bx)(cR:ao P w K mg base cv 2 "need_ways" 1 bL)(dw:ao P w K mg base cv 1 "numbers_of" 1 bG)(c0:ao P w K mg base cv 5 "all_patches" 2 bI)(fw:ao P w K mg base cv 1 "cells_of_row" 2 aW)(T:bj K mg "numbered" iq f):ao P w K mg base cv 6 "numbered" 2 (dU):=
 az (N:=hX) (ps:=o4) T f_ (fun _ _ _ _ _ _ us hl=>match us,hl with | [_,_],_=>rfl) fun b9 A outer s H E hr=>
  (ah (bR (aO cx (hr.mono (by decide)) rfl aT (aa (ae (pv 0)) ag) rfl)) (ah (bR (aO cR (hr.mono (by decide)) rfl aT (aa (ae (pv 1)) ag) rfl)) (ah (aE f_.nd rfl (.inr rfl) (aO dw (hr.mono (by decide)) rfl aT (aa (aO c0 (hr.mono (by decide)) rfl aT (aa (ae (pv 0)) (aa (ae (pv 1)) ag)) rfl) ag) rfl)) (ah (jz f_.nd rfl (.inl rfl)) (ah (cO (bX Pn rfl (dh rfl B.range (aa (bT rfl B.len (aa (ae (pv 0)) ag)) ag)) (a5 f_.nd rfl (.inl rfl)) bF (bp (ar (jy (pv 3) (ek (tn:=["cell"]) (n:=0) (cg (N:=hX) (osc:=(ak iq)) rfl rfl (by decide+kernel)) rfl rfl (bE (aO fw (hr.mono (by decide)) rfl bP (aa (ae (pv 0)) (aa (ae (pv 4)) ag)) rfl)) (fun _ _ _ _ _ _ _=>dP (show Qw (((["cell"]:List Str))++dj ["cell"] hX) by decide+kernel) rfl rfl) (fun _ _ _ _ _ _=>eJ) (fun _ _ _ _ _ _=>(d9 hr.units (ae (pv 3)) (ae (pv 0)))))))))) (ar (cY (i:=3) (aA (ae (pv 3))))))))))
abbrev lT:Stmt:=top 36
def qS:List Str:=["board","ways","one","other"]
def qY:List Str:=["board","ways","one","other"]
def xg:FnScope qS qY (ak lT):=⟨rfl,rfl,rfl,by decide+kernel,rfl,by decide+kernel,by decide+kernel⟩
def wO(B:Bl K mg base cv cA Cp)(cf:ao P w K mg base cv 5 "need_two_cells" 4 bf)(dz:ao P w K mg base cv 4 "steps_back" 3 bo)(T:bj K mg "are_one" lT f):ao P w K mg base cv 6 "are_one" 4 (fm):=
 az (N:=qS) (ps:=qY) T xg (fun _ _ _ _ _ _ us hl=>match us,hl with | [_,_,_,_],_=>rfl) fun b9 A outer s H E hr=>
  (ah (bR (aO cf (hr.mono (by decide)) rfl aT (aa (ae (pv 0)) (aa (ae (pv 1)) (aa (ae (pv 2)) (aa (ae (pv 3)) ag)))) rfl)) (ar (aA (GC hr.units (ae (pv 3)) (aO dz (hr.mono (by decide)) rfl aT (aa (ae (pv 0)) (aa (ae (pv 2)) (aa (ae (pv 1)) ag))) rfl)))))
abbrev BZ:Stmt:=top 37
def EI:List Str:=["board","ways","one","other","back","told"]
def EO:List Str:=["board","ways","one","other"]
def xi:FnScope EI EO (ak BZ):=⟨rfl,rfl,rfl,by decide+kernel,rfl,by decide+kernel,by decide+kernel⟩
def Gm(B:Bl K mg base cv cA Cp)(cf:ao P w K mg base cv 5 "need_two_cells" 4 bf)(dz:ao P w K mg base cv 4 "steps_back" 3 bo)(T:bj K mg "way" BZ f):ao P w K mg base cv 6 "way" 4 (l9):=
 az (N:=EI) (ps:=EO) T xi (fun _ _ _ _ _ _ us hl=>match us,hl with | [_,_,_,_],_=>rfl) fun b9 A outer s H E hr=>
  (ah (bR (aO cf (hr.mono (by decide)) rfl aT (aa (ae (pv 0)) (aa (ae (pv 1)) (aa (ae (pv 2)) (aa (ae (pv 3)) ag)))) rfl)) (ah (aE xi.nd rfl (.inl rfl) (aO dz (hr.mono (by decide)) rfl aT (aa (ae (pv 0)) (aa (ae (pv 3)) (aa (ae (pv 1)) ag))) rfl)) (ah (bz (gP hr.units (ae (pv 2)) (ae (pv 4))) (ar (aA iY)) a6) (ah (pe xi.nd rfl (.inl rfl) (DK (aa (ae (pv 2)) ag))) (ah (cO (lO Pn (sU (mL hr.units (j7 (ae (pv 5)) (Bw av)) (ae (pv 3)))) (ar (jy (pv 5) (ET (d9 hr.units (ae (pv 4)) (j7 (ae (pv 5)) (Bw av)))))))) (ar (cY (i:=5) (aA (ae (pv 5))))))))))
abbrev d_:Stmt:=top 39
def gG:List Str:=["board","ways","one","other","found","numbers"]
def gK:List Str:=["board","ways","one","other"]
def dN:FnScope gG gK (ak d_):=⟨rfl,rfl,rfl,by decide+kernel,rfl,by decide+kernel,by decide+kernel⟩
def kL(B:Bl K mg base cv cA Cp)(cf:ao P w K mg base cv 5 "need_two_cells" 4 bf)(c0:ao P w K mg base cv 5 "all_patches" 2 bI)(dw:ao P w K mg base cv 1 "numbers_of" 1 bG)(eC:ao P w K mg base cv 1 "distances" 2 br)(fB:ao P w K mg base cv 3 "near_numbers" 3 ck)(T:bj K mg "fewest_changes" d_ f):ao P w K mg base cv 6 "fewest_changes" 4 (aH):=
 az (N:=gG) (ps:=gK) T dN (fun _ _ _ _ _ _ us hl=>match us,hl with | [_,_,_,_],_=>rfl) fun b9 A outer s H E hr=>
  (ah (bR (aO cf (hr.mono (by decide)) rfl aT (aa (ae (pv 0)) (aa (ae (pv 1)) (aa (ae (pv 2)) (aa (ae (pv 3)) ag)))) rfl)) (ah (aE dN.nd rfl (.inl rfl) (aO c0 (hr.mono (by decide)) rfl aT (aa (ae (pv 0)) (aa (ae (pv 1)) ag)) rfl)) (ah (aE dN.nd rfl (.inl rfl) (aO dw (hr.mono (by decide)) rfl aT (aa (ae (pv 4)) ag) rfl)) (ar (aA (d9 hr.units (aO eC (hr.mono (by decide)) rfl aT (aa (aO fB (hr.mono (by decide)) rfl aT (aa (ae (pv 0)) (aa (ae (pv 1)) (aa (ae (pv 4)) ag))) rfl) (aa (d9 hr.units (ae (pv 5)) (ae (pv 2))) ag)) rfl) (d9 hr.units (ae (pv 5)) (ae (pv 3)))))))))
abbrev pw:Stmt:=top 44
def uJ:List Str:=["board","ways"]
def u4:List Str:=["board","ways"]
def zL:FnScope uJ u4 (ak pw):=⟨rfl,rfl,rfl,by decide+kernel,rfl,by decide+kernel,by decide+kernel⟩
def zu(B:Bl K mg base cv cA Cp)(cx:ao P w K mg base cv 4 "need_board" 1 bx)(cR:ao P w K mg base cv 2 "need_ways" 1 bL)(fB:ao P w K mg base cv 3 "near_numbers" 3 ck)(c0:ao P w K mg base cv 5 "all_patches" 2 bI)(T:bj K mg "map_of" pw f):ao P w K mg base cv 6 "map_of" 2 (ku):=
 az (N:=uJ) (ps:=u4) T zL (fun _ _ _ _ _ _ us hl=>match us,hl with | [_,_],_=>rfl) fun b9 A outer s H E hr=>
  (ah (bR (aO cx (hr.mono (by decide)) rfl aT (aa (ae (pv 0)) ag) rfl)) (ah (bR (aO cR (hr.mono (by decide)) rfl aT (aa (ae (pv 1)) ag) rfl)) (ar (aA (aO fB (hr.mono (by decide)) rfl aT (aa (ae (pv 0)) (aa av (aa (aO c0 (hr.mono (by decide)) rfl aT (aa (ae (pv 0)) (aa (ae (pv 1)) ag)) rfl) ag))) rfl)))))
abbrev lU:Stmt:=top 45
def qT:List Str:=["board","ways","one","other","near"]
def qZ:List Str:=["board","ways","one","other"]
def pz:FnScope qT qZ (ak lU):=⟨rfl,rfl,rfl,by decide+kernel,rfl,by decide+kernel,by decide+kernel⟩
def wQ(B:Bl K mg base cv cA Cp)(Ae:ao P w K mg base cv 6 "map_of" 2 ku)(jD:ao P w K mg base cv 2 "need_number" 2 cK)(eC:ao P w K mg base cv 1 "distances" 2 br)(T:bj K mg "borders" lU f):ao P w K mg base cv 7 "borders" 4 (fo):=
 az (N:=qT) (ps:=qZ) T pz (fun _ _ _ _ _ _ us hl=>match us,hl with | [_,_,_,_],_=>rfl) fun b9 A outer s H E hr=>
  (ah (aE pz.nd rfl (.inl rfl) (aO Ae (hr.mono (by decide)) rfl aT (aa (ae (pv 0)) (aa (ae (pv 1)) ag)) rfl)) (ah (bR (aO jD (hr.mono (by decide)) rfl aT (aa (yu rfl B.len (aa (ae (pv 4)) ag)) (aa (ae (pv 2)) ag)) rfl)) (ah (bR (aO jD (hr.mono (by decide)) rfl aT (aa (yu rfl B.len (aa (ae (pv 4)) ag)) (aa (ae (pv 3)) ag)) rfl)) (ar (aA (d9 hr.units (aO eC (hr.mono (by decide)) rfl aT (aa (ae (pv 4)) (aa (ae (pv 2)) ag)) rfl) (ae (pv 3))))))))
abbrev aM:Stmt:=top 53
def dZ:List Str:=["_law_script","_law_board_here","_law_whole","_law_ways","_law_one","_law_third","_law_own","_law_numbers","_law_other","_law_here","_law_far","_law_row","_law_down","_law_right","_law_least","_law_more"]
def lK:List Str:=["_law_script"]
def aZ:FnScope dZ lK (ak aM):=⟨rfl,rfl,rfl,by decide+kernel,rfl,by decide+kernel,by decide+kernel⟩
def tw(B:Bl K mg base cv cA Cp)(iE:ao P w K mg base cv 3 "_law_board" 3 eE){b9:Value}{A:P_}{outer:List Env}{s:O0}{H:Hp}{E:XK}(hr:Room 7 (A.deeper (RH "law" (ak aM) s.heap.objs.size f b9))):
 Box (ki (gx (ql P w cv) P w K mg base dZ "law" (ak aM) f b9 A outer s H E) (fun n H'=>E (cv n) none H') ((bQ aM).getD 0 (.Pass ⟨0,0,0,0⟩)) mO):=
 ⟨(aE aZ.nd rfl (.inl rfl) (aO iE (hr.mono (by decide)) rfl aT (aa (ae (pv 0)) (aa av (aa av ag))) rfl))⟩
def tB(B:Bl K mg base cv cA Cp){b9:Value}{A:P_}{outer:List Env}{s:O0}{H:Hp}{E:XK}(hr:Room 7 (A.deeper (RH "law" (ak aM) s.heap.objs.size f b9))):
 Box (ki (gx (ql P w cv) P w K mg base dZ "law" (ak aM) f b9 A outer s H E) (fun n H'=>E (cv n) none H') ((bQ aM).getD 1 (.Pass ⟨0,0,0,0⟩)) mP):=
 ⟨(aE aZ.nd rfl (.inl rfl) (iX (aa gh (aa gh (aa gh (aa gh ag))))))⟩
def tE(B:Bl K mg base cv cA Cp)(eh:ao P w K mg base cv 3 "_law_cell_in" 3 bJ)(jS:ao P w K mg base cv 6 "numbered" 2 dU)(iF:ao P w K mg base cv 1 "_law_cells" 1 cT)(jR:ao P w K mg base cv 1 "_law_sign" 2 dS)(bN:ao P w K mg base cv 6 "fewest_changes" 4 aH)(lr:ao P w K mg base cv 7 "borders" 4 fo)(Af:ao P w K mg base cv 6 "way" 4 l9)(dB:ao P w K mg base cv 5 "steps_over" 5 aG)(lq:ao P w K mg base cv 6 "are_one" 4 fm){b9:Value}{A:P_}{outer:List Env}{s:O0}{H:Hp}{E:XK}(hr:Room 7 (A.deeper (RH "law" (ak aM) s.heap.objs.size f b9))):
 Box (ki (gx (ql P w cv) P w K mg base dZ "law" (ak aM) f b9 A outer s H E) (fun n H'=>E (cv n) none H') ((bQ aM).getD 2 (.Pass ⟨0,0,0,0⟩)) mQ):=
 ⟨(cO (bX Pn rfl (sT (ij (aa av (aa av ag)))) (a5 aZ.nd rfl (.inl rfl)) bF (bp (ah (aE aZ.nd rfl (.inl rfl) (aO eh (hr.mono (by decide)) rfl bP (aa (ae (pv 0)) (aa (b5 av (ae (pv 3))) (aa (ae (pv 1)) ag))) rfl)) (ah (aE aZ.nd rfl (.inl rfl) (aO eh (hr.mono (by decide)) rfl bP (aa (ae (pv 0)) (aa (b5 av (ae (pv 3))) (aa (ae (pv 1)) ag))) rfl)) (ah (aE aZ.nd rfl (.inl rfl) (iX (aa (aO jR (hr.mono (by decide)) rfl bP (aa (ae (pv 1)) (aa (ae (pv 4)) ag)) rfl) ag))) (ah (aE aZ.nd rfl (.inl rfl) (aO jS (hr.mono (by decide)) rfl bP (aa (ae (pv 1)) (aa (ae (pv 3)) ag)) rfl)) (ar (bX Pn rfl (bE (aO iF (hr.mono (by decide)) rfl bP (aa (ae (pv 1)) ag) rfl)) (a5 aZ.nd rfl (.inl rfl)) bF (bp (ah (aE aZ.nd rfl (.inl rfl) (aO bN (hr.mono (by decide)) rfl bP (aa (ae (pv 1)) (aa (ae (pv 3)) (aa (ae (pv 4)) (aa (ae (pv 8)) ag)))) rfl)) (ah (bz (mL hr.units (ae (pv 9)) (aO bN (hr.mono (by decide)) rfl bP (aa (ae (pv 1)) (aa (ae (pv 3)) (aa (ae (pv 8)) (aa (ae (pv 4)) ag)))) rfl)) (ar (aA fL)) a6) (ah (bz (mL hr.units (u5 hr.units (ae (pv 9)) av) (aO lq (hr.mono (by decide)) rfl bP (aa (ae (pv 1)) (aa (ae (pv 3)) (aa (ae (pv 4)) (aa (ae (pv 8)) ag)))) rfl)) (ar (aA fL)) a6) (ah (bz (BK (ae (pv 9)) (b5 (aO bN (hr.mono (by decide)) rfl bP (aa (ae (pv 1)) (aa (ae (pv 3)) (aa (ae (pv 4)) (aa (ae (pv 5)) ag)))) rfl) (aO bN (hr.mono (by decide)) rfl bP (aa (ae (pv 1)) (aa (ae (pv 3)) (aa (ae (pv 5)) (aa (ae (pv 8)) ag)))) rfl))) (ar (aA fL)) a6) (ah (aE aZ.nd rfl (.inl rfl) (aO lr (hr.mono (by decide)) rfl bP (aa (ae (pv 1)) (aa (ae (pv 3)) (aa (j7 (j7 (ae (pv 7)) (a7 (ae (pv 4)) av)) (a7 (ae (pv 4)) av)) (aa (j7 (j7 (ae (pv 7)) (a7 (ae (pv 8)) av)) (a7 (ae (pv 8)) av)) ag)))) rfl)) (ah (bz (PDW.t (ik (BK (ae (pv 9)) (ae (pv 10))) (e_ (PDW.t (sV (vb hr.units (ae (pv 3)) av) (o_ (mL hr.units (ae (pv 9)) (ae (pv 10))))))))) (ar (aA fL)) a6) (ah (aE aZ.nd rfl (.inl rfl) (aO Af (hr.mono (by decide)) rfl bP (aa (ae (pv 1)) (aa (ae (pv 3)) (aa (ae (pv 4)) (aa (ae (pv 8)) ag)))) rfl)) (ah (bz (mL hr.units (aO dB (hr.mono (by decide)) rfl bP (aa (ae (pv 1)) (aa (ae (pv 3)) (aa (ae (pv 6)) (aa (ae (pv 4)) (aa (ae (pv 8)) ag))))) rfl) (ER (BL (ae (pv 11)) iY) iY (iZ (bT rfl B.len (aa (ae (pv 11)) ag)) av))) (ar (aA fL)) a6) (ah (aE aZ.nd rfl (.inl rfl) (sO rfl B.abs (aa (iZ (a7 (ae (pv 4)) av) (a7 (ae (pv 8)) av)) ag) rfl)) (ah (aE aZ.nd rfl (.inl rfl) (sO rfl B.abs (aa (iZ (a7 (ae (pv 4)) av) (a7 (ae (pv 8)) av)) ag) rfl)) (ah (aE aZ.nd rfl (.inl rfl) (ER (vb hr.units (ae (pv 3)) av) (b5 (ae (pv 12)) (ae (pv 13))) (sS rfl rfl B.max rfl (aa (ae (pv 12)) (aa (ae (pv 13)) ag))))) (ah (bz (mL hr.units (aO dB (hr.mono (by decide)) rfl bP (aa (ae (pv 1)) (aa (ae (pv 3)) (aa (ae (pv 2)) (aa (ae (pv 4)) (aa (ae (pv 8)) ag))))) rfl) (ae (pv 14))) (ar (aA fL)) a6) (ah (aE aZ.nd rfl (.inl rfl) (aO dB (hr.mono (by decide)) rfl bP (aa (ae (pv 1)) (aa (ae (pv 3)) (aa (yp (ae (pv 6)) (iX (aa gh ag))) (aa (ae (pv 4)) (aa (ae (pv 8)) ag))))) rfl)) (ah (bz (PDW.t (sV (yA (ae (pv 11)) iY) (o_ (PDW.t (ik (BL (ae (pv 15)) iY) (e_ (BK (ae (pv 15)) (iZ (bT rfl B.len (aa (ae (pv 11)) ag)) av)))))))) (ar (aA fL)) a6) (ar (bz (PDW.t (sV (yA (ae (pv 15)) iY) (o_ (Ji (ae (pv 15)) (ae (pv 14)))))) (ar (aA fL)) a6))))))))))))))))))))))))))⟩
def tF(B:Bl K mg base cv cA Cp){b9:Value}{A:P_}{outer:List Env}{s:O0}{H:Hp}{E:XK}(hr:Room 7 (A.deeper (RH "law" (ak aM) s.heap.objs.size f b9))):
 Box (ki (gx (ql P w cv) P w K mg base dZ "law" (ak aM) f b9 A outer s H E) (fun n H'=>E (cv n) none H') ((bQ aM).getD 3 (.Pass ⟨0,0,0,0⟩)) mR):=
 ⟨(aA fL)⟩
def uQ{fd:QT}(B:Bl K mg base cv cA Cp)(iE:ao P w K mg base cv 3 "_law_board" 3 eE)(eh:ao P w K mg base cv 3 "_law_cell_in" 3 bJ)(jS:ao P w K mg base cv 6 "numbered" 2 dU)(iF:ao P w K mg base cv 1 "_law_cells" 1 cT)(jR:ao P w K mg base cv 1 "_law_sign" 2 dS)(bN:ao P w K mg base cv 6 "fewest_changes" 4 aH)(lr:ao P w K mg base cv 7 "borders" 4 fo)(Af:ao P w K mg base cv 6 "way" 4 l9)(dB:ao P w K mg base cv 5 "steps_over" 5 aG)(lq:ao P w K mg base cv 6 "are_one" 4 fm)(Fn:Fun K "law" "law" aM f fd):FnOk P w K mg base (ql P w cv) 8 f fd lK (Hr K cv 1 js):=
 HP (N:=dZ) (ps:=lK) (τ:=lZ) Fn aZ fun b9 A outer s H E hr=>by
  obtain⟨ON⟩:Box (PSDs (gx (ql P w cv) P w K mg base dZ "law" (ak aM) f b9 A outer s H E) (fun n H'=>E (cv n) none H') (bQ aM) lZ):=(vX (tw B iE hr) (vX (tB B hr) (vX (tE B eh jS iF jR bN lr Af dB lq hr) (Fh (tF B hr)))))
  assumption
end
end K1
namespace K1
open PySem L2 L3
def A5{ds:List D}(h:ds.length<=lim):eF ds=ab (.lst ds):=if_pos h
def cU:lim=4096:=rfl
def gq{α:Type}{xs:List α}{i:Nat}{x:α}(h:xs[i]? =some x):L2.atI xs (i:Int)=some x:=by
 obtain⟨hi,e⟩:=OZ.mp h
 unfold L2.atI Cu
 rw[if_pos (Int.natCast_nonneg i),if_pos (by exact Int.ofNat_lt.mpr hi)]
 exact h
def aj{m:Nat}{g:List D->M D}{δs:DA}{Z:aP}{ds:List D}(h:δs Z=ab ds)(hl:ds.length=m):aq m g δs Z=g ds:=by
 unfold aq
 rw[h]
 exact if_pos hl
def aI{a:DE}{r:DA}{Z:aP}{x:D}{xs:List D}(h1:a Z=ab x)(h2:r Z=ab xs):aC a r Z=ab (x::xs):=by
 unfold aC
 rw[h1,au,h2]
 rfl
def aB{g:D->D->M D}{a b:DE}{Z:aP}{x y:D}(h1:a Z=ab x)(h2:b Z=ab y):d2 g a b Z=g x y:=by
 unfold d2
 rw[h1,au,h2]
 rfl
def cS{g:List D->M D}{a:DA}{Z:aP}{xs:List D}(h:a Z=ab xs):dA g a Z=g xs:=by
 unfold dA
 rw[h]
 rfl
def gz{i j:Int}(h:0<j):kz (.int i) (.int j)=ab (.int (i % j)):=by
 show (if decide (0<j)=true then _ else _)=_
 rw[if_pos (decide_eq_true h)]
def ky{i j:Int}(h:0<j)(h2:j<1073741824):pV (.int i) (.int j)=ab (.int (i / j)):=by
 show (if decide (0<j/\j<1073741824)=true then _ else _)=_
 rw[if_pos (decide_eq_true ⟨h,h2⟩)]
def gA{i j:Int}(h:(-(2 ^ 64)<i/\i<2 ^ 64)\/(-(2 ^ 64)<j/\j<2 ^ 64)):iH (.int i) (.int j)=ab (.int (i*j)):=by
 show (if decide _=true then _ else _)=_
 rw[if_pos (decide_eq_true h)]
def iG{i j:Int}:cz (.int i) (.int j)=ab (.int (i+j)):=rfl
def Ai(ns:List Int)(hl:ns.length<=63)(k:Nat):∃v,fG [.scr ns, .int (k:Int)]=ab (.int v):=by
 cases ns with
 |nil=>
  refine⟨7*(k:Int),?_⟩
  rfl
 |cons n r=>
  have hp:0<(n::r).length:=Nat.succ_pos _
  generalize e:(n::r)=ns at*
  have he:mT 6 (.scr ns) (.lst [])=some false:=by subst e;rfl
  obtain⟨y,hy⟩:∃y,ns[k % ns.length]? =some y:=⟨_,OY (Tn _ hp)⟩
  have Mj:(0:Int)<(ns.length:Int):=by omega
  have h1:kz (.int (k:Int)) (.int (ns.length:Int))=ab (.int ((k % ns.length:Nat):Int)):=gz Mj
  have h2:pV (.int (k:Int)) (.int (ns.length:Int))=ab (.int ((k:Int) / (ns.length:Int))):=ky Mj (by omega)
  have h3:AE (.scr ns) (.int ((k % ns.length:Nat):Int))=ab (.int y):=by
   show (match L2.atI ns ((k % ns.length:Nat):Int) with | some n=>ab (D.int n) | none=>af)=_
   rw[gq hy]
  have h4:iH (.int 6553) (.int ((k:Int) / (ns.length:Int)))=ab (.int (6553*((k:Int) / (ns.length:Int)))):=gA (.inl ⟨by decide,by decide⟩)
  refine⟨y+6553*((k:Int) / (ns.length:Int)),?_⟩
  simp only[fG,pQ,bS,ay,fb,aX,bY,bH,d2,dV,dC,dA,aC,aN,eF,bh,zX,lA,he,au,h1,h2,h3,h4,O3,QU,Rh,P2,O5,Qv,PZ,Qa,cU,Nat.reduceAdd,PB,if_true,P7,if_false,cz,gI]
def fk(ns:List Int)(hl:ns.length<=63)(k m:Nat)(hm:0<m):∃v:Nat,v<m/\aR [.scr ns, .int (k:Int), .int (m:Int)]=ab (.int (v:Int)):=by
 obtain⟨c,hc⟩:=Ai ns hl k
 have b1:=S9 (c % 2147483563*69069+104723*((k:Int)+1)) (b:=2147483563) (by decide)
 have b2:=Sw (c % 2147483563*69069+104723*((k:Int)+1)) (b:=2147483563) (by decide)
 generalize hx:(c % 2147483563*69069+104723*((k:Int)+1)) % 2147483563=x at b1 b2
 have b3:=S9 (x*x+x / 3) (b:=2147483399) (by decide)
 have b4:=Sw (x*x+x / 3) (b:=2147483399) (by decide)
 generalize hy:(x*x+x / 3) % 2147483399=y at b3 b4
 have m1:iH (.int (c % 2147483563)) (.int 69069)=_:=gA (.inr ⟨by decide,by decide⟩)
 have m2:iH (.int 104723) (.int ((k:Int)+1))=_:=gA (.inl ⟨by decide,by decide⟩)
 have m3:iH (.int x) (.int x)=_:=gA (.inl ⟨by omega,by omega⟩)
 have m4:iH (.int y) (.int y)=_:=gA (.inl ⟨by omega,by omega⟩)
 have hM:(0:Int)<(m:Int):=Int.ofNat_lt.mpr hm
 have n1:=S9 ((y*y+y / 7) % 2147483647 / 11) (b:=(m:Int)) (by omega)
 have n2:=Sw ((y*y+y / 7) % 2147483647 / 11) hM
 have q1:kz (.int c) (.int 2147483563)=_:=gz (by decide)
 have q2:kz (.int (c % 2147483563*69069+104723*((k:Int)+1))) (.int 2147483563)=_:=gz (by decide)
 have q3:pV (.int x) (.int 3)=_:=ky (by decide) (by decide)
 have q4:kz (.int (x*x+x / 3)) (.int 2147483399)=_:=gz (by decide)
 have q5:pV (.int y) (.int 7)=_:=ky (by decide) (by decide)
 have q6:kz (.int (y*y+y / 7)) (.int 2147483647)=_:=gz (by decide)
 have q7:pV (.int ((y*y+y / 7) % 2147483647)) (.int 11)=_:=ky (by decide) (by decide)
 have q8:kz (.int ((y*y+y / 7) % 2147483647 / 11)) (.int (m:Int))=_:=gz hM
 refine⟨((y*y+y / 7) % 2147483647 / 11 % (m:Int)).toNat,by omega,?_⟩
 rw[Int.toNat_of_nonneg n1]
 rw[hx] at q2
 rw[hy] at q4
 simp only[aR,mN,bS,ay,bg,aX,aq,d2,dV,dC,dA,aC,aN,au,hc,O3,QU,Rh,P2,O5,Qv,PZ,Qa,PV,Sr,Ss,Nat.reduceAdd,Nat.reduceSub,if_true,iG,m1,m2,m3,m4,q1,q2,q3,q4,q5,q6,q7,q8]
def Bd{α:Type}(a:α):noex (ab a)=ab a:=rfl
def uq{put:D->aP->Option aP}{body:DS}{I:Nat->aP->Prop}:∀(ds:List D) (i:Nat) (Z:aP),I i Z->
 (∀j d,ds[j]? =some d->∀Z,I (i+j) Z->∃Z1 Z2,put d Z=some Z1/\body Z1=ab (.nx Z2)/\I (i+j+1) Z2)->∃Z',forL put body ds Z=ab (.nx Z')/\I (i+ds.length) Z'
 |[],i,Z,h,_=>⟨Z,rfl,h⟩
 |d::ds,i,Z,h,step=>by
  obtain⟨Z1,Z2,e1,e2,h2⟩:=step 0 d rfl Z h
  obtain⟨Z',e3,h3⟩:=uq (I:=I) ds (i+1) Z2 h2 fun j d' hd Z hI=>by
   have:=step (j+1) d' hd Z (by rw[show i+(j+1)=i+1+j by omega];exact hI)
   rw[show i+(j+1)+1=i+1+j+1 by omega] at this
   exact this
  refine⟨Z',?_,?_⟩
  ·show (match put d Z with | none=>af | some Z1=>body Z1>>=fun o=>match o with | .nx Z2=>forL put body ds Z2 | .rt v=>ab (.rt v))=_
   rw[e1]
   show (body Z1>>=fun o=>match o with | .nx Z2=>forL put body ds Z2 | .rt v=>ab (.rt v))=_
   rw[e2]
   exact e3
  ·rw[show i+(d::ds).length=i+1+ds.length by simp;omega]
   exact h3
def qx{f:D->M (Option D)}{Pr:D->Prop}:∀(ds:List D),(∀d∈ds,∃y,f d=ab (some y)/\Pr y)->∃ys,di f ds=ab ys/\ys.length=ds.length/\∀y∈ys,Pr y
 |[],_=>⟨[],rfl,rfl,fun _ h=>by cases h⟩
 |d::ds,h=>by
  obtain⟨y,e,hy⟩:=h d (OV ..)
  obtain⟨ys,e2,hl,hp⟩:=qx ds fun d' hd=>h d' (OU _ hd)
  refine⟨y::ys,?_,by simp[hl],fun z hz=>?_⟩
  ·rw[fC,e,au,e2]
   rfl
  ·cases hz with
   |head=>exact hy
   |tail _ hz=>exact hp z hz
def gw{f:D->M (Option D)}{g:D->D}:∀(ds:List D),(∀d∈ds,f d=ab (some (g d)))->di f ds=ab (ds.map g)
 |[],_=>rfl
 |d::ds,h=>by
  rw[fC,h d (OV ..),au,gw ds fun d' hd=>h d' (OU _ hd)]
  rfl
def C7(x:Str):Bool:=!(QL ("abcdef":Str) x 0 ("abcdef":Str).length 1).isEmpty
structure Row (W:Nat) (r:Str):Prop where
 len:r.length=W
 let':∀c∈r.cps.toList,C7 ⟨#[c]⟩=true
structure Good (bd:List Str) (W:Nat):Prop where
 r1:1<=bd.length
 r5:bd.length<=5
 w1:1<=W
 w5:W<=5
 rows:∀r∈bd,Row W r
abbrev lE(c:Nat):Prop:=C7 ⟨#[c]⟩=true/\c≠101/\c≠100
def E7(r:Str):Prop:=∀c∈r.cps.toList,c≠101/\c≠100
def vC:∀(ys:List D),(∀y∈ys,∃c,y= .str ⟨#[c]⟩/\lE c)->∃xs,tH ys=some xs/\xs.length=ys.length/\(xs.map (·.length)).sum=ys.length/\Row ys.length (eN xs)/\E7 (eN xs)
 |[],_=>⟨[],rfl,rfl,rfl,⟨rfl,fun c h=>by cases h⟩,fun c h=>by cases h⟩
 |y::ys,h=>by
  obtain⟨c,e,hc⟩:=h y (OV ..)
  obtain⟨xs,e1,e2,e3,e4,e5⟩:=vC ys fun z hz=>h z (OU _ hz)
  subst e
  have vR:∀z,z∈((⟨#[c]⟩:Str)++eN xs).cps.toList->z=c\/z∈(eN xs).cps.toList:=fun z hz=>by
   have:((⟨#[c]⟩:Str)++eN xs).cps= #[c]++(eN xs).cps:=rfl
   rw[this] at hz
   simpa using hz
  refine⟨⟨#[c]⟩::xs,?_,by simp[e2],?_,⟨?_,fun z hz=>?_⟩,fun z hz=>?_⟩
  ·show (tH ys).map _=_
   rw[e1]
   rfl
  ·rw[O3,Sq,e3]
   show 1+ys.length=_
   simp
   omega
  ·show ((⟨#[c]⟩:Str)++eN xs).length=_
   rw[jg,e4.len]
   show 1+ys.length=_
   simp
   omega
  ·rcases vR z hz with rfl | q
   ·exact hc.1
   ·exact e4.let' z q
  ·rcases vR z hz with rfl | q
   ·exact hc.2
   ·exact e5 z q
def BW{lo:Int}{n:Nat}{d:D}(h:d∈gU lo n):∃i:Nat,i<n/\d= .int (lo+(i:Int)):=by
 unfold gU at h
 obtain⟨i,hi,e⟩:=Pd.mp h
 exact⟨i,QO.mp hi,e.symm⟩
def D6{lo:Int}{n j:Nat}{d:D}(h:(gU lo n)[j]? =some d):j<n/\d= .int (lo+(j:Int)):=by
 unfold gU at h
 rw[O_] at h
 by_cases hj:j<n
 ·rw[Rt hj] at h
  cases h
  exact⟨hj,rfl⟩
 ·rw[R5 (by simpa using hj)] at h
  cases h
def i6(lo:Int)(n:Nat):(gU lo n).length=n:=by simp[gU]
abbrev fz(d:D):Option Sl:=some (.fz d)
def lu{δe:DE}{Z:aP}{d:D}:iA 0 cI δe Z d=(δe (fz d::Z)>>=fun y=>ab (some y)):=rfl
def v7{δt:DT}{δe:DE}{Z:aP}{d:D}:iA 0 δt δe Z d=(δt (fz d::Z)>>=fun b=>if b then δe (fz d::Z)>>=fun y=>ab (some y) else ab none):=rfl
def ai{a b:DS}{Z Z':aP}{o:M Out}(h:a Z=ab (.nx Z'))(h2:b Z'=o):ay a b Z=o:=by
 unfold ay
 rw[h]
 exact h2
def da{a b:DS}{Z:aP}{d:D}(h:a Z=ab (.rt d)):ay a b Z=ab (.rt d):=by
 unfold ay
 rw[h]
 rfl
def aF{i:Nat}{δ:DE}{Z:aP}{d:D}(h:δ Z=ab d):bg i δ Z=ab (.nx (Z.set i (fz d))):=by
 unfold bg
 rw[h]
 rfl
def eT{c:DT}{a b:DS}{Z:aP}{o:M Out}(h:c Z=ab true)(h2:a Z=o):fb c a b Z=o:=by
 unfold fb
 rw[h]
 exact h2
def eI{c:DT}{a b:DS}{Z:aP}{o:M Out}(h:c Z=ab false)(h2:b Z=o):fb c a b Z=o:=by
 unfold fb
 rw[h]
 exact h2
def aL{δ:DE}{Z:aP}{d:D}(h:δ Z=ab d):aX δ Z=ab (.rt d):=by
 unfold aX
 rw[h]
 rfl
def bA{δ:DE}{Z:aP}{d:D}(h:δ Z=ab d):fM δ Z=ab (.nx Z):=by
 unfold fM
 rw[h]
 rfl
def aV{n:Nat}{τ:DS}{ds:List D}{d:D}(h:τ (ds.map (fun d=>some (Sl.fz d))++PV (n - ds.length) none)=ab (.rt d)):bS n τ ds=ab d:=by
 unfold bS
 rw[h]
 rfl
def kX{n:Nat}{τ:DS}{ds:List D}{Z:aP}(h:τ (ds.map (fun d=>some (Sl.fz d))++PV (n - ds.length) none)=ab (.nx Z)):bS n τ ds=ab .non:=by
 unfold bS
 rw[h]
 rfl
def BY{put:D->aP->Option aP}{δi:DA}{b:DS}{Z:aP}{ds:List D}{o:Out}(h:δi Z=ab ds)(h2:forL put b ds Z=ab o):noex (dq put δi b Z)=ab o:=by
 unfold dq
 rw[h,au,h2]
 rfl
def bq{is:List Nat}{τ:DS}{Z Z':aP}(h:τ Z=ab (.nx Z')):cb is τ Z=ab (.nx (fgt is Z')):=by
 unfold cb
 rw[h]
 rfl
def cj{n:Nat}{δi:DA}{δt:DT}{δe:DE}{Z:aP}{ds ys:List D}(h:δi Z=ab ds)(h2:di (iA n δt δe Z) ds=ab ys)(h3:ys.length<=lim):bB n δi δt δe Z=ab (.lst ys):=by
 unfold bB
 rw[h,au,h2,Bd,au,A5 h3]
def lS{n:Nat}(h:n<=4096):f6 [.int (n:Int)]=ab (gU 0 n):=by
 show (if -4096<=(n:Int)/\(n:Int)<=4096 then ab (gU 0 (n:Int).toNat) else af)=_
 rw[if_pos ⟨by omega,by omega⟩]
 rfl
structure Alpha (al:Str):Prop where
 pos:0<al.length
 ok:∀c∈al.cps.toList,lE c
def Fb:Alpha "ab"/\Alpha "abc"/\Alpha "aab"/\Alpha "fa":=by
 refine⟨⟨by decide+kernel,?_⟩,⟨by decide+kernel,?_⟩,⟨by decide+kernel,?_⟩,⟨by decide+kernel,?_⟩⟩<;>decide+kernel
def AF{x:Str}{i:Nat}(h:i<x.length):∃c,c∈x.cps.toList/\x.cps.toList[i]? =some c/\pW (.str x) (.int (i:Int))=ab (.str ⟨#[c]⟩):=by
 have h:i<x.cps.toList.length:=by rw[Po];exact h
 refine⟨x.cps.toList[i],QS h,OY h,?_⟩
 show (match L2.atI x.cps.toList (i:Int) with | some c=>ab (D.str ⟨#[c]⟩) | none=>af)=_
 rw[gq (OY h)]
abbrev brd(bd:List Str):D:= .tup (bd.map D.str)
abbrev sgn(at' mo:Nat)(ns:List Int)(W:Nat)(al:Str)(bd:List Str)(R:Nat)(x7 x8:Option Sl):aP:=[fz (.scr ns),fz (.int (at':Int)),fz (.int (mo:Int)),fz (.int (R:Int)),fz (.int (W:Int)),fz (.str al),fz (brd bd),x7,x8]
def MK:DE:=bB 0 (fun Z=>(aC (dV 4) aN) Z>>=f6) cI (d2 pW (dV 6) (aq 3 aR (aC (dV 1) (aC (d2 cz (d2 cz (d2 cz (dV 2) (dC (.int 3))) (d2 iH (dC (.int 7)) (dV 8))) (dV 0)) (aC (dA bh (aC (dV 6) aN)) aN)))))
def zM(at' mo:Nat)(ns:List Int)(hl:ns.length<=63)(al:Str)(ha:Alpha al)(j W R:Nat)(hW:W<=5)(bd:List Str)(x8:Option Sl):
 ∃ys,MK (sgn at' mo ns W al bd R (fz (.int (0+(j:Int)))) x8)=ab (.lst ys)/\ys.length=W/\∀y∈ys,∃c,y= .str ⟨#[c]⟩/\lE c:=by
 obtain⟨ys,e,Cr,hp⟩:=qx (f:=iA 0 cI (d2 pW (dV 6) (aq 3 aR (aC (dV 1) (aC (d2 cz (d2 cz (d2 cz (dV 2) (dC (.int 3))) (d2 iH (dC (.int 7)) (dV 8))) (dV 0)) (aC (dA bh (aC (dV 6) aN)) aN)))))
  (sgn at' mo ns W al bd R (fz (.int (0+(j:Int)))) x8)) (Pr:=fun y=>∃c,y= .str ⟨#[c]⟩/\lE c) (gU 0 W) fun d hd=>by
  obtain⟨i,hi,rfl⟩:=BW hd
  obtain⟨v,hv,e⟩:=fk ns hl (at'+3+7*j+i) al.length ha.pos
  obtain⟨c,hc,_,e2⟩:=AF hv
  refine⟨.str ⟨#[c]⟩,?_,c,rfl,ha.ok c hc⟩
  rw[lu]
  have k:(at':Int)+3+7*(0+(j:Int))+(0+(i:Int))=((at'+3+7*j+i:Nat):Int):=by omega
  have m1:iH (.int 7) (.int (0+(j:Int)))=ab (.int (7*(0+(j:Int)))):=gA (.inl ⟨by decide,by decide⟩)
  simp only[aq,d2,dV,dC,dA,aC,aN,au,O5,Qv,PZ,Qa,Nat.reduceAdd,if_true,iG,m1,k,bh,e,e2]
 refine⟨ys,cj (lS (n:=W) (by omega)) e (by rw[Cr,i6,cU];omega),by rw[Cr,i6],hp⟩
def ML:DS:=bg 6 (d2 uu (dV 6) (dA dF (aC (dM IM joinM (dC (.str "")) (aC (dV 8) aN)) aN)))
def Cz(at' mo:Nat)(ns:List Int)(W:Nat)(al:Str)(bd:List Str)(R:Nat)(x7:Option Sl)(ys:List D)(hb:bd.length<=5)(hy:ys.length<=5)(s3:∀y∈ys,∃c,y= .str ⟨#[c]⟩/\lE c):
 ∃r,(Row ys.length r/\E7 r)/\ML (sgn at' mo ns W al bd R x7 (fz (.lst ys)))=ab (.nx (sgn at' mo ns W al (bd++[r]) R x7 (fz (.lst ys)))):=by
 obtain⟨xs,t1,t2,t3,t4⟩:=vC ys s3
 refine⟨eN xs,t4,?_⟩
 have jn:joinM (.str "") [.lst ys]=ab (.str (eN xs)):=by
  show (match tH ys with | some (xs:List Str)=>if ("":Str).length=0/\(xs.map (fun x:Str=>x.length)).sum<=lim then ab (D.str (eN xs)) else af | none=>af)=_
  rw[t1]
  show (if ("":Str).length=0/\(xs.map (fun x:Str=>x.length)).sum<=lim then ab (D.str (eN xs)) else af)=_
  rw[if_pos ⟨rfl,by rw[t3,cU];omega⟩]
 have ct:uu (brd bd) (.tup [.str (eN xs)])=ab (brd (bd++[eN xs])):=by
  show (if (bd.map D.str).length+1<=lim then ab (D.tup (bd.map D.str++[.str (eN xs)])) else af)=_
  rw[if_pos (by rw[OW,cU];omega)]
  simp[brd]
 refine(aF (d:=brd (bd++[eN xs])) ?_).trans rfl
 simp only[d2,dV,dC,dA,aC,aN,dM,IM,au,PZ,Qa,if_true,jn,dF,O5,Qv,cU,Nat.reduceAdd,Nat.reduceLeDiff,ct]
def vW(ns:List Int)(hl:ns.length<=63)(at' mo:Nat)(m0:0<mo)(m5:mo<=5):∃bd W,Good bd W/\(∀r∈bd,E7 r)/\bd.length<=mo/\W<=mo/\eE [.scr ns, .int (at':Int), .int (mo:Int)]=ab (brd bd):=by
 obtain⟨r,hr,e1⟩:=fk ns hl at' mo m0
 obtain⟨c,hc,e2⟩:=fk ns hl (at'+1) mo m0
 obtain⟨a,ha,e3⟩:=fk ns hl (at'+2) 4 (by decide)
 obtain⟨al,HY,e4⟩:∃al,Alpha al/\eP (.lst [.str "ab", .str "abc", .str "aab", .str "fa"]) (.int (a:Int))=ab (.str al):=by
  obtain⟨a1,a2,a3,a4⟩:=Fb
  match a,ha with
  |0,_=>exact⟨_,a1,rfl⟩
  |1,_=>exact⟨_,a2,rfl⟩
  |2,_=>exact⟨_,a3,rfl⟩
  |3,_=>exact⟨_,a4,rfl⟩
 have k1:(1:Int)+(r:Int)=((r+1:Nat):Int):=by omega
 have k2:(1:Int)+(c:Int)=((c+1:Nat):Int):=by omega
 have zY:aR [.scr ns, .int (at':Int), .int (mo:Int)]=ab (.int (r:Int)):=e1
 have Hl:aR [.scr ns, .int ((at':Int)+1), .int (mo:Int)]=ab (.int (c:Int)):=e2
 have JK:aR [.scr ns, .int ((at':Int)+2), .int 4]=ab (.int (a:Int)):=e3
 obtain⟨Z',f1,bd,f2,f3,f4⟩:=uq (put:=putN 7) (body:=cb [7,8] (ay (bg 8 MK) ML))
  (I:=fun i Z=>∃bd,Z=sgn at' mo ns (c+1) al bd (r+1) none none/\bd.length=i/\∀z∈bd,Row (c+1) z/\E7 z)
  (gU 0 (r+1)) 0 (sgn at' mo ns (c+1) al [] (r+1) none none) ⟨[],rfl,rfl,fun _ h=>by cases h⟩ fun j d hd Z ⟨bd,hZ,hb,hw⟩=>by
   obtain⟨hj,rfl⟩:=D6 hd
   subst hZ
   obtain⟨ys,s1,s2,s3⟩:=zM at' mo ns hl al HY j (c+1) (r+1) (by omega) bd none
   obtain⟨vT,t1,t2⟩:=Cz at' mo ns (c+1) al bd (r+1) (fz (.int (0+(j:Int)))) ys (by omega) (by omega) s3
   refine⟨_,_,rfl,bq (ai (aF s1) t2),bd++[vT],rfl,by simp[hb],fun z hz=>?_⟩
   rcases Pq.mp hz with h | h
   ·exact hw z h
   ·have h:z=vT:=by simpa using h
    subst h
    rw[s2] at t1
    exact t1
 refine⟨bd,c+1,⟨by rw[f3,i6];omega,by rw[f3,i6];omega,by omega,by omega,fun r q=>(f4 r q).1⟩,fun r q=>(f4 r q).2,by rw[f3,i6];omega,by omega,?_⟩
 subst f2
 refine aV ?_
 refine ai (aF (d:= .int ((r+1:Nat):Int)) ?_) ?_
 ·simp only[aq,d2,dV,dC,aC,aN,au,O3,QU,Rh,P2,O5,Qv,PZ,Qa,Nat.reduceAdd,if_true,iG,zY,k1]
 refine ai (aF (d:= .int ((c+1:Nat):Int)) ?_) ?_
 ·simp only[aq,d2,dV,dC,aC,aN,au,O3,QU,Rh,P2,O5,Qv,PV,Sr,Ss,Nat.reduceSub,PZ,Qa,Nat.reduceAdd,if_true,iG,Hl,k2]
 refine ai (aF (d:= .str al) ?_) ?_
 ·simp only[aq,d2,dV,dC,dA,aC,aN,au,O3,QU,Rh,P2,O5,Qv,PV,Sr,Ss,Nat.reduceSub,PZ,Qa,Nat.reduceAdd,if_true,iG,JK,eF,cU,Nat.reduceLeDiff,e4]
 refine ai (aF (d:= .tup []) rfl) ?_
 refine ai (BY (lS (n:=r+1) (by omega)) f1) ?_
 exact aL rfl
def Plain:D->Prop
 | .non | .bl _ | .int _ | .str _ | .tup _ | .lst _=>True
 |_=>False
def isStr:D->Bool
 | .str _=>true
 |_=>false
def isTup:D->Bool
 | .tup _=>true
 |_=>false
def fV{d:D}(h:Plain d):g8 [d, .raw (.ty "str")]=ab (.bl (isStr d)):=by
 cases d<;>first | rfl | exact h.elim
def nh{d:D}(h:Plain d):g8 [d, .raw (.ty "tuple")]=ab (.bl (isTup d)):=by
 cases d<;>first | rfl | exact h.elim
def sf:D->Bool
 | .str x=>(x.length==1)&&C7 x
 |_=>false
def bt{Z:aP}{i:Nat}{d:D}(h:Z[i]? =some (fz d)):dV i Z=ab d:=by
 unfold dV
 rw[h]
def eq_int(i j:Int):lA (.int i) (.int j)=ab (.bl (i==j)):=rfl
def ne_int(i j:Int):kh (.int i) (.int j)=ab (.bl (!(i==j))):=rfl
def len_str(x:Str):bh [.str x]=ab (.int (x.length:Int)):=rfl
def in_str(x:Str):AD false (.str x) (.str "abcdef")=ab (.bl (C7 x)):=rfl
def jK(a b:Nat):((a:Int)==(b:Int))=(a==b):=by
 by_cases h:a=b
 ·subst h;simp
 ·have h2:¬(a:Int)=(b:Int):=by omega
  rw[beq_eq_false_iff_ne.mpr h,beq_eq_false_iff_ne.mpr h2]
def Dh{d:D}(h:Plain d){i:Nat}{Z:aP}(hZ:Z[i]? =some (fz d)):
 fE (dA g8 (aC (dV i) (aC (dC (.raw (.ty "str"))) aN))) (fE (d2 lA (dA bh (aC (dV i) aN)) (dC (.int 1))) (d2 (AD false) (dV i) (dC (.str "abcdef")))) Z=ab (.bl (sf d)):=by
 have hv:=bt hZ
 have e1:=jK
 cases d with
 |str x=>
  have k:((x.length:Int)==1)=(x.length==1):=jK x.length 1
  simp only[fE,dA,aC,aN,dC,d2,hv,au,fV h,isStr,zX,if_true,len_str,eq_int,k,in_str,sf]
  cases x.length==1<;>rfl
 |non=>simp only[fE,dA,aC,aN,dC,d2,hv,au,fV h,isStr,zX,if_false,P7,sf]
 |bl b=>simp only[fE,dA,aC,aN,dC,d2,hv,au,fV h,isStr,zX,if_false,P7,sf]
 |int b=>simp only[fE,dA,aC,aN,dC,d2,hv,au,fV h,isStr,zX,if_false,P7,sf]
 |tup b=>simp only[fE,dA,aC,aN,dC,d2,hv,au,fV h,isStr,zX,if_false,P7,sf]
 |lst b=>simp only[fE,dA,aC,aN,dC,d2,hv,au,fV h,isStr,zX,if_false,P7,sf]
 |raw _=>exact h.elim
 |exc _=>exact h.elim
 |scr _=>exact h.elim
 |dct _ _=>exact h.elim
 |dci _ _=>exact h.elim
def jG{d:D}(h:Plain d):bW [d]=ab (.bl (sf d)):=aV (aL (Dh h rfl))
def jw(x:Str):Bool:=x.cps.toList.all fun c=>C7 ⟨#[c]⟩
def m6:D->Bool
 | .str x=>(decide (1<=x.length)&&decide (x.length<=8))&&jw x
 |_=>false
def yP(l:List Bool):bools (l.map D.bl)=some l:=by
 induction l with
 |nil=>rfl
 |cons b r ih=>show (bools (r.map D.bl)).map _=_;rw[ih];rfl
def all_map(l:List Bool):allM [.lst (l.map D.bl)]=ab (.bl (l.all id)):=by
 show (match bools (l.map D.bl) with | some bs=>ab (D.bl (bs.all id)) | none=>af)=_
 rw[yP]
def Aj{δ:DE}{Z:aP}{n:Nat}(h:δ Z=ab (.int (n:Int))):
 bH (vO (fun i j=>decide (i<=j)) (fun i j=>decide (i<=j)) (dC (.int 1)) δ (dC (.int 8))) Z=ab (decide (1<=n)&&decide (n<=8)):=by
 have k1:decide ((1:Int)<=(n:Int))=decide (1<=n):=by by_cases h:1<=n<;>simp[h]<;>omega
 have k2:decide ((n:Int)<=8)=decide (n<=8):=by by_cases h:n<=8<;>simp[h]<;>omega
 simp only[bH,vO,dC,h,au,k1,k2,gI,zX]
 cases decide (1<=n)<;>rfl
def wz{d:D}(h:Plain d):fF [d]=ab (.bl (m6 d)):=by
 refine aV ?_
 have hZ:([d].map (fun d=>some (Sl.fz d))++PV (1 - [d].length) none)=[fz d]:=rfl
 rw[hZ]
 have hv:dV 0 [fz d]=ab d:=rfl
 have no:isStr d=false->vH [fz d]=ab (.rt (.bl false)):=fun hs=>by
  refine da (eT ?_ (aL rfl))
  simp only[k_,cH,b_,dA,aC,aN,dC,hv,au,fV h,hs,vB,Sd,if_true]
 cases d with
 |str x=>
  have hi:b_ (dA g8 (aC (dV 0) (aC (dC (.raw (.ty "str"))) aN))) [fz (.str x)]=ab true:=by
   simp only[b_,dA,aC,aN,dC,hv,au,fV h,isStr,vB]
  have hl:dA bh (aC (dV 0) aN) [fz (.str x)]=ab (.int (x.length:Int)):=rfl
  have hc:=Aj hl
  by_cases hr:(decide (1<=x.length)&&decide (x.length<=8))=true
  ·rw[hr] at hc
   refine ai (eI ?_ (Z:=[fz (.str x)]) rfl) (aL ?_)
   ·unfold k_ cH
    rw[hi,au,au,hc]
    rfl
   ·have hb:x.length<=8:=by simp only[PK,decide_eq_true_eq] at hr;exact hr.2
    have cm:bB 0 (fun Z=>(dV 0) Z>>=G9) cI (aq 1 bW (aC (dV 0) aN)) [fz (.str x)]=ab (.lst ((x.cps.toList.map fun c=>C7 ⟨#[c]⟩).map D.bl)):=by
     refine cj (ds:=signs x) rfl ?_ ?_
     ·have:=gw (f:=iA 0 cI (aq 1 bW (aC (dV 0) aN)) [fz (.str x)]) (g:=fun d=>D.bl (sf d)) (signs x) fun d hd=>by
       rw[lu]
       obtain⟨c,_,rfl⟩:=Pd.mp hd
       show (bW [.str ⟨#[c]⟩]>>=fun y=>ab (some y))=_
       rw[jG (d:= .str ⟨#[c]⟩) trivial]
       rfl
      rw[this]
      unfold signs
      rw[PH,PH]
      congr 1
     ·rw[OW,OW,Po,cU]
      exact PM hb (by decide)
    rw[cS (aI cm rfl),all_map]
    show ab (D.bl ((x.cps.toList.map fun c=>C7 ⟨#[c]⟩).all id))=ab (D.bl ((decide (1<=x.length)&&decide (x.length<=8))&&jw x))
    rw[hr]
    unfold jw
    rw[Rf]
    rfl
  ·have hr:(decide (1<=x.length)&&decide (x.length<=8))=false:=by simpa using hr
   rw[hr] at hc
   have:m6 (.str x)=false:=by
    show ((decide (1<=x.length)&&decide (x.length<=8))&&jw x)=false
    rw[hr];rfl
   rw[this]
   refine da (eT ?_ (aL rfl))
   unfold k_ cH
   rw[hi,au,au,hc]
   rfl
 |non=>exact no rfl
 |bl b=>exact no rfl
 |int b=>exact no rfl
 |tup b=>exact no rfl
 |lst b=>exact no rfl
 |raw _=>exact h.elim
 |exc _=>exact h.elim
 |scr _=>exact h.elim
 |dct _ _=>exact h.elim
 |dci _ _=>exact h.elim
def jZ:D->Nat
 | .str x=>x.length
 |_=>0
def nN:D->Bool
 | .tup ds=>(decide (1<=ds.length)&&decide (ds.length<=8))&&(ds.all m6&&ds.all fun d=>jZ d==jZ (ds.headD .non))
 |_=>false
def Plain2:D->Prop
 | .tup ds=>∀d∈ds,Plain d
 |d=>Plain d
def Plain2.plain{d:D}(h:Plain2 d):Plain d:=by
 cases d<;>first | exact h | exact trivial
def Dg{ds:List D}:bh [.tup ds]=ab (.int (ds.length:Int)):=rfl
def La{ds:List D}{d:D}{r:List D}(h:ds=d::r):aU (.tup ds) (.int 0)=ab d:=by
 subst h
 show (match L2.atI (d::r) ((0:Nat):Int) with | some d=>ab d | none=>af)=_
 rw[gq (x:=d) rfl]
def D7{d:D}(h:m6 d=true):∃x,d= .str x:=by
 cases d<;>first | exact⟨_,rfl⟩ | cases h
def y0{d:D}(h:Plain d):k_ (cH (b_ (dA g8 (aC (dV 0) (aC (dC (.raw (.ty "tuple"))) aN))))) (cH (bH (vO (fun i j=>decide (i<=j)) (fun i j=>decide (i<=j)) (dC (.int 1)) (dA bh (aC (dV 0) aN)) (dC (.int 8))))) [fz d]=
 ab (match d with | .tup ds=>!(decide (1<=ds.length)&&decide (ds.length<=8)) | _=>true):=by
 have hv:dV 0 [fz d]=ab d:=rfl
 have no:isTup d=false->k_ (cH (b_ (dA g8 (aC (dV 0) (aC (dC (.raw (.ty "tuple"))) aN))))) (cH (bH (vO (fun i j=>decide (i<=j)) (fun i j=>decide (i<=j)) (dC (.int 1)) (dA bh (aC (dV 0) aN)) (dC (.int 8))))) [fz d]=ab true:=fun hs=>by
  simp only[k_,cH,b_,dA,aC,aN,dC,hv,au,nh h,hs,vB,Sd,if_true]
 cases d with
 |tup ds=>
  have hi:b_ (dA g8 (aC (dV 0) (aC (dC (.raw (.ty "tuple"))) aN))) [fz (.tup ds)]=ab true:=by
   simp only[b_,dA,aC,aN,dC,hv,au,nh h,isTup,vB]
  have hl:dA bh (aC (dV 0) aN) [fz (.tup ds)]=ab (.int (ds.length:Int)):=rfl
  unfold k_ cH
  rw[hi,au,au,Aj hl]
  rfl
 |non=>exact no rfl
 |bl b=>exact no rfl
 |int b=>exact no rfl
 |str b=>exact no rfl
 |lst b=>exact no rfl
 |raw _=>exact h.elim
 |exc _=>exact h.elim
 |scr _=>exact h.elim
 |dct _ _=>exact h.elim
 |dci _ _=>exact h.elim
def all_rows{ds:List D}(h:∀d∈ds,Plain d)(hl:ds.length<=8):dA allM (aC (bB 0 (t_ (dV 0)) cI (aq 1 fF (aC (dV 0) aN))) aN) [fz (.tup ds)]=ab (.bl (ds.all m6)):=by
 have cm:bB 0 (t_ (dV 0)) cI (aq 1 fF (aC (dV 0) aN)) [fz (.tup ds)]=ab (.lst ((ds.map m6).map D.bl)):=by
  refine cj (ds:=ds) rfl ?_ (by rw[OW,OW,cU];omega)
  rw[PH]
  refine gw (g:=D.bl∘m6) ds fun d hd=>?_
  rw[lu]
  show (fF [d]>>=fun y=>ab (some y))=_
  rw[wz (h d hd)]
  rfl
 rw[cS (aI cm rfl),all_map,Rf]
 rfl
def all_lens{ds:List D}(hs:∀d∈ds,∃x,d= .str x)(h0:1<=ds.length)(hl:ds.length<=8):
 dA allM (aC (bB 0 (t_ (dV 0)) cI (d2 lA (dA bh (aC (dV 0) aN)) (dA bh (aC (d2 aU (dV 1) (dC (.int 0))) aN)))) aN) [fz (.tup ds)]=ab (.bl (ds.all fun d=>jZ d==jZ (ds.headD .non))):=by
 obtain⟨d0,r,e0⟩:∃d0 r,ds=d0::r:=by
  cases ds with
  |nil=>simp at h0
  |cons a r=>exact⟨a,r,rfl⟩
 have hh:ds.headD .non=d0:=by rw[e0];rfl
 obtain⟨x0,Mn⟩:=hs d0 (by rw[e0];exact OV ..)
 have cm:bB 0 (t_ (dV 0)) cI (d2 lA (dA bh (aC (dV 0) aN)) (dA bh (aC (d2 aU (dV 1) (dC (.int 0))) aN))) [fz (.tup ds)]=ab (.lst ((ds.map fun d=>jZ d==jZ (ds.headD .non)).map D.bl)):=by
  refine cj (ds:=ds) rfl ?_ (by rw[OW,OW,cU];omega)
  rw[PH]
  refine gw (g:=D.bl∘fun d=>jZ d==jZ (ds.headD .non)) ds fun d hd=>?_
  rw[lu]
  obtain⟨x,rfl⟩:=hs d hd
  have k:((x.length:Int)==(x0.length:Int))=(x.length==x0.length):=jK _ _
  have i0:aU (.tup ds) (.int 0)=ab (.str x0):=by rw[La e0,Mn]
  have Ny:ds.headD .non= .str x0:=by rw[hh,Mn]
  simp only[d2,dA,aC,aN,dC,dV,au,PZ,Qa,len_str,i0,eq_int,k,Ug,jZ,Ny]
 rw[cS (aI cm rfl),all_map,Rf]
 rfl
def sd{d:D}(h:Plain2 d):gZ [d]=ab (.bl (nN d)):=by
 refine aV ?_
 have hZ:([d].map (fun d=>some (Sl.fz d))++PV (1 - [d].length) none)=[fz d]:=rfl
 rw[hZ]
 have hf:=y0 h.plain
 have no:(∀ds,d≠ .tup ds)->pP [fz d]=ab (.rt (.bl (nN d))):=fun hn=>by
  cases d<;>first | exact absurd rfl (hn _) | exact da (eT hf (aL rfl))
 cases d with
 |tup ds=>
  have hf:_=ab (!(decide (1<=ds.length)&&decide (ds.length<=8))):=hf
  by_cases hr:(decide (1<=ds.length)&&decide (ds.length<=8))=true
  ·rw[hr] at hf
   have hb:=hr
   simp only[PK,decide_eq_true_eq] at hb
   have e:nN (.tup ds)=(ds.all m6&&ds.all fun d=>jZ d==jZ (ds.headD .non)):=by
    show ((decide (1<=ds.length)&&decide (ds.length<=8))&&_)=_
    rw[hr,Sv]
   rw[e]
   have a1:=all_rows h hb.2
   refine ai (eI hf rfl) ?_
   cases hc:ds.all m6 with
   |false=>
    rw[hc] at a1
    refine da (eT ?_ (aL rfl))
    unfold cH b_
    rw[a1]
    rfl
   |true=>
    rw[hc] at a1
    refine ai (eI ?_ rfl) (aL ?_)
    ·unfold cH b_
     rw[a1]
     rfl
    ·rw[Sv]
     exact all_lens (fun d hd=>D7 (Pl.mp hc d hd)) hb.1 hb.2
  ·have hr:(decide (1<=ds.length)&&decide (ds.length<=8))=false:=by simpa using hr
   rw[hr] at hf
   have e:nN (.tup ds)=false:=by
    show ((decide (1<=ds.length)&&decide (ds.length<=8))&&_)=_
    rw[hr];rfl
   rw[e]
   exact da (eT hf (aL rfl))
 |non=>exact no fun _ z=>by cases z
 |bl b=>exact no fun _ z=>by cases z
 |int b=>exact no fun _ z=>by cases z
 |str b=>exact no fun _ z=>by cases z
 |lst b=>exact no fun _ z=>by cases z
 |raw _=>exact h.elim
 |exc _=>exact h.elim
 |scr _=>exact h.elim
 |dct _ _=>exact h.elim
 |dci _ _=>exact h.elim
structure Brd (ob:List Str) (V:Nat):Prop where
 r1:1<=ob.length
 r8:ob.length<=8
 w1:1<=V
 w8:V<=8
 rows:∀r∈ob,Row V r
def Good.brd{bd:List Str}{W:Nat}(hg:Good bd W):Brd bd W:=⟨hg.r1,by have:=hg.r5;omega,hg.w1,by have:=hg.w5;omega,hg.rows⟩
def Brd.board{ob:List Str}{V:Nat}(h:Brd ob V):nN (brd ob)=true:=by
 have K0:∀r∈ob,m6 (.str r)=true:=fun r hr=>by
  have q:=h.rows r hr
  show ((decide (1<=r.length)&&decide (r.length<=8))&&jw r)=true
  rw[q.len]
  have a:decide (1<=V)=true:=decide_eq_true h.w1
  have b:decide (V<=8)=true:=decide_eq_true h.w8
  rw[a,b]
  show jw r=true
  exact Pl.mpr fun c hc=>q.let' c hc
 have h0:jZ ((ob.map D.str).headD .non)=V:=by
  have:=h.r1
  have hr:=h.rows
  cases ob with
  |nil=>simp at this
  |cons x l=>exact(hr x (OV ..)).len
 show ((decide (1<=(ob.map D.str).length)&&decide ((ob.map D.str).length<=8))&&((ob.map D.str).all m6&&(ob.map D.str).all fun d=>jZ d==jZ ((ob.map D.str).headD .non)))=true
 rw[h0,OW,decide_eq_true h.r1,decide_eq_true h.r8]
 have a:(ob.map D.str).all m6=true:=Pl.mpr fun d hd=>by
  obtain⟨r,hr,rfl⟩:=Pd.mp hd
  exact K0 r hr
 have b:((ob.map D.str).all fun d=>jZ d==V)=true:=Pl.mpr fun d hd=>by
  obtain⟨r,hr,rfl⟩:=Pd.mp hd
  show (r.length==V)=true
  rw[(h.rows r hr).len]
  simp
 rw[a,b]
 rfl
def yQ{bd:List Str}:Plain2 (brd bd):=fun d hd=>by
 obtain⟨r,_,rfl⟩:=Pd.mp hd
 trivial
def ly{δ:DE}{Z:aP}{b:Bool}(h:δ Z=ab (.bl b)):b_ δ Z=ab b:=by
 unfold b_
 rw[h]
 rfl
def cZ{δ:DE}{Z:aP}{b:Bool}(h:δ Z=ab (.bl b)):bH δ Z=ab b:=by
 unfold bH
 rw[h]
 rfl
def lx{τ:DT}{Z:aP}{b:Bool}(h:τ Z=ab b):cH τ Z=ab (!b):=by
 unfold cH
 rw[h]
 rfl
def xO{a c:DT}{Z:aP}{p q:Bool}(h1:a Z=ab p)(h2:c Z=ab q):k_ a c Z=ab (p||q):=by
 unfold k_
 rw[h1,au]
 cases p
 ·exact h2
 ·rfl
def v_{a c:DT}{Z:aP}{p q:Bool}(h1:a Z=ab p)(h2:c Z=ab q):kl a c Z=ab (p&&q):=by
 unfold kl
 rw[h1,au]
 cases p
 ·rfl
 ·exact h2
def v9{a c:DT}{Z:aP}(h1:a Z=ab false):kl a c Z=ab false:=by
 unfold kl
 rw[h1]
 rfl
def xN{c:DT}{a b:DE}{Z:aP}{p:Bool}(h:c Z=ab p):Am c a b Z=if p then a Z else b Z:=by
 unfold Am
 rw[h]
 rfl
def Brd.nb{ob:List Str}{V:Nat}(h:Brd ob V):bx [brd ob]=ab .non:=by
 refine kX (Z:=[fz (brd ob)]) (eI (lx (ly (b:=true) ?_)) rfl)
 refine(aj (ds:=[brd ob]) rfl rfl).trans ?_
 rw[sd yQ,h.board]
structure Ln (V:Nat) (r:Str):Prop where
 len:r.length=V
structure Wd (ob:List Str) (V:Nat):Prop where
 r1:1<=ob.length
 r8:ob.length<=8
 w1:1<=V
 w8:V<=8
 rows:∀r∈ob,Ln V r
def Brd.wd{ob:List Str}{V:Nat}(h:Brd ob V):Wd ob V:=⟨h.r1,h.r8,h.w1,h.w8,fun r hr=>⟨(h.rows r hr).len⟩⟩
def Wd.len0{ob:List Str}{V:Nat}(h:Wd ob V){i:Nat}{Z:aP}(hZ:Z[i]? =some (fz (brd ob))):dA bh (aC (d2 aU (dV i) (dC (.int 0))) aN) Z=ab (.int (V:Int)):=by
 have h1:=h.r1
 have hr:=h.rows
 obtain⟨x,l,e⟩:∃x l,ob=x::l:=by
  cases ob with
  |nil=>simp at h1
  |cons x l=>exact⟨x,l,rfl⟩
 have hx:x.length=V:=(hr x (by rw[e];exact OV ..)).len
 have i0:aU (brd ob) (.int 0)=ab (.str x):=La (show ob.map D.str=D.str x::l.map D.str by rw[e];rfl)
 have k:=aB (g:=aU) (bt hZ) (show dC (.int 0) Z=ab (.int 0) from rfl)
 rw[i0] at k
 rw[cS (aI (xs:=[]) k rfl)]
 show ab (D.int (x.length:Int))=_
 rw[hx]
def Brd.len0{ob:List Str}{V:Nat}(h:Brd ob V){i:Nat}{Z:aP}(hZ:Z[i]? =some (fz (brd ob))):dA bh (aC (d2 aU (dV i) (dC (.int 0))) aN) Z=ab (.int (V:Int)):=h.wd.len0 hZ
def A3{bd:List Str}{i:Nat}{Z:aP}(hZ:Z[i]? =some (fz (brd bd))):dA bh (aC (dV i) aN) Z=ab (.int (bd.length:Int)):=by
 have:bh [brd bd]=ab (.int (bd.length:Int)):=by
  show ab (D.int ((bd.map D.str).length:Int))=_
  rw[OW]
 simp only[dA,aC,aN,bt hZ,au,this]
def iz:D->Bool
 | .int _=>true
 |_=>false
def lX{d:D}(h:Plain d):a_ [d]=ab (.bl (iz d)):=by
 cases d<;>first | rfl | exact h.elim
def HC(R W:Nat):D->D->Bool
 | .int a, .int b=>(decide (0<=a)&&decide (a<(R:Int)))&&(decide (0<=b)&&decide (b<(W:Int)))
 |_,_=>false
def El(R W:Nat):D->Bool
 | .tup [u,v]=>HC R W u v
 |_=>false
def HE{δ ε:DE}{Z:aP}{i n:Int}(h:δ Z=ab (.int i))(h2:ε Z=ab (.int n)):
 vO (fun i j=>decide (i<=j)) (fun i j=>decide (i<j)) (dC (.int 0)) δ ε Z=ab (.bl (decide (0<=i)&&decide (i<n))):=by
 simp only[vO,dC,h,h2,au,gI]
 cases decide (0<=i)<;>rfl
def uy{bd:List Str}{W:Nat}(hg:Brd bd W){d:D}(h:Plain2 d):jr [brd bd,d]=ab (.bl (El bd.length W d)):=by
 refine aV ?_
 have hZ:([brd bd,d].map (fun d=>some (Sl.fz d))++PV (2 - [brd bd,d].length) none)=[fz (brd bd),fz d]:=rfl
 rw[hZ]
 have hv:dV 1 [fz (brd bd),fz d]=ab d:=rfl
 have no:isTup d=false->rH [fz (brd bd),fz d]=ab (.rt (.bl false)):=fun hs=>by
  refine da (eT ?_ (aL rfl))
  simp only[k_,cH,b_,dA,aC,aN,dC,hv,au,nh h.plain,hs,vB,Sd,if_true]
 cases d with
 |tup ds=>
  have hi:cH (b_ (dA g8 (aC (dV 1) (aC (dC (.raw (.ty "tuple"))) aN)))) [fz (brd bd),fz (.tup ds)]=ab false:=by
   simp only[cH,b_,dA,aC,aN,dC,hv,au,nh h.plain,isTup,vB,Bool.not_true]
  have k:((ds.length:Int)==2)=(ds.length==2):=jK ds.length 2
  have hl:k_ (cH (b_ (dA g8 (aC (dV 1) (aC (dC (.raw (.ty "tuple"))) aN))))) (bH (d2 kh (dA bh (aC (dV 1) aN)) (dC (.int 2)))) [fz (brd bd),fz (.tup ds)]=ab (!(ds.length==2)):=by
   unfold k_
   rw[hi]
   simp only[bH,d2,dA,aC,aN,dC,hv,au,Dg,ne_int,k,zX,P7,if_false]
  match ds,h,hl with
  |[],h,hl=>exact da (eT hl (aL rfl))
  |[_],h,hl=>exact da (eT hl (aL rfl))
  |_::_::_::_,h,hl=>
   refine da (eT (hl.trans ?_) (aL rfl))
   simp
  |[u,v],h,hl=>
   refine ai (eI hl rfl) ?_
   have pu:Plain u:=h u (by simp)
   have pv:Plain v:=h v (by simp)
   have w1:aq 1 a_ (aC (d2 aU (dV 1) (dC (.int 0))) aN) [fz (brd bd),fz (.tup [u,v])]=ab (.bl (iz u)):=lX pu
   have w2:aq 1 a_ (aC (d2 aU (dV 1) (dC (.int 1))) aN) [fz (brd bd),fz (.tup [u,v])]=ab (.bl (iz v)):=lX pv
   have hw:k_ (cH (b_ (aq 1 a_ (aC (d2 aU (dV 1) (dC (.int 0))) aN)))) (cH (b_ (aq 1 a_ (aC (d2 aU (dV 1) (dC (.int 1))) aN)))) [fz (brd bd),fz (.tup [u,v])]=ab (!(iz u&&iz v)):=by
    unfold k_ cH b_
    rw[w1,w2]
    simp only[au,vB]
    cases iz u<;>cases iz v<;>rfl
   have bad:(iz u&&iz v)=false->ay (fb (k_ (cH (b_ (aq 1 a_ (aC (d2 aU (dV 1) (dC (.int 0))) aN)))) (cH (b_ (aq 1 a_ (aC (d2 aU (dV 1) (dC (.int 1))) aN))))) (aX (dC (.bl false))) bY) (aX (fE (vO (fun i j=>decide (i<=j)) (fun i j=>decide (i<j)) (dC (.int 0)) (d2 aU (dV 1) (dC (.int 0))) (dA bh (aC (dV 0) aN))) (vO (fun i j=>decide (i<=j)) (fun i j=>decide (i<j)) (dC (.int 0)) (d2 aU (dV 1) (dC (.int 1))) (dA bh (aC (d2 aU (dV 0) (dC (.int 0))) aN))))) [fz (brd bd),fz (.tup [u,v])]=ab (.rt (.bl false)):=fun hz=>by
    rw[hz] at hw
    exact da (eT hw (aL rfl))
   match u,v,hw,bad with
   | .int a, .int b,hw,bad=>
     refine ai (eI hw rfl) (aL ?_)
     obtain⟨x0,r,e0⟩:∃x0 r,bd=x0::r:=by
      have:=hg.r1
      cases bd with
      |nil=>simp at this
      |cons x r=>exact⟨x,r,rfl⟩
     have hx:x0.length=W:=(hg.rows x0 (by rw[e0];simp)).len
     have l0:dA bh (aC (dV 0) aN) [fz (brd bd),fz (.tup [.int a, .int b])]=ab (.int (bd.length:Int)):=by
      show ab (D.int ((bd.map D.str).length:Int))=_
      rw[OW]
     have l1:dA bh (aC (d2 aU (dV 0) (dC (.int 0))) aN) [fz (brd bd),fz (.tup [.int a, .int b])]=ab (.int (W:Int)):=by
      have i0:aU (brd bd) (.int 0)=ab (.str x0):=La (r:=r.map D.str) (by rw[e0];rfl)
      simp only[dA,aC,aN,d2,dC,dV,PZ,au,i0,len_str,hx]
     have c1:=HE (δ:=d2 aU (dV 1) (dC (.int 0))) (i:=a) rfl l0
     have c2:=HE (δ:=d2 aU (dV 1) (dC (.int 1))) (i:=b) rfl l1
     unfold fE
     rw[c1,au]
     show (if (decide (0<=a)&&decide (a<(bd.length:Int)))=true then _ else _)=ab (D.bl ((decide (0<=a)&&decide (a<(bd.length:Int)))&&(decide (0<=b)&&decide (b<(W:Int)))))
     cases (decide (0<=a)&&decide (a<(bd.length:Int)))
     ·rfl
     ·rw[if_pos rfl,c2,Sv]
   | .non,_,_,bad=>exact bad rfl
   | .bl _,_,_,bad=>exact bad rfl
   | .str _,_,_,bad=>exact bad rfl
   | .tup _,_,_,bad=>exact bad rfl
   | .lst _,_,_,bad=>exact bad rfl
   | .raw _,_,_,_=>exact pu.elim
   | .exc _,_,_,_=>exact pu.elim
   | .scr _,_,_,_=>exact pu.elim
   | .int a, .non,_,bad=>exact bad rfl
   | .int a, .bl _,_,bad=>exact bad rfl
   | .int a, .str _,_,bad=>exact bad rfl
   | .int a, .tup _,_,bad=>exact bad rfl
   | .int a, .lst _,_,bad=>exact bad rfl
   | .int a, .raw _,_,_=>exact pv.elim
   | .int a, .exc _,_,_=>exact pv.elim
   | .int a, .scr _,_,_=>exact pv.elim
 |non=>exact no rfl
 |bl b=>exact no rfl
 |int b=>exact no rfl
 |str b=>exact no rfl
 |lst b=>exact no rfl
 |raw _=>exact h.elim
 |exc _=>exact h.elim
 |scr _=>exact h.elim
 |dct _ _=>exact h.elim
 |dci _ _=>exact h.elim
abbrev Cell:=Nat×Nat
def cD(c:Cell):D:= .tup [.int (c.1:Int), .int (c.2:Int)]
def On(R W:Nat)(c:Cell):Prop:=c.1<R/\c.2<W
instance {R W:Nat}{c:Cell}:Decidable (On R W c):=by unfold On;infer_instance
def Ab{c:Cell}:Plain2 (cD c):=fun d hd=>by
 have:d= .int (c.1:Int)\/d= .int (c.2:Int):=by simpa[cD] using hd
 rcases this with rfl | rfl<;>trivial
def CA{R W:Nat}{c:Cell}(h:On R W c):El R W (cD c)=true:=by
 show ((decide ((0:Int)<=(c.1:Int))&&decide ((c.1:Int)<(R:Int)))&&(decide ((0:Int)<=(c.2:Int))&&decide ((c.2:Int)<(W:Int))))=true
 obtain⟨h1,h2⟩:=h
 simp
 omega
def Brd.nc{bd:List Str}{W:Nat}(hg:Brd bd W){c:Cell}(h:On bd.length W c):cw [brd bd,cD c]=ab .non:=by
 refine kX (Z:=[fz (brd bd),fz (cD c)]) (eI (lx (ly (b:=true) ?_)) rfl)
 refine(aj (ds:=[brd bd,cD c]) rfl rfl).trans ?_
 rw[uy hg Ab,CA h]
def Ways(w:Nat):Prop:=w=4\/w=8
def Ways.nw{w:Nat}(h:Ways w):bL [.int (w:Int)]=ab .non:=by
 rcases h with rfl | rfl<;>rfl
def ch(x:Str)(j:Nat):Nat:=x.cps.toList.getD j 0
def at2(bd:List Str)(i j:Nat):Nat:=ch (bd.getD i ⟨#[]⟩) j
abbrev lt(bd:List Str)(c:Cell):Nat:=at2 bd c.1 c.2
def sg(n:Nat):D:= .str ⟨#[n]⟩
def D_{x:Str}{c:Nat}(h:c<x.length):pW (.str x) (.int (c:Int))=ab (sg (ch x c)):=by
 have h':c<x.cps.toList.length:=by rw[Po];exact h
 show (match L2.atI x.cps.toList (c:Int) with | some c=>ab (D.str ⟨#[c]⟩) | none=>af)=_
 rw[gq (OY h')]
 unfold sg ch
 rw[Pu,OY h']
 rfl
def getD_mem{bd:List Str}{i:Nat}(h:i<bd.length):bd.getD i ⟨#[]⟩∈bd:=by
 rw[Pu,OY h]
 exact QS h
def F0{bd:List Str}{i:Nat}(h:i<bd.length):aU (brd bd) (.int (i:Int))=ab (.str (bd.getD i ⟨#[]⟩)):=by
 show (match L2.atI (bd.map D.str) (i:Int) with | some d=>ab d | none=>af)=_
 rw[gq (x:= .str (bd.getD i ⟨#[]⟩)) ?_]
 rw[O_,OY h,Pu,OY h]
 rfl
def ej{bd:List Str}{W:Nat}(hg:Brd bd W){c:Cell}(h:On bd.length W c):bK [brd bd,cD c]=ab (sg (lt bd c)):=by
 refine aV (aL ?_)
 refine(aB (x:= .str (bd.getD c.1 ⟨#[]⟩)) (y:= .int (c.2:Int)) ((aB (x:=brd bd) (y:= .int (c.1:Int)) rfl rfl).trans (F0 h.1)) rfl).trans ?_
 exact D_ (by rw[(hg.rows _ (getD_mem h.1)).len];exact h.2)
def Et(a b:Nat):lA (sg a) (sg b)=ab (.bl (decide (a=b))):=by
 show ab (D.bl (decide ((⟨#[a]⟩:Str)=⟨#[b]⟩)))=_
 congr 2
 by_cases h:a=b
 ·subst h;simp
 ·have:¬((⟨#[a]⟩:Str)=⟨#[b]⟩):=fun z=>by
   injection z with z
   exact h (by simpa using z)
  rw[decide_eq_false h,decide_eq_false this]
def bw(a b:Nat):Nat:=max a b - min a b
def jC(w:Nat)(a b:Cell):Bool:=if w=4 then decide (bw a.1 b.1+bw a.2 b.2=1) else decide (max (bw a.1 b.1) (bw a.2 b.2)=1)
def m9(a b:Nat):rJ [.int ((a:Int) - (b:Int))]=ab (.int (bw a b:Int)):=by
 show ab (D.int _)=_
 congr 2
 unfold bw
 omega
def rL{w:Nat}(hw:Ways w)(a b:Cell):df [cD a,cD b, .int (w:Int)]=ab (.bl (jC w a b)):=by
 refine aV ?_
 refine ai (Z':=[fz (cD a),fz (cD b),fz (.int (w:Int)),fz (.int (bw a.1 b.1:Int)),none]) ((aF (d:= .int (bw a.1 b.1:Int)) (m9 a.1 b.1)).trans rfl) ?_
 refine ai (Z':=[fz (cD a),fz (cD b),fz (.int (w:Int)),fz (.int (bw a.1 b.1:Int)),fz (.int (bw a.2 b.2:Int))]) ((aF (d:= .int (bw a.2 b.2:Int)) (m9 a.2 b.2)).trans rfl) ?_
 rcases hw with rfl | rfl
 ·refine da (eT (cZ rfl) (aL ?_))
  show ab (D.bl (((bw a.1 b.1:Int)+(bw a.2 b.2:Int))==1))=_
  unfold jC
  rw[if_pos rfl]
  congr 2
  have:((bw a.1 b.1:Int)+(bw a.2 b.2:Int))=((bw a.1 b.1+bw a.2 b.2:Nat):Int):=by omega
  rw[this]
  have e:=jK (bw a.1 b.1+bw a.2 b.2) 1
  exact e.trans rfl
 ·refine ai (eI (cZ rfl) rfl) (aL ?_)
  show ab (D.bl ((if (bw a.1 b.1:Int)<(bw a.2 b.2:Int) then(bw a.2 b.2:Int) else(bw a.1 b.1:Int))==1))=_
  have hn:jC 8 a b=decide (max (bw a.1 b.1) (bw a.2 b.2)=1):=rfl
  rw[hn]
  congr 2
  have:(if (bw a.1 b.1:Int)<(bw a.2 b.2:Int) then(bw a.2 b.2:Int) else(bw a.1 b.1:Int))=((max (bw a.1 b.1) (bw a.2 b.2):Nat):Int):=by split<;>omega
  rw[this]
  have e:=jK (max (bw a.1 b.1) (bw a.2 b.2)) 1
  exact e.trans rfl
def kK(w:Nat)(a b:Cell):jC w a b=jC w b a:=by
 have e:∀x y:Nat,bw x y=bw y x:=fun x y=>by unfold bw;omega
 unfold jC
 rw[e a.1,e a.2]
def I8{a b:Cell}(h:jC 4 a b=true):jC 8 a b=true:=by
 unfold jC at h⊢
 rw[if_pos rfl] at h
 rw[if_neg (by decide)]
 have h:=of_decide_eq_true h
 exact decide_eq_true (by omega)
def cM{put:D->aP->Option aP}{body:DS}{d:D}{ds:List D}{Z Z1 Z2:aP}(h1:put d Z=some Z1)(h2:body Z1=ab (.nx Z2)):forL put body (d::ds) Z=forL put body ds Z2:=by
 show (match put d Z with | none=>af | some Z1=>body Z1>>=fun o=>match o with | .nx Z2=>forL put body ds Z2 | .rt v=>ab (.rt v))=_
 rw[h1]
 show (body Z1>>=fun o=>match o with | .nx Z2=>forL put body ds Z2 | .rt v=>ab (.rt v))=_
 rw[h2]
 rfl
section
variable{α σ:Type}{put:D->aP->Option aP}{body:DS}
def jt(enc:α->D)(mk:σ->aP)(step:σ->α->σ)(I:σ->Prop):∀(xs:List α) (s:σ),I s->(∀s,I s->∀x∈xs,I (step s x)/\∃Z1,put (enc x) (mk s)=some Z1/\body Z1=ab (.nx (mk (step s x))))->
 I (xs.foldl step s)/\forL put body (xs.map enc) (mk s)=ab (.nx (mk (xs.foldl step s)))
 |[],s,h,_=>⟨h,rfl⟩
 |x::xs,s,h,st=>by
  obtain⟨h2,Z1,e1,e2⟩:=st s h x (OV ..)
  obtain⟨h3,e3⟩:=jt enc mk step I xs (step s x) h2 fun s hs y hy=>st s hs y (OU _ hy)
  exact⟨h3,(cM e1 e2).trans e3⟩
def qB(enc:α->D)(Z:aP):∀(xs:List α),(∀x∈xs,∃Z1,put (enc x) Z=some Z1/\body Z1=ab (.nx Z))->forL put body (xs.map enc) Z=ab (.nx Z)
 |[],_=>rfl
 |x::xs,st=>by
  obtain⟨Z1,e1,e2⟩:=st x (OV ..)
  exact(cM e1 e2).trans (qB enc Z xs fun y hy=>st y (OU _ hy))
def gy(enc:α->D)(mk:List D->aP)(g:α->List D){B:Nat}:∀(xs:List α) (acc:List D),(acc++xs.flatMap g).length<=B->(∀x∈xs,∀acc,(acc++g x).length<=B->∃Z1,put (enc x) (mk acc)=some Z1/\body Z1=ab (.nx (mk (acc++g x))))->
 forL put body (xs.map enc) (mk acc)=ab (.nx (mk (acc++xs.flatMap g)))
 |[],acc,_,_=>by simp;rfl
 |x::xs,acc,hB,st=>by
  have LX:((acc++g x)++xs.flatMap g).length<=B:=by simpa[QJ,Q9] using hB
  obtain⟨Z1,e1,e2⟩:=st x (OV ..) acc (PM (by simp only[O8];omega) LX)
  have e3:=gy enc mk g xs (acc++g x) LX fun y hy=>st y (OU _ hy)
  rw[O3,cM e1 e2,e3,QJ,Q9]
end
def eS{put:D->aP->Option aP}{δi:DA}{b:DS}{Z:aP}{ds:List D}{m:M Out}(h:δi Z=ab ds)(h2:forL put b ds Z=m):dq put δi b Z=m:=by
 unfold dq
 rw[h]
 exact h2
def cX{τ:DS}{Z:aP}{o:Out}(h:τ Z=ab o):(fun Z=>noex (τ Z)) Z=ab o:=by
 show noex (τ Z)=_
 rw[h]
 rfl
def vl(lo n:Nat):gU (lo:Int) n=(P9 lo n).map fun(k:Nat)=>D.int (k:Int):=by
 unfold gU
 rw[TH]
 have:∀(n a:Nat),(P9 a n).map (fun (i:Nat)=>D.int ((lo:Int)+(i:Int)))=(P9 (lo+a) n).map fun(k:Nat)=>D.int (k:Int):=by
  intro n
  induction n with
  |zero=>intro a;rfl
  |succ n ih=>
   intro a
   rw[RT,RT,O3,O3,ih (a+1)]
   rfl
 exact this n 0
def BV{δ:DE}{Z:aP}{n:Nat}(h:δ Z=ab (.int (n:Int)))(hn:n<=4096):(aC δ aN Z>>=f6)=ab ((Px n).map fun(k:Nat)=>D.int (k:Int)):=by
 rw[aI h rfl,au,lS hn,show gU 0 n=gU ((0:Nat):Int) n from rfl,vl,TH]
def Ju{δ ε:DE}{Z:aP}{i j:Nat}(h:δ Z=ab (.int (i:Int)))(h2:ε Z=ab (.int (j:Int)))(hi:i<=4096)(hj:j<=4096):(aC δ (aC ε aN) Z>>=rn)=ab ((P9 i (j - i)).map fun(k:Nat)=>D.int (k:Int)):=by
 rw[aI h (aI h2 rfl),au]
 show (if (-4096<=(i:Int)/\(i:Int)<=4096)/\(-4096<=(j:Int)/\(j:Int)<=4096) then ab (gU (i:Int) ((j:Int) - (i:Int)).toNat) else af)=_
 rw[if_pos ⟨⟨by omega,by omega⟩,by omega,by omega⟩,show ((j:Int) - (i:Int)).toNat=j - i by omega,vl]
def bu(W r:Nat):List Cell:=(Px W).map fun k=>(r,k)
def aQ(R W:Nat):List Cell:=(Px R).flatMap (bu W)
def aJ{R W:Nat}{c:Cell}:c∈aQ R W↔On R W c:=by
 unfold aQ bu On
 simp only[List.mem_flatMap,QO,Pd]
 constructor
 ·rintro⟨r,hr,k,hk,rfl⟩;exact⟨hr,hk⟩
 ·rintro⟨h1,h2⟩;exact⟨c.1,h1,c.2,h2,rfl⟩
def cC(R W:Nat):(aQ R W).length=R*W:=by
 unfold aQ
 have:∀l:List Nat,(l.flatMap (bu W)).length=l.length*W:=by
  intro l
  induction l with
  |nil=>simp
  |cons a l ih=>rw[QJ,O8,ih,O5,Nat.succ_mul];simp[bu];omega
 rw[this,Ud]
def gr{bd:List Str}{W:Nat}(hg:Brd bd W)(r:Nat):aW [brd bd, .int (r:Int)]=ab (.lst ((bu W r).map cD)):=by
 have:=hg.w8
 refine aV (aL (cj (BV (n:=W) (hg.len0 rfl) (by omega)) ?_ (by simp[bu,cU];omega)))
 rw[show (bu W r).map cD=((Px W).map fun(k:Nat)=>D.int (k:Int)).map (fun e=> .tup [.int (r:Int),e]) by simp[bu,PH];intro a _;rfl]
 exact gw (g:=fun e=> .tup [.int (r:Int),e]) _ fun e _=>rfl
def gc{bd:List Str}{W:Nat}(hg:Brd bd W):cu [brd bd]=ab (.lst ((aQ bd.length W).map cD)):=by
 have h8:=hg.r8
 have w8:=hg.w8
 have hm:bd.length*W<=64:=QR h8 w8
 have FF:(Px bd.length).flatMap (fun r=>(bu W r).map cD)=(aQ bd.length W).map cD:=by
  unfold aQ;rw[SG]
 have e:=gy (put:=putN 2) (body:=cb [2] (BX 1 (aq 2 aW (aC (dV 0) (aC (dV 2) aN))))) (fun (k:Nat)=>D.int (k:Int)) (fun acc=>[fz (brd bd),some (.ow (.lst acc)),none]) (fun r=>(bu W r).map cD) (B:=64) (Px bd.length) []
  (by rw[P2,FF,OW,cC];exact hm) fun r hr acc hB=>by
   refine⟨[fz (brd bd),some (.ow (.lst acc)),fz (.int (r:Int))],rfl,?_⟩
   refine(bq (Z':=[fz (brd bd),some (.ow (.lst (acc++(bu W r).map cD))),fz (.int (r:Int))]) ?_).trans rfl
   show (aW [brd bd, .int (r:Int)]>>=fun d=>lstM d>>=fun es=>if acc.length+es.length<=lim then ab (Out.nx (List.set [fz (brd bd),some (.ow (.lst acc)),fz (.int (r:Int))] 1 (some (.ow (.lst (acc++es)))))) else af)=_
   rw[gr hg,au]
   show (if acc.length+((bu W r).map cD).length<=lim then ab (Out.nx [fz (brd bd),some (.ow (.lst (acc++(bu W r).map cD))),fz (.int (r:Int))]) else af)=_
   rw[if_pos (by rw[O8] at hB;rw[cU];omega)]
 rw[P2,FF] at e
 refine aV (ai (Z':=[fz (brd bd),some (.ow (.lst [])),none]) rfl (ai (Z':=[fz (brd bd),some (.ow (.lst ((aQ bd.length W).map cD))),none]) (cX (eS (BV (n:=bd.length) (A3 rfl) (by omega)) e)) ?_))
 rfl
def fY(R W w:Nat)(c:Cell):List Cell:=
 (P9 (c.1 - 1) (min (c.1+2) R - (c.1 - 1))).flatMap fun r=>((P9 (c.2 - 1) (min (c.2+2) W - (c.2 - 1))).map fun k=>(r,k)).filter (jC w c)
def fq{R W w:Nat}(hw:Ways w){c x:Cell}:x∈fY R W w c↔On R W x/\jC w c x=true:=by
 unfold fY On
 simp only[List.mem_flatMap,Qd,Pd,List.mem_range'_1]
 constructor
 ·rintro⟨r,⟨h1,h2⟩,⟨k,⟨h3,h4⟩,rfl⟩,h5⟩
  refine⟨⟨?_,?_⟩,h5⟩
  ·show r<R;omega
  ·show k<W;omega
 ·rintro⟨⟨h1,h2⟩,h5⟩
  have h6:bw c.1 x.1<=1/\bw c.2 x.2<=1:=by
   unfold jC at h5
   rcases hw with rfl | rfl
   ·rw[if_pos rfl] at h5;have:=of_decide_eq_true h5;omega
   ·rw[if_neg (by decide)] at h5;have:=of_decide_eq_true h5;omega
  unfold bw at h6
  exact⟨x.1,⟨by omega,by omega⟩,⟨x.2,⟨by omega,by omega⟩,rfl⟩,h5⟩
def lF(R W w:Nat)(c:Cell):(fY R W w c).length<=9:=by
 unfold fY
 rw[TV]
 have h:∀r,(((P9 (c.2 - 1) (min (c.2+2) W - (c.2 - 1))).map fun k=>(r,k)).filter (jC w c)).length<=3:=fun r=>by
  refine PM (QF ..) ?_
  rw[OW,Su]
  omega
 have:∀(l:List Nat),(l.map fun r=>(((P9 (c.2 - 1) (min (c.2+2) W - (c.2 - 1))).map fun k=>(r,k)).filter (jC w c)).length).sum<=3*l.length:=by
  intro l
  induction l with
  |nil=>simp
  |cons a l ih=>rw[O3,Sq,O5];have:=h a;omega
 refine PM (this _) ?_
 rw[Su]
 omega
abbrev nc(b c w:D)(acc:List D)(x4 x5:Option Sl):aP:=[fz b,fz c,fz w,some (.ow (.lst acc)),x4,x5]
def fJ{bd:List Str}{W w:Nat}(hg:Brd bd W)(hw:Ways w){c:Cell}(hc:On bd.length W c):a8 [brd bd,cD c, .int (w:Int)]=ab (.lst ((fY bd.length W w c).map cD)):=by
 have h8:=hg.r8
 have w8:=hg.w8
 obtain⟨c1,c2⟩:=hc
 have Iq:∀n:Nat,pZ [.int ((n:Int) - 1), .int 0]=ab (.int ((n - 1:Nat):Int)):=fun n=>by
  show ab (D.int (if (0:Int)>(n:Int) - 1 then 0 else(n:Int) - 1))=_
  congr 2
  split<;>omega
 have wq:∀n m:Nat,zl [.int ((n:Int)+2), .int (m:Int)]=ab (.int ((min (n+2) m:Nat):Int)):=fun n m=>by
  show ab (D.int (if (m:Int)<(n:Int)+2 then(m:Int) else(n:Int)+2))=_
  congr 2
  split<;>omega
 have inner:∀(r:Nat) (acc:List D),acc.length<=16->forL (putN 5) (cb [5] (fb (b_ (aq 3 df (aC (dV 1) (aC (dA dF (aC (dV 4) (aC (dV 5) aN))) (aC (dV 2) aN))))) (i7 3 (dA dF (aC (dV 4) (aC (dV 5) aN)))) bY))
  ((P9 (c.2 - 1) (min (c.2+2) W - (c.2 - 1))).map fun(k:Nat)=>D.int (k:Int)) (nc (brd bd) (cD c) (.int (w:Int)) acc (fz (.int (r:Int))) none)=
  ab (.nx (nc (brd bd) (cD c) (.int (w:Int)) (acc++(P9 (c.2 - 1) (min (c.2+2) W - (c.2 - 1))).flatMap fun k=>if jC w c (r,k) then [cD (r,k)] else []) (fz (.int (r:Int))) none)):=fun r acc AI=>by
  refine gy (fun (k:Nat)=>D.int (k:Int)) (fun acc=>nc (brd bd) (cD c) (.int (w:Int)) acc (fz (.int (r:Int))) none) (fun k=>if jC w c (r,k) then [cD (r,k)] else []) (B:=64) _ acc ?_ fun k hk acc hB=>?_
  ·rw[O8,TV]
   have:∀l:List Nat,(l.map fun k=>(if jC w c (r,k) then [cD (r,k)] else []).length).sum<=l.length:=by
    intro l
    induction l with
    |nil=>simp
    |cons a l ih=>rw[O3,Sq,O5];split<;>simp<;>omega
   have h2:=this (P9 (c.2 - 1) (min (c.2+2) W - (c.2 - 1)))
   rw[Su] at h2
   omega
  ·refine⟨nc (brd bd) (cD c) (.int (w:Int)) acc (fz (.int (r:Int))) (fz (.int (k:Int))),rfl,?_⟩
   have ht:b_ (aq 3 df (aC (dV 1) (aC (dA dF (aC (dV 4) (aC (dV 5) aN))) (aC (dV 2) aN)))) (nc (brd bd) (cD c) (.int (w:Int)) acc (fz (.int (r:Int))) (fz (.int (k:Int))))=ab (jC w c (r,k)):=
    ly ((aj (ds:=[cD c,cD (r,k), .int (w:Int)]) rfl rfl).trans (rL hw c (r,k)))
   cases hn:jC w c (r,k) with
   |true=>
    rw[hn] at ht
    rw[hn,if_pos rfl,O8] at hB
    refine(bq (Z':=nc (brd bd) (cD c) (.int (w:Int)) (acc++[cD (r,k)]) (fz (.int (r:Int))) (fz (.int (k:Int)))) (eT ht ?_)).trans rfl
    show (if acc.length<lim then ab (Out.nx (nc (brd bd) (cD c) (.int (w:Int)) (acc++[cD (r,k)]) (fz (.int (r:Int))) (fz (.int (k:Int))))) else af)=_
    rw[if_pos (by rw[cU];simp at hB;omega)]
   |false=>
    rw[hn] at ht
    refine(bq (Z':=nc (brd bd) (cD c) (.int (w:Int)) acc (fz (.int (r:Int))) (fz (.int (k:Int)))) (eI ht rfl)).trans ?_
    simp
    rfl
 have flt:∀r,((P9 (c.2 - 1) (min (c.2+2) W - (c.2 - 1))).flatMap fun k=>if jC w c (r,k) then [cD (r,k)] else [])=(((P9 (c.2 - 1) (min (c.2+2) W - (c.2 - 1))).map fun k=>(r,k)).filter (jC w c)).map cD:=fun r=>by
  generalize P9 (c.2 - 1) (min (c.2+2) W - (c.2 - 1))=l
  induction l with
  |nil=>rfl
  |cons a l ih=>
   rw[QJ,ih,O3,List.filter_cons]
   cases jC w c (r,a)<;>rfl
 have tot:(P9 (c.1 - 1) (min (c.1+2) bd.length - (c.1 - 1))).flatMap (fun r=>(((P9 (c.2 - 1) (min (c.2+2) W - (c.2 - 1))).map fun k=>(r,k)).filter (jC w c)).map cD)=(fY bd.length W w c).map cD:=by
  unfold fY;rw[SG]
 have outer:=gy (put:=putN 4) (body:=cb [4,5] (dq (putN 5) (fun Z=>(aC (dA pZ (aC (d2 gB (d2 aU (dV 1) (dC (.int 1))) (dC (.int 1))) (aC (dC (.int 0)) aN))) (aC (dA zl (aC (d2 cz (d2 aU (dV 1) (dC (.int 1))) (dC (.int 2))) (aC (dA bh (aC (d2 aU (dV 0) (dC (.int 0))) aN)) aN))) aN)) Z>>=rn) (cb [5] (fb (b_ (aq 3 df (aC (dV 1) (aC (dA dF (aC (dV 4) (aC (dV 5) aN))) (aC (dV 2) aN))))) (i7 3 (dA dF (aC (dV 4) (aC (dV 5) aN)))) bY))))
  (fun (k:Nat)=>D.int (k:Int)) (fun acc=>nc (brd bd) (cD c) (.int (w:Int)) acc none none) (fun r=>(((P9 (c.2 - 1) (min (c.2+2) W - (c.2 - 1))).map fun k=>(r,k)).filter (jC w c)).map cD) (B:=16) (P9 (c.1 - 1) (min (c.1+2) bd.length - (c.1 - 1))) []
  (by rw[P2,tot,OW];have:=lF bd.length W w c;omega) fun r hr acc hB=>by
   refine⟨nc (brd bd) (cD c) (.int (w:Int)) acc (fz (.int (r:Int))) none,rfl,?_⟩
   have e:=inner r acc (by rw[O8] at hB;omega)
   rw[flt r] at e
   refine(bq (eS (Ju (i:=c.2 - 1) (j:=min (c.2+2) W) ?_ ?_ (by omega) (by omega)) e)).trans rfl
   ·exact(cS (xs:=[.int ((c.2:Int) - 1), .int 0]) rfl).trans (Iq c.2)
   ·refine(cS (xs:=[.int ((c.2:Int)+2), .int (W:Int)]) ?_).trans (wq c.2 W)
    exact aI (show d2 cz (d2 aU (dV 1) (dC (.int 1))) (dC (.int 2)) (nc (brd bd) (cD c) (.int (w:Int)) acc (fz (.int (r:Int))) none)=ab (.int ((c.2:Int)+2)) from rfl) (aI (hg.len0 rfl) rfl)
 rw[P2,tot] at outer
 refine aV (ai (Z':=nc (brd bd) (cD c) (.int (w:Int)) [] none none) rfl (ai (Z':=nc (brd bd) (cD c) (.int (w:Int)) ((fY bd.length W w c).map cD) none none) (cX (eS (Ju (i:=c.1 - 1) (j:=min (c.1+2) bd.length) ?_ ?_ (by omega) (by omega)) outer)) ?_))
 ·exact(cS (xs:=[.int ((c.1:Int) - 1), .int 0]) rfl).trans (Iq c.1)
 ·refine(cS (xs:=[.int ((c.1:Int)+2), .int (bd.length:Int)]) ?_).trans (wq c.1 bd.length)
  exact aI (show d2 cz (d2 aU (dV 1) (dC (.int 0))) (dC (.int 2)) (nc (brd bd) (cD c) (.int (w:Int)) [] none none)=ab (.int ((c.1:Int)+2)) from rfl) (aI (A3 rfl) rfl)
 ·rfl
def aS(bd:List Str)(W w:Nat)(c:Cell):List Cell:=(fY bd.length W w c).filter fun x=>decide (lt bd x=lt bd c)
def cW{bd:List Str}{W w:Nat}(hw:Ways w){c x:Cell}:x∈aS bd W w c↔On bd.length W x/\jC w c x=true/\lt bd x=lt bd c:=by
 unfold aS
 rw[Qd,fq hw,decide_eq_true_eq,and_assoc]
def zh(bd:List Str)(W w:Nat)(c:Cell):(aS bd W w c).length<=9:=PM (QF ..) (lF ..)
def jo{α:Type}{f:D->M (Option D)}(enc:α->D)(p:α->Bool):∀(xs:List α),(∀x∈xs,f (enc x)=ab (if p x then some (enc x) else none))->di f (xs.map enc)=ab ((xs.filter p).map enc)
 |[],_=>rfl
 |x::xs,h=>by
  rw[O3,fC,h x (OV ..),au,jo enc p xs fun y hy=>h y (OU _ hy),List.filter_cons]
  cases p x<;>rfl
def oF{bd:List Str}{W w:Nat}(hg:Brd bd W)(hw:Ways w){c:Cell}(hc:On bd.length W c):cy [brd bd,cD c, .int (w:Int)]=ab (.lst ((aS bd W w c).map cD)):=by
 refine aV (ai (Z':=[fz (brd bd),fz (cD c),fz (.int (w:Int)),fz (sg (lt bd c))]) ((aF (d:=sg (lt bd c)) ((aj (ds:=[brd bd,cD c]) rfl rfl).trans (ej hg hc))).trans rfl) (aL ?_))
 refine cj (ds:=(fY bd.length W w c).map cD) ?_ (jo cD _ _ fun x hx=>?_) (by rw[OW,cU];exact PM (zh bd W w c) (by decide))
 ·show (aq 3 a8 _ _>>=lstM)=_
  have e:aq 3 a8 (aC (dV 0) (aC (dV 1) (aC (dV 2) aN))) [fz (brd bd),fz (cD c),fz (.int (w:Int)),fz (sg (lt bd c))]=ab (.lst ((fY bd.length W w c).map cD)):=fJ hg hw hc
  rw[e]
  rfl
 ·have K4:=(fq hw).mp hx
  rw[v7]
  have e:bH (d2 lA (aq 2 bK (aC (dV 1) (aC (dV 0) aN))) (dV 4)) (fz (cD x)::[fz (brd bd),fz (cD c),fz (.int (w:Int)),fz (sg (lt bd c))])=ab (decide (lt bd x=lt bd c)):=by
   refine cZ ?_
   exact(aB (x:=sg (lt bd x)) (y:=sg (lt bd c)) ((aj (ds:=[brd bd,cD x]) rfl rfl).trans (ej hg K4.1)) rfl).trans (Et _ _)
  rw[e,au]
  cases decide (lt bd x=lt bd c)<;>rfl
end K1
namespace K1
section
variable{α:Type}[DecidableEq α]
structure Bk (α:Type) where
 ks:List α
 ps:List (Option α)
 fu:List α
def cq(c:α)(s:Bk α)(x:α):Bk α:=if x∈s.ks then s else⟨s.ks++[x],s.ps++[some c],s.fu++[x]⟩
variable(nb:α->List α)
def fQ(s:Bk α)(c:α):Bk α:=(nb c).foldl (cq c) s
def bC(s:Bk α)(ring:List α):Bk α:=ring.foldl (fQ nb) s
def Rb(a:α):Nat->α->Prop
 |0,x=>x=a
 |k+1,x=>Rb a k x\/∃y,Rb a k y/\x∈nb y
variable{nb}{a:α}
def Rb.mono{i j:Nat}{x:α}(h:i<=j)(r:Rb nb a i x):Rb nb a j x:=by
 induction h with
 |refl=>exact r
 |step _ ih=>exact .inl ih
structure Grown (P:α->α->Prop) (s t:Bk α):Prop where
 ex:∃fs:List (α×α),t.ks=s.ks++fs.map (·.1)/\t.ps=s.ps++fs.map (fun p=>some p.2)/\t.fu=s.fu++fs.map (·.1)/\(∀p∈fs,P p.2 p.1)
 nd:s.ks.Nodup->t.ks.Nodup
def Grown.refl{P:α->α->Prop}(s:Bk α):Grown P s s:=⟨⟨[],by simp,by simp,by simp,fun _ h=>by cases h⟩,id⟩
def Grown.trans{P:α->α->Prop}{s t u:Bk α}(h1:Grown P s t)(h2:Grown P t u):Grown P s u:=by
 obtain⟨fs,a1,a2,a3,a4⟩:=h1.ex
 obtain⟨gs,b1,b2,b3,b4⟩:=h2.ex
 refine⟨⟨fs++gs,by rw[b1,a1];simp,by rw[b2,a2];simp,by rw[b3,a3];simp,fun p hp=>?_⟩,fun h=>h2.nd (h1.nd h)⟩
 rcases Pq.mp hp with h | h
 ·exact a4 p h
 ·exact b4 p h
def t6{P:α->α->Prop}{c x:α}(s:Bk α)(h:P c x):Grown P s (cq c s x):=by
 unfold cq
 split
 ·exact Grown.refl s
 ·rename_i hx
  refine⟨⟨[(x,c)],rfl,rfl,rfl,fun p hp=>?_⟩,fun hn=>?_⟩
  ·have:p=(x,c):=by simpa using hp
   subst this;exact h
  ·refine P4.mpr ⟨hn,by simp,fun y hy z hz e=>?_⟩
   have hz:z=x:=by simpa using hz
   rw[e,hz] at hy
   exact hx hy
def qo{c x y:α}(s:Bk α):y∈(cq c s x).ks↔y∈s.ks\/y=x:=by
 unfold cq
 split
 ·rename_i hx
  exact⟨.inl,fun h=>h.elim id fun e=>by rw[e];exact hx⟩
 ·simp
def foldStep{P:α->α->Prop}{c:α}:∀(l:List α) (s:Bk α),(∀x∈l,P c x)->Grown P s (l.foldl (cq c) s)/\∀y,y∈(l.foldl (cq c) s).ks↔y∈s.ks\/y∈l
 |[],s,_=>⟨Grown.refl s,fun y=>by simp⟩
 |x::l,s,h=>by
  obtain⟨h1,h2⟩:=foldStep l (cq c s x) fun y hy=>h y (OU _ hy)
  refine⟨(t6 s (h x (OV ..))).trans h1,fun y=>?_⟩
  rw[R6,h2 y,qo]
  simp[or_assoc]
def uo{P:α->α->Prop}:∀(l:List α) (s:Bk α),(∀c∈l,∀x∈nb c,P c x)->Grown P s (bC nb s l)/\∀y,y∈(bC nb s l).ks↔y∈s.ks\/∃c∈l,y∈nb c
 |[],s,_=>⟨Grown.refl s,fun y=>by simp[bC]⟩
 |c::l,s,h=>by
  obtain⟨g1,m1⟩:=foldStep (P:=P) (c:=c) (nb c) s (h c (OV ..))
  obtain⟨g2,m2⟩:=uo l (fQ nb s c) fun c' hc=>h c' (OU _ hc)
  refine⟨g1.trans g2,fun y=>?_⟩
  show y∈(bC nb (fQ nb s c) l).ks↔_
  rw[m2 y]
  show (y∈((nb c).foldl (cq c) s).ks\/_)↔_
  rw[m1 y]
  simp[or_assoc]
structure Rng (nb:α->List α) (a:α) (k:Nat) (ks:List α) (ps:List (Option α)) (ring:List α):Prop where
 len:ks.length=ps.length
 nd:ks.Nodup
 mem:∀x,x∈ks↔Rb nb a k x
 rg:∀x,x∈ring↔Rb nb a k x/\∀j,Rb nb a j x->k<=j
 par:∀x p,(x,some p)∈ks.zip ps->x∈nb p/\p∈ks/\∀j,Rb nb a j x->∃i,j=i+1/\Rb nb a i p
 non:∀x,(x,none)∈ks.zip ps->x=a
 sz:k<=ks.length/\(ring≠[]->k+1<=ks.length)
def Rng.zero(nb:α->List α)(a:α):Rng nb a 0 [a] [none] [a] where
 len:=rfl
 nd:=by simp
 mem:=fun x=>by simp[Rb]
 rg:=fun x=>by simp[Rb]
 par:=fun x p h=>by simp at h
 non:=fun x h=>by simpa using h
 sz:=⟨by simp,fun _=>by simp⟩
def Rng.next{k:Nat}{ks:List α}{ps:List (Option α)}{ring:List α}(h:Rng nb a k ks ps ring)(hr:ring≠[]):Rng nb a (k+1) (bC nb ⟨ks,ps,[]⟩ ring).ks (bC nb ⟨ks,ps,[]⟩ ring).ps (bC nb ⟨ks,ps,[]⟩ ring).fu:=by
 obtain⟨g,m⟩:=uo (nb:=nb) (P:=fun c x=>c∈ring/\x∈nb c) ring ⟨ks,ps,[]⟩ fun c hc x hx=>⟨hc,hx⟩
 obtain⟨fs,e1,e2,e3,e4⟩:=g.ex
 have JS:=g.nd h.nd
 have hm:∀x,x∈(bC nb ⟨ks,ps,[]⟩ ring).ks↔Rb nb a (k+1) x:=fun x=>by
  rw[m x]
  show (x∈ks\/_)↔(Rb nb a k x\/_)
  constructor
  ·rintro(q | ⟨c,hc,hx⟩)
   ·exact .inl ((h.mem x).mp q)
   ·exact .inr ⟨c,((h.rg c).mp hc).1,hx⟩
  ·rintro(q | ⟨y,hy,hx⟩)
   ·exact .inl ((h.mem x).mpr q)
   ·by_cases hk:∀j,Rb nb a j y->k<=j
    ·exact .inr ⟨y,(h.rg y).mpr ⟨hy,hk⟩,hx⟩
    ·refine .inl ((h.mem x).mpr ?_)
     obtain⟨j,hj⟩:=Td.mp hk
     obtain⟨KH,NA⟩:=Tx.mp hj
     exact Rb.mono (i:=j+1) (by omega) (.inr ⟨y,KH,hx⟩)
 have zY:(bC nb ⟨ks,ps,[]⟩ ring).ks=ks++fs.map (·.1):=e1
 have Hl:(bC nb ⟨ks,ps,[]⟩ ring).ps=ps++fs.map (fun p=>some p.2):=e2
 have JK:(bC nb ⟨ks,ps,[]⟩ ring).fu=fs.map (·.1):=e3
 have new:∀x,x∈fs.map (·.1)->¬Rb nb a k x:=fun x hx hk=>by
  rw[zY] at JS
  exact(P4.mp JS).2.2 x ((h.mem x).mpr hk) x hx rfl
 have IT:∀x,¬Rb nb a k x->∀j,Rb nb a j x->k+1<=j:=fun x hx j hj=>by
  by_cases Md:k+1<=j
  ·exact Md
  ·exact absurd (Rb.mono (by omega) hj) hx
 have IF:(bC nb ⟨ks,ps,[]⟩ ring).ks.zip (bC nb ⟨ks,ps,[]⟩ ring).ps=ks.zip ps++fs.map fun p=>(p.1,some p.2):=by
  rw[zY,Hl,R1 h.len]
  congr 1
  rw[List.zip_map']
 refine⟨?_,JS,hm,fun x=>?_,fun x p hp=>?_,fun x hx=>?_,?_⟩
 ·rw[zY,Hl,O8,O8,OW,OW,h.len]
 ·rw[JK]
  constructor
  ·intro hx
   exact⟨(hm x).mp (by rw[zY];exact PO _ hx),IT x (new x hx)⟩
  ·rintro⟨h1,h2⟩
   have h3:=(hm x).mpr h1
   rw[zY] at h3
   rcases Pq.mp h3 with q | q
   ·have:=h2 k ((h.mem x).mp q)
    omega
   ·exact q
 ·rw[IF] at hp
  rcases Pq.mp hp with q | q
  ·obtain⟨q1,q2,q3⟩:=h.par x p q
   exact⟨q1,by rw[zY];exact Rl _ q2,q3⟩
  ·obtain⟨f,hf,e⟩:=Pd.mp q
   cases e
   obtain⟨f1,f2⟩:=e4 f hf
   have hc:=(h.rg f.2).mp f1
   refine⟨f2,by rw[zY];exact Rl _ ((h.mem _).mpr hc.1),fun j hj=>?_⟩
   have:=IT f.1 (new f.1 (Pd.mpr ⟨f,hf,rfl⟩)) j hj
   exact⟨j - 1,by omega,Rb.mono (by omega) hc.1⟩
 ·rw[IF] at hx
  rcases Pq.mp hx with q | q
  ·exact h.non x q
  ·obtain⟨f,hf,e⟩:=Pd.mp q
   cases e
 ·have hs:=h.sz.2 hr
  rw[zY,O8,OW]
  refine⟨by omega,fun gX=>?_⟩
  have:fs≠[]:=fun z=>gX (by rw[JK,z];rfl)
  have:=Se.mpr this
  omega
def Rng.last{k:Nat}{ks:List α}{ps:List (Option α)}(h:Rng nb a k ks ps []):∀x,x∈ks↔∃j,Rb nb a j x:=by
 have none:∀x,¬(Rb nb a k x/\∀j,Rb nb a j x->k<=j):=fun x q=>by
  have:=(h.rg x).mpr q
  cases this
 have hk:∀x,Rb nb a k x->∃i,i<k/\Rb nb a i x:=fun x hx=>by
  by_cases q:∀j,Rb nb a j x->k<=j
  ·exact absurd ⟨hx,q⟩ (none x)
  ·obtain⟨j,hj⟩:=Td.mp q
   obtain⟨KH,NA⟩:=Tx.mp hj
   exact⟨j,by omega,KH⟩
 have all:∀j x,Rb nb a j x->Rb nb a k x:=by
  intro j
  induction j with
  |zero=>intro x hx;exact Rb.mono (PB _) hx
  |succ j ih=>
   rintro x (q | ⟨y,hy,hx⟩)
   ·exact ih x q
   ·obtain⟨i,hi,hr⟩:=hk y (ih y hy)
    exact Rb.mono (i:=i+1) (by omega) (.inr ⟨y,hr,hx⟩)
 exact fun x=>⟨fun q=>⟨k,(h.mem x).mp q⟩,fun⟨j,hj⟩=>(h.mem x).mpr (all j x hj)⟩
def c6{l U:List α}(hn:l.Nodup)(h:∀x∈l,x∈U):l.length<=U.length:=by
 induction l generalizing U with
 |nil=>simp
 |cons a l ih=>
  rw[P1] at hn
  have hl:∀x∈l,x∈U.erase a:=fun x hx=>by
   have gX:x≠a:=fun z=>hn.1 (by rw[<-z];exact hx)
   exact(List.mem_erase_of_ne gX).mpr (h x (OU _ hx))
  have h1:=ih hn.2 hl
  have h2:=Ti (h a (OV ..))
  have h3:=List.length_pos_of_mem (h a (OV ..))
  rw[O5]
  omega
end
end K1
namespace K1
open PySem L2 L3
def keyOf(c:Cell):List Key:=[.inl (c.1:Int), .inl (c.2:Int)]
def gE{a b:Cell}(h:keyOf a=keyOf b):a=b:=by
 unfold keyOf at h
 injection h with h1 h2
 injection h1 with h1
 injection h2 with h2 _
 injection h2 with h2
 exact Tj (Rz h1) (Rz h2)
def jv(c:Cell):jX (cD c)=some (keyOf c):=rfl
def gW{c:Cell}:∀{ks:List Cell}{ds:List D},c∉ks->c9 (ks.map keyOf) ds (keyOf c)=none
 |[],_,_=>by simp[c9]
 |k::ks,[],_=>by simp[c9]
 |k::ks,d::ds,h=>by
  rw[O3]
  unfold c9
  rw[if_neg (fun z=>h (by rw[gE z];exact OV ..))]
  exact gW fun z=>h (OU _ z)
def jA{c:Cell}:∀{ks:List Cell}{ds:List D},ks.length=ds.length->c∈ks->∃d,c9 (ks.map keyOf) ds (keyOf c)=some d/\(c,d)∈ks.zip ds
 |[],_,_,h=>by cases h
 |k::ks,[],hl,_=>by simp at hl
 |k::ks,d::ds,hl,h=>by
  rw[O3]
  unfold c9
  by_cases hk:k=c
  ·subst hk
   rw[if_pos rfl]
   exact⟨d,rfl,by simp⟩
  ·rw[if_neg (fun z=>hk (gE z))]
   have hc:c∈ks:=by
    rcases O6.mp h with q | q
    ·exact absurd q.symm hk
    ·exact q
   obtain⟨d',e1,e2⟩:=jA (ds:=ds) (by simpa using hl) hc
   exact⟨d',e1,by simp[e2]⟩
def ju{neg:Bool}{ks:List Cell}{ds:List D}{c:Cell}(hl:ks.length=ds.length):eO neg (cD c) (.dct (ks.map keyOf) ds)=ab (.bl (if neg then !decide (c∈ks) else decide (c∈ks))):=by
 show (match (jX (cD c)).map (c9 (ks.map keyOf) ds) with | some o=>ab (D.bl (if neg then !o.isSome else o.isSome)) | none=>af)=_
 rw[jv]
 show ab (D.bl (if neg then !(c9 (ks.map keyOf) ds (keyOf c)).isSome else(c9 (ks.map keyOf) ds (keyOf c)).isSome))=_
 by_cases h:c∈ks
 ·obtain⟨d,e,_⟩:=jA hl h
  rw[e,decide_eq_true h];rfl
 ·rw[gW h,decide_eq_false h];rfl
def pf{ks:List Cell}{ds:List D}{c:Cell}{d:D}(h:c∉ks)(hl:ds.length<lim):iC (.dct (ks.map keyOf) ds) (cD c) d=some (.dct ((ks++[c]).map keyOf) (ds++[d])):=by
 show (match jX (cD c) with | some kk=>if ds.length<lim then some (C.dct (cP (ks.map keyOf) ds kk) (b8 (ks.map keyOf) ds kk d)) else none | none=>none)=_
 rw[jv]
 show (if ds.length<lim then some (C.dct (cP (ks.map keyOf) ds (keyOf c)) (b8 (ks.map keyOf) ds (keyOf c) d)) else none)=_
 rw[if_pos hl]
 unfold cP b8
 rw[gW h]
 simp
def vz{τ:DT}{Z:aP}{b:Bool}(h:τ (xW Z)=ab b):yJ τ Z=ab b:=by
 unfold yJ
 rw[h]
 rfl
def Eo{δ:DE}{Z:aP}{d:D}(h:δ (xW Z)=ab d)(hf:ui d=true):CB δ Z=ab d:=by
 unfold CB
 rw[h]
 show nW d=_
 unfold nW
 rw[hf]
 rfl
def CN(c:Cell):ui (cD c)=true:=rfl
def pN{c:DT}{body:DS}{n:Nat}{Z Z':aP}{m:M Out}(h1:c Z=ab true)(h2:body Z=ab (.nx Z'))(h3:dQ c body n Z'=m):dQ c body (n+1) Z=m:=by
 show (c Z>>=fun b=>if b then body Z>>=fun o=>match o with | .nx Z'=>dQ c body n Z' | .rt d=>ab (.rt d) else ab (.nx Z))=_
 rw[h1,au,if_pos rfl,h2]
 exact h3
def pM{c:DT}{body:DS}{n:Nat}{Z:aP}(h1:c Z=ab false):dQ c body (n+1) Z=ab (.nx Z):=by
 show (c Z>>=fun b=>if b then body Z>>=fun o=>match o with | .nx Z'=>dQ c body n Z' | .rt d=>ab (.rt d) else ab (.nx Z))=_
 rw[h1]
 rfl
def sN:Option Cell->D
 |none=> .non
 |some c=>cD c
abbrev z_(ks:List Cell)(ps:List (Option Cell)):C:= .dct (ks.map keyOf) (ps.map sN)
abbrev dr(ks:List Cell)(ps:List (Option Cell)):D:= .dct (ks.map keyOf) (ps.map sN)
abbrev sb(b s w:D)(ks:List Cell)(ps:List (Option Cell))(x4 x5 x6 x7:Option Sl):aP:=[fz b,fz s,fz w,some (.ow (z_ ks ps)),x4,x5,x6,x7]
structure Bok (R W:Nat) (s:Bk Cell):Prop where
 len:s.ks.length=s.ps.length
 nd:s.ks.Nodup
 on:∀x∈s.ks,On R W x
 fu:s.fu.length<=s.ks.length
def Bok.le{R W:Nat}{s:Bk Cell}(h:Bok R W s):s.ks.length<=R*W:=by
 rw[<-cC R W]
 exact c6 h.nd fun x hx=>aJ.mpr (h.on x hx)
def Bok.step{R W:Nat}{s:Bk Cell}(h:Bok R W s){c x:Cell}(hx:On R W x):Bok R W (cq c s x):=by
 unfold cq
 split
 ·exact h
 ·rename_i hn
  refine⟨by simp[h.len],?_,fun y hy=>?_,by simp;exact h.fu⟩
  ·refine P4.mpr ⟨h.nd,by simp,fun y hy z hz e=>?_⟩
   have hz:z=x:=by simpa using hz
   rw[e,hz] at hy
   exact hn hy
  ·rcases Pq.mp hy with q | q
   ·exact h.on y q
   ·have:y=x:=by simpa using q
    rw[this];exact hx
def G7:DS:=cb [7] (fb (yJ (bH (d2 (eO true) (dV 7) (dV 3)))) (ay (eU 3 (dV 7) (dV 6)) (i7 5 (dV 7))) bY)
def D9{bd:List Str}{W:Nat}(hg:Brd bd W){a c x:Cell}{w:D}{r:Option Sl}{s:Bk Cell}(h:Bok bd.length W s):
 G7 (sb (brd bd) (cD a) w s.ks s.ps r (some (.ow (.lst (s.fu.map cD)))) (fz (cD c)) (fz (cD x)))=ab (.nx (sb (brd bd) (cD a) w (cq c s x).ks (cq c s x).ps r (some (.ow (.lst ((cq c s x).fu.map cD)))) (fz (cD c)) none)):=by
 have hle:=h.le
 have hm:bd.length*W<=64:=QR hg.r8 hg.w8
 have ht:yJ (bH (d2 (eO true) (dV 7) (dV 3))) (sb (brd bd) (cD a) w s.ks s.ps r (some (.ow (.lst (s.fu.map cD)))) (fz (cD c)) (fz (cD x)))=ab (!decide (x∈s.ks)):=
  vz (cZ ((aB (x:=cD x) (y:=dr s.ks s.ps) rfl rfl).trans (ju (neg:=true) (by rw[OW];exact h.len))))
 by_cases hx:x∈s.ks
 ·rw[decide_eq_true hx] at ht
  have e:cq c s x=s:=if_pos hx
  rw[e]
  exact(bq (eI ht rfl)).trans rfl
 ·rw[decide_eq_false hx] at ht
  have e:cq c s x=⟨s.ks++[x],s.ps++[some c],s.fu++[x]⟩:=if_neg hx
  rw[e]
  refine(bq (Z':=sb (brd bd) (cD a) w (s.ks++[x]) (s.ps++[some c]) r (some (.ow (.lst ((s.fu++[x]).map cD)))) (fz (cD c)) (fz (cD x))) (eT ht (ai (Z':=sb (brd bd) (cD a) w (s.ks++[x]) (s.ps++[some c]) r (some (.ow (.lst (s.fu.map cD)))) (fz (cD c)) (fz (cD x))) ?_ ?_))).trans rfl
  ·show (match iC (z_ s.ks s.ps) (cD x) (cD c) with | some c'=>ab (Out.nx (List.set (sb (brd bd) (cD a) w s.ks s.ps r (some (.ow (.lst (s.fu.map cD)))) (fz (cD c)) (fz (cD x))) 3 (some (.ow c')))) | none=>af)=_
   rw[pf hx (by rw[OW,<-h.len,cU];omega)]
   rw[show s.ps.map sN++[cD c]=(s.ps++[some c]).map sN by simp[sN]]
   rfl
  ·show (if (s.fu.map cD).length<lim then ab (Out.nx (sb (brd bd) (cD a) w (s.ks++[x]) (s.ps++[some c]) r (some (.ow (.lst (s.fu.map cD++[cD x])))) (fz (cD c)) (fz (cD x)))) else af)=_
   have:=h.fu
   rw[if_pos (by rw[OW,cU];omega)]
   rw[show s.fu.map cD++[cD x]=(s.fu++[x]).map cD by simp]
def G6:DS:=cb [6,7] (dq (putN 7) (de (aq 3 cy (aC (dV 0) (aC (dV 6) (aC (dV 2) aN))))) G7)
def yI{bd:List Str}{W w:Nat}(hg:Brd bd W)(hw:Ways w){a c:Cell}(hc:On bd.length W c){r:Option Sl}{s:Bk Cell}(h:Bok bd.length W s):
 Bok bd.length W (fQ (aS bd W w) s c)/\G6 (sb (brd bd) (cD a) (.int (w:Int)) s.ks s.ps r (some (.ow (.lst (s.fu.map cD)))) (fz (cD c)) none)=
  ab (.nx (sb (brd bd) (cD a) (.int (w:Int)) (fQ (aS bd W w) s c).ks (fQ (aS bd W w) s c).ps r (some (.ow (.lst ((fQ (aS bd W w) s c).fu.map cD)))) none none)):=by
 obtain⟨h1,e⟩:=jt (put:=putN 7) (body:=G7) cD (fun s:Bk Cell=>sb (brd bd) (cD a) (.int (w:Int)) s.ks s.ps r (some (.ow (.lst (s.fu.map cD)))) (fz (cD c)) none) (cq c) (Bok bd.length W) (aS bd W w c) s h fun s hs x hx=>
  ⟨hs.step ((cW hw).mp hx).1,_,rfl,D9 hg hs⟩
 refine⟨h1,(bq (eS ?_ e)).trans rfl⟩
 show (aq 3 cy (aC (dV 0) (aC (dV 6) (aC (dV 2) aN))) (sb (brd bd) (cD a) (.int (w:Int)) s.ks s.ps r (some (.ow (.lst (s.fu.map cD)))) (fz (cD c)) none)>>=lstM)=_
 have e2:aq 3 cy (aC (dV 0) (aC (dV 6) (aC (dV 2) aN))) (sb (brd bd) (cD a) (.int (w:Int)) s.ks s.ps r (some (.ow (.lst (s.fu.map cD)))) (fz (cD c)) none)=ab (.lst ((aS bd W w c).map cD)):=oF hg hw hc
 rw[e2]
 rfl
def Jw:DS:=cb [5,6,7] (ay (s_ 5) (ay (dq (putN 6) (de (dV 4)) G6) (tT 5 (bg 4 (dV 5)))))
def D8{bd:List Str}{W w:Nat}(hg:Brd bd W)(hw:Ways w){a:Cell}{ring:List Cell}(hr:∀c∈ring,On bd.length W c){s:Bk Cell}(h:Bok bd.length W s)(hf:s.fu=[]):
 Bok bd.length W (bC (aS bd W w) s ring)/\Jw (sb (brd bd) (cD a) (.int (w:Int)) s.ks s.ps (fz (.lst (ring.map cD))) none none none)=
  ab (.nx (sb (brd bd) (cD a) (.int (w:Int)) (bC (aS bd W w) s ring).ks (bC (aS bd W w) s ring).ps (fz (.lst ((bC (aS bd W w) s ring).fu.map cD))) none none none)):=by
 obtain⟨h1,e⟩:=jt (put:=putN 6) (body:=G6) cD (fun s:Bk Cell=>sb (brd bd) (cD a) (.int (w:Int)) s.ks s.ps (fz (.lst (ring.map cD))) (some (.ow (.lst (s.fu.map cD)))) none none) (fQ (aS bd W w)) (Bok bd.length W) ring s h fun s hs c hc=>
  ⟨(yI (a:=a) (r:=fz (.lst (ring.map cD))) hg hw (hr c hc) hs).1,_,rfl,(yI hg hw (hr c hc) hs).2⟩
 refine⟨h1,(bq (Z':=sb (brd bd) (cD a) (.int (w:Int)) (bC (aS bd W w) s ring).ks (bC (aS bd W w) s ring).ps (fz (.lst ((bC (aS bd W w) s ring).fu.map cD))) (fz (.lst ((bC (aS bd W w) s ring).fu.map cD))) none none) ?_).trans rfl⟩
 refine ai (Z':=sb (brd bd) (cD a) (.int (w:Int)) s.ks s.ps (fz (.lst (ring.map cD))) (some (.ow (.lst []))) none none) rfl (ai (Z':=sb (brd bd) (cD a) (.int (w:Int)) (bC (aS bd W w) s ring).ks (bC (aS bd W w) s ring).ps (fz (.lst (ring.map cD))) (some (.ow (.lst ((bC (aS bd W w) s ring).fu.map cD)))) none none) ?_ rfl)
 rw[hf] at e
 exact eS rfl e
def vo{bd:List Str}{W w:Nat}(hg:Brd bd W)(hw:Ways w){a:Cell}(ha:On bd.length W a):∀(fuel k:Nat) (ks:List Cell) (ps:List (Option Cell)) (ring:List Cell),bd.length*W+2<=fuel+k->Rng (aS bd W w) a k ks ps ring->(∀x∈ks,On bd.length W x)->
 ∃k' ks' iB,Rng (aS bd W w) a k' ks' iB []/\(∀x∈ks',On bd.length W x)/\dQ (b_ (dV 4)) Jw fuel (sb (brd bd) (cD a) (.int (w:Int)) ks ps (fz (.lst (ring.map cD))) none none none)=ab (.nx (sb (brd bd) (cD a) (.int (w:Int)) ks' iB (fz (.lst [])) none none none))
 |0,k,ks,ps,ring,hf,hR,g7=>by
  have h1:ks.length<=bd.length*W:=by
   rw[<-cC bd.length W]
   exact c6 hR.nd fun x hx=>aJ.mpr (g7 x hx)
  have:=hR.sz.1
  omega
 |fuel+1,k,ks,ps,[],hf,hR,g7=>⟨k,ks,ps,hR,g7,pM rfl⟩
 |fuel+1,k,ks,ps,c::ring,hf,hR,g7=>by
  have gX:c::ring≠[]:=by simp
  have hN:=hR.next gX
  have IA:∀x∈c::ring,On bd.length W x:=fun x hx=>g7 x ((hR.mem x).mpr ((hR.rg x).mp hx).1)
  obtain⟨hb,e⟩:=D8 (a:=a) hg hw IA (s:=⟨ks,ps,[]⟩) ⟨hR.len,hR.nd,g7,PB _⟩ rfl
  obtain⟨k',ks',iB,q1,q2,q3⟩:=vo hg hw ha fuel (k+1) _ _ _ (by omega) hN hb.on
  exact⟨k',ks',iB,q1,q2,pN rfl e q3⟩
def fP{bd:List Str}{W w:Nat}(hg:Brd bd W)(hw:Ways w){a:Cell}(ha:On bd.length W a):
 ∃k ks ps,Rng (aS bd W w) a k ks ps []/\(∀x∈ks,On bd.length W x)/\bo [brd bd,cD a, .int (w:Int)]=ab (dr ks ps):=by
 have hm:bd.length*W<=64:=QR hg.r8 hg.w8
 obtain⟨k,ks,ps,h1,h2,h3⟩:=vo hg hw ha lim 0 [a] [none] [a] (by rw[cU];omega) (Rng.zero _ _) (fun x hx=>(show x=a by simpa using hx)▸ha)
 refine⟨k,ks,ps,h1,h2,aV (ai (Z':=[fz (brd bd),fz (cD a),fz (.int (w:Int)),some (.ow (z_ [a] [none])),none,none,none,none]) rfl (ai (Z':=sb (brd bd) (cD a) (.int (w:Int)) [a] [none] (fz (.lst [cD a])) none none none) rfl (ai (Z':=sb (brd bd) (cD a) (.int (w:Int)) ks ps (fz (.lst [])) none none none) (cX h3) rfl)))⟩
def xF{α:Type}[DecidableEq α](n:Nat)(enc:α->D):Prop:=∀k x y,mT (n+k) (enc x) (enc y)=some (decide (x=y))
def xS(n:Nat)(i j:Int):mT n (.int i) (.int j)=some (i==j):=by cases n<;>rfl
def CK(n:Nat)(i j:Str):mT n (.str i) (.str j)=some (i==j):=by cases n<;>rfl
def CL{α:Type}[DecidableEq α]{enc:α->D}{f:D->D->Option Bool}(h:∀x y,f (enc x) (enc y)=some (decide (x=y))):∀(xs ys:List α),rW f (xs.map enc) (ys.map enc)=some (decide (xs=ys))
 |[],[]=>rfl
 |[],_::_=>by simp[rW]
 |_::_,[]=>by simp[rW]
 |x::xs,y::ys=>by
  rw[O3,O3]
  show (match f (enc x) (enc y),rW f (xs.map enc) (ys.map enc) with | some b,some r=>some (b&&r) | _,_=>none)=_
  rw[h,CL h xs ys]
  show some (decide (x=y)&&decide (xs=ys))=_
  congr 1
  by_cases h1:x=y<;>by_cases h2:xs=ys<;>simp[h1,h2]
def Fm:xF 1 cD:=fun k a b=>by
 rw[Nat.add_comm]
 show (match mT k (.int (a.1:Int)) (.int (b.1:Int)),rW (mT k) [.int (a.2:Int)] [.int (b.2:Int)] with | some b,some r=>some (b&&r) | _,_=>none)=_
 rw[xS]
 show (match some ((a.1:Int)==(b.1:Int)),(match mT k (.int (a.2:Int)) (.int (b.2:Int)),rW (mT k) [] [] with | some b,some r=>some (b&&r) | _,_=>none) with | some b,some r=>some (b&&r) | _,_=>none)=_
 rw[xS]
 show some (((a.1:Int)==(b.1:Int))&&(((a.2:Int)==(b.2:Int))&&true))=_
 rw[jK,jK,To]
 congr 1
 obtain⟨a1,a2⟩:=a
 obtain⟨b1,b2⟩:=b
 by_cases h1:a1=b1<;>by_cases h2:a2=b2<;>simp[h1,h2]
def CI:xF 0 D.str:=fun k x y=>by
 rw[CK]
 congr 1
def Kl{α:Type}[DecidableEq α]{enc:α->D}{n:Nat}(h:xF n enc)(hn:n<=6)(x y:α):lA (enc x) (enc y)=ab (.bl (decide (x=y))):=by
 have:=h (6 - n) x y
 rw[show n+(6 - n)=6 by omega] at this
 unfold lA
 rw[this]
def Fo{α:Type}[DecidableEq α]{enc:α->D}{n:Nat}(h:xF n enc)(hn:n<=6)(x y:α):kh (enc x) (enc y)=ab (.bl (!decide (x=y))):=by
 have:=h (6 - n) x y
 rw[show n+(6 - n)=6 by omega] at this
 unfold kh
 rw[this]
abbrev cL(l:List Cell):D:= .lst (l.map cD)
def EK(a b:Cell):kh (cD a) (cD b)=ab (.bl (!decide (a=b))):=Fo Fm (by decide) a b
def ic(c:Cell):List Int:=[(c.1:Int),(c.2:Int)]
def Al(a b:Cell):Bool:=if a.1=b.1 then decide (a.2<b.2) else decide (a.1<b.1)
def C8(k:Cell):List Cell->List Cell
 |[]=>[k]
 |x::r=>if Al k x then k::x::r else x::C8 k r
def pF:List Cell->List Cell
 |[]=>[]
 |k::r=>C8 k (pF r)
def wC(a b:Cell):dW (ic a) (ic b)=Al a b:=by
 show (if (a.1:Int)=(b.1:Int) then(if (a.2:Int)=(b.2:Int) then false else decide ((a.2:Int)<(b.2:Int))) else decide ((a.1:Int)<(b.1:Int)))=_
 unfold Al
 by_cases h:a.1=b.1
 ·rw[if_pos h,if_pos (by omega)]
  by_cases h2:a.2=b.2
  ·rw[if_pos (by omega),h2];simp
  ·rw[if_neg (by omega)]
   by_cases h3:a.2<b.2
   ·rw[decide_eq_true h3,decide_eq_true (by omega)]
   ·rw[decide_eq_false h3,decide_eq_false (by omega)]
 ·rw[if_neg h,if_neg (by omega)]
  by_cases h3:a.1<b.1
  ·rw[decide_eq_true h3,decide_eq_true (by omega)]
  ·rw[decide_eq_false h3,decide_eq_false (by omega)]
def AU(k:Cell):∀l:List Cell,insI (ic k) (l.map ic)=(C8 k l).map ic
 |[]=>rfl
 |x::r=>by
  rw[O3]
  unfold insI C8
  rw[wC]
  cases Al k x with
  |true=>rfl
  |false=>rw[if_neg (by decide),if_neg (by decide),O3,AU k r]
def nz:∀l:List Cell,sortI (l.map ic)=(pF l).map ic
 |[]=>rfl
 |k::r=>by
  rw[O3]
  unfold sortI pF
  rw[nz r,AU]
def r9{a b:Cell}(h:ic a=ic b):a=b:=by
 unfold ic at h
 injection h with h1 h2
 injection h2 with h2 _
 exact Tj (Rz h1) (Rz h2)
def zk{x:Cell}{l:List Cell}:x∈pF l↔x∈l:=by
 have h:=gV (x:=ic x) (l:=l.map ic)
 rw[nz] at h
 constructor
 ·intro hx
  obtain⟨y,hy,e⟩:=Pd.mp (h.mp (Pd.mpr ⟨x,hx,rfl⟩))
  rw[<-r9 e];exact hy
 ·intro hx
  obtain⟨y,hy,e⟩:=Pd.mp (h.mpr (Pd.mpr ⟨x,hx,rfl⟩))
  rw[<-r9 e];exact hy
def RiseC(l:List Cell):Prop:=l.Pairwise fun a b=>Al a b=true
def s8{l:List Cell}:vU (l.map ic)↔RiseC l:=by
 unfold vU RiseC
 rw[RN]
 constructor<;>intro h<;>refine R0 ?_ h<;>intro a b q
 ·rw[<-wC];exact q
 ·rw[wC];exact q
def uL{l:List Cell}(h:l.Nodup):(l.map ic).Nodup:=by
 unfold Qw at h⊢
 rw[RN]
 exact R0 (fun h z=>h (r9 z)) h
def xm{l:List Cell}(h:l.Nodup):RiseC (pF l):=by
 have:=kf (uL h)
 rw[nz] at this
 exact s8.mp this
def zH{a b:List Cell}(ha:RiseC a)(hb:RiseC b)(h:∀x,x∈a↔x∈b):a=b:=by
 have e:=pk (s8.mpr ha) (s8.mpr hb) fun x=>by
  constructor
  ·intro hx
   obtain⟨y,hy,rfl⟩:=Pd.mp hx
   exact Pd.mpr ⟨y,(h y).mp hy,rfl⟩
  ·intro hx
   obtain⟨y,hy,rfl⟩:=Pd.mp hx
   exact Pd.mpr ⟨y,(h y).mpr hy,rfl⟩
 have inj:∀(a b:List Cell),a.map ic=b.map ic->a=b:=by
  intro a
  induction a with
  |nil=>intro b h;cases b with
   |nil=>rfl
   |cons=>simp at h
  |cons x a ih=>intro b h;cases b with
   |nil=>simp at h
   |cons y b=>
    rw[O3,O3] at h
    injection h with h1 h2
    rw[r9 h1,ih b h2]
 exact inj a b e
def RiseC.nodup{l:List Cell}(h:RiseC l):l.Nodup:=by
 refine R0 ?_ h
 intro a b q z
 subst z
 unfold Al at q
 rw[if_pos rfl] at q
 have:=of_decide_eq_true q
 omega
def lD:∀ks:List Cell,fH (ks.map keyOf)=some (ks.map ic)
 |[]=>rfl
 |k::r=>by
  show (match qH (keyOf k),fH (r.map keyOf) with | some x,some xs=>some (x::xs) | _,_=>none)=_
  rw[lD r]
  rfl
def I_{ks:List Cell}(h:ks.Nodup)(hl:ks.length<64):iT (ks.map ic)=true:=by
 unfold iT
 rw[OW,decide_eq_true (uL h),decide_eq_true hl]
 simp
 intro a b _ z
 cases z
def B8{ks:List Cell}{ds:List D}(h:ks.Nodup)(hl:ks.length<64):rA [.dct (ks.map keyOf) ds]=ab (cL (pF ks)):=by
 show (match fH (ks.map keyOf) with | some ks=>if iT ks&&ks.all (fun k=>decide (k.length<=lim)) then ab (D.lst ((sortI ks).map tupI)) else af | none=>af)=_
 rw[lD]
 show (if iT (ks.map ic)&&(ks.map ic).all (fun k=>decide (k.length<=lim)) then ab (D.lst ((sortI (ks.map ic)).map tupI)) else af)=_
 rw[I_ h hl]
 have:(ks.map ic).all (fun k=>decide (k.length<=lim))=true:=by
  simp
  intro a b _
  show 2<=lim
  decide
 rw[this,To,if_pos rfl,nz,PH]
 rfl
def Cn(bd:List Str)(W w:Nat)(a b:Cell):Prop:=∃j,Rb (aS bd W w) a j b
def Cn.refl{bd:List Str}{W w:Nat}{a:Cell}:Cn bd W w a a:=⟨0,rfl⟩
def wD{bd:List Str}{W w:Nat}(hw:Ways w){a b:Cell}(ha:On bd.length W a)(h:b∈aS bd W w a):a∈aS bd W w b:=by
 obtain⟨h1,h2,h3⟩:=(cW hw).mp h
 exact(cW hw).mpr ⟨ha,by rw[kK];exact h2,h3.symm⟩
def yG{bd:List Str}{W w:Nat}(hw:Ways w){a b:Cell}(ha:On bd.length W a):∀{j:Nat},Rb (aS bd W w) a j b->On bd.length W b
 |0,h=>by rw[show b=a from h];exact ha
 |j+1, .inl h=>yG hw ha h
 |j+1, .inr ⟨y,_,hy⟩=>((cW hw).mp hy).1
def ph{bd:List Str}{W w:Nat}{a c b:Cell}(h:c∈aS bd W w a):∀{j:Nat},Rb (aS bd W w) c j b->Rb (aS bd W w) a (j+1) b
 |0,q=> .inr ⟨a,rfl,by rw[show b=c from q];exact h⟩
 |j+1, .inl q=> .inl (ph h q)
 |j+1, .inr ⟨y,q,hy⟩=> .inr ⟨y,ph h q,hy⟩
def ny{bd:List Str}{W w:Nat}(hw:Ways w){a b:Cell}(ha:On bd.length W a):∀{j:Nat},Rb (aS bd W w) a j b->Rb (aS bd W w) b j a
 |0,h=>show a=b from(show b=a from h).symm
 |j+1, .inl h=> .inl (ny hw ha h)
 |j+1, .inr ⟨y,q,hy⟩=>ph (wD hw (yG hw ha q) hy) (ny hw ha q)
def pj{bd:List Str}{W w:Nat}{a b c:Cell}{i:Nat}(h:Rb (aS bd W w) a i b):∀{j:Nat},Rb (aS bd W w) b j c->Rb (aS bd W w) a (i+j) c
 |0,q=>by rw[show c=b from q];exact h
 |j+1, .inl q=> .inl (pj h q)
 |j+1, .inr ⟨y,q,hy⟩=> .inr ⟨y,pj h q,hy⟩
section
variable{bd:List Str}{W w:Nat}{a b c:Cell}
def Cn.on(hw:Ways w)(ha:On bd.length W a)(h:Cn bd W w a b):On bd.length W b:=let ⟨_,q⟩:=h;yG hw ha q
def Cn.symm(hw:Ways w)(ha:On bd.length W a)(h:Cn bd W w a b):Cn bd W w b a:=let ⟨j,q⟩:=h;⟨j,ny hw ha q⟩
def Cn.trans(h:Cn bd W w a b)(h2:Cn bd W w b c):Cn bd W w a c:=let ⟨i,q⟩:=h;let ⟨j,r⟩:=h2;⟨i+j,pj q r⟩
end
structure IsPatch (bd:List Str) (W w:Nat) (a:Cell) (P:List Cell):Prop where
 rise:RiseC P
 mem:∀x,x∈P↔Cn bd W w a x
def IsPatch.one{bd:List Str}{W w:Nat}{a:Cell}{P Q:List Cell}(h:IsPatch bd W w a P)(h2:IsPatch bd W w a Q):P=Q:=zH h.rise h2.rise fun x=>(h.mem x).trans (h2.mem x).symm
def kj{bd:List Str}{W:Nat}{ks:List Cell}(hn:ks.Nodup)(g7:∀x∈ks,On bd.length W x):ks.length<=bd.length*W:=by
 rw[<-cC bd.length W]
 exact c6 hn fun x hx=>aJ.mpr (g7 x hx)
def lW{bd:List Str}{W w:Nat}(hg:Brd bd W)(hw:Ways w){a b:Cell}(ha:On bd.length W a)(hb:On bd.length W b):bf [brd bd, .int (w:Int),cD a,cD b]=ab .non:=
 kX (Z:=[fz (brd bd),fz (.int (w:Int)),fz (cD a),fz (cD b)]) (ai (bA ((aj (ds:=[brd bd]) rfl rfl).trans hg.nb)) (ai (bA ((aj (ds:=[.int (w:Int)]) rfl rfl).trans hw.nw)) (ai (bA ((aj (ds:=[brd bd,cD a]) rfl rfl).trans (hg.nc ha))) (bA ((aj (ds:=[brd bd,cD b]) rfl rfl).trans (hg.nc hb))))))
def tY{bd:List Str}{W w:Nat}(hg:Brd bd W)(hw:Ways w){a b:Cell}(ha:On bd.length W a)(hb:On bd.length W b):∃r:Bool,(r=true↔Cn bd W w a b)/\fm [brd bd, .int (w:Int),cD a,cD b]=ab (.bl r):=by
 obtain⟨k,ks,ps,h1,h2,h3⟩:=fP hg hw ha
 refine⟨decide (b∈ks),by rw[decide_eq_true_eq];exact h1.last b,aV (ai (bA ((aj (ds:=[brd bd, .int (w:Int),cD a,cD b]) rfl rfl).trans (lW hg hw ha hb))) (aL ?_))⟩
 exact(aB (x:=cD b) (y:=dr ks ps) rfl ((aj (ds:=[brd bd,cD a, .int (w:Int)]) rfl rfl).trans h3)).trans (ju (neg:=false) (by rw[OW];exact h1.len))
def mS(w:Nat):List Cell->Bool
 |a::b::r=>jC w a b&&mS w (b::r)
 |_=>true
structure IsWay (bd:List Str) (W w:Nat) (a b:Cell) (p:List Cell):Prop where
 on:∀x∈p,On bd.length W x
 hd:p.head? =some a
 lst:p.getLast? =some b
 let':∀x∈p,lt bd x=lt bd a
 adj:mS w p=true
def t5{α:Type}{l:List α}{x:α}:L2.atI (l++[x]) (-1)=some x:=by
 unfold L2.atI Cu
 rw[if_neg (by decide)]
 have: -((l++[x]).length:Int)<= -1:=by simp;omega
 rw[if_pos this]
 have e:((-1:Int)+((l++[x]).length:Int)).toNat=l.length:=by simp;omega
 show (l++[x])[((-1:Int)+((l++[x]).length:Int)).toNat]? =some x
 rw[e]
 simp
def ou{l:List Cell}{x:Cell}:eP (cL (l++[x])) (.int (-1))=ab (cD x):=by
 show (match L2.atI ((l++[x]).map cD) (-1) with | some d=>ab d | none=>af)=_
 rw[Pz,show [x].map cD=[cD x] from rfl,t5]
structure Trail (nb:Cell->List Cell) (b:Cell) (p:List Cell) (x:Cell):Prop where
 hd:p.head? =some x
 lst:p.getLast? =some b
 ch:∀l r u v,p=l++u::v::r->u∈nb v
abbrev wr(bd w a b k t:D):aP:=[fz bd,fz w,fz a,fz b,fz k,fz t]
def xp{bd:List Str}{W:Nat}{w:D}{nb:Cell->List Cell}{a b:Cell}{k0:Nat}{ks:List Cell}{ps:List (Option Cell)}(h:Rng nb b k0 ks ps []):∀(j fuel:Nat) (x:Cell) (acc:List Cell),Rb nb b j x->j<fuel->acc.length+j+1<lim->
 ∃p,Trail nb b p x/\p.length<=j+1/\dQ (yJ (bH (d2 kh (d2 eP (dV 5) (d1 sm (dC (.int 1)))) (dV 3)))) (i7 5 (CB (d2 cB (dV 4) (d2 eP (dV 5) (d1 sm (dC (.int 1))))))) fuel [fz (brd bd),fz w,fz (cD a),fz (cD b),fz (dr ks ps),some (.ow (.lst ((acc++[x]).map cD)))]=
  ab (.nx [fz (brd bd),fz w,fz (cD a),fz (cD b),fz (dr ks ps),some (.ow (.lst ((acc++p).map cD)))]):=by
 intro j
 induction j with
 |zero=>
  intro fuel x acc hx hf hl
  obtain⟨f,rfl⟩:∃f,fuel=f+1:=⟨fuel - 1,by omega⟩
  have hx:x=b:=hx
  subst hx
  refine⟨[x],⟨rfl,rfl,fun l r u v e=>?_⟩,by simp,pM (vz (cZ ((aB (x:=cD x) (y:=cD x) ((aB (x:=cL (acc++[x])) (y:= .int (-1)) rfl rfl).trans ou) rfl).trans ((EK x x).trans (by simp)))))⟩
  have:=congrArg TX e
  simp at this
  omega
 |succ j ih=>
  intro fuel x acc hx hf hl
  obtain⟨f,rfl⟩:∃f,fuel=f+1:=⟨fuel - 1,by omega⟩
  by_cases K5:x=b
  ·subst K5
   obtain⟨p,h1,h2,h3⟩:=ih (f+1) x acc (Rb.mono (PB _) rfl) (by omega) (by omega)
   exact⟨p,h1,by omega,h3⟩
  ·have hk:x∈ks:=(h.last x).mpr ⟨_,hx⟩
   obtain⟨d,e1,e2⟩:=jA (ds:=ps.map sN) (by rw[OW];exact h.len) hk
   obtain⟨o,ho,rfl⟩:∃o,(x,o)∈ks.zip ps/\d=sN o:=by
    rw[List.zip_map_right] at e2
    obtain⟨⟨y,o⟩,hy,e⟩:=Pd.mp e2
    cases e
    exact⟨o,hy,rfl⟩
   cases o with
   |none=>exact absurd (h.non x ho) K5
   |some q=>
    obtain⟨q1,q2,q3⟩:=h.par x q ho
    obtain⟨i,hi,hq⟩:=q3 _ hx
    have hi:j=i:=by omega
    subst hi
    obtain⟨p,h1,h2,h3⟩:=ih f q (acc++[x]) hq (by omega) (by simp;omega)
    refine⟨x::p,⟨rfl,?_,fun l r u v e=>?_⟩,by simp;omega,pN (Z':=[fz (brd bd),fz w,fz (cD a),fz (cD b),fz (dr ks ps),some (.ow (.lst ((acc++[x]++[q]).map cD)))]) (vz (cZ ((aB (x:=cD x) (y:=cD b) ((aB (x:=cL (acc++[x])) (y:= .int (-1)) rfl rfl).trans ou) rfl).trans ((EK x b).trans (by rw[decide_eq_false K5];rfl))))) ?_ (by rw[h3];simp)⟩
    ·have:=h1.lst
     rw[List.getLast?_cons]
     rw[this];rfl
    ·cases l with
     |nil=>
      injection e with e1 e2
      subst e1
      have:=h1.hd
      rw[e2] at this
      cases this
      exact q1
     |cons y l=>
      injection e with _ e2
      exact h1.ch l r u v e2
    ·have ev:CB (d2 cB (dV 4) (d2 eP (dV 5) (d1 sm (dC (.int 1))))) [fz (brd bd),fz w,fz (cD a),fz (cD b),fz (dr ks ps),some (.ow (.lst ((acc++[x]).map cD)))]=ab (cD q):=by
      refine Eo ((aB (x:=dr ks ps) (y:=cD x) rfl ((aB (x:=cL (acc++[x])) (y:= .int (-1)) rfl rfl).trans ou)).trans ?_) (CN q)
      show (match (jX (cD x)).map (c9 (ks.map keyOf) (ps.map sN)) with | some (some v)=>ab v | _=>af)=_
      rw[jv]
      show (match some (c9 (ks.map keyOf) (ps.map sN) (keyOf x)) with | some (some v)=>ab v | _=>af)=_
      rw[e1]
      rfl
     show (CB (d2 cB (dV 4) (d2 eP (dV 5) (d1 sm (dC (.int 1))))) [fz (brd bd),fz w,fz (cD a),fz (cD b),fz (dr ks ps),some (.ow (.lst ((acc++[x]).map cD)))]>>=fun d=>if ((acc++[x]).map cD).length<lim then ab (Out.nx [fz (brd bd),fz w,fz (cD a),fz (cD b),fz (dr ks ps),some (.ow (.lst ((acc++[x]).map cD++[d])))]) else af)=_
     rw[ev,au,if_pos (by rw[OW];simp;omega)]
     rw[show (acc++[x]).map cD++[cD q]=(acc++[x]++[q]).map cD by simp]
def rD{bd:List Str}{W w:Nat}(hw:Ways w){b:Cell}(hb:On bd.length W b):∀{p:List Cell}{x:Cell},Trail (aS bd W w) b p x->IsWay bd W w x b p
 |[],x,h=>by have:=h.hd;cases this
 |[y],x,h=>by
  have h1:y=x:=Pg h.hd
  have h2:y=b:=Pg h.lst
  subst h1
  subst h2
  exact⟨fun z hz=>(show z=y by simpa using hz)▸hb,rfl,rfl,fun z hz=>by rw[show z=y by simpa using hz],rfl⟩
 |y::z::r,x,h=>by
  have h1:y=x:=Pg h.hd
  subst h1
  have hz:Trail (aS bd W w) b (z::r) z:=⟨rfl,by have:=h.lst;rw[QY] at this;exact this,fun l r' u v e=>h.ch (y::l) r' u v (by rw[e];rfl)⟩
  have ih:=rD hw hb hz
  have hx:=h.ch [] r y z rfl
  obtain⟨x1,x2,x3⟩:=(cW hw).mp hx
  refine⟨fun u hu=>?_,rfl,h.lst,fun u hu=>?_,?_⟩
  ·rcases O6.mp hu with q | q
   ·rw[q];exact x1
   ·exact ih.on u q
  ·rcases O6.mp hu with q | q
   ·rw[q]
   ·exact(ih.let' u q).trans x3.symm
  ·unfold mS
   rw[kK,x2,ih.adj]
   rfl
def xx{bd:List Str}{W w:Nat}(hw:Ways w){a b:Cell}:∀{p:List Cell},IsWay bd W w a b p->Rb (aS bd W w) b (p.length - 1) a
 |[],h=>by have:=h.hd;cases this
 |[y],h=>by
  have h1:y=a:=Pg h.hd
  have h2:y=b:=Pg h.lst
  exact h1.symm.trans h2
 |y::z::r,h=>by
  have h1:y=a:=Pg h.hd
  subst h1
  have ha:=h.adj
  unfold mS at ha
  rw[PK] at ha
  have hz:IsWay bd W w z b (z::r):=⟨fun u hu=>h.on u (OU _ hu),rfl,by have:=h.lst;rw[QY] at this;exact this,
   fun u hu=>(h.let' u (OU _ hu)).trans (h.let' z (by simp)).symm,ha.2⟩
  have ih:=xx hw hz
  refine .inr ⟨z,ih,(cW hw).mpr ⟨h.on _ (OV ..),by rw[kK];exact ha.1,(h.let' z (by simp)).symm⟩⟩
def Eg{bd:List Str}{W w:Nat}(hg:Brd bd W)(hw:Ways w){a b:Cell}(ha:On bd.length W a)(hb:On bd.length W b):
 (∃p,IsWay bd W w a b p/\(∀q,IsWay bd W w a b q->p.length<=q.length)/\p.length<=64/\l9 [brd bd, .int (w:Int),cD a,cD b]=ab (cL p))\/
 (¬Cn bd W w a b/\l9 [brd bd, .int (w:Int),cD a,cD b]=ab .non):=by
 have hm:bd.length*W<=64:=QR hg.r8 hg.w8
 obtain⟨k,ks,ps,h1,h2,h3⟩:=fP hg hw hb
 have KL:=kj h1.nd h2
 have st:∀{o:M Out},ay (fb (bH (d2 (eO true) (dV 2) (dV 4))) (aX (dC .non)) bY) (ay (ro 5 (fun Z=>(aC (dV 2) aN) Z>>=J0)) (ay (fun Z=>noex ((pq (yJ (bH (d2 kh (d2 eP (dV 5) (d1 sm (dC (.int 1)))) (dV 3)))) (i7 5 (CB (d2 cB (dV 4) (d2 eP (dV 5) (d1 sm (dC (.int 1)))))))) Z)) (tT 5 (aX (dV 5))))) [fz (brd bd),fz (.int (w:Int)),fz (cD a),fz (cD b),fz (dr ks ps),none]=o->
  E6 [fz (brd bd),fz (.int (w:Int)),fz (cD a),fz (cD b),none,none]=o:=fun {o} h=>
  ai (bA ((aj (ds:=[brd bd, .int (w:Int),cD a,cD b]) rfl rfl).trans (lW hg hw ha hb))) (ai (Z':=[fz (brd bd),fz (.int (w:Int)),fz (cD a),fz (cD b),fz (dr ks ps),none]) ((aF (d:=dr ks ps) ((aj (ds:=[brd bd,cD b, .int (w:Int)]) rfl rfl).trans h3)).trans rfl) h)
 have ht:bH (d2 (eO true) (dV 2) (dV 4)) [fz (brd bd),fz (.int (w:Int)),fz (cD a),fz (cD b),fz (dr ks ps),none]=ab (!decide (a∈ks)):=cZ ((aB (x:=cD a) (y:=dr ks ps) rfl rfl).trans (ju (neg:=true) (by rw[OW];exact h1.len)))
 by_cases HX:a∈ks
 ·rw[decide_eq_true HX] at ht
  have hex:=(h1.last a).mp HX
  have FI:∃j,Rb (aS bd W w) b j a/\j<=k/\∀i,Rb (aS bd W w) b i a->j<=i:=by
   have ND:=(h1.mem a).mp HX
   have:∀n,(∃j,j<=n/\Rb (aS bd W w) b j a)->∃j,Rb (aS bd W w) b j a/\j<=n/\∀i,Rb (aS bd W w) b i a->j<=i:=by
    intro n
    induction n with
    |zero=>rintro⟨j,hj,hr⟩;exact⟨j,hr,hj,fun i _=>by omega⟩
    |succ n ih=>
     rintro⟨j,hj,hr⟩
     by_cases hn:∃j,j<=n/\Rb (aS bd W w) b j a
     ·obtain⟨i,i1,i2,i3⟩:=ih hn
      exact⟨i,i1,by omega,i3⟩
     ·refine⟨j,hr,hj,fun i hi=>?_⟩
      by_cases vR:i<=n
      ·exact absurd ⟨i,vR,hi⟩ hn
      ·omega
   exact this k ⟨k,O9 _,ND⟩
  obtain⟨j,hj,Md,wq⟩:=FI
  have NC:k<=64:=PM h1.sz.1 (PM KL hm)
  obtain⟨p,p1,p2,p3⟩:=xp (bd:=bd) (W:=W) (w:= .int (w:Int)) (a:=a) h1 j lim a [] hj (by rw[cU];omega) (by rw[cU];simp;omega)
  have hp:=rD hw hb p1
  have NB:∀q,IsWay bd W w a b q->j+1<=q.length:=fun q hq=>by
   have:=wq _ (xx hw hq)
   have:q≠[]:=fun z=>by have:=hq.hd;rw[z] at this;cases this
   have:=Se.mpr this
   omega
  refine .inl ⟨p,hp,fun q hq=>by have:=NB q hq;omega,?_,aV (st (ai (eI ht rfl) (ai (Z':=[fz (brd bd),fz (.int (w:Int)),fz (cD a),fz (cD b),fz (dr ks ps),some (.ow (.lst [cD a]))]) rfl (ai (Z':=[fz (brd bd),fz (.int (w:Int)),fz (cD a),fz (cD b),fz (dr ks ps),some (.ow (.lst (p.map cD)))]) (cX p3) rfl))))⟩
  by_cases OP:k=0
  ·omega
  ·have:j+1<=k:=by
    by_cases KI:j=k
    ·subst KI
     have:=(h1.rg a).mpr ⟨hj,wq⟩
     cases this
    ·omega
   omega
 ·rw[decide_eq_false HX] at ht
  refine .inr ⟨fun hc=>HX ((h1.last a).mpr (hc.symm hw ha)),aV (st (da (eT ht (aL rfl))))⟩
def gY{α:Type}{f:D->M (Option D)}(enc:α->D)(g:α->D):∀(xs:List α),(∀x∈xs,f (enc x)=ab (some (g x)))->di f (xs.map enc)=ab (xs.map g)
 |[],_=>rfl
 |x::xs,h=>by
  rw[O3,fC,h x (OV ..),au,gY enc g xs fun y hy=>h y (OU _ hy)]
  rfl
def z9{α:Type}{δi:DA}{δe:DE}{Z:aP}{enc:α->D}{xs:List α}{g:α->Bool}(h:δi Z=ab (xs.map enc))(h2:∀x∈xs,δe (fz (enc x)::Z)=ab (.bl (g x)))(h3:xs.length<=4096):dA allM (aC (bB 0 δi cI δe) aN) Z=ab (.bl (xs.all g)):=by
 have cm:bB 0 δi cI δe Z=ab (.lst ((xs.map g).map D.bl)):=by
  refine cj h ?_ (by rw[OW,OW,cU];exact h3)
  rw[PH]
  exact gY enc _ xs fun x hx=>by rw[lu,h2 x hx];rfl
 rw[cS (aI cm rfl),all_map,Rf]
 rfl
def Ms{Z:aP}{i:Nat}{ds:List D}(h:Z[i]? =some (fz (.lst ds))):de (dV i) Z=ab ds:=by
 unfold de
 rw[bt h]
 rfl
def bO(ks:List Cell)(c:Cell):List Cell:=if c∈ks then ks else ks++[c]
def bD(l:List Cell):List Cell:=l.foldl bO []
def trues(ks:List Cell):List D:=ks.map fun _=> .bl true
def gp{ks:List Cell}{c x:Cell}:x∈bO ks c↔x∈ks\/x=c:=by
 unfold bO
 split
 ·rename_i h
  exact⟨.inl,fun q=>q.elim id fun e=>by rw[e];exact h⟩
 ·simp
def kx:∀(l ks:List Cell),(ks.Nodup->(l.foldl bO ks).Nodup)/\(∀x,x∈l.foldl bO ks↔x∈ks\/x∈l)/\(l.foldl bO ks).length<=ks.length+l.length
 |[],ks=>⟨id,fun x=>by simp,by simp⟩
 |c::l,ks=>by
  obtain⟨h1,h2,h3⟩:=kx l (bO ks c)
  refine⟨fun hn=>h1 ?_,fun x=>?_,?_⟩
  ·unfold bO
   split
   ·exact hn
   ·rename_i hc
    refine P4.mpr ⟨hn,by simp,fun y hy z hz e=>?_⟩
    have hz:z=c:=by simpa using hz
    rw[e,hz] at hy
    exact hc hy
  ·rw[R6,h2 x,gp]
   simp[or_assoc]
  ·rw[R6,O5]
   have:(bO ks c).length<=ks.length+1:=by unfold bO;split<;>simp
   omega
def jx{l:List Cell}{x:Cell}:x∈bD l↔x∈l:=by
 unfold bD
 rw[(kx l []).2.1 x]
 simp
def A7(l:List Cell):(bD l).Nodup:=(kx l []).1 QN
def zg(l:List Cell):(bD l).length<=l.length:=by have:=(kx l []).2.2;simpa[bD] using this
def rl{k:List Key}:∀{ks:List (List Key)}{l:List Cell},ks.length=l.length->lR ks (trues l) k (.bl true)=trues l
 |[],[],_=>rfl
 |k'::ks,c::l,h=>by
  show (if k'=k then D.bl true else D.bl true)::lR ks (trues l) k (.bl true)=_
  rw[rl (by simpa using h)]
  split<;>rfl
 |[],_::_,h=>by simp at h
 |_::_,[],h=>by simp at h
def BO{ks:List Cell}{c:Cell}(hl:ks.length<lim):iC (.dct (ks.map keyOf) (trues ks)) (cD c) (.bl true)=some (.dct ((bO ks c).map keyOf) (trues (bO ks c))):=by
 have hlen:(trues ks).length=ks.length:=by simp[trues]
 unfold bO
 by_cases h:c∈ks
 ·rw[if_pos h]
  show (match jX (cD c) with | some kk=>if (trues ks).length<lim then some (C.dct (cP (ks.map keyOf) (trues ks) kk) (b8 (ks.map keyOf) (trues ks) kk (.bl true))) else none | none=>none)=_
  rw[jv]
  show (if (trues ks).length<lim then some (C.dct (cP (ks.map keyOf) (trues ks) (keyOf c)) (b8 (ks.map keyOf) (trues ks) (keyOf c) (.bl true))) else none)=_
  rw[if_pos (by rw[hlen];exact hl)]
  obtain⟨d,e,_⟩:=jA (ds:=trues ks) hlen.symm h
  unfold cP b8
  rw[e]
  show some (C.dct (ks.map keyOf) (lR (ks.map keyOf) (trues ks) (keyOf c) (.bl true)))=_
  rw[rl (by simp)]
 ·rw[if_neg h,pf h (by rw[hlen];exact hl)]
  simp[trues]
abbrev iJ(l:List Cell):D:= .dct ((bD l).map keyOf) (trues (bD l))
def qM{l:List Cell}(hl:l.length<4000):g0 [cL l]=ab (iJ l):=by
 have e:∀(xs ks:List Cell),ks.length+xs.length<4000->forL (putN 2) (cb [2] (eU 1 (dV 2) (dC (.bl true)))) (xs.map cD) [fz (cL l),some (.ow (.dct (ks.map keyOf) (trues ks))),none]=ab (.nx [fz (cL l),some (.ow (.dct ((xs.foldl bO ks).map keyOf) (trues (xs.foldl bO ks)))),none]):=by
  intro xs
  induction xs with
  |nil=>intro ks _;rfl
  |cons x xs ih=>
   intro ks hk
   rw[O5] at hk
   have hle:(bO ks x).length<=ks.length+1:=by unfold bO;split<;>simp
   refine(cM (Z1:=[fz (cL l),some (.ow (.dct (ks.map keyOf) (trues ks))),fz (cD x)]) (Z2:=[fz (cL l),some (.ow (.dct ((bO ks x).map keyOf) (trues (bO ks x)))),none]) rfl ?_).trans (ih (bO ks x) (by omega))
   refine(bq (Z':=[fz (cL l),some (.ow (.dct ((bO ks x).map keyOf) (trues (bO ks x)))),fz (cD x)]) ?_).trans rfl
   show (match iC (.dct (ks.map keyOf) (trues ks)) (cD x) (.bl true) with | some c'=>ab (Out.nx [fz (cL l),some (.ow c'),fz (cD x)]) | none=>af)=_
   rw[BO (by rw[cU];omega)]
 refine aV (ai (Z':=[fz (cL l),some (.ow (.dct [] [])),none]) rfl (ai (Z':=[fz (cL l),some (.ow (.dct ((bD l).map keyOf) (trues (bD l)))),none]) (cX (eS (ds:=l.map cD) rfl (e l [] (by simpa using hl)))) rfl))
def nH{w:Nat}:∀{p q:List Cell}{x y:Cell},p.getLast? =some x->q.head? =some y->mS w (p++q)=(mS w p&&(jC w x y&&mS w q))
 |[],_,_,_,h,_=>by cases h
 |[a],q,x,y,h,h2=>by
  have h:a=x:=Pg h
  subst h
  cases q with
  |nil=>cases h2
  |cons b r=>
   have h2:b=y:=Pg h2
   subst h2
   show mS w (a::b::r)=_
   unfold mS
   rw[Sv]
   cases r<;>rfl
 |a::b::r,q,x,y,h,h2=>by
  rw[QY] at h
  have ih:=nH (w:=w) (p:=b::r) (q:=q) h h2
  show (jC w a b&&mS w ((b::r)++q))=((jC w a b&&mS w (b::r))&&_)
  rw[ih,Bool.and_assoc]
section
variable{bd:List Str}{W w:Nat}{a b c:Cell}{p q:List Cell}
def IsWay.ne(h:IsWay bd W w a b p):p≠[]:=fun z=>by have:=h.hd;rw[z] at this;cases this
def IsWay.pos(h:IsWay bd W w a b p):1<=p.length:=Se.mpr h.ne
def IsWay.last_let(h:IsWay bd W w a b p):lt bd b=lt bd a:=h.let' b (List.mem_of_getLast? h.lst)
def IsWay.one(ha:On bd.length W a):IsWay bd W w a a [a]:=⟨fun x hx=>(show x=a by simpa using hx)▸ha,rfl,rfl,fun x hx=>by rw[show x=a by simpa using hx],rfl⟩
def IsWay.cat(h:IsWay bd W w a b p)(h2:IsWay bd W w b c q):IsWay bd W w a c (p++q.tail):=by
 cases q with
 |nil=>exact absurd rfl h2.ne
 |cons x r=>
  have hx:x=b:=Pg h2.hd
  subst hx
  have hl:=h.last_let
  refine⟨fun y hy=>?_,?_,?_,fun y hy=>?_,?_⟩
  ·rcases Pq.mp hy with z | z
   ·exact h.on y z
   ·exact h2.on y (OU _ z)
  ·rw[List.head?_append,h.hd];rfl
  ·have:=h2.lst
   cases r with
   |nil=>
    have e:x=c:=Pg this
    subst e
    simp only[Sa,Qj]
    exact h.lst
   |cons y r=>
    rw[QY] at this
    rw[Sa,List.getLast?_append,this]
    rfl
  ·rcases Pq.mp hy with z | z
   ·exact h.let' y z
   ·exact(h2.let' y (OU _ z)).trans hl
  ·cases r with
   |nil=>simp only[Sa,Qj];exact h.adj
   |cons y r=>
    have ha:=h2.adj
    unfold mS at ha
    rw[PK] at ha
    rw[Sa,nH h.lst rfl,h.adj,ha.1,ha.2]
    rfl
end
def IV(a b:Bool):kh (.bl a) (.bl b)=ab (.bl (!(a==b))):=rfl
def Gh(l:List Cell):bh [cL l]=ab (.int (l.length:Int)):=by
 show ab (D.int ((l.map cD).length:Int))=_
 rw[OW]
def EJ(a b:Nat):kh (.int (a:Int)) (.int (b:Int))=ab (.bl (!(a==b))):=by
 rw[ne_int,jK]
def A6(a b:Nat):CO (.int (a:Int)) (.int (b:Int))=ab (.bl (decide (b<a))):=by
 show ab (D.bl (decide ((b:Int)<(a:Int))))=_
 congr 2
 rw[decide_eq_decide]
 omega
def Aq(ks:List Cell)(f:Cell->D):C:= .dct (ks.map keyOf) (ks.map f)
def nT(ks:List Cell)(f:Cell->D):D:= .dct (ks.map keyOf) (ks.map f)
def fj(f:Cell->D)(x:Cell)(d:D):Cell->D:=fun y=>if y=x then d else f y
def nA{f:Cell->D}{x:Cell}:∀{ks:List Cell},x∈ks->c9 (ks.map keyOf) (ks.map f) (keyOf x)=some (f x)
 |y::ks,h=>by
  show (if keyOf y=keyOf x then some (f y) else c9 (ks.map keyOf) (ks.map f) (keyOf x))=_
  by_cases e:y=x
  ·subst e;rw[if_pos rfl]
  ·rw[if_neg (fun z=>e (gE z))]
   rcases O6.mp h with q | q
   ·exact absurd q.symm e
   ·exact nA q
def ot{ks:List Cell}{f:Cell->D}{x:Cell}(h:x∈ks):cB (nT ks f) (cD x)=ab (f x):=by
 show (match ((jX (cD x)).map fun k=>c9 (ks.map keyOf) (ks.map f) k) with | some (some v)=>ab v | _=>af)=_
 rw[jv]
 show (match some (c9 (ks.map keyOf) (ks.map f) (keyOf x)) with | some (some v)=>ab v | _=>af)=_
 rw[nA h]
def sZ{f:Cell->D}{x:Cell}{d:D}:∀{ks:List Cell},lR (ks.map keyOf) (ks.map f) (keyOf x) d=ks.map (fj f x d)
 |[]=>rfl
 |y::ks=>by
  show (if keyOf y=keyOf x then d else f y)::lR (ks.map keyOf) (ks.map f) (keyOf x) d=_
  rw[sZ,O3]
  congr 1
  unfold fj
  by_cases e:y=x
  ·subst e;rw[if_pos rfl,if_pos rfl]
  ·rw[if_neg (fun z=>e (gE z)),if_neg e]
def D1{ks:List Cell}{f:Cell->D}{x:Cell}{d:D}(hl:ks.length<lim):iC (Aq ks f) (cD x) d=some (Aq (bO ks x) (fj f x d)):=by
 show (match jX (cD x) with | some kk=>if (ks.map f).length<lim then some (C.dct (cP (ks.map keyOf) (ks.map f) kk) (b8 (ks.map keyOf) (ks.map f) kk d)) else none | none=>none)=_
 rw[jv]
 show (if (ks.map f).length<lim then some (C.dct (cP (ks.map keyOf) (ks.map f) (keyOf x)) (b8 (ks.map keyOf) (ks.map f) (keyOf x) d)) else none)=_
 rw[if_pos (by rw[OW];exact hl)]
 unfold Aq bO cP b8
 by_cases h:x∈ks
 ·rw[nA h,if_pos h]
  show some (C.dct (ks.map keyOf) (lR (ks.map keyOf) (ks.map f) (keyOf x) d))=_
  rw[sZ]
 ·rw[gW h,if_neg h]
  show some (C.dct (ks.map keyOf++[keyOf x]) (ks.map f++[d]))=_
  have e1:ks.map f=ks.map (fj f x d):=Qn fun y hy=>by
   unfold fj;rw[if_neg (fun z:y=x=>h (z▸hy))]
  have e2:(ks++[x]).map (fj f x d)=ks.map (fj f x d)++[d]:=by
   rw[Pz]
   congr 1
   show [fj f x d x]=[d]
   unfold fj;rw[if_pos rfl]
  rw[Pz,e1,e2]
  rfl
def yB{i:Nat}{δk δv:DE}{Z:aP}{ks:List Cell}{f:Cell->D}{x:Cell}{d:D}(h0:Z[i]? =some (some (.ow (Aq ks f))))(hv:δv Z=ab d)(hk:δk Z=ab (cD x))(hl:ks.length<lim):
 eU i δk δv Z=ab (.nx (Z.set i (some (.ow (Aq (bO ks x) (fj f x d)))))):=by
 unfold eU qg
 rw[h0]
 show (δv Z>>=fun v=>δk Z>>=fun k=>match iC (Aq ks f) k v with | some c'=>ab (Out.nx (Z.set i (some (.ow c')))) | none=>af)=_
 rw[hv,au,hk,au,D1 hl]
def uB{bd:List Str}{W:Nat}(hg:Wd bd W):cT [brd bd]=ab (cL (aQ bd.length W)):=by
 have h8:=hg.r8
 have w8:=hg.w8
 have hm:bd.length*W<=64:=QR h8 w8
 have FF:(Px bd.length).flatMap (fun r=>(bu W r).map cD)=(aQ bd.length W).map cD:=by
  unfold aQ;rw[SG]
 have e:=gy (put:=putN 2) (body:=cb [2] (bg 1 (d2 qC (dV 1) (bB 0 (fun Z=>(aC (dA bh (aC (d2 aU (dV 0) (dC (.int 0))) aN)) aN) Z>>=f6) cI (dA dF (aC (dV 3) (aC (dV 0) aN))))))) (fun (k:Nat)=>D.int (k:Int)) (fun acc=>[fz (brd bd),fz (.lst acc),none]) (fun r=>(bu W r).map cD) (B:=64) (Px bd.length) []
  (by rw[P2,FF,OW,cC];exact hm) fun r hr acc hB=>by
   refine⟨[fz (brd bd),fz (.lst acc),fz (.int (r:Int))],rfl,?_⟩
   refine(bq (Z':=[fz (brd bd),fz (.lst (acc++(bu W r).map cD)),fz (.int (r:Int))]) ?_).trans rfl
   have hc:bB 0 (fun Z=>(aC (dA bh (aC (d2 aU (dV 0) (dC (.int 0))) aN)) aN) Z>>=f6) cI (dA dF (aC (dV 3) (aC (dV 0) aN))) [fz (brd bd),fz (.lst acc),fz (.int (r:Int))]=ab (.lst ((bu W r).map cD)):=by
    refine cj (BV (n:=W) (hg.len0 rfl) (by omega)) ?_ (by simp[bu,cU];omega)
    rw[show (bu W r).map cD=(Px W).map (fun k=>cD (r,k)) by simp[bu,PH]]
    exact gY (fun (k:Nat)=>D.int (k:Int)) (fun k=>cD (r,k)) _ fun k _=>rfl
   refine(aF (d:= .lst (acc++(bu W r).map cD)) ((aB (x:= .lst acc) (y:= .lst ((bu W r).map cD)) rfl hc).trans ?_)).trans rfl
   show (if acc.length+((bu W r).map cD).length<=lim then ab (D.lst (acc++(bu W r).map cD)) else af)=_
   rw[if_pos (by rw[O8] at hB;rw[cU];omega)]
 rw[P2,FF] at e
 refine aV (ai (Z':=[fz (brd bd),fz (.lst []),none]) rfl (ai (Z':=[fz (brd bd),fz (.lst ((aQ bd.length W).map cD)),none]) (cX (eS (BV (n:=bd.length) (A3 rfl) (by omega)) e)) ?_))
 rfl
def pY{bd:List Str}{W:Nat}(hg:Brd bd W):cT [brd bd]=ab (cL (aQ bd.length W)):=uB hg.wd
section
variable{α:Type}[DecidableEq α]
def k8{β:Type}[DecidableEq β]{g:α->β}(hg:∀a b,g a=g b->a=b){x:α}:∀{ks:List α}{ds:List D},c9 (ks.map g) ds (g x)=c9 ks ds x
 |[],ds=>by cases ds<;>rfl
 |k::ks,[]=>rfl
 |k::ks,d::ds=>by
  show (if g k=g x then some d else c9 (ks.map g) ds (g x))=if k=x then some d else c9 ks ds x
  by_cases e:k=x
  ·rw[if_pos (by rw[e]),if_pos e]
  ·rw[if_neg (fun z=>e (hg _ _ z)),if_neg e,k8 hg]
def nB{x:α}:∀{ks:List α}{ds:List D},x∉ks->c9 ks ds x=none
 |[],ds,_=>by cases ds<;>rfl
 |k::ks,[],_=>rfl
 |k::ks,d::ds,h=>by
  show (if k=x then some d else c9 ks ds x)=none
  rw[if_neg (fun z:k=x=>h (z▸OV)),nB fun z=>h (OU _ z)]
def k9{x:α}:∀{ks:List α}{ds:List D},ks.length=ds.length->x∈ks->∃d,c9 ks ds x=some d/\(x,d)∈ks.zip ds
 |k::ks,d::ds,hl,h=>by
  by_cases e:k=x
  ·exact⟨d,by show (if k=x then some d else _)=_;rw[if_pos e],by rw[e];exact OV⟩
  ·obtain⟨d',h1,h2⟩:=k9 (ks:=ks) (ds:=ds) (by simpa using hl) ((O6.mp h).resolve_left fun z=>e z.symm)
   exact⟨d',by show (if k=x then some d else _)=_;rw[if_neg e,h1],OU _ h2⟩
 |k::ks,[],hl,h=>by simp at hl
structure KOk (enc:α->D) (mk:List α->List D->C):Prop where
 at':∀ks ds x,yO (mk ks ds).d (enc x)=some (c9 ks ds x)
 put:∀ks ds x d,x∉ks->ds.length<lim->iC (mk ks ds) (enc x) d=some (mk (ks++[x]) (ds++[d]))
 ini:∀x,orM (km (enc x) (.int 0)) (l6 (enc x) (.int 0))=ab (mk [x] [.int 0])
def zE{ks:List Cell}{ds:List D}{x:Cell}{d:D}(h:x∉ks)(hl:ds.length<lim):iC (.dct (ks.map keyOf) ds) (cD x) d=some (.dct ((ks++[x]).map keyOf) (ds++[d])):=pf h hl
def EE:KOk cD (fun ks ds=> .dct (ks.map keyOf) ds):=
 ⟨fun ks ds x=>congrArg some (k8 (fun _ _=>gE)),fun ks ds x d h hl=>zE h hl,fun x=>rfl⟩
def kN(n:Nat):Key:= .inl (n:Int)
def se(a b:Nat)(h:kN a=kN b):a=b:=Rz (Sum.inl.inj h)
def nI(n:Nat):D:= .int (n:Int)
abbrev Mv(ks:List Nat)(ds:List D):C:= .dci (ks.map kN) ds
def F9:KOk nI Mv:=
 ⟨fun ks ds x=>congrArg some (k8 se),fun ks ds x d h hl=>by
  show (if ds.length<lim then some (C.dci (cP (ks.map kN) ds (kN x)) (b8 (ks.map kN) ds (kN x) d)) else none)=_
  rw[if_pos hl]
  unfold cP b8
  rw[k8 se,nB h]
  show some (C.dci (ks.map kN++[kN x]) (ds++[d]))=some (C.dci ((ks++[x]).map kN) (ds++[d]))
  rw[Pz]
  rfl,fun x=>rfl⟩
variable{enc:α->D}{mk:List α->List D->C}
def KOk.inn(k:KOk enc mk){ks:List α}{ds:List D}{x:α}(hl:ks.length=ds.length){neg:Bool}:eO neg (enc x) (mk ks ds).d=ab (.bl (if neg then !decide (x∈ks) else decide (x∈ks))):=by
 unfold eO
 rw[k.at']
 by_cases h:x∈ks
 ·obtain⟨d,e,_⟩:=k9 hl h
  rw[e,decide_eq_true h]
  rfl
 ·rw[nB h,decide_eq_false h]
  rfl
def KOk.ix(k:KOk enc mk){ks:List α}{ds:List D}{x:α}(hl:ks.length=ds.length)(h:x∈ks):∃d,(x,d)∈ks.zip ds/\cB (mk ks ds).d (enc x)=ab d:=by
 obtain⟨d,e,h2⟩:=k9 hl h
 refine⟨d,h2,?_⟩
 unfold cB
 rw[k.at',e]
def KOk.get(k:KOk enc mk){ks:List α}{ds:List D}{x:α}{v:D}(hl:ks.length=ds.length):(x∈ks->∃d,(x,d)∈ks.zip ds/\getM (mk ks ds).d (enc x) v=ab d)/\(x∉ks->getM (mk ks ds).d (enc x) v=ab v):=by
 unfold getM
 rw[k.at']
 constructor
 ·intro h
  obtain⟨d,e,h2⟩:=k9 hl h
  exact⟨d,h2,by rw[e]⟩
 ·intro h
  rw[nB h]
def Ds(nb:α->List α)(a x:α)(n:Nat):Prop:=Rb nb a n x/\∀j,Rb nb a j x->n<=j
structure SokG (S:List α) (s:Bk α):Prop where
 len:s.ks.length=s.ps.length
 nd:s.ks.Nodup
 on:∀x∈s.ks,x∈S
 fu:s.fu.length<=s.ks.length
def SokG.step{S:List α}{s:Bk α}(h:SokG S s){c x:α}(hx:x∈S):SokG S (cq c s x):=by
 unfold cq
 split
 ·exact h
 ·rename_i hn
  refine⟨by simp[h.len],?_,fun y hy=>?_,by simp;exact h.fu⟩
  ·refine P4.mpr ⟨h.nd,by simp,fun y hy z hz e=>?_⟩
   have hz:z=x:=by simpa using hz
   rw[e,hz] at hy
   exact hn hy
  ·rcases Pq.mp hy with q | q
   ·exact h.on y q
   ·have:y=x:=by simpa using q
    rw[this];exact hx
abbrev gR(mk:List α->List D->C)(nr a:D)(ks:List α)(vs:List Nat)(x3 x4 x5 x6:Option Sl):aP:=[fz nr,fz a,some (.ow (mk ks (vs.map nI))),x3,x4,x5,x6]
def Fl:DS:=(cb [6] (fb (yJ (bH (d2 (eO true) (dV 6) (dV 2)))) (ay (eU 2 (dV 6) (CB (d2 cz (d2 cB (dV 2) (dV 5)) (dC (.int 1))))) (i7 4 (dV 6))) bY))
def Val(nb:α->List α)(a:α)(ks:List α)(vs:List Nat):Prop:=ks.length=vs.length/\∀x n,(x,n)∈ks.zip vs->Ds nb a x n
def D2{i:Nat}{δk δv:DE}{Z:aP}{c c':C}{k d:D}(h0:Z[i]? =some (some (.ow c)))(hv:δv Z=ab d)(hk:δk Z=ab k)(hp:iC c k d=some c'):eU i δk δv Z=ab (.nx (Z.set i (some (.ow c')))):=by
 unfold eU qg
 rw[h0]
 show (δv Z>>=fun v=>δk Z>>=fun k=>match iC c k v with | some c'=>ab (Out.nx (Z.set i (some (.ow c')))) | none=>af)=_
 rw[hv,au,hk,au,hp]
def tJ{β:Type}{x:β}{d:D}:∀{ks:List β}{vs:List Nat},(x,d)∈ks.zip (vs.map nI)->∃n,d=nI n/\(x,n)∈ks.zip vs
 |k::ks,v::vs,h=>by
  rw[O3,Qs] at h
  rcases O6.mp h with e | h
  ·cases e;exact⟨v,rfl,OV⟩
  ·obtain⟨n,h1,h2⟩:=tJ h
   exact⟨n,h1,OU _ h2⟩
 |[],_,h=>by simp at h
 |_::_,[],h=>by simp at h
variable{S:List α}{nb:α->List α}{a0:α}
def CH(kk:KOk enc mk)(lB:S.length<=64){nr a:D}{c x:α}{r:Option Sl}{s:Bk α}{k:Nat}(h:SokG S s)(hc:c∈s.ks)(hk:Ds nb a0 c k)(jW:∀y,Rb nb a0 k y->y∈s.ks)(hx:x∈nb c){vs:List Nat}(hv:Val nb a0 s.ks vs):
 ∃vs',Val nb a0 (cq c s x).ks vs'/\Fl (gR mk nr a s.ks vs r (some (.ow (.lst (s.fu.map enc)))) (fz (enc c)) (fz (enc x)))=ab (.nx (gR mk nr a (cq c s x).ks vs' r (some (.ow (.lst ((cq c s x).fu.map enc)))) (fz (enc c)) none)):=by
 have hle:s.ks.length<=S.length:=c6 h.nd h.on
 have hl:s.ks.length=(vs.map nI).length:=by rw[OW];exact hv.1
 have ht:yJ (bH (d2 (eO true) (dV 6) (dV 2))) (gR mk nr a s.ks vs r (some (.ow (.lst (s.fu.map enc)))) (fz (enc c)) (fz (enc x)))=ab (!decide (x∈s.ks)):=
  vz (cZ ((aB (x:=enc x) (y:=(mk s.ks (vs.map nI)).d) rfl rfl).trans (kk.inn (neg:=true) hl)))
 by_cases Ct:x∈s.ks
 ·rw[decide_eq_true Ct] at ht
  have e:cq c s x=s:=if_pos Ct
  rw[e]
  exact⟨vs,hv,(bq (eI ht rfl)).trans rfl⟩
 ·rw[decide_eq_false Ct] at ht
  have e:cq c s x=⟨s.ks++[x],s.ps++[some c],s.fu++[x]⟩:=if_neg Ct
  rw[e]
  obtain⟨d,hd,hi⟩:=kk.ix hl hc
  obtain⟨n,rfl,hn⟩:=tJ hd
  have NO:n=k:=Q1 ((hv.2 c n hn).2 k hk.1) (hk.2 n (hv.2 c n hn).1)
  subst NO
  have hp:iC (mk s.ks (vs.map nI)) (enc x) (nI (n+1))=some (mk (s.ks++[x]) ((vs++[n+1]).map nI)):=by
   rw[kk.put _ _ _ _ Ct (by rw[OW,<-hv.1,cU];omega),Pz]
   rfl
  refine⟨vs++[n+1],⟨by simp[hv.1],fun y m hy=>?_⟩,(bq (Z':=gR mk nr a (s.ks++[x]) (vs++[n+1]) r (some (.ow (.lst ((s.fu++[x]).map enc)))) (fz (enc c)) (fz (enc x))) (eT ht (ai (Z':=gR mk nr a (s.ks++[x]) (vs++[n+1]) r (some (.ow (.lst (s.fu.map enc)))) (fz (enc c)) (fz (enc x))) ((D2 (c:=mk s.ks (vs.map nI)) (k:=enc x) (d:=nI (n+1)) rfl (Eo ((aB (x:=nI n) (y:= .int 1) ((aB (x:=(mk s.ks (vs.map nI)).d) (y:=enc c) rfl rfl).trans hi) rfl).trans rfl) rfl) rfl hp).trans rfl) ?_))).trans rfl⟩
  ·rw[R1 hv.1] at hy
   rcases Pq.mp hy with q | q
   ·exact hv.2 y m q
   ·cases Pp.mp q
    refine⟨.inr ⟨c,hk.1,hx⟩,fun j hj=>Nat.lt_of_not_le fun z=>Ct (jW _ (Rb.mono z hj))⟩
  ·show (if (s.fu.map enc).length<lim then ab (Out.nx (gR mk nr a (s.ks++[x]) (vs++[n+1]) r (some (.ow (.lst (s.fu.map enc++[enc x])))) (fz (enc c)) (fz (enc x)))) else af)=_
   have:=h.fu
   rw[if_pos (by rw[OW,cU];omega),show s.fu.map enc++[enc x]=(s.fu++[x]).map enc by simp]
def Fj:DS:=(cb [5,6] (dq (putN 6) (AR (de (d2 cB (dV 0) (dV 5))) (fun Z=>(d2 cB (dV 0) (dV 5)) Z>>=gF)) Fl))
def lh(enc:α->D)(S:List α)(nb:α->List α)(nr:D):Prop:=∀c∈S,∃d,cB nr (enc c)=ab d/\orM (lstM d) (gF d)=ab ((nb c).map enc)
def nX{β σ:Type}{put:D->aP->Option aP}{body:DS}(enc:β->D)(I:σ->aP->Prop)(step:σ->β->σ):∀(xs:List β) (s:σ) (Z:aP),I s Z->(∀s Z,I s Z->∀x∈xs,∃Z1 Z2,put (enc x) Z=some Z1/\body Z1=ab (.nx Z2)/\I (step s x) Z2)->
 ∃Z',forL put body (xs.map enc) Z=ab (.nx Z')/\I (xs.foldl step s) Z'
 |[],s,Z,h,_=>⟨Z,rfl,h⟩
 |x::xs,s,Z,h,st=>by
  obtain⟨Z1,Z2,e1,e2,h2⟩:=st s Z h x (OV ..)
  obtain⟨Z',e3,h3⟩:=nX enc I step xs (step s x) Z2 h2 fun s Z h y hy=>st s Z h y (OU _ hy)
  exact⟨Z',by rw[O3,cM e1 e2,e3],h3⟩
def nZ{c x y:α}{s:Bk α}(h:y∈s.ks):y∈(cq c s x).ks:=(qo s).mpr (.inl h)
def nY{y c:α}{s:Bk α}(h:y∈s.ks):y∈(fQ nb s c).ks:=((foldStep (P:=fun _ _=>True) (nb c) s fun _ _=>trivial).2 y).mpr (.inl h)
def CF(kk:KOk enc mk)(lB:S.length<=64)(hS:∀y∈S,∀x∈nb y,x∈S){nr:D}(hN:lh enc S nb nr){a:D}{c:α}{r:Option Sl}{s:Bk α}{k:Nat}(h:SokG S s)(hc:c∈s.ks)(hk:Ds nb a0 c k)(jW:∀y,Rb nb a0 k y->y∈s.ks){vs:List Nat}(hv:Val nb a0 s.ks vs):
 SokG S (fQ nb s c)/\∃vs',Val nb a0 (fQ nb s c).ks vs'/\Fj (gR mk nr a s.ks vs r (some (.ow (.lst (s.fu.map enc)))) (fz (enc c)) none)=ab (.nx (gR mk nr a (fQ nb s c).ks vs' r (some (.ow (.lst ((fQ nb s c).fu.map enc)))) none none)):=by
 have L6:=h.on c hc
 obtain⟨Z',e,h1,h2,h4,vs',h3,rfl⟩:=nX (put:=putN 6) (body:=Fl) enc (fun (s:Bk α) Z=>SokG S s/\c∈s.ks/\(∀y,Rb nb a0 k y->y∈s.ks)/\∃vs:List Nat,Val nb a0 s.ks vs/\Z=gR mk nr a s.ks vs r (some (.ow (.lst (s.fu.map enc)))) (fz (enc c)) none) (cq c) (nb c) s _ ⟨h,hc,jW,vs,hv,rfl⟩ fun s Z ⟨h,hc,jW,vs,hv,e⟩ x hx=>by
  subst e
  obtain⟨vs',h1,h2⟩:=CH (nr:=nr) (a:=a) (x:=x) (r:=r) kk lB h hc hk jW hx hv
  exact⟨_,_,rfl,h2,h.step (hS c L6 x hx),nZ hc,fun y hy=>nZ (jW y hy),vs',h1,rfl⟩
 refine⟨h1,vs',h3,(bq (eS ?_ e)).trans rfl⟩
 obtain⟨d,hd,hd2⟩:=hN c L6
 have e0:d2 cB (dV 0) (dV 5) (gR mk nr a s.ks vs r (some (.ow (.lst (s.fu.map enc)))) (fz (enc c)) none)=ab d:=(aB (x:=nr) (y:=enc c) rfl rfl).trans hd
 show orM (d2 cB (dV 0) (dV 5) _>>=lstM) (d2 cB (dV 0) (dV 5) _>>=gF)=_
 rw[e0]
 exact hd2
def HJ:DS:=(cb [4,5,6] (ay (s_ 4) (ay (dq (putN 5) (de (dV 3)) Fj) (tT 4 (bg 3 (dV 4))))))
def CG(kk:KOk enc mk)(lB:S.length<=64)(hS:∀y∈S,∀x∈nb y,x∈S){nr:D}(hN:lh enc S nb nr){a:D}{ring:List α}{s:Bk α}{k:Nat}(hr:∀c∈ring,c∈s.ks/\Ds nb a0 c k)(jW:∀y,Rb nb a0 k y->y∈s.ks)(h:SokG S s)(hf:s.fu=[]){vs:List Nat}(hv:Val nb a0 s.ks vs):
 SokG S (bC nb s ring)/\∃vs',Val nb a0 (bC nb s ring).ks vs'/\HJ (gR mk nr a s.ks vs (fz (.lst (ring.map enc))) none none none)=ab (.nx (gR mk nr a (bC nb s ring).ks vs' (fz (.lst ((bC nb s ring).fu.map enc))) none none none)):=by
 obtain⟨Z',e,h1,h2,h4,vs',h3,rfl⟩:=nX (put:=putN 5) (body:=Fj) enc (fun (s:Bk α) Z=>SokG S s/\(∀c∈ring,c∈s.ks/\Ds nb a0 c k)/\(∀y,Rb nb a0 k y->y∈s.ks)/\∃vs:List Nat,Val nb a0 s.ks vs/\Z=gR mk nr a s.ks vs (fz (.lst (ring.map enc))) (some (.ow (.lst (s.fu.map enc)))) none none) (fQ nb) ring s _ ⟨h,hr,jW,vs,hv,rfl⟩ fun s Z ⟨h,hr,jW,vs,hv,e⟩ c hc=>by
  subst e
  obtain⟨g1,vs',g2,g3⟩:=CF (nb:=nb) (a:=a) (r:=fz (.lst (ring.map enc))) kk lB hS hN h (hr c hc).1 (hr c hc).2 jW hv
  exact⟨_,_,rfl,g3,g1,fun c' AK=>⟨nY (hr c' AK).1,(hr c' AK).2⟩,fun y hy=>nY (jW y hy),vs',g2,rfl⟩
 rw[hf] at e
 refine⟨h1,vs',h3,(bq (Z':=gR mk nr a (bC nb s ring).ks vs' (fz (.lst ((bC nb s ring).fu.map enc))) (fz (.lst ((bC nb s ring).fu.map enc))) none none) ?_).trans rfl⟩
 refine ai (Z':=gR mk nr a s.ks vs (fz (.lst (ring.map enc))) (some (.ow (.lst []))) none none) rfl (ai (Z':=gR mk nr a (bC nb s ring).ks vs' (fz (.lst (ring.map enc))) (some (.ow (.lst ((bC nb s ring).fu.map enc)))) none none) ?_ rfl)
 exact eS rfl e
def uc(kk:KOk enc mk)(lB:S.length<=64)(hS:∀y∈S,∀x∈nb y,x∈S){nr:D}(hN:lh enc S nb nr)(ha:a0∈S):∀(fuel k:Nat) (ks:List α) (ps:List (Option α)) (ring:List α) (vs:List Nat),S.length+2<=fuel+k->Rng nb a0 k ks ps ring->(∀x∈ks,x∈S)->Val nb a0 ks vs->
 ∃k' ks' iB vs',Rng nb a0 k' ks' iB []/\(∀x∈ks',x∈S)/\Val nb a0 ks' vs'/\dQ (b_ (dV 3)) HJ fuel (gR mk nr (enc a0) ks vs (fz (.lst (ring.map enc))) none none none)=ab (.nx (gR mk nr (enc a0) ks' vs' (fz (.lst [])) none none none))
 |0,k,ks,ps,ring,vs,hf,hR,g7,hv=>by
  have h1:ks.length<=S.length:=c6 hR.nd g7
  have:=hR.sz.1
  omega
 |fuel+1,k,ks,ps,[],vs,hf,hR,g7,hv=>⟨k,ks,ps,vs,hR,g7,hv,pM rfl⟩
 |fuel+1,k,ks,ps,c::ring,vs,hf,hR,g7,hv=>by
  have M6:=hR.next (by simp)
  have IA:∀x∈c::ring,x∈ks/\Ds nb a0 x k:=fun x hx=>⟨(hR.mem x).mpr ((hR.rg x).mp hx).1,(hR.rg x).mp hx⟩
  obtain⟨hb,OE,N8,e⟩:=CG (nb:=nb) (a:=enc a0) kk lB hS hN (s:=⟨ks,ps,[]⟩) IA (fun y hy=>(hR.mem y).mpr hy) ⟨hR.len,hR.nd,g7,PB _⟩ rfl hv
  obtain⟨k',ks',iB,vs',q1,q2,q3,q4⟩:=uc kk lB hS hN ha fuel (k+1) _ _ _ OE (by omega) M6 hb.on N8
  exact⟨k',ks',iB,vs',q1,q2,q3,pN rfl e q4⟩
def nV(kk:KOk enc mk)(lB:S.length<=64)(hS:∀y∈S,∀x∈nb y,x∈S){nr:D}(hN:lh enc S nb nr)(ha:a0∈S):
 ∃(ks:List α) (vs:List Nat),(∀x,x∈ks↔∃j,Rb nb a0 j x)/\Val nb a0 ks vs/\br [nr,enc a0]=ab (mk ks (vs.map nI)).d:=by
 obtain⟨k,ks,ps,vs,h1,h2,h3,h4⟩:=uc (nb:=nb) kk lB hS hN ha lim 0 [a0] [none] [a0] [0] (by rw[cU];omega) (Rng.zero _ _) (fun x hx=>(show x=a0 by simpa using hx)▸ha) ⟨rfl,fun x n h=>by
  have h:x=a0/\n=0:=by simpa using h
  rw[h.1,h.2]
  exact⟨rfl,fun j _=>PB _⟩⟩
 refine⟨ks,vs,h1.last,h3,aV (ai (Z':=gR mk nr (enc a0) [a0] [0] none none none none) ?_ (ai (Z':=gR mk nr (enc a0) [a0] [0] (fz (.lst [enc a0])) none none none) rfl (ai (Z':=gR mk nr (enc a0) ks vs (fz (.lst [])) none none none) (cX h4) rfl)))⟩
 show (orM (km (enc a0) (.int 0)) (l6 (enc a0) (.int 0))>>=_)=_
 rw[kk.ini]
 rfl
end
def rank(W:Nat)(x:Cell):Nat:=x.1*W+x.2
def gu{R W:Nat}{a b:Cell}(ha:On R W a)(hb:On R W b):Al a b=true↔rank W a<rank W b:=by
 unfold Al rank
 have h1:=ha.2
 have h2:=hb.2
 by_cases h:a.1=b.1
 ·rw[if_pos h,decide_eq_true_eq,h];omega
 ·rw[if_neg h,decide_eq_true_eq]
  constructor
  ·intro q
   have:(a.1+1)*W<=b.1*W:=TU _ q
   rw[Nat.add_mul,Nat.one_mul] at this
   omega
  ·intro q
   refine Classical.byContradiction fun z=>?_
   have:(b.1+1)*W<=a.1*W:=TU _ (by omega)
   rw[Nat.add_mul,Nat.one_mul] at this
   omega
def vf{R W:Nat}{a b:Cell}(ha:On R W a)(hb:On R W b)(h:rank W a=rank W b):a=b:=by
 have n1:¬Al a b=true:=fun z=>by have:=(gu ha hb).mp z;omega
 have n2:¬Al b a=true:=fun z=>by have:=(gu hb ha).mp z;omega
 unfold Al at n1 n2
 obtain⟨a1,a2⟩:=a
 obtain⟨b1,b2⟩:=b
 simp only at n1 n2
 by_cases h1:a1=b1
 ·rw[if_pos h1,decide_eq_true_eq] at n1
  rw[if_pos h1.symm,decide_eq_true_eq] at n2
  rw[Prod.mk.injEq];exact⟨h1,by omega⟩
 ·rw[if_neg h1,decide_eq_true_eq] at n1
  rw[if_neg (PX h1),decide_eq_true_eq] at n2
  omega
section
variable{W:Nat}
def mu(R W:Nat)(L:Cell->Cell):Nat:=((aQ R W).map fun x=>rank W (L x)).sum
end
def wA{δ:DE}{Z:aP}{l:List Cell}(h:δ Z=ab (cL l)):de δ Z=ab (l.map cD):=by
 show (δ Z>>=lstM)=_
 rw[h]
 rfl
def fS(R W:Nat):RiseC (aQ R W):=by
 unfold RiseC aQ bu
 rw[List.pairwise_flatMap]
 constructor
 ·intro r _
  rw[RN]
  exact List.pairwise_lt_range.imp fun h=>by show (if _ then _ else _)=true;rw[if_pos rfl,decide_eq_true_eq];exact h
 ·refine List.pairwise_lt_range.imp fun {a b} h x hx y hy=>?_
  obtain⟨i,_,rfl⟩:=Pd.mp hx
  obtain⟨j,_,rfl⟩:=Pd.mp hy
  show (if a=b then _ else decide (a<b))=true
  rw[if_neg (by omega),decide_eq_true_eq]
  exact h
section
variable{bd:List Str}{W w:Nat}
def uD{α β:Type}{n:Nat}(f:α->List β)(h:∀a,(f a).length<=n):∀l:List α,(l.flatMap f).length<=n*l.length
 |[]=>PB _
 |a::l=>by
  rw[QJ,O8,O5,Nat.mul_add,Nat.mul_one]
  have:=h a
  have:=uD f h l
  omega
def Least(bd:List Str)(W w:Nat)(x m:Cell):Prop:=Cn bd W w x m/\∀z,Cn bd W w x z->rank W m<=rank W z
end
def HZ:((aQ 8 8).map fun c=>fU (ic c)).Nodup:=by decide+kernel
def lH{α β:Type}{f:α->β}:∀{l:List α},(l.map f).Nodup->∀a∈l,∀b∈l,f a=f b->a=b
 |x::l,h,a,ha,b,hb,e=>by
  rw[O3,P1] at h
  by_cases h1:a=x
  ·by_cases h2:b=x
   ·rw[h1,h2]
   ·have hb:b∈l:=(O6.mp hb).resolve_left h2
    exact absurd (Pd.mpr ⟨b,hb,by rw[<-h1];exact e.symm⟩) h.1
  ·have ha:a∈l:=(O6.mp ha).resolve_left h1
   by_cases h2:b=x
   ·exact absurd (Pd.mpr ⟨a,ha,by rw[<-h2];exact e⟩) h.1
   ·exact lH h.2 a ha b ((O6.mp hb).resolve_left h2) e
def CU{R W:Nat}(hR:R<=8)(hW:W<=8){l:List Cell}(hn:l.Nodup)(g7:∀x∈l,On R W x):(l.map fun c=>fU (ic c)).Nodup:=by
 have h8:∀x∈l,x∈aQ 8 8:=fun x hx=>aJ.mpr ⟨by have:=(g7 x hx).1;omega,by have:=(g7 x hx).2;omega⟩
 rw[Qw,RN]
 refine List.Pairwise.imp_of_mem (fun {a b} ha hb h z=>h ?_) hn
 exact lH HZ a (h8 a ha) b (h8 b hb) z
def G0{ks:List Cell}{f:Cell->D}{x:Cell}{d:D}:cP (ks.map keyOf) (ks.map f) (keyOf x)=(bO ks x).map keyOf/\b8 (ks.map keyOf) (ks.map f) (keyOf x) d=(bO ks x).map (fj f x d):=by
 unfold bO cP b8
 by_cases h:x∈ks
 ·rw[nA h,if_pos h]
  exact⟨rfl,sZ⟩
 ·rw[gW h,if_neg h]
  have e1:ks.map f=ks.map (fj f x d):=Qn fun y hy=>by
   unfold fj;rw[if_neg (fun z:y=x=>h (z▸hy))]
  have e2:(ks++[x]).map (fj f x d)=ks.map (fj f x d)++[d]:=by
   rw[Pz]
   congr 1
   show [fj f x d x]=[d]
   unfold fj;rw[if_pos rfl]
  exact⟨by rw[Pz];rfl,by rw[e2,<-e1];rfl⟩
def oM:∀(l ks:List Cell),b0 (ks.map keyOf) (trues ks) (l.map keyOf) (trues l)=((l.foldl bO ks).map keyOf,trues (l.foldl bO ks))
 |[],ks=>rfl
 |x::l,ks=>by
  show b0 (cP (ks.map keyOf) (trues ks) (keyOf x)) (b8 (ks.map keyOf) (trues ks) (keyOf x) (.bl true)) (l.map keyOf) (trues l)=_
  have h:=G0 (ks:=ks) (f:=fun _=>D.bl true) (x:=x) (d:= .bl true)
  have e:fj (fun _=>D.bl true) x (.bl true)=fun _=>D.bl true:=by
   funext y;unfold fj;split<;>rfl
  rw[e] at h
  rw[show trues ks=ks.map (fun _=>D.bl true) from rfl,h.1,h.2]
  exact oM l (bO ks x)
def Az{l ks:List Cell}(h:ks.Nodup):(l.foldl bO ks).Nodup:=(kx l ks).1 h
section
open Classical
variable{bd:List Str}{W w:Nat}
noncomputable def aY(bd:List Str)(W w:Nat)(m:Cell):List Cell:=(aQ bd.length W).filter fun x=>decide (Cn bd W w m x)
noncomputable def cJ(bd:List Str)(W w:Nat)(l:List Cell):List Cell:=l.filter fun x=>decide (Least bd W w x x)
def bU(hw:Ways w){m:Cell}(hm:On bd.length W m):IsPatch bd W w m (aY bd W w m):=by
 refine⟨(fS _ _).filter _,fun x=>?_⟩
 unfold aY
 rw[Qd,aJ,decide_eq_true_eq]
 exact⟨fun h=>h.2,fun h=>⟨h.on hw hm,h⟩⟩
def Least.on(hw:Ways w){x m:Cell}(hx:On bd.length W x)(h:Least bd W w x m):On bd.length W m:=h.1.on hw hx
def Least.move(hw:Ways w){x y m:Cell}(hx:On bd.length W x)(h:Least bd W w x m)(hy:Cn bd W w x y):Least bd W w y m:=
 ⟨(hy.symm hw hx).trans h.1,fun z hz=>h.2 z (hy.trans hz)⟩
def Least.one(hw:Ways w){x m n:Cell}(hx:On bd.length W x)(h:Least bd W w x m)(h2:Least bd W w x n):m=n:=
 vf (h.on hw hx) (h2.on hw hx) (Q1 (h.2 n h2.1) (h2.2 m h.1))
def Least.self(hw:Ways w){x m:Cell}(hx:On bd.length W x)(h:Least bd W w x m):Least bd W w m m:=h.move hw hx h.1
variable(L:Cell->Cell)
def qO(hw:Ways w):∃L:Cell->Cell,∀x,On bd.length W x->Least bd W w x (L x):=by
 have h:∀x,∃m,On bd.length W x->Least bd W w x m:=fun x=>by
  by_cases hx:On bd.length W x
  ·have hP:=bU hw hx
   cases hp:aY bd W w x with
   |nil=>have:=(hP.mem x).mpr Cn.refl;rw[hp] at this;cases this
   |cons m r=>
    rw[hp] at hP
    have hm:=(hP.mem m).mp (OV ..)
    refine⟨m,fun _=>⟨hm,fun z hz=>?_⟩⟩
    rcases O6.mp ((hP.mem z).mpr hz) with rfl | Oh
    ·exact O9 _
    ·exact QI ((gu (hm.on hw hx) (hz.on hw hx)).mp ((Qg.mp hP.rise).1 z Oh))
  ·exact⟨x,fun z=>absurd z hx⟩
 exact⟨fun x=>Classical.choose (h x),fun x=>Classical.choose_spec (h x)⟩
noncomputable def o6(bd:List Str)(W w:Nat):D:= .lst ((cJ bd W w (aQ bd.length W)).map fun m=>cL (aY bd W w m))
end
section
open Classical
variable{bd:List Str}{W w:Nat}
def LJ:DS:=(cb [4,5] (fb (yJ (bH (d2 (eO true) (dV 4) (dV 3)))) (ay (bg 5 (dA rA (aC (aq 3 bo (aC (dV 0) (aC (dV 4) (aC (dV 1) aN)))) aN))) (ay (i7 2 (dV 5)) (zJ 3 (aq 1 g0 (aC (dV 5) aN))))) bY))
noncomputable def yM(bd:List Str)(W w:Nat)(s:List Cell):List D:=(cJ bd W w s).map fun m=>cL (aY bd W w m)
noncomputable def Ck(bd:List Str)(W w:Nat)(s ks:List Cell)(x4 x5:Option Sl):aP:=[fz (brd bd),fz (.int (w:Int)),some (.ow (.lst (yM bd W w s))),some (.ow (.dct (ks.map keyOf) (trues ks))),x4,x5]
structure Seen (bd:List Str) (W w:Nat) (s ks:List Cell):Prop where
 nd:ks.Nodup
 on:∀y∈ks,On bd.length W y
 mem:∀y,y∈ks↔∃m∈cJ bd W w s,Cn bd W w m y
def Cg{i:Nat}{δ:DE}{Z:aP}{ks l:List Cell}(h0:Z[i]? =some (some (.ow (.dct (ks.map keyOf) (trues ks)))))(hd:δ Z=ab (iJ l))(hz:ks.length+l.length<=4096)(hh:ks=[]->((bD l).map fun c=>fU (ic c)).Nodup):
 zJ i δ Z=ab (.nx (Z.set i (some (.ow (.dct (((bD l).foldl bO ks).map keyOf) (trues ((bD l).foldl bO ks))))))):=by
 unfold zJ qg
 rw[h0]
 show (δ Z>>=fun d=>match Cf (ks.map keyOf) (trues ks) d with | some c'=>ab (Out.nx (Z.set i (some (.ow c')))) | none=>af)=_
 rw[hd,au]
 have:Cf (ks.map keyOf) (trues ks) (iJ l)=some (.dct (((bD l).foldl bO ks).map keyOf) (trues ((bD l).foldl bO ks))):=by
  show (match fH ((bD l).map keyOf) with | some ns=>if (trues ks).length+(trues (bD l)).length<=lim/\((ks.map keyOf).isEmpty=true->(ns.map fU).Nodup) then some (C.dct (b0 (ks.map keyOf) (trues ks) ((bD l).map keyOf) (trues (bD l))).1 (b0 (ks.map keyOf) (trues ks) ((bD l).map keyOf) (trues (bD l))).2) else none | none=>none)=_
  rw[lD]
  show (if (trues ks).length+(trues (bD l)).length<=lim/\((ks.map keyOf).isEmpty=true->(((bD l).map ic).map fU).Nodup) then some (C.dct (b0 (ks.map keyOf) (trues ks) ((bD l).map keyOf) (trues (bD l))).1 (b0 (ks.map keyOf) (trues ks) ((bD l).map keyOf) (trues (bD l))).2) else none)=_
  have c1:(trues ks).length+(trues (bD l)).length<=lim:=by
   have:=zg l
   unfold trues
   rw[OW,OW,cU];omega
  have c2:(ks.map keyOf).isEmpty=true->(((bD l).map ic).map fU).Nodup:=fun z=>by
   rw[PH]
   exact hh (by cases ks with | nil=>rfl | cons _ _=>cases z)
  rw[if_pos ⟨c1,c2⟩,oM]
 rw[this]
def vw(hg:Brd bd W)(hs:bd.length*W<64)(hw:Ways w){x:Cell}(hx:On bd.length W x){Z:aP}(h0:dV 0 Z=ab (brd bd))(h1:dV 1 Z=ab (.int (w:Int)))(h4:dV 4 Z=ab (cD x)):
 dA rA (aC (aq 3 bo (aC (dV 0) (aC (dV 4) (aC (dV 1) aN)))) aN) Z=ab (cL (aY bd W w x)):=by
 obtain⟨k,ks,ps,q1,q2,q3⟩:=fP hg hw hx
 have e1:aq 3 bo (aC (dV 0) (aC (dV 4) (aC (dV 1) aN))) Z=ab (dr ks ps):=(aj (ds:=[brd bd,cD x, .int (w:Int)]) (aI h0 (aI h4 (aI h1 rfl))) rfl).trans q3
 refine(cS (xs:=[dr ks ps]) (aI e1 rfl)).trans ((B8 q1.nd (Ua (kj q1.nd q2) hs)).trans ?_)
 have:pF ks=aY bd W w x:=IsPatch.one ⟨xm q1.nd,fun x=>zk.trans (q1.last x)⟩ (bU hw hx)
 rw[this]
def hJ(s:List Cell)(x:Cell):cJ bd W w (s++[x])=if Least bd W w x x then cJ bd W w s++[x] else cJ bd W w s:=by
 unfold cJ
 rw[List.filter_append]
 by_cases h:Least bd W w x x
 ·rw[if_pos h,List.filter_cons_of_pos (by rw[decide_eq_true_eq];exact h),List.filter_nil]
 ·rw[if_neg h,List.filter_cons_of_neg (by rw[decide_eq_true_eq];exact h),List.filter_nil,Qj]
def Cy(hg:Brd bd W)(hs:bd.length*W<64)(hw:Ways w){L:Cell->Cell}(hL:∀x,On bd.length W x->Least bd W w x (L x)){s r ks:List Cell}{x:Cell}(e:s++x::r=aQ bd.length W)(h:Seen bd W w s ks):
 ∃ks',Seen bd W w (s++[x]) ks'/\LJ (Ck bd W w s ks (fz (cD x)) none)=ab (.nx (Ck bd W w (s++[x]) ks' none none)):=by
 have hx:On bd.length W x:=aJ.mp (by rw[<-e];simp)
 have AQ:=fS bd.length W
 rw[<-e] at AQ
 have JV:∀y∈s,On bd.length W y:=fun y hy=>aJ.mp (by rw[<-e];simp[hy])
 have IA:∀y∈r,On bd.length W y:=fun y hy=>aJ.mp (by rw[<-e];simp[hy])
 have CV:∀y∈s,rank W y<rank W x:=fun y hy=>(gu (JV y hy) hx).mp ((TJ.mp AQ).2.2 y hy x (OV ..))
 have Fz:∀y∈r,rank W x<rank W y:=fun y hy=>(gu hx (IA y hy)).mp ((Qg.mp (TJ.mp AQ).2.1).1 y hy)
 have KL:ks.length<=64:=by have:=kj (bd:=bd) (W:=W) h.nd h.on;omega
 have ED:s.length<64:=by
  have:=congrArg TX e
  rw[cC,O8,O5] at this
  omega
 have ht:yJ (bH (d2 (eO true) (dV 4) (dV 3))) (Ck bd W w s ks (fz (cD x)) none)=ab (!decide (x∈ks)):=
  vz (cZ ((aB (x:=cD x) (y:= .dct (ks.map keyOf) (trues ks)) rfl rfl).trans (ju (neg:=true) (by simp[trues]))))
 by_cases hl:Least bd W w x x
 ·have Ct:x∉ks:=fun z=>by
   obtain⟨m,hm,hc⟩:=(h.mem x).mp z
   unfold cJ at hm
   rw[Qd,decide_eq_true_eq] at hm
   have h1:=CV m hm.1
   have h2:=hl.2 m (hc.symm hw (JV m hm.1))
   omega
  rw[decide_eq_false Ct] at ht
  have hP:=bU hw hx (bd:=bd) (W:=W)
  have Fy:∀y∈aY bd W w x,On bd.length W y:=fun y hy=>((hP.mem y).mp hy).on hw hx
  have Kp:(aY bd W w x).length<=64:=by have:=kj (bd:=bd) (W:=W) hP.rise.nodup Fy;omega
  have FF:(yM bd W w s).length<lim:=by
   unfold yM
   rw[OW,cU]
   have:=QF (fun x=>decide (Least bd W w x x)) s
   unfold cJ
   omega
  refine⟨(bD (aY bd W w x)).foldl bO ks,⟨Az h.nd,fun y hy=>?_,fun y=>?_⟩,?_⟩
  ·rcases((kx (bD (aY bd W w x)) ks).2.1 y).mp hy with q | q
   ·exact h.on y q
   ·exact Fy y (jx.mp q)
  ·rw[(kx (bD (aY bd W w x)) ks).2.1 y,jx,h.mem y,hJ,if_pos hl,hP.mem y]
   constructor
   ·rintro(⟨m,hm,hc⟩ | hc)
    ·exact⟨m,Pq.mpr (.inl hm),hc⟩
    ·exact⟨x,by simp,hc⟩
   ·rintro⟨m,hm,hc⟩
    rcases Pq.mp hm with hm | hm
    ·exact .inl ⟨m,hm,hc⟩
    ·rw[Pp.mp hm] at hc;exact .inr hc
  ·have ef:yM bd W w (s++[x])=yM bd W w s++[cL (aY bd W w x)]:=by
    unfold yM
    rw[hJ,if_pos hl,Pz]
    rfl
   refine(bq (Z':=[fz (brd bd),fz (.int (w:Int)),some (.ow (.lst (yM bd W w s++[cL (aY bd W w x)]))),some (.ow (.dct (((bD (aY bd W w x)).foldl bO ks).map keyOf) (trues ((bD (aY bd W w x)).foldl bO ks)))),fz (cD x),fz (cL (aY bd W w x))]) (eT ht (ai (Z':=Ck bd W w s ks (fz (cD x)) (fz (cL (aY bd W w x)))) ((aF (vw hg hs hw hx rfl rfl rfl)).trans rfl) (ai (Z':=[fz (brd bd),fz (.int (w:Int)),some (.ow (.lst (yM bd W w s++[cL (aY bd W w x)]))),some (.ow (.dct (ks.map keyOf) (trues ks))),fz (cD x),fz (cL (aY bd W w x))]) ?_ ?_)))).trans ?_
   ·show (if (yM bd W w s).length<lim then ab (Out.nx [fz (brd bd),fz (.int (w:Int)),some (.ow (.lst (yM bd W w s++[cL (aY bd W w x)]))),some (.ow (.dct (ks.map keyOf) (trues ks))),fz (cD x),fz (cL (aY bd W w x))]) else af)=_
    rw[if_pos FF]
   ·exact(Cg (ks:=ks) (l:=aY bd W w x) rfl ((aj (ds:=[cL (aY bd W w x)]) rfl rfl).trans (qM (by omega))) (by omega) (fun _=>CU hg.r8 hg.w8 (A7 _) fun y hy=>Fy y (jx.mp hy))).trans rfl
   ·unfold Ck
    rw[ef]
    rfl
 ·have hm:=hL x hx
  have gX:L x≠x:=fun z=>hl (by rw[z] at hm;exact hm)
  have iI:rank W (L x)<rank W x:=by
   have h1:=hm.2 x Cn.refl
   have h2:rank W (L x)≠rank W x:=fun z=>gX (vf (hm.on hw hx) hx z)
   omega
  have NK:L x∈s:=by
   have:L x∈s++x::r:=by rw[e];exact aJ.mpr (hm.on hw hx)
   rcases Pq.mp this with q | q
   ·exact q
   ·rcases O6.mp q with q | q
    ·exact absurd q gX
    ·have:=Fz _ q;omega
  have Ct:x∈ks:=(h.mem x).mpr ⟨L x,by unfold cJ;rw[Qd,decide_eq_true_eq];exact⟨NK,hm.self hw hx⟩,hm.1.symm hw hx⟩
  rw[decide_eq_true Ct] at ht
  refine⟨ks,⟨h.nd,h.on,fun y=>by rw[hJ,if_neg hl];exact h.mem y⟩,?_⟩
  have ef:yM bd W w (s++[x])=yM bd W w s:=by
   unfold yM
   rw[hJ,if_neg hl]
  refine(bq (eI ht rfl)).trans ?_
  unfold Ck
  rw[ef]
  rfl
def xH(hg:Brd bd W)(hs:bd.length*W<64)(hw:Ways w){L:Cell->Cell}(hL:∀x,On bd.length W x->Least bd W w x (L x)):∀(r s ks:List Cell),s++r=aQ bd.length W->Seen bd W w s ks->
 ∃ks',forL (putN 4) LJ (r.map cD) (Ck bd W w s ks none none)=ab (.nx (Ck bd W w (aQ bd.length W) ks' none none))
 |[],s,ks,e,h=>by
  rw[Qj] at e
  exact⟨ks,by rw[e];rfl⟩
 |x::r,s,ks,e,h=>by
  obtain⟨Lc,h1,e1⟩:=Cy hg hs hw hL e h
  obtain⟨Ld,e2⟩:=xH hg hs hw hL r (s++[x]) Lc (by rw[Q9];exact e) h1
  exact⟨Ld,(cM rfl e1).trans e2⟩
def eM(hg:Brd bd W)(hs:bd.length*W<64)(hw:Ways w):bI [brd bd, .int (w:Int)]=ab (o6 bd W w):=by
 obtain⟨L,hL⟩:=qO (bd:=bd) (W:=W) hw
 obtain⟨ks,e⟩:=xH hg hs hw hL (aQ bd.length W) [] [] rfl ⟨QN,(fun y hy=>(by cases hy)),(fun y=>⟨fun z=>(by cases z),fun⟨m,hm,_⟩=>(by cases hm)⟩)⟩
 refine aV (ai (Z':=[fz (brd bd),fz (.int (w:Int)),some (.ow (.lst [])),none,none,none]) rfl (ai (Z':=Ck bd W w [] [] none none) rfl (ai (Z':=Ck bd W w (aQ bd.length W) ks none none) (cX (eS (ds:=(aQ bd.length W).map cD) (wA ((aj (ds:=[brd bd]) rfl rfl).trans (gc hg))) e)) rfl)))
end
structure NumOk (R W:Nat) (Ps:List (List Cell)) (ks:List Cell) (f:Cell->Nat):Prop where
 nd:ks.Nodup
 on:∀y∈ks,On R W y
 num:∀y∈ks,∃P,Ps[f y]? =some P/\y∈P
def My:DS:=cb [4] (eU 1 (dV 4) (dV 2))
def EM(Ps:List (List Cell))(ks:List Cell)(f:Cell->Nat)(x2 x3 x4:Option Sl):aP:=[fz (.lst (Ps.map cL)),some (.ow (Aq ks fun y=> .int (f y:Int))),x2,x3,x4]
def yL{ks:List Cell}{x:Cell}:x∈bO ks x:=gp.mpr (.inr rfl)
def EN{R W:Nat}(hm:R*W<=64){Ps:List (List Cell)}{i:Nat}{P:List Cell}(hP:Ps[i]? =some P){x3:Option Sl}(g7:∀y∈P,On R W y):∀(l ks:List Cell) (f:Cell->Nat),(∀y∈l,y∈P)->NumOk R W Ps ks f->
 ∃ks' f',NumOk R W Ps ks' f'/\(∀y∈ks,y∈ks')/\(∀y∈l,y∈ks')/\forL (putN 4) My (l.map cD) (EM Ps ks f (fz (.int (i:Int))) x3 none)=ab (.nx (EM Ps ks' f' (fz (.int (i:Int))) x3 none))
 |[],ks,f,_,h=>⟨ks,f,h,fun y hy=>hy,(fun y hy=>(by cases hy)),rfl⟩
 |x::l,ks,f,hl,h=>by
  have hx:=hl x (OV ..)
  have KL:ks.length<=64:=by
   have h1:=c6 h.nd fun y hy=>aJ.mpr (h.on y hy)
   rw[cC] at h1
   omega
  have h1:NumOk R W Ps (bO ks x) (fun y=>if y=x then i else f y):=by
   refine⟨(kx [x] ks).1 h.nd,fun y hy=>?_,fun y hy=>?_⟩
   ·rcases gp.mp hy with q | q
    ·exact h.on y q
    ·rw[q];exact g7 x hx
   ·by_cases e:y=x
    ·refine⟨P,?_,by rw[e];exact hx⟩
     show Ps[if y=x then i else f y]? =_
     rw[if_pos e];exact hP
    ·rcases gp.mp hy with q | q
     ·obtain⟨Q,q1,q2⟩:=h.num y q
      refine⟨Q,?_,q2⟩
      show Ps[if y=x then i else f y]? =_
      rw[if_neg e];exact q1
     ·exact absurd q e
  obtain⟨ks',f',a1,a2,a3,a4⟩:=EN hm hP g7 l (bO ks x) _ (fun y hy=>hl y (OU _ hy)) h1
  refine⟨ks',f',a1,fun y hy=>a2 y (gp.mpr (.inl hy)),fun y hy=>?_,?_⟩
  ·rcases O6.mp hy with rfl | hy
   ·exact a2 _ yL
   ·exact a3 y hy
  ·refine(cM (Z1:=EM Ps ks f (fz (.int (i:Int))) x3 (fz (cD x))) rfl ?_).trans a4
   refine(bq ((yB (ks:=ks) (f:=fun y=> .int (f y:Int)) (x:=x) (d:= .int (i:Int)) rfl rfl rfl (by rw[cU];omega)).trans rfl)).trans ?_
   have ef:fj (fun y=>D.int (f y:Int)) x (.int (i:Int))=fun y=>D.int ((if y=x then i else f y:Nat):Int):=by
    funext y
    unfold fj
    by_cases e:y=x
    ·rw[if_pos e,if_pos e]
    ·rw[if_neg e,if_neg e]
   show ab (Out.nx [fz (.lst (Ps.map cL)),some (.ow (Aq (bO ks x) (fj (fun y=>D.int (f y:Int)) x (.int (i:Int))))),fz (.int (i:Int)),x3,none])=_
   rw[ef]
   rfl
def JL(q:Nat×List Cell):D:= .tup [.int (q.1:Int),cL q.2]
def Ba{R W:Nat}(hm:R*W<=64){Ps:List (List Cell)}(g7:∀P∈Ps,∀y∈P,On R W y):∀(qs:List (Nat×List Cell)) (ks:List Cell) (f:Cell->Nat),(∀q∈qs,Ps[q.1]? =some q.2)->NumOk R W Ps ks f->
 ∃ks' f',NumOk R W Ps ks' f'/\(∀y∈ks,y∈ks')/\(∀q∈qs,∀y∈q.2,y∈ks')/\forL (yC [2,3]) (cb [2,3,4] (dq (putN 4) (de (dV 3)) My)) (qs.map JL) (EM Ps ks f none none none)=ab (.nx (EM Ps ks' f' none none none))
 |[],ks,f,_,h=>⟨ks,f,h,fun y hy=>hy,(fun q hq=>(by cases hq)),rfl⟩
 |q::qs,ks,f,hq,h=>by
  have hP:=hq q (OV ..)
  obtain⟨Lc,f1,a1,a2,a3,a4⟩:=EN hm hP (x3:=fz (cL q.2)) (g7 q.2 (Pj hP)) q.2 ks f (fun y hy=>hy) h
  obtain⟨Ld,f2,b1,b2,b3,b4⟩:=Ba hm g7 qs Lc f1 (fun q' Iz=>hq q' (OU _ Iz)) a1
  refine⟨Ld,f2,b1,fun y hy=>b2 y (a2 y hy),fun q' Iz y hy=>?_,?_⟩
  ·rcases O6.mp Iz with rfl | Iz
   ·exact b2 y (a3 y hy)
   ·exact b3 q' Iz y hy
  ·exact(cM (Z1:=EM Ps ks f (fz (.int (q.1:Int))) (fz (cL q.2)) none) rfl ((bq (eS (ds:=q.2.map cD) (Ms rfl) a4)).trans rfl)).trans b4
def zj(Ps:List (List Cell)):(Ps.map cL).mapIdx (fun i d=>D.tup [.int (i:Int),d])=(Ps.zipIdx.map fun q:List Cell×Nat=>(q.2,q.1)).map JL:=by
 apply Ue
 intro i
 simp only[TK,O_,List.getElem?_zipIdx,Option.map_map,SF]
 cases Ps[i]? <;>simp[JL]
def iO{R W:Nat}(hm:R*W<=64){Ps:List (List Cell)}(g7:∀P∈Ps,∀y∈P,On R W y):∃ks f,NumOk R W Ps ks f/\(∀P∈Ps,∀y∈P,y∈ks)/\bG [.lst (Ps.map cL)]=ab (nT ks fun y=> .int (f y:Int)):=by
 have hq:∀q∈Ps.zipIdx.map (fun q:List Cell×Nat=>(q.2,q.1)),Ps[q.1]? =some q.2:=fun q hq=>by
  obtain⟨⟨P,i⟩,h1,rfl⟩:=Pd.mp hq
  exact SR.mp h1
 obtain⟨ks,f,a1,a2,a3,a4⟩:=Ba hm g7 (Ps.zipIdx.map fun q:List Cell×Nat=>(q.2,q.1)) [] (fun _=>0) hq ⟨QN,(fun y hy=>(by cases hy)),(fun y hy=>(by cases hy))⟩
 refine⟨ks,f,a1,fun P hP y hy=>?_,?_⟩
 ·obtain⟨i,hi,rfl⟩:=Rq hP
  refine a3 (i,Ps[i]) (Pd.mpr ⟨(Ps[i],i),SR.mpr (by rw[OY hi]),rfl⟩) y hy
 ·refine aV (ai (Z':=EM Ps [] (fun _=>0) none none none) rfl (ai (Z':=EM Ps ks f none none none) (cX (eS (ds:=(Ps.zipIdx.map fun q:List Cell×Nat=>(q.2,q.1)).map JL) ?_ a4)) rfl))
  show ab ((Ps.map cL).mapIdx fun i d=>D.tup [.int (i:Int),d])=_
  rw[zj]
def um{α β:Type}(g:α->β):∀l:List α,(l.flatMap fun r=>[g r])=l.map g
 |[]=>rfl
 |a::l=>by rw[QJ,um g l];rfl
section
open Classical
variable{bd:List Str}{W w:Nat}
noncomputable def bb(bd:List Str)(W w:Nat):List (List Cell):=(cJ bd W w (aQ bd.length W)).map (aY bd W w)
def j5:o6 bd W w= .lst ((bb bd W w).map cL):=by
 unfold o6 bb
 rw[PH]
 rfl
def c5{m:Cell}(h:m∈cJ bd W w (aQ bd.length W)):On bd.length W m:=by
 unfold cJ at h
 exact aJ.mp (Qd.mp h).1
def q9(hw:Ways w):∀P∈bb bd W w,∀y∈P,On bd.length W y:=fun P hP y hy=>by
 unfold bb at hP
 obtain⟨m,hm,rfl⟩:=Pd.mp hP
 exact(((bU hw (c5 hm)).mem y).mp hy).on hw (c5 hm)
def o5(hg:Brd bd W)(hw:Ways w){x:Cell}(hx:On bd.length W x):∃P∈bb bd W w,x∈P:=by
 obtain⟨L,hL⟩:=qO (bd:=bd) (W:=W) hw
 have hm:=hL x hx
 have Mg:=hm.on hw hx
 refine⟨aY bd W w (L x),Pd.mpr ⟨L x,?_,rfl⟩,((bU hw Mg).mem x).mpr (hm.1.symm hw hx)⟩
 unfold cJ
 rw[Qd,decide_eq_true_eq]
 exact⟨aJ.mpr Mg,hm.self hw hx⟩
def wB:(bb bd W w).length<=bd.length*W:=by
 unfold bb cJ
 rw[OW,<-cC bd.length W]
 exact QF ..
def sq(hg:Brd bd W)(hs:bd.length*W<64)(hw:Ways w):∃f:Cell->Nat,(∀x,On bd.length W x->∃P,(bb bd W w)[f x]? =some P/\x∈P)/\
 dU [brd bd, .int (w:Int)]=ab (.lst ((Px bd.length).map fun r=> .lst ((bu W r).map fun y=> .int (f y:Int)))):=by
 obtain⟨ks,f,a1,a2,a3⟩:=iO (R:=bd.length) (W:=W) (by omega) (q9 (bd:=bd) hw)
 have z3:∀x,On bd.length W x->x∈ks:=fun x hx=>by
  obtain⟨P,hP,h⟩:=o5 hg hw hx
  exact a2 P hP x h
 refine⟨f,fun x hx=>a1.num x (z3 x hx),?_⟩
 have h8:=hg.r8
 have w8:=hg.w8
 have e:=gy (put:=putN 4) (body:=cb [4] (i7 3 (bB 0 (de (aq 2 aW (aC (dV 0) (aC (dV 4) aN)))) cI (d2 cB (dV 3) (dV 0))))) (fun (k:Nat)=>D.int (k:Int)) (fun acc=>[fz (brd bd),fz (.int (w:Int)),fz (nT ks fun y=> .int (f y:Int)),some (.ow (.lst acc)),none]) (fun r=>[D.lst ((bu W r).map fun y=> .int (f y:Int))]) (B:=64) (Px bd.length) []
  (by
   rw[P2]
   have:=uD (n:=1) (fun r=>[D.lst ((bu W r).map fun y=> .int (f y:Int))]) (fun r=>by simp) (Px bd.length)
   rw[Ud] at this
   omega) fun r hr acc hB=>by
   refine⟨[fz (brd bd),fz (.int (w:Int)),fz (nT ks fun y=> .int (f y:Int)),some (.ow (.lst acc)),fz (.int (r:Int))],rfl,?_⟩
   have hc:bB 0 (de (aq 2 aW (aC (dV 0) (aC (dV 4) aN)))) cI (d2 cB (dV 3) (dV 0)) [fz (brd bd),fz (.int (w:Int)),fz (nT ks fun y=> .int (f y:Int)),some (.ow (.lst acc)),fz (.int (r:Int))]=ab (.lst ((bu W r).map fun y=> .int (f y:Int))):=by
    refine cj (ds:=(bu W r).map cD) (wA ((aj (ds:=[brd bd, .int (r:Int)]) rfl rfl).trans (gr hg r))) (gY cD (fun y=> .int (f y:Int)) _ fun y hy=>?_) (by simp[bu,cU];omega)
    have Og:On bd.length W y:=by
     obtain⟨k,hk,rfl⟩:=Pd.mp hy
     exact⟨QO.mp hr,QO.mp hk⟩
    rw[lu]
    have:d2 cB (dV 3) (dV 0) [fz (cD y),fz (brd bd),fz (.int (w:Int)),fz (nT ks fun y=> .int (f y:Int)),some (.ow (.lst acc)),fz (.int (r:Int))]=ab (.int (f y:Int)):=(aB (x:=nT ks fun y=> .int (f y:Int)) (y:=cD y) rfl rfl).trans (ot (f:=fun y=> .int (f y:Int)) (z3 y Og))
    rw[this]
    rfl
   refine(bq (Z':=[fz (brd bd),fz (.int (w:Int)),fz (nT ks fun y=> .int (f y:Int)),some (.ow (.lst (acc++[.lst ((bu W r).map fun y=> .int (f y:Int))]))),fz (.int (r:Int))]) ?_).trans rfl
   show (bB 0 (de (aq 2 aW (aC (dV 0) (aC (dV 4) aN)))) cI (d2 cB (dV 3) (dV 0)) [fz (brd bd),fz (.int (w:Int)),fz (nT ks fun y=> .int (f y:Int)),some (.ow (.lst acc)),fz (.int (r:Int))]>>=fun d=>if acc.length<lim then ab (Out.nx [fz (brd bd),fz (.int (w:Int)),fz (nT ks fun y=> .int (f y:Int)),some (.ow (.lst (acc++[d]))),fz (.int (r:Int))]) else af)=_
   rw[hc,au,if_pos (by rw[O8] at hB;rw[cU];simp at hB;omega)]
 rw[P2,show ((Px bd.length).flatMap fun r=>[D.lst ((bu W r).map fun y=> .int (f y:Int))])=(Px bd.length).map (fun r=>D.lst ((bu W r).map fun y=> .int (f y:Int))) from um _ _] at e
 refine aV (ai (bA ((aj (ds:=[brd bd]) rfl rfl).trans hg.nb)) (ai (bA ((aj (ds:=[.int (w:Int)]) rfl rfl).trans hw.nw)) (ai (Z':=[fz (brd bd),fz (.int (w:Int)),fz (nT ks fun y=> .int (f y:Int)),none,none]) ((aF (d:=nT ks fun y=> .int (f y:Int)) ((aj (ds:=[.lst ((bb bd W w).map cL)]) (aI ((aj (ds:=[brd bd, .int (w:Int)]) rfl rfl).trans ((eM hg hs hw).trans (by rw[j5]))) rfl) rfl).trans a3)).trans rfl) (ai (Z':=[fz (brd bd),fz (.int (w:Int)),fz (nT ks fun y=> .int (f y:Int)),some (.ow (.lst [])),none]) rfl (ai (cX (eS (BV (n:=bd.length) (A3 rfl) (by omega)) e)) rfl)))))
end
end K1
namespace K1
open PySem L2 L3 HT
end K1
namespace K1
open PySem PySem.Spec L2 L3
open PyProof.Rows hiding St
section
open Classical
variable{bd:List Str}{W w:Nat}
def Di:(cJ bd W w (aQ bd.length W)).Nodup:=by
 unfold cJ
 exact(RiseC.nodup (fS _ _)).filter _
def uG{l:List Cell}{m:Cell}:m∈cJ bd W w l↔m∈l/\Least bd W w m m:=by
 unfold cJ
 rw[Qd,decide_eq_true_eq]
def uC(hw:Ways w){m x:Cell}(hm:m∈cJ bd W w (aQ bd.length W))(hx:x∈aY bd W w m):Least bd W w x m:=
 (uG.mp hm).2.move hw (c5 hm) (((bU hw (c5 hm)).mem x).mp hx)
def gM{i:Nat}{P:List Cell}(h:(bb bd W w)[i]? =some P):∃m,(cJ bd W w (aQ bd.length W))[i]? =some m/\P=aY bd W w m:=by
 unfold bb at h
 rw[O_] at h
 cases q:(cJ bd W w (aQ bd.length W))[i]? with
 |none=>rw[q] at h;cases h
 |some m=>rw[q] at h;cases h;exact⟨m,rfl,rfl⟩
def A4{i j:Nat}{m:Cell}(h:(cJ bd W w (aQ bd.length W))[i]? =some m)(h2:(cJ bd W w (aQ bd.length W))[j]? =some m):i=j:=
 (Sy (OZ.mp h).1 Di).mp (h.trans h2.symm)
def oG{α:Type}{l:List α}{i:Nat}{x:α}(h:l[i]? =some x):x∈l:=Pj h
def r_(hw:Ways w){i j:Nat}{P Q:List Cell}{x:Cell}(hi:(bb bd W w)[i]? =some P)(hj:(bb bd W w)[j]? =some Q)(hx:x∈P)(hy:x∈Q):i=j:=by
 obtain⟨m,e1,rfl⟩:=gM hi
 obtain⟨n,e2,rfl⟩:=gM hj
 have hm:=oG e1
 have hn:=oG e2
 have g7:On bd.length W x:=(((bU hw (c5 hm)).mem x).mp hx).on hw (c5 hm)
 have:=(uC hw hm hx).one hw g7 (uC hw hn hy)
 subst this
 exact A4 e1 e2
def wY(hw:Ways w){m:Cell}(hm:m∈cJ bd W w (aQ bd.length W)):∃r,aY bd W w m=m::r:=by
 have ho:=c5 hm
 have hP:=bU hw ho
 cases hp:aY bd W w m with
 |nil=>have:=(hP.mem m).mpr Cn.refl;rw[hp] at this;cases this
 |cons a r=>
  refine⟨r,?_⟩
  rw[hp] at hP
  by_cases e:a=m
  ·rw[e]
  ·have vR:m∈a::r:=(hP.mem m).mpr Cn.refl
   have vR:m∈r:=by
    cases vR with
    |head=>exact absurd rfl e
    |tail _ q=>exact q
   have hc:=(hP.mem a).mp (OV ..)
   have h1:=(gu (hc.on hw ho) ho).mp ((Qg.mp hP.rise).1 m vR)
   have:=(uG.mp hm).2.2 a hc
   omega
end
end K1
namespace K1
open PySem L2 L3
abbrev NT:=List (Nat×List Nat)
def dD(p:Nat×List Nat):Key×List Key:=(kN p.1,p.2.map kN)
def B0(l:NT)(n:Nat):NT:=if n∈l.map (·.1) then l else l++[(n,[])]
def z7(l:NT)(n m:Nat):NT:=l.map fun p=>if p.1=n then(p.1,if m∈p.2 then p.2 else p.2++[m]) else p
def xY(ks:List Nat)(n:Nat):pX (ks.map kN) (kN n)=decide (n∈ks):=by
 rw[S0,kA,decide_eq_true_eq,Pd]
 exact⟨fun ⟨a,h,e⟩=>se _ _ e▸h,fun h=>⟨n,h,rfl⟩⟩
def xX(l:NT):(l.map dD).map (·.1)=(l.map (·.1)).map kN:=by rw[PH,PH];rfl
def B2(l:NT)(n:Nat):tu (l.map dD) (kN n)=(B0 l n).map dD:=by
 unfold tu B0
 rw[xX,xY]
 by_cases h:n∈l.map (·.1)
 ·rw[if_pos h,if_pos (decide_eq_true h)]
 ·rw[if_neg h,if_neg (fun z=>h (of_decide_eq_true z)),Pz]
  rfl
def z8(l:NT)(n m:Nat):nG (l.map dD) (kN n) (kN m)=(z7 l n m).map dD:=by
 unfold nG z7
 rw[PH,PH]
 refine Qn fun p _=>?_
 show (if kN p.1=kN n then(kN p.1,if pX (p.2.map kN) (kN m) then p.2.map kN else p.2.map kN++[kN m]) else dD p)=dD (if p.1=n then(p.1,if m∈p.2 then p.2 else p.2++[m]) else p)
 by_cases h:p.1=n
 ·rw[if_pos (by rw[h]),if_pos h,xY]
  by_cases q:m∈p.2
  ·rw[if_pos (decide_eq_true q),if_pos q];rfl
  ·rw[if_neg (fun z=>q (of_decide_eq_true z)),if_neg q]
   show _=(kN p.1,(p.2++[m]).map kN)
   rw[Pz];rfl
 ·rw[if_neg (fun z=>h (se _ _ z)),if_neg h]
structure NrS (T:Nat->Prop) (E:Nat->Nat->Prop) (l:NT):Prop where
 nd:(l.map (·.1)).Nodup
 key:∀n,n∈l.map (·.1)↔T n
 nb:∀p∈l,p.2.Nodup/\∀m,m∈p.2↔E p.1 m
 hT:∀n,T n->n<64
 hE:∀n m,E n m->m<64
def le64{l:List Nat}(hn:l.Nodup)(h:∀n∈l,n<64):l.length<=64:=by
 have:=c6 (U:=Px 64) hn fun x hx=>QO.mpr (h x hx)
 simpa using this
section
variable{T:Nat->Prop}{E:Nat->Nat->Prop}{l:NT}
def NrS.ok(h:NrS T E l):tR (l.map dD)=true:=by
 unfold tR
 rw[Qt,decide_eq_true_eq,Pl]
 have:=le64 h.nd fun n hn=>h.hT n ((h.key n).mp hn)
 refine⟨by rw[OW] at this⊢;rw[cU];omega,fun p hp=>?_⟩
 obtain⟨q,hq,rfl⟩:=Pd.mp hp
 have:=le64 (h.nb q hq).1 fun m hm=>h.hE q.1 m (((h.nb q hq).2 m).mp hm)
 show decide ((q.2.map kN).length<lim)=true
 rw[decide_eq_true_eq,OW,cU]
 omega
def NrS.cong{T':Nat->Prop}{E':Nat->Nat->Prop}(h:NrS T E l)(h1:∀n,T n↔T' n)(h2:∀n m,E n m↔E' n m):NrS T' E' l:=
 ⟨h.nd,fun n=>(h.key n).trans (h1 n),fun p hp=>⟨(h.nb p hp).1,fun m=>((h.nb p hp).2 m).trans (h2 _ _)⟩,fun n hn=>h.hT n ((h1 n).mpr hn),fun n m hm=>h.hE n m ((h2 n m).mpr hm)⟩
def NrS.set(h:NrS T E l){n:Nat}(hn:n<64)(hE:∀m,E n m->T n):NrS (fun k=>T k\/k=n) E (B0 l n):=by
 unfold B0
 split
 ·rename_i q
  have hq:=(h.key n).mp q
  exact h.cong (fun k=>⟨.inl,fun z=>z.elim id fun e=>e▸hq⟩) fun _ _=>RW
 ·rename_i q
  refine⟨?_,fun k=>?_,fun p hp=>?_,fun k hk=>hk.elim (h.hT k) fun e=>e▸hn,h.hE⟩
  ·rw[Pz,P4]
   exact⟨h.nd,by simp,fun x hx y hy z=>q (by rw[z] at hx;cases Pp.mp hy;exact hx)⟩
  ·rw[Pz,Pq,h.key]
   exact or_congr RW (by simp)
  ·rcases Pq.mp hp with z | z
   ·exact h.nb p z
   ·cases Pp.mp z
    exact⟨QN,fun m=>⟨fun z=>(nomatch z),fun z=>absurd ((h.key n).mpr (hE m z)) q⟩⟩
def tV(l:NT)(n m:Nat):(z7 l n m).map (·.1)=l.map (·.1):=by
 unfold z7
 rw[PH]
 refine Qn fun p _=>?_
 show (if p.1=n then(p.1,_) else p).1=p.1
 split<;>rfl
def NrS.add(h:NrS T E l){n m:Nat}(hm:m<64):NrS T (fun a b=>E a b\/(a=n/\b=m)) (z7 l n m):=by
 refine⟨by rw[tV];exact h.nd,fun k=>by rw[tV];exact h.key k,fun p hp=>?_,h.hT,fun a b q=>q.elim (h.hE a b) fun e=>e.2▸hm⟩
 obtain⟨q,hq,rfl⟩:=Pd.mp hp
 have:=h.nb q hq
 by_cases e:q.1=n
 ·rw[if_pos e]
  by_cases z:m∈q.2
  ·rw[if_pos z]
   exact⟨this.1,fun b=>⟨fun y=> .inl ((this.2 b).mp y),fun y=>y.elim (fun y=>(this.2 b).mpr y) fun y=>y.2▸z⟩⟩
  ·rw[if_neg z]
   refine⟨P4.mpr ⟨this.1,by simp,fun x hx y hy e=>z (by rw[e] at hx;cases Pp.mp hy;exact hx)⟩,fun b=>?_⟩
   show b∈q.2++[m]↔E q.1 b\/(q.1=n/\b=m)
   rw[Pq,this.2 b,Pp]
   exact or_congr RW ⟨fun y=>⟨e,y⟩,fun y=>y.2⟩
 ·rw[if_neg e]
  exact⟨this.1,fun b=>(this.2 b).trans ⟨.inl,fun y=>y.elim id fun y=>absurd y.1 e⟩⟩
end
def Bg{oi:Nat}{tc:DT}{δk:DE}{Z:aP}{f:Cell->Nat}{n:Nat}(lB:∀y,f y<64):∀(ys:List Cell) {T:Nat->Prop}{E:Nat->Nat->Prop}{l:NT},NrS T E l->
 (∀y∈ys,tc (Z.set oi (fz (cD y)))=ab (!decide (f y=n))/\δk (Z.set oi (fz (cD y)))=ab (nI (f y)))->
 ∃l',j1 oi tc δk (kN n) Z (ys.map cD) (l.map dD)=ab (l'.map dD)/\NrS T (fun a b=>E a b\/(a=n/\b≠n/\∃y∈ys,f y=b)) l'
 |[],T,E,l,h,_=>⟨l,rfl,h.cong (fun _=>RW) fun a b=>⟨.inl,fun z=>z.elim id fun⟨_,_,y,hy,_⟩=>nomatch hy⟩⟩
 |y::ys,T,E,l,h,Ib=>by
  obtain⟨h1,h2⟩:=Ib y OV
  have Ic:=fun z hz=>Ib z (OU _ hz)
  by_cases e:f y=n
  ·rw[decide_eq_true e] at h1
   obtain⟨l',g1,g2⟩:=Bg (n:=n) lB ys h Ic
   refine⟨l',?_,g2.cong (fun _=>RW) fun a b=>or_congr RW (and_congr_right fun _=>and_congr_right fun hb=>?_)⟩
   ·rw[O3]
    unfold j1
    rw[show some (Sl.fz (cD y))=fz (cD y) from rfl,h1]
    exact g1
   ·exact⟨fun ⟨z,hz,q⟩=>⟨z,OU _ hz,q⟩,fun⟨z,hz,q⟩=>(O6.mp hz).elim (fun x=>absurd (q.symm.trans (by rw[x,e])) hb) fun x=>⟨z,x,q⟩⟩
  ·rw[decide_eq_false e] at h1
   obtain⟨l',g1,g2⟩:=Bg (n:=n) lB ys (h.add (n:=n) (lB y)) Ic
   refine⟨l',?_,g2.cong (fun _=>RW) fun a b=>?_⟩
   ·rw[O3]
    unfold j1
    rw[show some (Sl.fz (cD y))=fz (cD y) from rfl,h1,h2]
    show (if tR (l.map dD) then j1 oi tc δk (kN n) Z (ys.map cD) (nG (l.map dD) (kN n) (kN (f y))) else af)=_
    rw[if_pos h.ok,z8]
    exact g1
   ·constructor
    ·rintro((q | ⟨q1,q2⟩) | ⟨q1,q2,z,hz,q3⟩)
     ·exact .inl q
     ·exact .inr ⟨q1,fun z=>e (q2.symm.trans z),y,OV,q2.symm⟩
     ·exact .inr ⟨q1,q2,z,OU _ hz,q3⟩
    ·rintro(q | ⟨q1,q2,z,hz,q3⟩)
     ·exact .inl (.inl q)
     ·rcases O6.mp hz with x | x
      ·exact .inl (.inr ⟨q1,by rw[<-q3,x]⟩)
      ·exact .inr ⟨q1,q2,z,x,q3⟩
def Bh{ci oi:Nat}{δk:DE}{δj:DA}{tc:DT}{δk2:DE}{Z:aP}{f:Cell->Nat}{nx:Cell->List Cell}(lB:∀y,f y<64):∀(xs:List Cell) {T:Nat->Prop}{E:Nat->Nat->Prop}{l:NT},NrS T E l->(∀n m,E n m->T n)->
 (∀x∈xs,δk (Z.set ci (fz (cD x)))=ab (nI (f x))/\δj (Z.set ci (fz (cD x)))=ab ((nx x).map cD)/\∀y∈nx x,tc ((Z.set ci (fz (cD x))).set oi (fz (cD y)))=ab (!decide (f y=f x))/\δk2 ((Z.set ci (fz (cD x))).set oi (fz (cD y)))=ab (nI (f y)))->
 ∃l',fK ci oi δk δj tc δk2 Z (xs.map cD) (l.map dD)=ab (l'.map dD)/\NrS (fun n=>T n\/∃x∈xs,f x=n) (fun a b=>E a b\/(a≠b/\∃x∈xs,f x=a/\∃y∈nx x,f y=b)) l'
 |[],T,E,l,h,_,_=>⟨l,rfl,h.cong (fun n=>⟨.inl,fun z=>z.elim id fun⟨_,hx,_⟩=>nomatch hx⟩) fun a b=>⟨.inl,fun z=>z.elim id fun⟨_,_,hx,_⟩=>nomatch hx⟩⟩
 |x::xs,T,E,l,h,LZ,Ib=>by
  obtain⟨h1,h2,h3⟩:=Ib x OV
  obtain⟨l1,g1,g2⟩:=Bg (n:=f x) lB (nx x) (h.set (lB x) fun m hm=>LZ _ m hm) h3
  obtain⟨l2,k1,k2⟩:=Bh lB xs g2 (fun n m z=>z.elim (fun z=> .inl (LZ n m z)) fun z=> .inr z.1) fun z hz=>Ib z (OU _ hz)
  refine⟨l2,?_,k2.cong (fun n=>?_) fun a b=>?_⟩
  ·rw[O3]
   unfold fK
   rw[show some (Sl.fz (cD x))=fz (cD x) from rfl,h1]
   show (if tR (l.map dD) then noex (δj (Z.set ci (fz (cD x))))>>=fun es=>j1 oi tc δk2 (kN (f x)) (Z.set ci (fz (cD x))) es (tu (l.map dD) (kN (f x)))>>=fun iB=>fK ci oi δk δj tc δk2 Z (xs.map cD) iB else af)=_
   rw[if_pos h.ok,h2,B2]
   show (j1 oi tc δk2 (kN (f x)) (Z.set ci (fz (cD x))) ((nx x).map cD) ((B0 l (f x)).map dD)>>=fun iB=>fK ci oi δk δj tc δk2 Z (xs.map cD) iB)=_
   rw[g1]
   exact k1
  ·constructor
   ·rintro((q | q) | ⟨z,hz,q⟩)
    ·exact .inl q
    ·exact .inr ⟨x,OV,q.symm⟩
    ·exact .inr ⟨z,OU _ hz,q⟩
   ·rintro(q | ⟨z,hz,q⟩)
    ·exact .inl (.inl q)
    ·rcases O6.mp hz with e | e
     ·exact .inl (.inr (by rw[<-q,e]))
     ·exact .inr ⟨z,e,q⟩
  ·constructor
   ·rintro((q | ⟨q1,q2,y,hy,q3⟩) | ⟨q1,z,hz,q2⟩)
    ·exact .inl q
    ·exact .inr ⟨fun e=>q2 (e.symm.trans q1),x,OV,q1.symm,y,hy,q3⟩
    ·exact .inr ⟨q1,z,OU _ hz,q2⟩
   ·rintro(q | ⟨q1,z,hz,q2,y,hy,q3⟩)
    ·exact .inl (.inl q)
    ·rcases O6.mp hz with e | e
     ·subst e
      exact .inl (.inr ⟨q2.symm,fun e=>q1 (q2.symm.trans e.symm),y,hy,q3⟩)
     ·exact .inr ⟨q1,z,e,q2,y,hy,q3⟩
def zI{ni ci mi oi:Nat}{δi:DA}{δk:DE}{δj:DA}{tc:DT}{δk2:DE}{Z Z0:aP}{ds:List D}{ps:nE}(h0:qg Z ni=some (.dci [] []))(h1:fgt [ni,ci,mi,oi] Z=Z0)(h2:nJ Z0=true)(h3:δi Z0=ab ds)
 (h4:fK ci oi δk δj tc δk2 Z0 ds []=ab ps)(h5:tR ps=true):vm ni ci mi oi δi δk δj tc δk2 Z=ab (.nx (Z0.set ni (fz (ra ps)))):=by
 unfold vm
 rw[h0,h1]
 show (if nJ Z0=true then noex (δi Z0)>>=_ else af)=_
 rw[if_pos h2,h3]
 show (noex (fK ci oi δk δj tc δk2 Z0 ds [])>>=_)=_
 rw[h4]
 show (if tR ps=true then _ else af)=_
 rw[if_pos h5]
def wG(l:NT)(n:Nat):List Nat:=match l.find? (fun p=>p.1==n) with
 |some p=>p.2
 |none=>[]
def yj{l:NT}{p:Nat×List Nat}(hn:(l.map (·.1)).Nodup)(hp:p∈l):wG l p.1=p.2:=by
 unfold wG
 cases q:l.find? (fun r=>r.1==p.1) with
 |none=>have:=List.find?_eq_none.mp q p hp;simp at this
 |some r=>
  have h1:=List.find?_some q
  have h2:=List.mem_of_find?_eq_some q
  have h1:r.1=p.1:=by simpa using h1
  have:r=p:=lH (f:=(·.1)) hn r h2 p hp h1
  rw[this]
def NrS.mem{T:Nat->Prop}{E:Nat->Nat->Prop}{l:NT}(h:NrS T E l){n m:Nat}(hn:T n):m∈wG l n↔E n m:=by
 obtain⟨p,hp,rfl⟩:=Pd.mp ((h.key n).mpr hn)
 rw[yj h.nd hp]
 exact(h.nb p hp).2 m
def BF(l:NT):ra (l.map dD)=(Mv (l.map (·.1)) (l.map fun p=>inD (p.2.map kN))).d:=by
 unfold ra
 rw[xX]
 exact congrArg (D.dci _) (PH ..)
def A1(ks:List Nat):gF (inD (ks.map kN))=ab (ks.map nI):=by
 show (if (ks.map kN).all uR then ab ((ks.map kN).map A0) else af)=_
 rw[if_pos (Pl.mpr fun k hk=>by obtain⟨n,_,rfl⟩:=Pd.mp hk;rfl),PH]
 rfl
def NrS.near{T:Nat->Prop}{E:Nat->Nat->Prop}{l:NT}(h:NrS T E l):lh nI (l.map (·.1)) (wG l) (ra (l.map dD)):=fun n hn=>by
 rw[BF]
 obtain⟨d,h1,h2⟩:=F9.ix (ds:=l.map fun p=>inD (p.2.map kN)) (by simp) hn
 refine⟨d,h2,?_⟩
 rw[List.zip_map'] at h1
 obtain⟨p,hp,e⟩:=Pd.mp h1
 cases e
 rw[yj h.nd hp]
 exact A1 p.2
def qV(S:List Cell)(nb:Cell->List Cell):D:=nT S fun y=>cL (nb y)
end K1
namespace K1
open PySem PySem.Spec L2 L3
open PyProof.Rows hiding St
section
variable{nb:Cell->List Cell}
def n0{a b c:Cell}{i:Nat}(h:Rb nb a i b):∀{j:Nat},Rb nb b j c->Rb nb a (i+j) c
 |0,q=>(show c=b from q)▸h
 |j+1,q=>q.elim (fun q=> .inl (n0 h q)) fun⟨y,q1,q2⟩=> .inr ⟨y,n0 h q1,q2⟩
end
def p0(R W w:Nat)(S:List Cell)(y:Cell):List Cell:=(fY R W w y).filter fun x=>decide (x∈S)
def yg{R W w:Nat}(hw:Ways w){S:List Cell}{x y:Cell}:x∈p0 R W w S y↔On R W x/\jC w y x=true/\x∈S:=by
 unfold p0
 rw[Qd,fq hw,decide_eq_true_eq,and_assoc]
def CnS(R W w:Nat)(S:List Cell)(a b:Cell):Prop:=∃j,Rb (p0 R W w S) a j b
section
open Classical
variable{bd:List Str}{W w:Nat}{S:List Cell}{R:Nat}
def CnS.trans{a b c:Cell}(h:CnS R W w S a b)(h2:CnS R W w S b c):CnS R W w S a c:=let ⟨i,p⟩:=h;let ⟨j,q⟩:=h2;⟨i+j,n0 p q⟩
def foldl_addK:∀(l t:List Cell),(t++l).Nodup->l.foldl bO t=t++l
 |[],t,_=>by simp
 |x::l,t,h=>by
  have hx:x∉t:=fun q=>(P4.mp h).2.2 x q x (OV ..) rfl
  rw[R6,show bO t x=t++[x] from if_neg hx,foldl_addK l (t++[x]) (by rw[Q9];exact h),Q9]
  rfl
def Oq:DS:=(cb [5] (eU 4 (dV 5) (bB 0 (de (aq 3 a8 (aC (dV 0) (aC (dV 5) (aC (dV 2) aN))))) (bH (d2 (eO false) (dV 0) (dV 4))) (dV 0))))
def A_(hg:Brd bd W)(hw:Ways w)(hn:S.Nodup)(g7:∀y∈S,On bd.length W y):eV [brd bd,cL S, .int (w:Int)]=ab (qV S (p0 bd.length W w S)):=by
 have hm:bd.length*W<=64:=QR hg.r8 hg.w8
 have lB:S.length<=64:=by
  have:=c6 hn fun x hx=>aJ.mpr (g7 x hx)
  rw[cC] at this
  omega
 obtain⟨_,e⟩:=jt (put:=putN 5) (body:=Oq) cD (fun t:List Cell=>[fz (brd bd),fz (cL S),fz (.int (w:Int)),fz (iJ S),some (.ow (Aq t fun y=>cL (p0 bd.length W w S y))),none]) bO (fun t=>t.Nodup/\∀y∈t,y∈S) S [] ⟨QN,fun _ h=>by cases h⟩ fun t ⟨h1,h2⟩ x hx=>by
  have hl:=c6 h1 h2
  refine⟨⟨(kx [x] t).1 h1,fun y hy=>(gp.mp hy).elim (h2 y) fun q=>q▸hx⟩,_,rfl,?_⟩
  refine(bq (Z':=[fz (brd bd),fz (cL S),fz (.int (w:Int)),fz (iJ S),some (.ow (Aq (bO t x) fun y=>cL (p0 bd.length W w S y))),fz (cD x)]) ?_).trans rfl
  refine(yB (x:=x) (d:=cL (p0 bd.length W w S x)) rfl (cj (ds:=(fY bd.length W w x).map cD) (wA ((aj (ds:=[brd bd,cD x, .int (w:Int)]) rfl rfl).trans (fJ hg hw (g7 x hx)))) (jo cD _ _ fun y hy=>?_) ?_) rfl (by rw[cU];omega)).trans ?_
  ·rw[v7,cZ (b:=decide (y∈S)) ((aB (x:=cD y) (y:=iJ S) rfl rfl).trans ((ju (neg:=false) (by simp[trues])).trans (by rw[if_neg (by decide)];congr 2;rw[decide_eq_decide];exact jx))),au]
   cases decide (y∈S)<;>rfl
  ·rw[OW,cU]
   exact PM (QF ..) (PM (lF ..) (by decide))
  ·have:fj (fun y=>cL (p0 bd.length W w S y)) x (cL (p0 bd.length W w S x))=fun y=>cL (p0 bd.length W w S y):=by
    funext y
    unfold fj
    split
    ·rename_i q
     rw[q]
    ·rfl
   rw[this]
   rfl
 rw[foldl_addK S [] (by simpa using hn),P2] at e
 exact aV (ai (Z':=[fz (brd bd),fz (cL S),fz (.int (w:Int)),fz (iJ S),none,none]) ((aF ((aj (ds:=[cL S]) rfl rfl).trans (qM (by omega)))).trans rfl) (ai (Z':=[fz (brd bd),fz (cL S),fz (.int (w:Int)),fz (iJ S),some (.ow (Aq [] fun y=>cL (p0 bd.length W w S y))),none]) rfl (ai (cX (eS rfl e)) rfl)))
end
end K1
namespace K1
open PySem L2 L3
section
variable{α:Type}{E E':α->α->Prop}{a b x:α}
def Rr(E:α->α->Prop)(a:α):Nat->α->Prop
 |0,x=>x=a
 |k+1,x=>Rr E a k x\/∃y,Rr E a k y/\E y x
def Dr(E:α->α->Prop)(a x:α)(n:Nat):Prop:=Rr E a n x/\∀j,Rr E a j x->n<=j
def Rr.mono{i j:Nat}(h:i<=j)(r:Rr E a i x):Rr E a j x:=by
 induction h with
 |refl=>exact r
 |step _ ih=>exact .inl ih
def Rr.sub(h:∀y x,E y x->E' y x):∀{j:Nat}{x:α},Rr E a j x->Rr E' a j x
 |0,_,r=>r
 |_+1,_, .inl r=> .inl (Rr.sub h r)
 |_+1,_, .inr ⟨y,r,e⟩=> .inr ⟨y,Rr.sub h r,h _ _ e⟩
def Rr.trans{i:Nat}(h:Rr E a i b):∀{j:Nat}{x:α},Rr E b j x->Rr E a (i+j) x
 |0,_,r=>by cases r;exact h
 |_+1,_, .inl r=> .inl (Rr.trans h r)
 |_+1,_, .inr ⟨y,r,e⟩=> .inr ⟨y,Rr.trans h r,e⟩
def Rr.symm(hs:∀x y,E x y->E y x):∀{j:Nat}{x:α},Rr E a j x->Rr E x j a
 |0,_,r=>Eq.symm r
 |_+1,_, .inl r=> .inl (Rr.symm hs r)
 |j+1,x, .inr ⟨y,r,e⟩=>by
  have h1:Rr E x 1 y:= .inr ⟨x,rfl,hs _ _ e⟩
  have:=h1.trans (Rr.symm hs r)
  rw[Nat.add_comm] at this
  exact this
def Dr.one{n m:Nat}(h:Dr E a x n)(h2:Dr E a x m):n=m:=Q1 (h.2 _ h2.1) (h2.2 _ h.1)
def Dr.symm(hs:∀x y,E x y->E y x){n:Nat}(h:Dr E a x n):Dr E x a n:=⟨h.1.symm hs,fun j r=>h.2 j (r.symm hs)⟩
def Dr.zero{n:Nat}(h:Dr E a x n):n=0↔x=a:=
 ⟨fun e=>by have:=h.1;rw[e] at this;exact this,fun e=>Nat.le_zero.mp (h.2 0 e)⟩
def Dr.of{n j:Nat}(h:Dr E a x n)(r:Rr E a j x):n<=j:=h.2 j r
def gQ{nb:α->List α}{P:α->Prop}(ha:P a)(hP:∀y,P y->∀x,x∈nb y->P x)(h:∀y,P y->∀x,x∈nb y↔E y x):∀{j:Nat}{x:α},(Rb nb a j x↔Rr E a j x)/\(Rb nb a j x->P x)
 |0,x=>⟨RW,fun r=>by cases (show x=a from r);exact ha⟩
 |j+1,x=>by
  refine⟨⟨fun r=>?_,fun r=>?_⟩,fun r=>?_⟩
  ·rcases r with r | ⟨y,r,q⟩
   ·exact .inl ((gQ ha hP h).1.mp r)
   ·exact .inr ⟨y,(gQ ha hP h).1.mp r,(h y ((gQ ha hP h).2 r) x).mp q⟩
  ·rcases r with r | ⟨y,r,q⟩
   ·exact .inl ((gQ ha hP h).1.mpr r)
   ·have r':=(gQ (nb:=nb) ha hP h).1.mpr r
    exact .inr ⟨y,r',(h y ((gQ ha hP h).2 r') x).mpr q⟩
  ·rcases r with r | ⟨y,r,q⟩
   ·exact(gQ ha hP h).2 r
   ·exact hP y ((gQ ha hP h).2 r) x q
def Er[DecidableEq α]{nb:α->List α}{P:α->Prop}(ha:P a)(hP:∀y,P y->∀x,x∈nb y->P x)(h:∀y,P y->∀x,x∈nb y↔E y x){n:Nat}:Ds nb a x n↔Dr E a x n:=
 and_congr (gQ ha hP h).1 (forall_congr' fun j=>imp_congr (gQ ha hP h).1 RW)
end
def gd(w:Nat)(a b:Cell):Nat:=if w=4 then bw a.1 b.1+bw a.2 b.2 else max (bw a.1 b.1) (bw a.2 b.2)
def Nx(R W w:Nat)(y x:Cell):Prop:=On R W y/\On R W x/\jC w y x=true
def Nx.symm{R W w:Nat}(x y:Cell)(h:Nx R W w x y):Nx R W w y x:=⟨h.2.1,h.1,by rw[kK];exact h.2.2⟩
def qD{R W w:Nat}(hw:Ways w){a:Cell}:∀{j:Nat}{x:Cell},Rr (Nx R W w) a j x->gd w a x<=j
 |0,x,r=>by
  cases (show x=a from r)
  rcases hw with rfl | rfl<;>simp[gd,bw]
 |j+1,x, .inl r=>Nat.le_succ_of_le (qD hw r)
 |j+1,x, .inr ⟨y,r,e⟩=>by
  have h:=qD hw r
  have e:=e.2.2
  rcases hw with rfl | rfl
  ·have e:bw y.1 x.1+bw y.2 x.2=1:=of_decide_eq_true e
   show bw a.1 x.1+bw a.2 x.2<=j+1
   have h:bw a.1 y.1+bw a.2 y.2<=j:=h
   simp only[bw] at*
   omega
  ·have e:max (bw y.1 x.1) (bw y.2 x.2)=1:=of_decide_eq_true e
   show max (bw a.1 x.1) (bw a.2 x.2)<=j+1
   have h:max (bw a.1 y.1) (bw a.2 y.2)<=j:=h
   simp only[bw] at*
   omega
def toward(a b:Nat):Nat:=if b<a then b+1 else if a<b then b - 1 else b
def CQ{R W w:Nat}(hw:Ways w){a b:Cell}(ha:On R W a)(hb:On R W b){n:Nat}(h:gd w a b=n+1):∃c,Nx R W w c b/\gd w a c=n:=by
 obtain⟨a1,a2⟩:=a
 obtain⟨b1,b2⟩:=b
 obtain⟨h1,h2⟩:=ha
 obtain⟨h3,h4⟩:=hb
 have h1:a1<R:=h1
 have h2:a2<W:=h2
 have h3:b1<R:=h3
 have h4:b2<W:=h4
 rcases hw with rfl | rfl
 ·have h:bw a1 b1+bw a2 b2=n+1:=h
  by_cases e:a1=b1
  ·refine⟨(b1,toward a2 b2),⟨⟨h3,?_⟩,⟨h3,h4⟩,?_⟩,?_⟩
   ·show toward a2 b2<W
    simp only[toward,bw] at*
    (repeat' split)<;>omega
   ·show decide (bw b1 b1+bw (toward a2 b2) b2=1)=true
    rw[decide_eq_true_eq]
    simp only[toward,bw] at*
    (repeat' split)<;>omega
   ·show bw a1 b1+bw a2 (toward a2 b2)=n
    simp only[toward,bw] at*
    (repeat' split)<;>omega
  ·refine⟨(toward a1 b1,b2),⟨⟨?_,h4⟩,⟨h3,h4⟩,?_⟩,?_⟩
   ·show toward a1 b1<R
    simp only[toward,bw] at*
    (repeat' split)<;>omega
   ·show decide (bw (toward a1 b1) b1+bw b2 b2=1)=true
    rw[decide_eq_true_eq]
    simp only[toward,bw] at*
    (repeat' split)<;>omega
   ·show bw a1 (toward a1 b1)+bw a2 b2=n
    simp only[toward,bw] at*
    (repeat' split)<;>omega
 ·have h:max (bw a1 b1) (bw a2 b2)=n+1:=h
  refine⟨(toward a1 b1,toward a2 b2),⟨⟨?_,?_⟩,⟨h3,h4⟩,?_⟩,?_⟩
  ·show toward a1 b1<R
   simp only[toward,bw] at*
   (repeat' split)<;>omega
  ·show toward a2 b2<W
   simp only[toward,bw] at*
   (repeat' split)<;>omega
  ·show decide (max (bw (toward a1 b1) b1) (bw (toward a2 b2) b2)=1)=true
   rw[decide_eq_true_eq]
   simp only[toward,bw] at*
   (repeat' split)<;>omega
  ·show max (bw a1 (toward a1 b1)) (bw a2 (toward a2 b2))=n
   simp only[toward,bw] at*
   (repeat' split)<;>omega
def CS{w:Nat}(hw:Ways w){a b:Cell}(h:gd w a b=0):b=a:=by
 obtain⟨a1,a2⟩:=a
 obtain⟨b1,b2⟩:=b
 rcases hw with rfl | rfl
 ·have h:bw a1 b1+bw a2 b2=0:=h
  simp only[bw] at h
  exact Tj (show b1=a1 by omega) (show b2=a2 by omega)
 ·have h:max (bw a1 b1) (bw a2 b2)=0:=h
  simp only[bw] at h
  exact Tj (show b1=a1 by omega) (show b2=a2 by omega)
def Ex{R W w:Nat}(hw:Ways w){a:Cell}(ha:On R W a):∀(n:Nat) {b:Cell},On R W b->gd w a b=n->Rr (Nx R W w) a n b
 |0,b,_,h=>CS hw h
 |n+1,b,hb,h=>by
  obtain⟨c,e,h2⟩:=CQ hw ha hb h
  exact .inr ⟨c,Ex hw ha n e.1 h2,e⟩
def AG{R W w:Nat}(hw:Ways w){a b:Cell}(ha:On R W a)(hb:On R W b):Dr (Nx R W w) a b (gd w a b):=⟨Ex hw ha _ hb rfl,fun j r=>qD hw r⟩
section
variable{bd:List Str}{W w v:Nat}{f g:Cell->Nat}
def NumF(bd:List Str)(W w:Nat)(f:Cell->Nat):Prop:=∀x,On bd.length W x->∃P,(bb bd W w)[f x]? =some P/\x∈P
def NumF.eq(hw:Ways w)(hf:NumF bd W w f)(hg:NumF bd W w g){x:Cell}(hx:On bd.length W x):f x=g x:=by
 obtain⟨P,h1,h2⟩:=hf x hx
 obtain⟨Q,h3,h4⟩:=hg x hx
 exact r_ hw h1 h3 h2 h4
def NumF.lt(hf:NumF bd W w f){x:Cell}(hx:On bd.length W x):f x<(bb bd W w).length:=by
 obtain⟨P,h1,_⟩:=hf x hx
 exact(OZ.mp h1).1
def NumF.cn(hw:Ways w)(hf:NumF bd W w f){x y:Cell}(hx:On bd.length W x)(hy:On bd.length W y):f x=f y↔Cn bd W w x y:=by
 obtain⟨P,h1,h2⟩:=hf x hx
 obtain⟨Q,h3,h4⟩:=hf y hy
 obtain⟨m,e1,rfl⟩:=gM h1
 obtain⟨n,e2,rfl⟩:=gM h3
 have om:=c5 (oG e1)
 have on:=c5 (oG e2)
 constructor
 ·intro e
  rw[e,h3] at h1
  have h1:aY bd W w n=aY bd W w m:=Pg h1
  rw[h1] at h4
  exact((((bU hw om).mem x).mp h2).symm hw om).trans (((bU hw om).mem y).mp h4)
 ·intro e
  have:y∈aY bd W w m:=((bU hw om).mem y).mpr ((((bU hw om).mem x).mp h2).trans e)
  exact r_ hw h1 h3 this h4
def Ad(R W v:Nat)(f:Cell->Nat)(n m:Nat):Prop:=n≠m/\∃x y,Nx R W v x y/\f x=n/\f y=m
def Ad.symm{R W v:Nat}{f:Cell->Nat}(n m:Nat)(h:Ad R W v f n m):Ad R W v f m n:=let ⟨h1,x,y,h2,h3,h4⟩:=h;⟨fun e=>h1 e.symm,y,x,h2.symm,h4,h3⟩
def s9{R W v:Nat}{f:Cell->Nat}{a:Cell}:∀{j:Nat}{x:Cell},Rr (Nx R W v) a j x->Rr (Ad R W v f) (f a) j (f x)
 |0,x,r=>by cases (show x=a from r);rfl
 |j+1,x, .inl r=> .inl (s9 r)
 |j+1,x, .inr ⟨y,r,e⟩=>by
  by_cases q:f y=f x
  ·rw[<-q];exact .inl (s9 r)
  ·exact .inr ⟨f y,s9 r,q,y,x,e,rfl,rfl⟩
def Kj{R W v:Nat}{f:Cell->Nat}(hv:Ways v)(n m:Nat)(h:Ad R W 4 f n m):Ad R W v f n m:=by
 obtain⟨h1,x,y,⟨h2,h3,h4⟩,h5⟩:=h
 refine⟨h1,x,y,⟨h2,h3,?_⟩,h5⟩
 rcases hv with rfl | rfl
 ·exact h4
 ·exact I8 h4
end
end K1
namespace K1
open PySem L2 L3 HT
def ya(c:Nat):C7 ⟨#[c]⟩=decide (c∈[97,98,99,100,101,102]):=StrLaws.found_one "abcdef" c
abbrev Kh:List Nat:=[97,98,99,100,101,102]
def yH{W:Nat}{r:Str}(h:Row W r){c:Nat}(hc:c∈r.cps.toList):c∈[97,98,99,100,101,102]:=by
 have:=h.let' c hc
 rw[ya] at this
 exact of_decide_eq_true this
end K1
namespace K1
open PySem L2 L3
section
variable{bd:List Str}{W w v:Nat}{f:Cell->Nat}
def mv(hg:Brd bd W)(hs:bd.length*W<64)(hw:Ways w):∃ks f,NumF bd W w f/\(∀x,On bd.length W x->x∈ks)/\bG [.lst ((bb bd W w).map cL)]=ab (nT ks fun y=>nI (f y)):=by
 obtain⟨ks,f,a1,a2,a3⟩:=iO (R:=bd.length) (W:=W) (by omega) (q9 (bd:=bd) hw)
 have z3:∀x,On bd.length W x->x∈ks:=fun x hx=>by
  obtain⟨P,hP,h⟩:=o5 hg hw hx
  exact a2 P hP x h
 exact⟨ks,f,fun x hx=>a1.num x (z3 x hx),z3,a3⟩
def gJ(hg:Brd bd W)(hs:bd.length*W<64)(hw:Ways w)(hv:Ways v)(hf:NumF bd W w f):
 ∃l,NrS (fun n=>∃x,On bd.length W x/\f x=n) (Ad bd.length W v f) l/\ck [brd bd, .int (v:Int), .lst ((bb bd W w).map cL)]=ab (ra (l.map dD)):=by
 obtain⟨ks,g,Ie,z3,e0⟩:=mv hg hs hw
 have Mb:∀x,On bd.length W x->f x % 64=g x:=fun x hx=>by
  have:=hf.lt hx
  have:=wB (bd:=bd) (W:=W) (w:=w)
  rw[Nat.mod_eq_of_lt (by omega)]
  exact hf.eq hw Ie hx
 have Ho:∀x,On bd.length W x->f x % 64=f x:=fun x hx=>(Mb x hx).trans (Ie.eq hw hf hx)
 have ev:∀{Z:aP}{i:Nat}{x:Cell},Z[3]? =some (fz (nT ks fun y=>nI (g y)))->Z[i]? =some (fz (cD x))->On bd.length W x->d2 cB (dV 3) (dV i) Z=ab (nI (f x % 64)):=fun h3 hi hx=>by
  rw[Mb _ hx]
  exact(aB (bt h3) (bt hi)).trans (ot (f:=fun y=>nI (g y)) (z3 _ hx))
 obtain⟨l,k1,k2⟩:=Bh (ci:=5) (oi:=7) (δk:=d2 cB (dV 3) (dV 5)) (δj:=de (aq 3 a8 (aC (dV 0) (aC (dV 5) (aC (dV 1) aN))))) (tc:=bH (d2 kh (d2 cB (dV 3) (dV 7)) (d2 cB (dV 3) (dV 5)))) (δk2:=d2 cB (dV 3) (dV 7))
  (Z:=[fz (brd bd),fz (.int (v:Int)),fz (.lst ((bb bd W w).map cL)),fz (nT ks fun y=>nI (g y)),none,none,none,none]) (f:=fun x=>f x % 64) (nx:=fY bd.length W v) (fun y=>Tn _ (by decide)) (aQ bd.length W) (T:=fun _=>False) (E:=fun _ _=>False) (l:=[])
  ⟨QN,fun n=>by simp,fun p hp=>(nomatch hp),fun n h=>h.elim,fun n m h=>h.elim⟩ (fun _ _ h=>h.elim) fun x hx=>by
   have hx:=aJ.mp hx
   refine⟨ev rfl rfl hx,?_,fun y hy=>?_⟩
   ·exact wA ((aj (ds:=[brd bd,cD x, .int (v:Int)]) rfl rfl).trans (fJ hg hv hx))
   ·have hy:=((fq hv).mp hy).1
    refine⟨cZ ((aB (ev rfl rfl hy) (ev rfl rfl hx)).trans ((EJ _ _).trans ?_)),ev rfl rfl hy⟩
    by_cases e:f y % 64=f x % 64
    ·rw[e];simp
    ·rw[decide_eq_false e,beq_eq_false_iff_ne.mpr e]
 refine⟨l,k2.cong (fun n=>?_) (fun n m=>?_),aV (ai (Z':=[fz (brd bd),fz (.int (v:Int)),fz (.lst ((bb bd W w).map cL)),fz (nT ks fun y=>nI (g y)),none,none,none,none]) ((aF ((aj (ds:=[.lst ((bb bd W w).map cL)]) rfl rfl).trans e0)).trans rfl) (ai (Z':=[fz (brd bd),fz (.int (v:Int)),fz (.lst ((bb bd W w).map cL)),fz (nT ks fun y=>nI (g y)),some (.ow (.dci [] [])),none,none,none]) rfl (ai (Z':=[fz (brd bd),fz (.int (v:Int)),fz (.lst ((bb bd W w).map cL)),fz (nT ks fun y=>nI (g y)),fz (ra (l.map dD)),none,none,none]) (cX ?_) rfl)))⟩
 ·constructor
  ·rintro(z | ⟨x,hx,e⟩)
   ·exact z.elim
   ·have hx:=aJ.mp hx
    exact⟨x,hx,(Ho x hx).symm.trans e⟩
  ·rintro⟨x,hx,e⟩
   exact .inr ⟨x,aJ.mpr hx,(Ho x hx).trans e⟩
 ·constructor
  ·rintro(z | ⟨gX,x,hx,e,y,hy,e2⟩)
   ·exact z.elim
   ·have hx:=aJ.mp hx
    have hy:=(fq hv).mp hy
    exact⟨gX,x,y,⟨hx,hy.1,hy.2⟩,(Ho x hx).symm.trans e,(Ho y hy.1).symm.trans e2⟩
  ·rintro⟨gX,x,y,⟨hx,hy,q⟩,e,e2⟩
   exact .inr ⟨gX,x,aJ.mpr hx,(Ho x hx).trans e,y,(fq hv).mpr ⟨hy,q⟩,(Ho y hy).trans e2⟩
 ·exact zI rfl rfl rfl (wA ((aj (ds:=[brd bd]) rfl rfl).trans (gc hg))) k1 k2.ok
def uN(hv:Ways v){l:NT}(hl:NrS (fun n=>∃x,On bd.length W x/\f x=n) (Ad bd.length W v f) l){a b:Cell}(ha:On bd.length W a)(hb:On bd.length W b):
 ∃n,Dr (Ad bd.length W v f) (f a) (f b) n/\∃d,br [ra (l.map dD),nI (f a)]=ab d/\cB d (nI (f b))=ab (nI n):=by
 have hP:∀y,(∃x,On bd.length W x/\f x=y)->∀x,x∈wG l y->∃z,On bd.length W z/\f z=x:=fun y hy x hx=>by
  obtain⟨_,p,q,h1,_,h2⟩:=(hl.mem hy).mp hx
  exact⟨q,h1.2.1,h2⟩
 have hE:∀y,(∃x,On bd.length W x/\f x=y)->∀x,x∈wG l y↔Ad bd.length W v f y x:=fun y hy x=>hl.mem hy
 have lB:(l.map (·.1)).length<=64:=le64 hl.nd fun n hn=>hl.hT n ((hl.key n).mp hn)
 obtain⟨ks,vs,h1,h2,h3⟩:=nV (nb:=wG l) F9 lB (fun y hy x hx=>(hl.key x).mpr (hP y ((hl.key y).mp hy) x hx)) hl.near ((hl.key (f a)).mpr ⟨a,ha,rfl⟩)
 have hr:=s9 (f:=f) (AG hv ha hb).1
 have vR:f b∈ks:=(h1 _).mpr ⟨_,(gQ ⟨a,ha,rfl⟩ hP hE).1.mpr hr⟩
 obtain⟨d,e1,e2⟩:=F9.ix (ds:=vs.map nI) (by rw[OW];exact h2.1) vR
 obtain⟨n,rfl,e3⟩:=tJ e1
 exact⟨n,(Er ⟨a,ha,rfl⟩ hP hE).mp (h2.2 _ _ e3),_,h3,e2⟩
def fT(hg:Brd bd W)(hs:bd.length*W<64)(hw:Ways w)(hf:NumF bd W w f){a b:Cell}(ha:On bd.length W a)(hb:On bd.length W b):
 ∃n,Dr (Ad bd.length W w f) (f a) (f b) n/\aH [brd bd, .int (w:Int),cD a,cD b]=ab (nI n):=by
 obtain⟨l,hl,e1⟩:=gJ (v:=w) hg hs hw hw hf
 obtain⟨n,hn,d,e2,e3⟩:=uN hw hl ha hb
 obtain⟨ks,g,Ie,z3,e0⟩:=mv hg hs hw
 have ga:g a=f a:=Ie.eq hw hf ha
 have gb:g b=f b:=Ie.eq hw hf hb
 refine⟨n,hn,aV (ai (bA ((aj (ds:=[brd bd, .int (w:Int),cD a,cD b]) rfl rfl).trans (lW hg hw ha hb))) (ai (Z':=[fz (brd bd),fz (.int (w:Int)),fz (cD a),fz (cD b),fz (.lst ((bb bd W w).map cL)),none]) ((aF ((aj (ds:=[brd bd, .int (w:Int)]) rfl rfl).trans ((eM hg hs hw).trans (by rw[j5])))).trans rfl) (ai (Z':=[fz (brd bd),fz (.int (w:Int)),fz (cD a),fz (cD b),fz (.lst ((bb bd W w).map cL)),fz (nT ks fun y=>nI (g y))]) ((aF ((aj (ds:=[.lst ((bb bd W w).map cL)]) rfl rfl).trans e0)).trans rfl) (aL ((aB (x:=d) (y:=nI (f b)) ((aj (ds:=[ra (l.map dD),nI (f a)]) (aI ((aj (ds:=[brd bd, .int (w:Int), .lst ((bb bd W w).map cL)]) rfl rfl).trans e1) (aI (((aB (x:=nT ks fun y=>nI (g y)) (y:=cD a) rfl rfl).trans (ot (f:=fun y=>nI (g y)) (z3 a ha))).trans (by rw[ga])) rfl)) rfl).trans e2) (((aB (x:=nT ks fun y=>nI (g y)) (y:=cD b) rfl rfl).trans (ot (f:=fun y=>nI (g y)) (z3 b hb))).trans (by rw[gb]))).trans e3)))))⟩
def mW{n i:Nat}(h:i<n):cK [nI n,nI i]=ab .non:=by
 refine kX (Z:=[fz (nI n),fz (nI i)]) (eI (xO (p:=false) (q:=false) (lx (b:=true) (ly ((aj (ds:=[nI i]) rfl rfl).trans ((lX (d:=nI i) trivial).trans rfl)))) (lx (b:=true) (cZ ?_))) rfl)
 show (if decide ((0:Int)<=(i:Int))=true then ab (D.bl (decide ((i:Int)<(n:Int)))) else ab (D.bl false))=_
 rw[if_pos (by rw[decide_eq_true_eq];omega),decide_eq_true (by omega)]
def Dk(hw:Ways w)(hf:NumF bd W w f){E:Nat->Nat->Prop}{l:NT}(hl:NrS (fun n=>∃x,On bd.length W x/\f x=n) E l):(bb bd W w).length<=l.length:=by
 have:=c6 (l:=Px (bb bd W w).length) (U:=l.map (·.1)) List.nodup_range fun i hi=>by
  have hi:=QO.mp hi
  obtain⟨m,e1,e2⟩:=gM (OY hi)
  have hm:=oG e1
  have ho:=c5 hm
  obtain⟨r,hr⟩:=wY hw hm
  obtain⟨P,h1,h2⟩:=hf m ho
  have h3:(bb bd W w)[i]? =some (m::r):=by rw[OY hi,e2,hr]
  exact(hl.key i).mpr ⟨m,ho,r_ hw h1 h3 h2 OV⟩
 simpa using this
def t7(hg:Brd bd W)(hs:bd.length*W<64)(hw:Ways w)(hf:NumF bd W w f){a b:Cell}(ha:On bd.length W a)(hb:On bd.length W b):
 ∃n,Dr (Ad bd.length W 4 f) (f a) (f b) n/\fo [brd bd, .int (w:Int),nI (f a),nI (f b)]=ab (nI n):=by
 obtain⟨l,hl,e1⟩:=gJ (v:=4) hg hs hw (.inl rfl) hf
 obtain⟨n,hn,d,e2,e3⟩:=uN (.inl rfl) hl ha hb
 have hlen:=Dk hw hf hl
 have la:=hf.lt ha
 have lb:=hf.lt hb
 have em:ku [brd bd, .int (w:Int)]=ab (ra (l.map dD)):=aV (ai (bA ((aj (ds:=[brd bd]) rfl rfl).trans hg.nb)) (ai (bA ((aj (ds:=[.int (w:Int)]) rfl rfl).trans hw.nw)) (aL ((aj (ds:=[brd bd, .int 4, .lst ((bb bd W w).map cL)]) (aI rfl (aI rfl (aI ((aj (ds:=[brd bd, .int (w:Int)]) rfl rfl).trans ((eM hg hs hw).trans (by rw[j5]))) rfl))) rfl).trans e1))))
 have el:qP [ra (l.map dD)]=ab (nI l.length):=by
  rw[BF]
  show ab (D.int (((l.map (·.1)).map kN).length:Int))=_
  rw[OW,OW]
  rfl
 have nn:∀{i:Nat}{Z:aP}{k:Nat},Z[4]? =some (fz (ra (l.map dD)))->Z[k]? =some (fz (nI i))->i<(bb bd W w).length->fM (aq 2 cK (aC (dA qP (aC (dV 4) aN)) (aC (dV k) aN))) Z=ab (.nx Z):=fun h4 hk hi=>
  bA ((aj (ds:=[nI l.length,nI _]) (aI ((cS (xs:=[ra (l.map dD)]) (aI (bt h4) rfl)).trans el) (aI (bt hk) rfl)) rfl).trans (mW (by omega)))
 exact⟨n,hn,aV (ai (Z':=[fz (brd bd),fz (.int (w:Int)),fz (nI (f a)),fz (nI (f b)),fz (ra (l.map dD))]) ((aF ((aj (ds:=[brd bd, .int (w:Int)]) rfl rfl).trans em)).trans rfl) (ai (nn rfl rfl la) (ai (nn rfl rfl lb) (aL ((aB (x:=d) (y:=nI (f b)) ((aj (ds:=[ra (l.map dD),nI (f a)]) rfl rfl).trans e2) rfl).trans e3)))))⟩
def ES(W w:Nat)(S:List Cell)(y x:Cell):Prop:=y∈S/\x∈S/\jC w y x=true
def lets(bd:List Str)(W:Nat)(ls:List Nat):List Cell:=(aQ bd.length W).filter fun x=>decide (lt bd x∈ls)
def cp{ls:List Nat}{x:Cell}:x∈lets bd W ls↔On bd.length W x/\lt bd x∈ls:=by
 unfold lets
 rw[Qd,aJ,decide_eq_true_eq]
def uE{cs:List Nat}(h:∀c∈cs,c∈Kh)(hl:cs.length<=4096):dE [.lst (cs.map sg)]=ab .non:=by
 refine kX (eI (xO (p:=false) (q:=false) (lx (b:=true) (ly rfl)) (lx (b:=true) (ly ((z9 (enc:=sg) (xs:=cs) (g:=fun _=>true) (Ms rfl) (fun c hc=>?_) hl).trans ?_)))) rfl)
 ·refine(aj (ds:=[sg c]) rfl rfl).trans ((jG (d:=sg c) trivial).trans ?_)
  show ab (D.bl (true&&C7 ⟨#[c]⟩))=_
  rw[(ya c).trans (decide_eq_true (h c hc))]
  rfl
 ·rw[Pl.mpr fun _ _=>rfl]
def Fq(a b:Nat):mT 6 (sg a) (sg b)=some (decide (a=b)):=by
 show some ((⟨#[a]⟩:Str)==⟨#[b]⟩)=_
 have:=Et a b
 have h2:=CI 6 ⟨#[a]⟩ ⟨#[b]⟩
 have:decide ((⟨#[a]⟩:Str)=⟨#[b]⟩)=decide (a=b):=by
  rw[decide_eq_decide]
  exact⟨fun h=>by have h:=congrArg (fun x:Str=>x.cps.toList) h;simpa using h,fun h=>by rw[h]⟩
 rw[<-this]
 exact h2
def tX(c:Nat):∀l:List Nat,anyF (sg c) (l.map sg)=some (decide (c∈l))
 |[]=>by simp[anyF]
 |a::l=>by
  show (match mT 6 (sg a) (sg c),anyF (sg c) (l.map sg) with | some p,some q=>some (p||q) | _,_=>none)=_
  rw[tX c l,Fq]
  refine congrArg some (show (decide (a=c)||decide (c∈l))=_ from ?_)
  by_cases e:c=a
  ·rw[decide_eq_true e.symm,Bool.true_or,e,decide_eq_true OV]
  ·rw[decide_eq_false (fun z=>e z.symm),Bool.false_or,decide_eq_decide]
   exact⟨OU _,fun h=>(O6.mp h).resolve_left e⟩
def rm{ls:List Nat}:(lets bd W ls).Nodup:=by
 unfold lets
 exact RiseC.nodup ((fS _ _).filter _)
def j3(hg:Brd bd W)(hs:bd.length*W<64)(hw:Ways w){ls:List Nat}(h:∀c∈ls,c∈Kh)(hl:ls.length<=4096){a b:Cell}(ha:On bd.length W a)(hb:On bd.length W b)(NH:lt bd a∈ls):
 (∃n,Dr (ES W w (lets bd W ls)) a b n/\aG [brd bd, .int (w:Int), .lst (ls.map sg),cD a,cD b]=ab (nI n))\/
 ((∀j,¬Rr (ES W w (lets bd W ls)) a j b)/\aG [brd bd, .int (w:Int), .lst (ls.map sg),cD a,cD b]=ab .non):=by
 have hS:a∈lets bd W ls:=cp.mpr ⟨ha,NH⟩
 have g7:∀y∈lets bd W ls,On bd.length W y:=fun y hy=>(cp.mp hy).1
 have e1:=A_ hg hw rm g7
 have hP:∀y,y∈lets bd W ls->∀x,x∈p0 bd.length W w (lets bd W ls) y->x∈lets bd W ls:=fun y _ x hx=>((yg hw).mp hx).2.2
 have hE:∀y,y∈lets bd W ls->∀x,x∈p0 bd.length W w (lets bd W ls) y↔ES W w (lets bd W ls) y x:=fun y hy x=>(yg hw).trans ⟨fun q=>⟨hy,q.2.2,q.2.1⟩,fun q=>⟨g7 x q.2.1,q.2.2,q.2.1⟩⟩
 have lB:(lets bd W ls).length<=64:=by
  have:=kj rm g7
  omega
 have hN:lh cD (lets bd W ls) (p0 bd.length W w (lets bd W ls)) (qV (lets bd W ls) (p0 bd.length W w (lets bd W ls))):=fun c hc=>⟨_,ot (f:=fun y=>cL (p0 bd.length W w (lets bd W ls) y)) hc,rfl⟩
 obtain⟨ks,vs,h1,h2,h3⟩:=nV (nb:=p0 bd.length W w (lets bd W ls)) EE lB (fun y hy x hx=>hP y hy x hx) hN hS
 obtain⟨g1,g2⟩:=EE.get (ks:=ks) (ds:=vs.map nI) (x:=b) (v:= .non) (by rw[OW];exact h2.1)
 have KC:eO true (cD a) (qV (lets bd W ls) (p0 bd.length W w (lets bd W ls)))=ab (.bl false):=(ju (neg:=true) (by simp)).trans (by rw[decide_eq_true hS];rfl)
 have go:∀{r:D},getM (C.dct (ks.map keyOf) (vs.map nI)).d (cD b) .non=ab r->aG [brd bd, .int (w:Int), .lst (ls.map sg),cD a,cD b]=ab r:=fun {r} hr=>by
  refine aV (ai (bA ((aj (ds:=[brd bd]) rfl rfl).trans hg.nb)) (ai (bA ((aj (ds:=[.int (w:Int)]) rfl rfl).trans hw.nw)) (ai (bA ((aj (ds:=[.lst (ls.map sg)]) rfl rfl).trans (uE h hl))) (ai (bA ((aj (ds:=[brd bd,cD a]) rfl rfl).trans (hg.nc ha))) (ai (bA ((aj (ds:=[brd bd,cD b]) rfl rfl).trans (hg.nc hb)))
   (ai (Z':=[fz (brd bd),fz (.int (w:Int)),fz (.lst (ls.map sg)),fz (cD a),fz (cD b),fz (qV (lets bd W ls) (p0 bd.length W w (lets bd W ls)))]) ((aF ((aj (ds:=[brd bd,cL (lets bd W ls), .int (w:Int)]) (aI rfl (aI ?_ (aI rfl rfl))) rfl).trans e1)).trans rfl)
   (ai (eI (cZ (b:=false) ((aB (x:=cD a) (y:=qV (lets bd W ls) (p0 bd.length W w (lets bd W ls))) rfl rfl).trans KC)) rfl) (aL ?_))))))))
  ·refine cj (ds:=(aQ bd.length W).map cD) ?_ (jo cD (fun x=>decide (lt bd x∈ls)) _ fun x hx=>?_) (by rw[OW,cU];exact PM lB (by decide))
   ·exact wA ((aj (ds:=[brd bd]) rfl rfl).trans (gc hg))
   ·have hi:wk false (sg (lt bd x)) (.lst (ls.map sg))=ab (.bl (decide (lt bd x∈ls))):=by
     show (match anyF (sg (lt bd x)) (ls.map sg) with | some r=>ab (D.bl (if false then !r else r)) | none=>af)=_
     rw[tX]
     rfl
    have ht:bH (d2 (wk false) (aq 2 bK (aC (dV 1) (aC (dV 0) aN))) (dV 3)) [fz (cD x),fz (brd bd),fz (.int (w:Int)),fz (.lst (ls.map sg)),fz (cD a),fz (cD b),none]=ab (decide (lt bd x∈ls)):=cZ ((aB (x:=sg (lt bd x)) (y:= .lst (ls.map sg)) ((aj (ds:=[brd bd,cD x]) rfl rfl).trans (ej hg (aJ.mp hx))) rfl).trans hi)
    rw[v7]
    show (bH (d2 (wk false) (aq 2 bK (aC (dV 1) (aC (dV 0) aN))) (dV 3)) [fz (cD x),fz (brd bd),fz (.int (w:Int)),fz (.lst (ls.map sg)),fz (cD a),fz (cD b),none]>>=_)=_
    rw[ht]
    cases decide (lt bd x∈ls)<;>rfl
  ·show (aq 2 br _ _>>=fun d=>if AV d then dV 4 _>>=fun k=>getM d k .non else af)=_
   rw[show aq 2 br (aC (dV 5) (aC (dV 3) aN)) _=br [qV (lets bd W ls) (p0 bd.length W w (lets bd W ls)),cD a] from aj rfl rfl,h3]
   exact hr
 by_cases vR:b∈ks
 ·obtain⟨d,e2,e3⟩:=g1 vR
  obtain⟨n,rfl,e4⟩:=tJ e2
  exact .inl ⟨n,(Er (P:=(· ∈lets bd W ls)) hS hP hE).mp (h2.2 _ _ e4),go e3⟩
 ·exact .inr ⟨fun j r=>vR ((h1 b).mpr ⟨j,(gQ (P:=(· ∈lets bd W ls)) hS hP hE).1.mpr r⟩),go (g2 vR)⟩
end
section
variable{bd:List Str}{W w:Nat}{f:Cell->Nat}{a b c t:Cell}
def xf(hw:Ways w)(ha:On bd.length W a):∀{j:Nat}{x:Cell},Rb (aS bd W w) a j x->∃q,IsWay bd W w a x q/\q.length<=j+1
 |0,x,r=>by
  cases (show x=a from r)
  exact⟨[a],IsWay.one ha,O9 _⟩
 |j+1,x, .inl r=>let ⟨q,h1,h2⟩:=xf hw ha r;⟨q,h1,Nat.le_succ_of_le h2⟩
 |j+1,x, .inr ⟨y,r,e⟩=>by
  obtain⟨q,h1,h2⟩:=xf hw ha r
  have hy:=yG hw ha r
  obtain⟨e1,e2,e3⟩:=(cW hw).mp e
  have h3:IsWay bd W w y x [y,x]:=⟨fun z hz=>by
   have hz:z=y\/z=x:=by simpa using hz
   rcases hz with rfl | rfl
   ·exact hy
   ·exact e1,rfl,rfl,fun z hz=>by
   have hz:z=y\/z=x:=by simpa using hz
   rcases hz with rfl | rfl
   ·rfl
   ·exact e3,by show (jC w y x&&true)=true;rw[e2];rfl⟩
  exact⟨_,h1.cat h3,by simp;omega⟩
def Hj(hw:Ways w)(ha:On bd.length W a)(hb:On bd.length W b){p:List Cell}(h:IsWay bd W w a b p)(hm:∀q,IsWay bd W w a b q->p.length<=q.length):Ds (aS bd W w) a b (p.length - 1):=
 ⟨ny hw hb (xx hw h),fun j r=>by
  obtain⟨q,h1,h2⟩:=xf hw ha r
  have:=hm q h1
  omega⟩
def wX(hw:Ways w)(ha:On bd.length W a){j:Nat}{x:Cell}:Rb (aS bd W w) a j x↔Rr (ES W w (lets bd W [lt bd a])) a j x:=
 (gQ (P:=fun y=>On bd.length W y/\lt bd y=lt bd a) ⟨ha,rfl⟩ (fun y hy x hx=>let ⟨h1,_,h3⟩:=(cW hw).mp hx;⟨h1,h3.trans hy.2⟩) fun y hy x=>(cW hw).trans
  ⟨fun ⟨h1,h2,h3⟩=>⟨cp.mpr ⟨hy.1,by rw[hy.2];exact Pp.mpr rfl⟩,cp.mpr ⟨h1,by rw[h3,hy.2];exact Pp.mpr rfl⟩,h2⟩,
   fun⟨_,h2,h3⟩=>let ⟨h4,h5⟩:=cp.mp h2;⟨h4,h3,(Pp.mp h5).trans hy.2.symm⟩⟩).1
def Gz(hw:Ways w)(ha:On bd.length W a){n:Nat}{x:Cell}:Ds (aS bd W w) a x n↔Dr (ES W w (lets bd W [lt bd a])) a x n:=
 and_congr (wX hw ha) (forall_congr' fun j=>imp_congr (wX hw ha) RW)
def Ay{ls:List Nat}(y x:Cell)(h:ES W w (lets bd W ls) y x):Nx bd.length W w y x:=⟨(cp.mp h.1).1,(cp.mp h.2.1).1,h.2.2⟩
def EH(hg:Brd bd W){x:Cell}(hx:On bd.length W x):∃r∈bd,lt bd x∈r.cps.toList:=by
 have hr:=getD_mem hx.1
 refine⟨_,hr,?_⟩
 have hl:(bd.getD x.1 ⟨#[]⟩).cps.toList.length=W:=by rw[Po];exact(hg.rows _ hr).len
 show (bd.getD x.1 ⟨#[]⟩).cps.toList.getD x.2 0∈_
 generalize bd.getD x.1 ⟨#[]⟩=q at*
 rw[Pu,OY (by rw[hl];exact hx.2)]
 exact QS _
def Gi(hg:Brd bd W){x:Cell}(hx:On bd.length W x):lt bd x∈Kh:=by
 obtain⟨r,h1,h2⟩:=EH hg hx
 exact yH (hg.rows r h1) h2
def iL(hg:Brd bd W)(hE:∀r∈bd,E7 r){x:Cell}(hx:On bd.length W x):lt bd x∈[97,98,99,102]:=by
 obtain⟨r,h1,h2⟩:=EH hg hx
 have h3:=yH (hg.rows r h1) h2
 have h4:=hE r h1 _ h2
 generalize lt bd x=n at*
 simp at h3⊢
 omega
def qw(ns:List Int)(hl:ns.length<=63)(hg:Brd bd W)(k:Nat):∃c,On bd.length W c/\bJ [.scr ns, .int (k:Int),brd bd]=ab (cD c):=by
 obtain⟨v,hv,e⟩:=fk ns hl k bd.length hg.r1
 obtain⟨u,hu,e2⟩:=fk ns hl (k+1) W hg.w1
 refine⟨(v,u),⟨hv,hu⟩,aV (aL ((cS (xs:=[.int (v:Int), .int (u:Int)]) (aI ?_ (aI ?_ rfl))).trans rfl))⟩
 ·exact(aj (ds:=[.scr ns, .int (k:Int), .int (bd.length:Int)]) (aI rfl (aI rfl (aI (A3 (i:=2) rfl) rfl))) rfl).trans e
 ·exact(aj (ds:=[.scr ns, .int ((k+1:Nat):Int), .int (W:Int)]) (aI rfl (aI rfl (aI (hg.len0 (i:=2) rfl) rfl))) rfl).trans e2
abbrev Gj(R W:Nat)(f:Cell->Nat):D:= .lst ((Px R).map fun r=> .lst ((bu W r).map fun y=> .int (f y:Int)))
def yc{l:List D}{i:Nat}{d:D}(h:l[i]? =some d):eP (.lst l) (.int (i:Int))=ab d:=by
 show (match L2.atI l (i:Int) with | some d=>ab d | none=>af)=_
 rw[gq h]
def Bi{R:Nat}{x:Cell}(hx:On R W x){Z:aP}{k:Nat}(h7:Z[7]? =some (fz (Gj R W f)))(hk:Z[k]? =some (fz (cD x))):
 d2 eP (d2 eP (dV 7) (d2 aU (dV k) (dC (.int 0)))) (d2 aU (dV k) (dC (.int 1))) Z=ab (nI (f x)):=by
 refine(aB (x:= .lst ((bu W x.1).map fun y=> .int (f y:Int))) (y:= .int (x.2:Int)) ((aB (x:=Gj R W f) (y:= .int (x.1:Int)) (bt h7) ((aB (x:=cD x) (y:= .int 0) (bt hk) rfl).trans rfl)).trans (yc ?_)) ((aB (x:=cD x) (y:= .int 1) (bt hk) rfl).trans rfl)).trans (yc ?_)
 ·rw[O_,Rt hx.1];rfl
 ·rw[O_]
  unfold bu
  rw[O_,Rt hx.2]
  rfl
abbrev eA:D:= .lst [.str "a", .str "b", .str "c", .str "f"]
abbrev zG(ns:List Int)(bd:List Str)(W w:Nat)(f:Cell->Nat)(a t:Cell)(x8 x9 OF OG OH OI OJ OK:Option Sl):aP:=
 [fz (.scr ns),fz (brd bd),fz eA,fz (.int (w:Int)),fz (cD a),fz (cD t),fz (.lst [sg (lt bd a)]),fz (Gj bd.length W f),x8,x9,OF,OG,OH,OI,OJ,OK]
def IL:DS:=(cb [8,9,10,11,12,13,14,15] (ay (bg 9 (aq 4 aH (aC (dV 1) (aC (dV 3) (aC (dV 4) (aC (dV 8) aN)))))) (ay (fb (bH (d2 kh (dV 9) (aq 4 aH (aC (dV 1) (aC (dV 3) (aC (dV 8) (aC (dV 4) aN))))))) (aX (dC (.bl false))) bY) (ay (fb (bH (d2 kh (d2 lA (dV 9) (dC (.int 0))) (aq 4 fm (aC (dV 1) (aC (dV 3) (aC (dV 4) (aC (dV 8) aN))))))) (aX (dC (.bl false))) bY) (ay (fb (bH (d2 CO (dV 9) (d2 cz (aq 4 aH (aC (dV 1) (aC (dV 3) (aC (dV 4) (aC (dV 5) aN))))) (aq 4 aH (aC (dV 1) (aC (dV 3) (aC (dV 5) (aC (dV 8) aN)))))))) (aX (dC (.bl false))) bY) (ay (bg 10 (aq 4 fo (aC (dV 1) (aC (dV 3) (aC (d2 eP (d2 eP (dV 7) (d2 aU (dV 4) (dC (.int 0)))) (d2 aU (dV 4) (dC (.int 1)))) (aC (d2 eP (d2 eP (dV 7) (d2 aU (dV 8) (dC (.int 0)))) (d2 aU (dV 8) (dC (.int 1)))) aN)))))) (ay (fb (k_ (bH (d2 CO (dV 9) (dV 10))) (kl (bH (d2 lA (dV 3) (dC (.int 4)))) (bH (d2 kh (dV 9) (dV 10))))) (aX (dC (.bl false))) bY) (ay (bg 11 (aq 4 l9 (aC (dV 1) (aC (dV 3) (aC (dV 4) (aC (dV 8) aN)))))) (ay (fb (bH (d2 kh (aq 5 aG (aC (dV 1) (aC (dV 3) (aC (dV 6) (aC (dV 4) (aC (dV 8) aN)))))) (Am (bH (d2 (g6 false) (dV 11) (dC .non))) (dC .non) (d2 gB (dA bh (aC (dV 11) aN)) (dC (.int 1)))))) (aX (dC (.bl false))) bY) (ay (bg 12 (dA rJ (aC (d2 gB (d2 aU (dV 4) (dC (.int 0))) (d2 aU (dV 8) (dC (.int 0)))) aN))) (ay (bg 13 (dA rJ (aC (d2 gB (d2 aU (dV 4) (dC (.int 1))) (d2 aU (dV 8) (dC (.int 1)))) aN))) (ay (bg 14 (Am (bH (d2 lA (dV 3) (dC (.int 4)))) (d2 cz (dV 12) (dV 13)) (dA pZ (aC (dV 12) (aC (dV 13) aN))))) (ay (fb (bH (d2 kh (aq 5 aG (aC (dV 1) (aC (dV 3) (aC (dV 2) (aC (dV 4) (aC (dV 8) aN)))))) (dV 14))) (aX (dC (.bl false))) bY) (ay (bg 15 (aq 5 aG (aC (dV 1) (aC (dV 3) (aC (d2 qC (dV 6) (dA eF (aC (dC (.str "b")) aN))) (aC (dV 4) (aC (dV 8) aN))))))) (ay (fb (kl (bH (d2 (g6 true) (dV 11) (dC .non))) (k_ (bH (d2 (g6 false) (dV 15) (dC .non))) (bH (d2 CO (dV 15) (d2 gB (dA bh (aC (dV 11) aN)) (dC (.int 1))))))) (aX (dC (.bl false))) bY) (fb (kl (bH (d2 (g6 true) (dV 15) (dC .non))) (bH (d2 HR (dV 15) (dV 14)))) (aX (dC (.bl false))) bY))))))))))))))))
def jf{T:DT}{Z:aP}(h:T Z=ab false):fb T (aX (dC (.bl false))) bY Z=ab (.nx Z):=eI h rfl
def nk(n:Nat):kh (nI n) (nI n)=ab (.bl false):=(EJ n n).trans (by simp)
def Fw(hw:Ways w)(a c:Cell){Z:aP}(h3:Z[3]? =some (fz (.int (w:Int))))(LU:Z[12]? =some (fz (.int (bw a.1 c.1:Int))))(LV:Z[13]? =some (fz (.int (bw a.2 c.2:Int)))):
 Am (bH (d2 lA (dV 3) (dC (.int 4)))) (d2 cz (dV 12) (dV 13)) (dA pZ (aC (dV 12) (aC (dV 13) aN))) Z=ab (nI (gd w a c)):=by
 rcases hw with rfl | rfl
 ·refine(xN (p:=true) (cZ ((aB (x:= .int 4) (y:= .int 4) (bt h3) rfl).trans rfl))).trans ((if_pos rfl).trans ((aB (bt LU) (bt LV)).trans ?_))
  show ab (D.int _)=ab (D.int ((bw a.1 c.1+bw a.2 c.2:Nat):Int))
  rw[Int.natCast_add]
 ·refine(xN (p:=false) (cZ ((aB (x:= .int 8) (y:= .int 4) (bt h3) rfl).trans rfl))).trans ((if_neg Pk).trans ((cS (aI (bt LU) (aI (bt LV) rfl))).trans ?_))
  show ab (D.int (if (bw a.2 c.2:Int)>(bw a.1 c.1:Int) then(bw a.2 c.2:Int) else(bw a.1 c.1:Int)))=ab (D.int ((max (bw a.1 c.1) (bw a.2 c.2):Nat):Int))
  congr 2
  split<;>omega
def C6(ns:List Int)(hg:Brd bd W)(hs:bd.length*W<64)(hE:∀r∈bd,E7 r)(hw:Ways w)(hf:NumF bd W w f)(ha:On bd.length W a)(ht:On bd.length W t)(hc:On bd.length W c):
 IL (zG ns bd W w f a t (fz (cD c)) none none none none none none none)=ab (.nx (zG ns bd W w f a t none none none none none none none none)):=by
 obtain⟨n1,d1,e1⟩:=fT hg hs hw hf ha hc
 obtain⟨n2,MP,e2⟩:=fT hg hs hw hf hc ha
 cases (MP.symm Ad.symm).one d1
 obtain⟨n3,d3,e3⟩:=fT hg hs hw hf ha ht
 obtain⟨n4,d4,e4⟩:=fT hg hs hw hf ht hc
 obtain⟨n5,d5,e5⟩:=t7 hg hs hw hf ha hc
 obtain⟨r6,d6,e6⟩:=tY hg hw ha hc
 have hz:(n1=0↔r6=true):=by
  rw[d1.zero,d6,<-hf.cn hw ha hc]
  exact eq_comm
 have N4:n1<=n3+n4:=d1.of (d3.1.trans d4.1)
 have hle:n1<=n5:=d1.of (d5.1.sub (Kj hw))
 have heq:w=4->n1=n5:=fun e=>by subst e;exact d1.one d5
 obtain⟨n7,d7,e7⟩:∃n,Dr (ES W w (lets bd W [97,98,99,102])) a c n/\aG [brd bd, .int (w:Int),eA,cD a,cD c]=ab (nI n):=by
  have jW:∀y x,Nx bd.length W w y x->ES W w (lets bd W [97,98,99,102]) y x:=fun y x h=>⟨cp.mpr ⟨h.1,iL hg hE h.1⟩,cp.mpr ⟨h.2.1,iL hg hE h.2.1⟩,h.2.2⟩
  rcases j3 hg hs hw (ls:=[97,98,99,102]) (by decide) (by decide) ha hc (iL hg hE ha) with⟨n,h1,h2⟩ | ⟨h1,_⟩
  ·exact⟨n,h1,h2⟩
  ·exact absurd ((AG hw ha hc).1.sub jW) (h1 _)
 have h7:n7=gd w a c:=Q1 (d7.of ((AG hw ha hc).1.sub fun y x h=>⟨cp.mpr ⟨h.1,iL hg hE h.1⟩,cp.mpr ⟨h.2.1,iL hg hE h.2.1⟩,h.2.2⟩)) (qD hw (d7.1.sub Ay))
 subst h7
 have Hn:=Gi hg ha
 have o1:=j3 hg hs hw (ls:=[lt bd a]) (fun c hc=>by cases Pp.mp hc;exact Hn) (by simp) ha hc (Pp.mpr rfl)
 have o2:=j3 hg hs hw (ls:=[lt bd a,98]) (fun c hc=>by
  have:c=lt bd a\/c=98:=by simpa using hc
  rcases this with rfl | rfl
  ·exact Hn
  ·decide) (by simp) ha hc (OV ..)
 have E2:∀y x,ES W w (lets bd W [lt bd a]) y x->ES W w (lets bd W [lt bd a,98]) y x:=fun y x h=>by
  have up:∀z,z∈lets bd W [lt bd a]->z∈lets bd W [lt bd a,98]:=fun z hz=>by
   obtain⟨h1,h2⟩:=cp.mp hz
   exact cp.mpr ⟨h1,by rw[Pp.mp h2];exact OV ..⟩
  exact⟨up y h.1,up x h.2.1,h.2.2⟩
 obtain⟨row,more,so,e8,e9,MQ,g1,g2,g3⟩:∃row more so:D,l9 [brd bd, .int (w:Int),cD a,cD c]=ab row/\aG [brd bd, .int (w:Int), .lst [sg (lt bd a)],cD a,cD c]=ab so/\aG [brd bd, .int (w:Int), .lst [sg (lt bd a), .str "b"],cD a,cD c]=ab more/\
  (∀Z:aP,Z[11]? =some (fz row)->(Am (bH (d2 (g6 false) (dV 11) (dC .non))) (dC .non) (d2 gB (dA bh (aC (dV 11) aN)) (dC (.int 1))) Z>>=fun y=>kh so y)=ab (.bl false))/\
  (∀Z:aP,Z[11]? =some (fz row)->Z[15]? =some (fz more)->kl (bH (d2 (g6 true) (dV 11) (dC .non))) (k_ (bH (d2 (g6 false) (dV 15) (dC .non))) (bH (d2 CO (dV 15) (d2 gB (dA bh (aC (dV 11) aN)) (dC (.int 1)))))) Z=ab false)/\
  (∀Z:aP,Z[14]? =some (fz (nI (gd w a c)))->Z[15]? =some (fz more)->kl (bH (d2 (g6 true) (dV 15) (dC .non))) (bH (d2 HR (dV 15) (dV 14))) Z=ab false):=by
  have ID:∀{p:List Cell}{Z:aP},1<=p.length->Z[11]? =some (fz (cL p))->d2 gB (dA bh (aC (dV 11) aN)) (dC (.int 1)) Z=ab (nI (p.length - 1)):=fun {p Z} hp h=>by
   refine(aB (x:= .int (p.length:Int)) (y:= .int 1) ((cS (aI (bt h) rfl)).trans (Gh p)) rfl).trans ?_
   show ab (D.int ((p.length:Int) - 1))=ab (D.int ((p.length - 1:Nat):Int))
   rw[Int.natCast_sub hp]
   rfl
  have last:∀{more:D},(∃n,more=nI n/\gd w a c<=n)\/more= .non->∀Z:aP,Z[14]? =some (fz (nI (gd w a c)))->Z[15]? =some (fz more)->kl (bH (d2 (g6 true) (dV 15) (dC .non))) (bH (d2 HR (dV 15) (dV 14))) Z=ab false:=fun hm Z MZ Fx=>by
   rcases hm with⟨n,rfl,hn⟩ | rfl
   ·refine v_ (p:=true) (q:=false) (cZ ((aB (x:=nI n) (y:= .non) (bt Fx) rfl).trans rfl)) (cZ ((aB (bt Fx) (bt MZ)).trans ?_))
    show ab (D.bl (decide ((n:Int)<(gd w a c:Int))))=_
    rw[decide_eq_false (by omega)]
   ·exact v9 (cZ ((aB (x:= .non) (y:= .non) (bt Fx) rfl).trans rfl))
  rcases Eg hg hw ha hc with⟨p,hp,wq,_,ew⟩ | ⟨hn,ew⟩
  ·have FD:=(Gz hw ha).mp (Hj hw ha hc hp wq)
   have Iy:=hp.pos
   rcases o1 with⟨n,h1,h2⟩ | ⟨h1,_⟩
   ·cases h1.one FD
    rcases o2 with⟨m,h3,h4⟩ | ⟨h3,_⟩
    ·have KO:m<=p.length - 1:=h3.of (FD.1.sub E2)
     refine⟨cL p,nI m,nI (p.length - 1),ew,h2,h4,fun Z CT=>?_,fun Z CT Fx=>?_,last (.inl ⟨m,rfl,qD hw (h3.1.sub Ay)⟩)⟩
     ·rw[show Am (bH (d2 (g6 false) (dV 11) (dC .non))) (dC .non) (d2 gB (dA bh (aC (dV 11) aN)) (dC (.int 1))) Z=ab (nI (p.length - 1)) from(xN (p:=false) (cZ ((aB (x:=cL p) (y:= .non) (bt CT) rfl).trans rfl))).trans (ID Iy CT)]
      exact nk _
     ·refine v_ (p:=true) (q:=false) (cZ ((aB (x:=cL p) (y:= .non) (bt CT) rfl).trans rfl)) (xO (p:=false) (q:=false) (cZ ((aB (x:=nI m) (y:= .non) (bt Fx) rfl).trans rfl)) (cZ ((aB (bt Fx) (ID Iy CT)).trans ((A6 m (p.length - 1)).trans ?_))))
      rw[decide_eq_false (by omega)]
    ·exact absurd (FD.1.sub E2) (h3 _)
   ·exact absurd FD.1 (h1 _)
  ·rcases o1 with⟨n,h1,h2⟩ | ⟨h1,h2⟩
   ·exact absurd ⟨n,(wX hw ha).mpr h1.1⟩ hn
   ·obtain⟨more,hm,h4⟩:∃more:D,((∃n,more=nI n/\gd w a c<=n)\/more= .non)/\aG [brd bd, .int (w:Int), .lst [sg (lt bd a), .str "b"],cD a,cD c]=ab more:=by
     rcases o2 with⟨m,h3,h4⟩ | ⟨h3,h4⟩
     ·exact⟨nI m, .inl ⟨m,rfl,qD hw (h3.1.sub Ay)⟩,h4⟩
     ·exact⟨.non, .inr rfl,h4⟩
    refine⟨.non,more, .non,ew,h2,h4,fun Z CT=>?_,fun Z CT Fx=>v9 (cZ ((aB (x:= .non) (y:= .non) (bt CT) rfl).trans rfl)),last hm⟩
    rw[show Am (bH (d2 (g6 false) (dV 11) (dC .non))) (dC .non) (d2 gB (dA bh (aC (dV 11) aN)) (dC (.int 1))) Z=ab .non from(xN (p:=true) (cZ ((aB (x:= .non) (y:= .non) (bt CT) rfl).trans rfl))).trans rfl]
    rfl
 have q1:kh (.bl (decide (n1=0))) (.bl r6)=ab (.bl false):=by
  rw[IV]
  cases r6 with
  |true=>rw[decide_eq_true (hz.mpr rfl)];rfl
  |false=>rw[decide_eq_false fun e=>Pk (hz.mp e)];rfl
 refine(bq (Z':=zG ns bd W w f a t (fz (cD c)) (fz (nI n1)) (fz (nI n5)) (fz row) (fz (.int (bw a.1 c.1:Int))) (fz (.int (bw a.2 c.2:Int))) (fz (nI (gd w a c))) (fz more)) ?_).trans rfl
 refine ai (Z':=zG ns bd W w f a t (fz (cD c)) (fz (nI n1)) none none none none none none) ((aF ((aj (ds:=[brd bd, .int (w:Int),cD a,cD c]) rfl rfl).trans e1)).trans rfl) ?_
 refine ai (jf (cZ ((aB (x:=nI n1) (y:=nI n1) rfl ((aj (ds:=[brd bd, .int (w:Int),cD c,cD a]) rfl rfl).trans e2)).trans (nk n1)))) ?_
 refine ai (jf (cZ ((aB (x:= .bl (decide (n1=0))) (y:= .bl r6) ((aB (x:=nI n1) (y:= .int 0) rfl rfl).trans ?_) ((aj (ds:=[brd bd, .int (w:Int),cD a,cD c]) rfl rfl).trans e6)).trans q1))) ?_
 ·show ab (D.bl ((n1:Int)==((0:Nat):Int)))=_
  rw[jK]
  rfl
 refine ai (jf (cZ ((aB (x:=nI n1) (y:= .int ((n3+n4:Nat):Int)) rfl ((aB (x:=nI n3) (y:=nI n4) ((aj (ds:=[brd bd, .int (w:Int),cD a,cD t]) rfl rfl).trans e3) ((aj (ds:=[brd bd, .int (w:Int),cD t,cD c]) rfl rfl).trans e4)).trans ?_)).trans ((A6 n1 (n3+n4)).trans (by rw[decide_eq_false (by omega)]))))) ?_
 ·show ab (D.int ((n3:Int)+(n4:Int)))=_
  rw[Int.natCast_add]
 refine ai (Z':=zG ns bd W w f a t (fz (cD c)) (fz (nI n1)) (fz (nI n5)) none none none none none) ((aF ((aj (ds:=[brd bd, .int (w:Int),nI (f a),nI (f c)]) (aI rfl (aI rfl (aI (Bi ha rfl rfl) (aI (Bi hc rfl rfl) rfl)))) rfl).trans e5)).trans rfl) ?_
 refine ai (jf (xO (p:=false) (q:=false) (cZ ((aB (x:=nI n1) (y:=nI n5) rfl rfl).trans ((A6 n1 n5).trans (by rw[decide_eq_false (by omega)])))) ?_)) ?_
 ·by_cases h4:w=4
  ·refine v_ (p:=true) (q:=false) (cZ ((aB (x:= .int (w:Int)) (y:= .int 4) rfl rfl).trans (by rw[h4];rfl))) (cZ ((aB (x:=nI n1) (y:=nI n5) rfl rfl).trans ?_))
   rw[heq h4]
   exact nk n5
  ·refine v9 (cZ ((aB (x:= .int (w:Int)) (y:= .int 4) rfl rfl).trans ?_))
   have:w=8:=hw.resolve_left h4
   rw[this]
   rfl
 refine ai (Z':=zG ns bd W w f a t (fz (cD c)) (fz (nI n1)) (fz (nI n5)) (fz row) none none none none) ((aF ((aj (ds:=[brd bd, .int (w:Int),cD a,cD c]) rfl rfl).trans e8)).trans rfl) ?_
 refine ai (jf (cZ ?_)) ?_
 ·show (aq 5 aG (aC (dV 1) (aC (dV 3) (aC (dV 6) (aC (dV 4) (aC (dV 8) aN))))) _>>=fun x=>_>>=fun y=>kh x y)=_
  rw[show aq 5 aG (aC (dV 1) (aC (dV 3) (aC (dV 6) (aC (dV 4) (aC (dV 8) aN))))) (zG ns bd W w f a t (fz (cD c)) (fz (nI n1)) (fz (nI n5)) (fz row) none none none none)=ab so from(aj (ds:=[brd bd, .int (w:Int), .lst [sg (lt bd a)],cD a,cD c]) rfl rfl).trans e9]
  exact g1 _ rfl
 refine ai (Z':=zG ns bd W w f a t (fz (cD c)) (fz (nI n1)) (fz (nI n5)) (fz row) (fz (.int (bw a.1 c.1:Int))) none none none) ((aF ((cS (xs:=[.int ((a.1:Int) - (c.1:Int))]) rfl).trans (m9 a.1 c.1))).trans rfl) ?_
 refine ai (Z':=zG ns bd W w f a t (fz (cD c)) (fz (nI n1)) (fz (nI n5)) (fz row) (fz (.int (bw a.1 c.1:Int))) (fz (.int (bw a.2 c.2:Int))) none none) ((aF ((cS (xs:=[.int ((a.2:Int) - (c.2:Int))]) rfl).trans (m9 a.2 c.2))).trans rfl) ?_
 refine ai (Z':=zG ns bd W w f a t (fz (cD c)) (fz (nI n1)) (fz (nI n5)) (fz row) (fz (.int (bw a.1 c.1:Int))) (fz (.int (bw a.2 c.2:Int))) (fz (nI (gd w a c))) none) ((aF (Fw hw a c rfl rfl rfl)).trans rfl) ?_
 refine ai (jf (cZ ((aB (x:=nI (gd w a c)) (y:=nI (gd w a c)) ((aj (ds:=[brd bd, .int (w:Int),eA,cD a,cD c]) rfl rfl).trans e7) rfl).trans (nk _)))) ?_
 refine ai (Z':=zG ns bd W w f a t (fz (cD c)) (fz (nI n1)) (fz (nI n5)) (fz row) (fz (.int (bw a.1 c.1:Int))) (fz (.int (bw a.2 c.2:Int))) (fz (nI (gd w a c))) (fz more)) ((aF ((aj (ds:=[brd bd, .int (w:Int), .lst [sg (lt bd a), .str "b"],cD a,cD c]) rfl rfl).trans MQ)).trans rfl) ?_
 refine ai (jf (g2 _ rfl rfl)) (jf (g3 _ rfl rfl))
def Bs:DS:=(cb [3,4,5,6,7,8,9,10,11,12,13,14,15] (ay (bg 4 (aq 3 bJ (aC (dV 0) (aC (d2 cz (dC (.int 60)) (dV 3)) (aC (dV 1) aN))))) (ay (bg 5 (aq 3 bJ (aC (dV 0) (aC (d2 cz (dC (.int 80)) (dV 3)) (aC (dV 1) aN))))) (ay (bg 6 (dA eF (aC (aq 2 dS (aC (dV 1) (aC (dV 4) aN))) aN))) (ay (bg 7 (aq 2 dU (aC (dV 1) (aC (dV 3) aN)))) (dq (putN 8) (de (aq 1 cT (aC (dV 1) aN))) IL))))))
def uZ(ns:List Int)(hl:ns.length<=63)(hG:Good bd W)(hs:bd.length*W<64)(hE:∀r∈bd,E7 r)(hw:Ways w):
 Bs [fz (.scr ns),fz (brd bd),fz eA,fz (.int (w:Int)),none,none,none,none,none,none,none,none,none,none,none,none]=ab (.nx [fz (.scr ns),fz (brd bd),fz eA,none,none,none,none,none,none,none,none,none,none,none,none,none]):=by
 have hg:=hG.brd
 obtain⟨f,hf,en⟩:=sq hg hs hw
 obtain⟨a,ha,ea⟩:=qw ns hl hg (60+w)
 obtain⟨t,ht,et⟩:=qw ns hl hg (80+w)
 have es:dS [brd bd,cD a]=ab (sg (lt bd a)):=ej hg ha
 refine(bq (Z':=zG ns bd W w f a t none none none none none none none none) ?_).trans rfl
 refine ai (Z':=[fz (.scr ns),fz (brd bd),fz eA,fz (.int (w:Int)),fz (cD a),none,none,none,none,none,none,none,none,none,none,none]) ((aF ((aj (ds:=[.scr ns, .int ((60+w:Nat):Int),brd bd]) rfl rfl).trans ea)).trans rfl) ?_
 refine ai (Z':=[fz (.scr ns),fz (brd bd),fz eA,fz (.int (w:Int)),fz (cD a),fz (cD t),none,none,none,none,none,none,none,none,none,none]) ((aF ((aj (ds:=[.scr ns, .int ((80+w:Nat):Int),brd bd]) rfl rfl).trans et)).trans rfl) ?_
 refine ai (Z':=[fz (.scr ns),fz (brd bd),fz eA,fz (.int (w:Int)),fz (cD a),fz (cD t),fz (.lst [sg (lt bd a)]),none,none,none,none,none,none,none,none,none]) ((aF ((cS (xs:=[sg (lt bd a)]) (aI ((aj (ds:=[brd bd,cD a]) rfl rfl).trans es) rfl)).trans rfl)).trans rfl) ?_
 refine ai (Z':=zG ns bd W w f a t none none none none none none none none) ((aF ((aj (ds:=[brd bd, .int (w:Int)]) rfl rfl).trans en)).trans rfl) ?_
 exact eS (wA ((aj (ds:=[brd bd]) rfl rfl).trans (pY hg))) (qB cD _ _ fun c hc=>⟨_,rfl,C6 ns hg hs hE hw hf ha ht (aJ.mp hc)⟩)
def A2(ns:List Int)(hl:ns.length<=63):js [.scr ns]=ab (.bl true):=by
 obtain⟨bd,W,hG,hE,l1,l2,eb⟩:=vW ns hl 0 3 (by decide) (by decide)
 have hs:bd.length*W<64:=by have:=QR l1 l2;omega
 refine aV (ai (Z':=[fz (.scr ns),fz (brd bd),none,none,none,none,none,none,none,none,none,none,none,none,none,none]) ((aF ((aj (ds:=[.scr ns, .int ((0:Nat):Int), .int ((3:Nat):Int)]) rfl rfl).trans eb)).trans rfl) (ai (Z':=[fz (.scr ns),fz (brd bd),fz eA,none,none,none,none,none,none,none,none,none,none,none,none,none]) rfl (ai (Z':=[fz (.scr ns),fz (brd bd),fz eA,none,none,none,none,none,none,none,none,none,none,none,none,none]) ?_ rfl)))
 refine cX (eS (ds:=[D.int 4,D.int 8]) rfl ?_)
 exact(cM (body:=Bs) rfl (uZ (w:=4) ns hl hG hs hE (.inl rfl))).trans ((cM (body:=Bs) rfl (uZ (w:=8) ns hl hG hs hE (.inr rfl))).trans rfl)
end
end K1
namespace K1
open PySem PySem.Spec L2 L3
open PyProof.Rows hiding St
def DF(K:O2)(x:Str)(s:Stmt):Prop:=∃(f:Addr) (oc:Value) (od an:Option Addr) (sl:Array (Option Value)) (kV dc pm cd ct:Value),PR K Pm x=some (some (.ref f))/\K.lookup f=some ⟨oc,od, .func (Qq x x (ei s) (bQ s) (ak s) .none kV dc pm an cd ct),sl⟩/\Q5 K cd x=true/\Qy K (.ref f)=true
def DF.mk{K:O2}{x:Str}{s:Stmt}{f:Addr}{oc:Value}{od an:Option Addr}{sl:Array (Option Value)}{kV dc pm cd ct:Value}(a:PR K Pm x=some (some (.ref f)))(l:K.lookup f=some ⟨oc,od, .func (Qq x x (ei s) (bQ s) (ak s) .none kV dc pm an cd ct),sl⟩)(c:Q5 K cd x=true)(k:Qy K (.ref f)=true):DF K x s:=⟨f,oc,od,an,sl,kV,dc,pm,cd,ct,a,l,c,k⟩
def DF.at{K:O2}{x:Str}{s:Stmt}{h:Heap}{mg:Str->Option Value}(X:K.In h)(G:h.Ns Pm mg)(d:DF K x s):∃f,bj K mg x s f:=by
 obtain⟨f,oc,od,an,sl,kV,dc,pm,cd,ct,a,l,c,k⟩:=d
 exact⟨f,RJ X G a,_,AB (st:=s) l c k⟩
def all_mk{P:Pw}{w:World}{K:O2}{h:Heap}{mg:Str->Option Value}{fa:Addr}(X:K.In h)(G:h.Ns Pm mg)(Nm:mg "law"=some (.ref fa))
 {jV:Addr}{wN nK:Option Addr}{xl:Array (Option Value)}{wM oy nS pd jT nR:Value}
 {zP:Tok}
 {vA:Tok}
 {pH:Tok}
 (d_is_whole:DF K "is_whole" j_)
 (d_is_letter:DF K "is_letter" i_)
 (d_cells_of_row:DF K "cells_of_row" dI)
 (d_letter_of:DF K "letter_of" jb)
 (d_are_next:DF K "are_next" j9)
 (d_keyed:DF K "keyed" tf)
 (d_numbers_of:DF K "numbers_of" ir)
 (d_distances:DF K "distances" i9)
 (d_law_cell:DF K "_law_cell" kc)
 (d_law_cells:DF K "_law_cells" f9)
 (d_law_sign:DF K "_law_sign" ke)
 (d_is_row:DF K "is_row" kY)
 (d_is_cell:DF K "is_cell" lV)
 (d_need_letters:DF K "need_letters" dJ)
 (d_need_ways:DF K "need_ways" jd)
 (d_all_cells:DF K "all_cells" i8)
 (d_next_cells:DF K "next_cells" ip)
 (d_need_number:DF K "need_number" gm)
 (d_law_drawn:DF K "_law_drawn" ja)
 (d_is_board:DF K "is_board" fN)
 (d_need_cell:DF K "need_cell" jc)
 (d_like_cells:DF K "like_cells" fc)
 (d_near_numbers:DF K "near_numbers" fO)
 (d_near_among:DF K "near_among" fe)
 (d_law_board:DF K "_law_board" f7)
 (d_law_cell_in:DF K "_law_cell_in" gk)
 (d_need_board:DF K "need_board" il)
 (d_steps_back:DF K "steps_back" iu)
 (d_need_two_cells:DF K "need_two_cells" eg)
 (d_all_patches:DF K "all_patches" gj)
 (d_steps_over:DF K "steps_over" fg)
 (d_numbered:DF K "numbered" iq)
 (d_are_one:DF K "are_one" lT)
 (d_way:DF K "way" BZ)
 (d_fewest_changes:DF K "fewest_changes" d_)
 (d_map_of:DF K "map_of" pw)
 (d_borders:DF K "borders" lU)
 (a_law_k75:PR K Pm "law"=some (some (.ref jV)))(l_law_k75:K.lookup jV=some ⟨wM,wN, .func (Qq "law" "law" (ei aM) (bQ aM) (ak aM) .none oy nS pd nK jT nR),xl⟩)(c_law_k75:Q5 K jT "law"=true)(k_law_k75:Qy K (.ref jV)=true)
 (z_len:PR K Pm "len"=some none)
 (z_isinstance:PR K Pm "isinstance"=some none)
 (z_all:PR K Pm "all"=some none)
 (z_abs:PR K Pm "abs"=some none)
 (z_max:PR K Pm "max"=some none)
 (z_min:PR K Pm "min"=some none)
 (z_range:PR K Pm "range"=some none)
 (z_str:PR K Pm "str"=some none)
 (z_int:PR K Pm "int"=some none)
 (z_bool:PR K Pm "bool"=some none)
 (z_tuple:PR K Pm "tuple"=some none)
 (z_list:PR K Pm "list"=some none)
 (z_sorted:PR K Pm "sorted"=some none)
 (z_enumerate:PR K Pm "enumerate"=some none)
 (y_LETTERS:PR K Pm "LETTERS"=some (some (.str "abcdef" zP)))
 (y_MOST_ROWS:PR K Pm "MOST_ROWS"=some (some (.int 8 vA)))
 (y_MOST_COLUMNS:PR K Pm "MOST_COLUMNS"=some (some (.int 8 pH))):
 ∃(cv:Nat->Value) (fd:QT),(∀(s:O0) (u:Value),T6 s fd ⟨[u],[]⟩ [("_law_script",u)])/\∀base:Heap,K.In base->base.Ns Pm mg->FnOk P w K mg base (ql P w cv) 8 fa fd ["_law_script"] (Hr K cv 1 js):=by
 have ea:=Nm.symm.trans (RJ X G a_law_k75)
 cases ea
 refine⟨fun _=> .none,Qq "law" "law" (ei aM) (bQ aM) (ak aM) .none oy nS pd nK jT nR,fun s v=> .of_eq rfl,fun base KB GB=>?_⟩
 have B:Bl K mg base (fun _=> .none) (fun _=>Pm) Pm:=⟨PF X G z_len,PF X G z_isinstance,PF X G z_all,PF X G z_abs,PF X G z_max,PF X G z_min,PF X G z_range,PF X G z_str,PF X G z_int,PF X G z_bool,PF X G z_tuple,PF X G z_list,PF X G z_sorted,PF X G z_enumerate,⟨_,RJ X G y_LETTERS⟩,⟨_,RJ X G y_MOST_ROWS⟩,⟨_,RJ X G y_MOST_COLUMNS⟩⟩
 have j2:=(DF.at X G d_is_whole).elim fun _ t=>uU (P:=P) (w:=w) B t
 have mw:=(DF.at X G d_is_letter).elim fun _ t=>sA (P:=P) (w:=w) B t
 have iQ:=(DF.at X G d_cells_of_row).elim fun _ t=>mX (P:=P) (w:=w) B t
 have my:=(DF.at X G d_letter_of).elim fun _ t=>sF (P:=P) (w:=w) B t
 have wH:=(DF.at X G d_are_next).elim fun _ t=>uS (P:=P) (w:=w) B t
 have ym:=(DF.at X G d_keyed).elim fun _ t=>Bn (P:=P) (w:=w) B t
 have ie:=(DF.at X G d_numbers_of).elim fun _ t=>qd (P:=P) (w:=w) B t
 have iR:=(DF.at X G d_distances).elim fun _ t=>sy (P:=P) (w:=w) B t
 have wJ:=(DF.at X G d_law_cell).elim fun _ t=>uV (P:=P) (w:=w) B t
 have uP:=(DF.at X G d_law_cells).elim fun _ t=>sD (P:=P) (w:=w) B t
 have wK:=(DF.at X G d_law_sign).elim fun _ t=>uW (P:=P) (w:=w) B t
 have Bj:=(DF.at X G d_is_row).elim fun _ t=>zt (P:=P) (w:=w) B mw t
 have zq:=(DF.at X G d_is_cell).elim fun _ t=>wR (P:=P) (w:=w) B j2 t
 have oR:=(DF.at X G d_need_letters).elim fun _ t=>mZ (P:=P) (w:=w) B mw t
 have fZ:=(DF.at X G d_need_ways).elim fun _ t=>sH (P:=P) (w:=w) B j2 t
 have iP:=(DF.at X G d_all_cells).elim fun _ t=>sx (P:=P) (w:=w) B iQ t
 have ib:=(DF.at X G d_next_cells).elim fun _ t=>qc (P:=P) (w:=w) B wH t
 have p9:=(DF.at X G d_need_number).elim fun _ t=>oU (P:=P) (w:=w) B j2 t
 have mx:=(DF.at X G d_law_drawn).elim fun _ t=>sE (P:=P) (w:=w) B wJ t
 have wI:=(DF.at X G d_is_board).elim fun _ t=>uT (P:=P) (w:=w) B Bj t
 have mz:=(DF.at X G d_need_cell).elim fun _ t=>sG (P:=P) (w:=w) B zq t
 have sr:=(DF.at X G d_like_cells).elim fun _ t=>p_ (P:=P) (w:=w) B my ib t
 have iS:=(DF.at X G d_near_numbers).elim fun _ t=>mY (P:=P) (w:=w) B ie iP ib t
 have su:=(DF.at X G d_near_among).elim fun _ t=>qa (P:=P) (w:=w) B ym ib t
 have uO:=(DF.at X G d_law_board).elim fun _ t=>sC (P:=P) (w:=w) B mx t
 have p8:=(DF.at X G d_law_cell_in).elim fun _ t=>oT (P:=P) (w:=w) B mx t
 have eZ:=(DF.at X G d_need_board).elim fun _ t=>qb (P:=P) (w:=w) B wI t
 have ig:=(DF.at X G d_steps_back).elim fun _ t=>qe (P:=P) (w:=w) B sr t
 have d8:=(DF.at X G d_need_two_cells).elim fun _ t=>kM (P:=P) (w:=w) B eZ fZ mz t
 have gg:=(DF.at X G d_all_patches).elim fun _ t=>oS (P:=P) (w:=w) B iP ig ym t
 have sv:=(DF.at X G d_steps_over).elim fun _ t=>qf (P:=P) (w:=w) B eZ fZ oR mz su iR iP my t
 have wL:=(DF.at X G d_numbered).elim fun _ t=>uX (P:=P) (w:=w) B eZ fZ ie gg iQ t
 have zo:=(DF.at X G d_are_one).elim fun _ t=>wO (P:=P) (w:=w) B d8 ig t
 have I9:=(DF.at X G d_way).elim fun _ t=>Gm (P:=P) (w:=w) B d8 ig t
 have lI:=(DF.at X G d_fewest_changes).elim fun _ t=>kL (P:=P) (w:=w) B d8 gg ie iR iS t
 have Bm:=(DF.at X G d_map_of).elim fun _ t=>zu (P:=P) (w:=w) B eZ fZ iS gg t
 have zp:=(DF.at X G d_borders).elim fun _ t=>wQ (P:=P) (w:=w) B Bm p9 iR t
 exact uQ B uO p8 wL uP wK lI zp I9 sv zo (AB (st:=aM) l_law_k75 c_law_k75 k_law_k75)
end K1
open PySem PySem.W PyProof.Rows
theorem PySem.Challenge.cw_cellpatches_k75_whole_roads_holds : PySem.Challenge.rw_cellpatches_k75_whole_roads.Holds := by
 w_on;o_law
 refine holds_open (q:=K1.vD) (loose:=[]) (Xt:=fun s=>xlAt K1.vD [] s&&recOk (RowW.records (OpenRow.toRowW _)) s) (XP:=XL K1.vD []) (Yf:=Hook.obs (kHook K1.oa K1.n_ (fun _=>by kernel_rfl))) (Ya:=Hook.val (kHook K1.oa K1.n_ (fun _=>by kernel_rfl))) (YP:=Hook.says (kHook K1.oa K1.n_ (fun _=>by kernel_rfl))) (N:=5130) ?hl (Hook.of (kHook K1.oa K1.n_ (fun _=>by kernel_rfl))) (Hook.keeps (kHook K1.oa K1.n_ (fun _=>by kernel_rfl))) (fun s e=>xl_of s (Qt.mp e).1) XL.keeps (by rfl) (by rfl) (by rfl) (fun s e=>recFacts_of (Qt.mp e).2) (by rfl) (by first | assumption | decide+kernel) (by decide+kernel) ⟨rfl,rfl,rfl,rfl,rfl,by decide+kernel⟩ ?hw ?hc
 case hl=>exact K1.Im
 (case hw=>w_witness2)
 k_fill
 refine L3.JH (l:=PySem.Challenge.rw_cellpatches_k75_whole_roads) (k:=8) (n:=63) (x:="_law_script") (g:=K1.js) rfl (by decide) rfl ⟨rfl,by decide,by decide⟩ (fun w h Y=>PySem.W.kIn_of Y) K1.A2 ?F
 case F=>
  intro w mg fa h KX G FN
  refine' K1.all_mk KX G FN ?d_is_whole ?d_is_letter ?d_cells_of_row ?d_letter_of ?d_are_next ?d_keyed ?d_numbers_of ?d_distances ?d_law_cell ?d_law_cells ?d_law_sign ?d_is_row ?d_is_cell ?d_need_letters ?d_need_ways ?d_all_cells ?d_next_cells ?d_need_number ?d_law_drawn ?d_is_board ?d_need_cell ?d_like_cells ?d_near_numbers ?d_near_among ?d_law_board ?d_law_cell_in ?d_need_board ?d_steps_back ?d_need_two_cells ?d_all_patches ?d_steps_over ?d_numbered ?d_are_one ?d_way ?d_fewest_changes ?d_map_of ?d_borders ?a_law_k75 ?l_law_k75 ?c_law_k75 ?k_law_k75 ?z_len ?z_isinstance ?z_all ?z_abs ?z_max ?z_min ?z_range ?z_str ?z_int ?z_bool ?z_tuple ?z_list ?z_sorted ?z_enumerate ?y_LETTERS ?y_MOST_ROWS ?y_MOST_COLUMNS
  (case d_is_whole=>(refine' K1.DF.mk ?a ?l ?c ?k;(case a=>k_is);(case l=>k_is);(case c=>k_is);(case k=>k_is)))
  (case d_is_letter=>(refine' K1.DF.mk ?a ?l ?c ?k;(case a=>k_is);(case l=>k_is);(case c=>k_is);(case k=>k_is)))
  (case d_cells_of_row=>(refine' K1.DF.mk ?a ?l ?c ?k;(case a=>k_is);(case l=>k_is);(case c=>k_is);(case k=>k_is)))
  (case d_letter_of=>(refine' K1.DF.mk ?a ?l ?c ?k;(case a=>k_is);(case l=>k_is);(case c=>k_is);(case k=>k_is)))
  (case d_are_next=>(refine' K1.DF.mk ?a ?l ?c ?k;(case a=>k_is);(case l=>k_is);(case c=>k_is);(case k=>k_is)))
  (case d_keyed=>(refine' K1.DF.mk ?a ?l ?c ?k;(case a=>k_is);(case l=>k_is);(case c=>k_is);(case k=>k_is)))
  (case d_numbers_of=>(refine' K1.DF.mk ?a ?l ?c ?k;(case a=>k_is);(case l=>k_is);(case c=>k_is);(case k=>k_is)))
  (case d_distances=>(refine' K1.DF.mk ?a ?l ?c ?k;(case a=>k_is);(case l=>k_is);(case c=>k_is);(case k=>k_is)))
  (case d_law_cell=>(refine' K1.DF.mk ?a ?l ?c ?k;(case a=>k_is);(case l=>k_is);(case c=>k_is);(case k=>k_is)))
  (case d_law_cells=>(refine' K1.DF.mk ?a ?l ?c ?k;(case a=>k_is);(case l=>k_is);(case c=>k_is);(case k=>k_is)))
  (case d_law_sign=>(refine' K1.DF.mk ?a ?l ?c ?k;(case a=>k_is);(case l=>k_is);(case c=>k_is);(case k=>k_is)))
  (case d_is_row=>(refine' K1.DF.mk ?a ?l ?c ?k;(case a=>k_is);(case l=>k_is);(case c=>k_is);(case k=>k_is)))
  (case d_is_cell=>(refine' K1.DF.mk ?a ?l ?c ?k;(case a=>k_is);(case l=>k_is);(case c=>k_is);(case k=>k_is)))
  (case d_need_letters=>(refine' K1.DF.mk ?a ?l ?c ?k;(case a=>k_is);(case l=>k_is);(case c=>k_is);(case k=>k_is)))
  (case d_need_ways=>(refine' K1.DF.mk ?a ?l ?c ?k;(case a=>k_is);(case l=>k_is);(case c=>k_is);(case k=>k_is)))
  (case d_all_cells=>(refine' K1.DF.mk ?a ?l ?c ?k;(case a=>k_is);(case l=>k_is);(case c=>k_is);(case k=>k_is)))
  (case d_next_cells=>(refine' K1.DF.mk ?a ?l ?c ?k;(case a=>k_is);(case l=>k_is);(case c=>k_is);(case k=>k_is)))
  (case d_need_number=>(refine' K1.DF.mk ?a ?l ?c ?k;(case a=>k_is);(case l=>k_is);(case c=>k_is);(case k=>k_is)))
  (case d_law_drawn=>(refine' K1.DF.mk ?a ?l ?c ?k;(case a=>k_is);(case l=>k_is);(case c=>k_is);(case k=>k_is)))
  (case d_is_board=>(refine' K1.DF.mk ?a ?l ?c ?k;(case a=>k_is);(case l=>k_is);(case c=>k_is);(case k=>k_is)))
  (case d_need_cell=>(refine' K1.DF.mk ?a ?l ?c ?k;(case a=>k_is);(case l=>k_is);(case c=>k_is);(case k=>k_is)))
  (case d_like_cells=>(refine' K1.DF.mk ?a ?l ?c ?k;(case a=>k_is);(case l=>k_is);(case c=>k_is);(case k=>k_is)))
  (case d_near_numbers=>(refine' K1.DF.mk ?a ?l ?c ?k;(case a=>k_is);(case l=>k_is);(case c=>k_is);(case k=>k_is)))
  (case d_near_among=>(refine' K1.DF.mk ?a ?l ?c ?k;(case a=>k_is);(case l=>k_is);(case c=>k_is);(case k=>k_is)))
  (case d_law_board=>(refine' K1.DF.mk ?a ?l ?c ?k;(case a=>k_is);(case l=>k_is);(case c=>k_is);(case k=>k_is)))
  (case d_law_cell_in=>(refine' K1.DF.mk ?a ?l ?c ?k;(case a=>k_is);(case l=>k_is);(case c=>k_is);(case k=>k_is)))
  (case d_need_board=>(refine' K1.DF.mk ?a ?l ?c ?k;(case a=>k_is);(case l=>k_is);(case c=>k_is);(case k=>k_is)))
  (case d_steps_back=>(refine' K1.DF.mk ?a ?l ?c ?k;(case a=>k_is);(case l=>k_is);(case c=>k_is);(case k=>k_is)))
  (case d_need_two_cells=>(refine' K1.DF.mk ?a ?l ?c ?k;(case a=>k_is);(case l=>k_is);(case c=>k_is);(case k=>k_is)))
  (case d_all_patches=>(refine' K1.DF.mk ?a ?l ?c ?k;(case a=>k_is);(case l=>k_is);(case c=>k_is);(case k=>k_is)))
  (case d_steps_over=>(refine' K1.DF.mk ?a ?l ?c ?k;(case a=>k_is);(case l=>k_is);(case c=>k_is);(case k=>k_is)))
  (case d_numbered=>(refine' K1.DF.mk ?a ?l ?c ?k;(case a=>k_is);(case l=>k_is);(case c=>k_is);(case k=>k_is)))
  (case d_are_one=>(refine' K1.DF.mk ?a ?l ?c ?k;(case a=>k_is);(case l=>k_is);(case c=>k_is);(case k=>k_is)))
  (case d_way=>(refine' K1.DF.mk ?a ?l ?c ?k;(case a=>k_is);(case l=>k_is);(case c=>k_is);(case k=>k_is)))
  (case d_fewest_changes=>(refine' K1.DF.mk ?a ?l ?c ?k;(case a=>k_is);(case l=>k_is);(case c=>k_is);(case k=>k_is)))
  (case d_map_of=>(refine' K1.DF.mk ?a ?l ?c ?k;(case a=>k_is);(case l=>k_is);(case c=>k_is);(case k=>k_is)))
  (case d_borders=>(refine' K1.DF.mk ?a ?l ?c ?k;(case a=>k_is);(case l=>k_is);(case c=>k_is);(case k=>k_is)))
  (case a_law_k75=>k_is)
  (case l_law_k75=>k_is)
  (case c_law_k75=>k_is)
  (case k_law_k75=>k_is)
  (case z_len=>k_is)
  (case z_isinstance=>k_is)
  (case z_all=>k_is)
  (case z_abs=>k_is)
  (case z_max=>k_is)
  (case z_min=>k_is)
  (case z_range=>k_is)
  (case z_str=>k_is)
  (case z_int=>k_is)
  (case z_bool=>k_is)
  (case z_tuple=>k_is)
  (case z_list=>k_is)
  (case z_sorted=>k_is)
  (case z_enumerate=>k_is)
  (case y_LETTERS=>k_is)
  (case y_MOST_ROWS=>k_is)
  (case y_MOST_COLUMNS=>k_is)
