import PyProof.Rows.All
import Wide.All
import OpenK.AllK
import Wide.FinOn
import Lean
import PyProof.EqAt
import PyProof.EqKinds
import PyProof.TupleCall
import KE.KTryMore
import KE.KRevIter
import KE.KSortTup
import KE.KDictSum
import KE.KRevSl
import PyProof.Rows.TupDisplay
import PyProof.EnumFor
import PyProof.EnumMake
import PyProof.EnumStmt
import PyProof.DictUpdate
import PyProof.AttrMissSeq
import KE.KDictOf
import PySem.Challenge.RW_cellpatches_k10_patches
set_option Elab.async false
set_option linter.all false
set_option maxRecDepth 100000
namespace L2
open PySem
def aH (s:Stmt):Arguments:=match s with
 | .FunctionDef _ a _ _ _ _ _ _ _ _=>a
 |_=>{posonlyargs:=[],args:=[],vararg:=none,kwonlyargs:=[],kw_defaults:=[],kwarg:=none,defaults:=[]}
def az (s:Stmt):List Stmt:=match s with
 | .FunctionDef _ _ b _ _ _ _ _ _ _=>b
 |_=>[]
def ag (s:Stmt):Scope:=match s with
 | .FunctionDef _ _ _ _ _ _ sc _ _ _=>sc
 |_=>{kind:= .function,names:=[],isGenerator:=false,isCoroutine:=false}
end L2
namespace K1
open PySem PySem.Spec
def top (i:Nat):Stmt:=PySem.Challenge.pw_cellpatches_k10_patches.main.body.getD i (.Pass ⟨0,0,0,0⟩)
abbrev hS (s:String) (t:Tok):Value:= .str (Str.ofString s) t
abbrev hE (P:Params) (s:String) (t:Tok) (v:Value):DictEntry:={hash:=PyData.keyHash P (Str.ofString s),key:=hS s t,val:=v}
abbrev hT (xs:Array Value):Obj:={cls:= .type "tuple",data:=Data.seq xs}
abbrev hF (s:String) (t:Stmt) (m:Value) (c:Addr):Obj:={cls:= .type "function",data:=Data.func {name:=Str.ofString s,qualname:=Str.ofString s,params:=L2.aH t,body:=FuncBody.stmts (L2.az t),scope:=L2.ag t,globals:=3,closure:=[],defaults:= .none,kwdefaults:= .none,pyModule:=m,code:= .ref c} }
def mx:Params→PySem.W.Frag:=fun P=>(nat_lit 2,{cls:= .none,data:=Data.dict #[]})::
 (nat_lit 3,{cls:= .type "dict",data:=Data.dict #[hE P "__name__" 165 (hS "law_cellpatches_k10_patches" 514),hE P "__doc__" 166 .none,hE P "__package__" 167 .none,hE P "__loader__" 168 (.builtin "__main__.__loader__#opaque"),hE P "__spec__" 169 .none,hE P "__annotations__" 170 (.ref 6),hE P "__builtins__" 171 (.ref 4),hE P "__file__" 173 (hS "/claim/cut.py" 172),hE P "__cached__" 174 .none,hE P "PatchError" 206 (.ref 24),hE P "NoBoard" 222 (.ref 37),hE P "NoWays" 238 (.ref 49),hE P "NoCell" 254 (.ref 61),hE P "NoLetter" 270 (.ref 73),hE P "NoNumber" 286 (.ref 85),hE P "NoFit" 302 (.ref 97),hE P "Nothing" 318 (.ref 109),hE P "LETTERS" 322 (hS "abcdef" 321),hE P "MOST_ROWS" 324 (.int 8 323),hE P "MOST_COLUMNS" 326 (.int 8 325),hE P "is_whole" 333 (.ref 118),hE P "is_letter" 340 (.ref 125),hE P "is_row" 346 (.ref 130),hE P "is_board" 352 (.ref 135),hE P "is_cell" 360 (.ref 142),hE P "need_board" 367 (.ref 149),hE P "need_cell" 375 (.ref 156),hE P "need_ways" 382 (.ref 163),hE P "cells_of_row" 388 (.ref 168),hE P "all_cells" 397 (.ref 175),hE P "letter_of" 405 (.ref 182),hE P "are_next" 416 (.ref 189),hE P "next_cells" 428 (.ref 196),hE P "keyed" 437 (.ref 203),hE P "like_cells" 445 (.ref 208),hE P "steps_back" 459 (.ref 215),hE P "all_patches" 471 (.ref 222),hE P "numbers_of" 482 (.ref 229),hE P "patch_of" 491 (.ref 236),hE P "patches" 499 (.ref 243),hE P "how_many" 507 (.ref 250),hE P "numbered" 513 (.ref 255),hE P "_law_cell" 523 (.ref 262),hE P "_law_drawn" 533 (.ref 269),hE P "_law_board" 539 (.ref 274),hE P "_law_cells" 545 (.ref 279),hE P "_law_beside" 560 (.ref 286),hE P "_law_labels" 566 (.ref 291),hE P "_law_patches" 572 (.ref 296),hE P "_law_refused" 580 (.ref 303),hE P "_law_told" 591 (.ref 310),hE P "law" 597 (.ref 315)] 52})::
 (nat_lit 15,hT #[.type "ValueError"])::
 (nat_lit 22,hT #[])::
 (nat_lit 23,{cls:= .type "dict",data:=Data.dict #[hE P "__module__" 196 (hS "cellpatches.errors" 187),hE P "__firstlineno__" 200 (.int 2 199),hE P "__static_attributes__" 201 (.ref 22),hE P "__weakref__" 203 (.ref 25),hE P "__doc__" 204 .none] 3})::
 (nat_lit 24,{cls:= .type "type",data:=Data.cls {name:=Str.ofString "PatchError",bases:=[.type "ValueError"],mro:=[.ref 24, .type "ValueError", .type "Exception", .type "BaseException", .type "object"],ns:=23,qualname:=Str.ofString "PatchError",subclasses:=[.ref 37, .ref 49, .ref 61, .ref 73, .ref 85, .ref 97, .ref 109]},slots:= #[some (.ref 15),none,some (hS "PatchError" 189),some (hS "PatchError" 197),some (.builtin "ValueError.__new__"),some (.bool true)]})::
 (nat_lit 25,{cls:= .type "getset_descriptor",data:=Data.fields #[hS "__weakref__" 202, .ref 24, .builtin "ExceptionGroup.__weakref__", .none]})::
 (nat_lit 28,hT #[.ref 24])::
 (nat_lit 35,hT #[])::
 (nat_lit 36,{cls:= .type "dict",data:=Data.dict #[hE P "__module__" 214 (hS "cellpatches.errors" 187),hE P "__firstlineno__" 218 (.int 4 217),hE P "__static_attributes__" 219 (.ref 35),hE P "__doc__" 220 .none] 2})::
 (nat_lit 37,{cls:= .type "type",data:=Data.cls {name:=Str.ofString "NoBoard",bases:=[.ref 24],mro:=[.ref 37, .ref 24, .type "ValueError", .type "Exception", .type "BaseException", .type "object"],ns:=36,qualname:=Str.ofString "NoBoard"},slots:= #[some (.ref 28),none,some (hS "NoBoard" 207),some (hS "NoBoard" 215),some (.builtin "ValueError.__new__"),some (.bool true)]})::
 (nat_lit 40,hT #[.ref 24])::
 (nat_lit 47,hT #[])::
 (nat_lit 48,{cls:= .type "dict",data:=Data.dict #[hE P "__module__" 230 (hS "cellpatches.errors" 187),hE P "__firstlineno__" 234 (.int 6 233),hE P "__static_attributes__" 235 (.ref 47),hE P "__doc__" 236 .none] 2})::
 (nat_lit 49,{cls:= .type "type",data:=Data.cls {name:=Str.ofString "NoWays",bases:=[.ref 24],mro:=[.ref 49, .ref 24, .type "ValueError", .type "Exception", .type "BaseException", .type "object"],ns:=48,qualname:=Str.ofString "NoWays"},slots:= #[some (.ref 40),none,some (hS "NoWays" 223),some (hS "NoWays" 231),some (.builtin "ValueError.__new__"),some (.bool true)]})::
 (nat_lit 52,hT #[.ref 24])::
 (nat_lit 59,hT #[])::
 (nat_lit 60,{cls:= .type "dict",data:=Data.dict #[hE P "__module__" 246 (hS "cellpatches.errors" 187),hE P "__firstlineno__" 250 (.int 8 249),hE P "__static_attributes__" 251 (.ref 59),hE P "__doc__" 252 .none] 2})::
 (nat_lit 61,{cls:= .type "type",data:=Data.cls {name:=Str.ofString "NoCell",bases:=[.ref 24],mro:=[.ref 61, .ref 24, .type "ValueError", .type "Exception", .type "BaseException", .type "object"],ns:=60,qualname:=Str.ofString "NoCell"},slots:= #[some (.ref 52),none,some (hS "NoCell" 239),some (hS "NoCell" 247),some (.builtin "ValueError.__new__"),some (.bool true)]})::
 (nat_lit 64,hT #[.ref 24])::
 (nat_lit 71,hT #[])::
 (nat_lit 72,{cls:= .type "dict",data:=Data.dict #[hE P "__module__" 262 (hS "cellpatches.errors" 187),hE P "__firstlineno__" 266 (.int 10 265),hE P "__static_attributes__" 267 (.ref 71),hE P "__doc__" 268 .none] 2})::
 (nat_lit 73,{cls:= .type "type",data:=Data.cls {name:=Str.ofString "NoLetter",bases:=[.ref 24],mro:=[.ref 73, .ref 24, .type "ValueError", .type "Exception", .type "BaseException", .type "object"],ns:=72,qualname:=Str.ofString "NoLetter"},slots:= #[some (.ref 64),none,some (hS "NoLetter" 255),some (hS "NoLetter" 263),some (.builtin "ValueError.__new__"),some (.bool true)]})::
 (nat_lit 76,hT #[.ref 24])::
 (nat_lit 83,hT #[])::
 (nat_lit 84,{cls:= .type "dict",data:=Data.dict #[hE P "__module__" 278 (hS "cellpatches.errors" 187),hE P "__firstlineno__" 282 (.int 12 281),hE P "__static_attributes__" 283 (.ref 83),hE P "__doc__" 284 .none] 2})::
 (nat_lit 85,{cls:= .type "type",data:=Data.cls {name:=Str.ofString "NoNumber",bases:=[.ref 24],mro:=[.ref 85, .ref 24, .type "ValueError", .type "Exception", .type "BaseException", .type "object"],ns:=84,qualname:=Str.ofString "NoNumber"},slots:= #[some (.ref 76),none,some (hS "NoNumber" 271),some (hS "NoNumber" 279),some (.builtin "ValueError.__new__"),some (.bool true)]})::
 (nat_lit 88,hT #[.ref 24])::
 (nat_lit 95,hT #[])::
 (nat_lit 96,{cls:= .type "dict",data:=Data.dict #[hE P "__module__" 294 (hS "cellpatches.errors" 187),hE P "__firstlineno__" 298 (.int 14 297),hE P "__static_attributes__" 299 (.ref 95),hE P "__doc__" 300 .none] 2})::
 (nat_lit 97,{cls:= .type "type",data:=Data.cls {name:=Str.ofString "NoFit",bases:=[.ref 24],mro:=[.ref 97, .ref 24, .type "ValueError", .type "Exception", .type "BaseException", .type "object"],ns:=96,qualname:=Str.ofString "NoFit"},slots:= #[some (.ref 88),none,some (hS "NoFit" 287),some (hS "NoFit" 295),some (.builtin "ValueError.__new__"),some (.bool true)]})::
 (nat_lit 100,hT #[.ref 24])::
 (nat_lit 107,hT #[])::
 (nat_lit 108,{cls:= .type "dict",data:=Data.dict #[hE P "__module__" 310 (hS "cellpatches.errors" 187),hE P "__firstlineno__" 314 (.int 16 313),hE P "__static_attributes__" 315 (.ref 107),hE P "__doc__" 316 .none] 2})::
 (nat_lit 109,{cls:= .type "type",data:=Data.cls {name:=Str.ofString "Nothing",bases:=[.ref 24],mro:=[.ref 109, .ref 24, .type "ValueError", .type "Exception", .type "BaseException", .type "object"],ns:=108,qualname:=Str.ofString "Nothing"},slots:= #[some (.ref 100),none,some (hS "Nothing" 303),some (hS "Nothing" 311),some (.builtin "ValueError.__new__"),some (.bool true)]})::
 (nat_lit 112,hT #[])::
 (nat_lit 114,hT #[hS "thing" 330])::
 (nat_lit 115,hT #[])::
 (nat_lit 117,{cls:= .type "code",data:=Data.fields #[hS "is_whole" 327,hS "is_whole" 328,hS "/claim/cut.py" 329, .int 22 0, .int 1 0, .int 0 0, .int 0 0, .int 3 0, .ref 112, .bool true, .int 181 0, .ref 113, .none, .ref 114, .ref 115, .ref 116, .int 331 0, .int 22 0,hS "/claim/cut.py" 332]})::
 (nat_lit 118,hF "is_whole" (top 13) (hS "cellpatches.boards" 319) 117)::
 (nat_lit 119,hT #[])::
 (nat_lit 121,hT #[hS "thing" 337])::
 (nat_lit 122,hT #[])::
 (nat_lit 124,{cls:= .type "code",data:=Data.fields #[hS "is_letter" 334,hS "is_letter" 335,hS "/claim/cut.py" 336, .int 24 0, .int 1 0, .int 0 0, .int 0 0, .int 3 0, .ref 119, .bool true, .int 181 0, .ref 120, .none, .ref 121, .ref 122, .ref 123, .int 338 0, .int 24 0,hS "/claim/cut.py" 339]})::
 (nat_lit 125,hF "is_letter" (top 14) (hS "cellpatches.boards" 319) 124)::
 (nat_lit 126,hT #[])::
 (nat_lit 129,{cls:= .type "code",data:=Data.fields #[hS "is_row" 341,hS "is_row" 342,hS "/claim/cut.py" 343, .int 26 0, .int 1 0, .int 0 0, .int 0 0, .int 3 0, .ref 126, .bool true, .int 181 0, .ref 127, .none, .none, .none, .ref 128, .int 344 0, .int 26 0,hS "/claim/cut.py" 345]})::
 (nat_lit 130,hF "is_row" (top 15) (hS "cellpatches.boards" 319) 129)::
 (nat_lit 131,hT #[])::
 (nat_lit 134,{cls:= .type "code",data:=Data.fields #[hS "is_board" 347,hS "is_board" 348,hS "/claim/cut.py" 349, .int 30 0, .int 1 0, .int 0 0, .int 0 0, .int 3 0, .ref 131, .bool true, .int 181 0, .ref 132, .none, .none, .none, .ref 133, .int 350 0, .int 30 0,hS "/claim/cut.py" 351]})::
 (nat_lit 135,hF "is_board" (top 16) (hS "cellpatches.boards" 319) 134)::
 (nat_lit 136,hT #[])::
 (nat_lit 138,hT #[hS "board" 356,hS "thing" 357])::
 (nat_lit 139,hT #[])::
 (nat_lit 141,{cls:= .type "code",data:=Data.fields #[hS "is_cell" 353,hS "is_cell" 354,hS "/claim/cut.py" 355, .int 36 0, .int 2 0, .int 0 0, .int 0 0, .int 3 0, .ref 136, .bool true, .int 181 0, .ref 137, .none, .ref 138, .ref 139, .ref 140, .int 358 0, .int 36 0,hS "/claim/cut.py" 359]})::
 (nat_lit 142,hF "is_cell" (top 17) (hS "cellpatches.boards" 319) 141)::
 (nat_lit 143,hT #[])::
 (nat_lit 145,hT #[hS "thing" 364])::
 (nat_lit 146,hT #[])::
 (nat_lit 148,{cls:= .type "code",data:=Data.fields #[hS "need_board" 361,hS "need_board" 362,hS "/claim/cut.py" 363, .int 42 0, .int 1 0, .int 0 0, .int 0 0, .int 3 0, .ref 143, .bool true, .int 181 0, .ref 144, .none, .ref 145, .ref 146, .ref 147, .int 365 0, .int 42 0,hS "/claim/cut.py" 366]})::
 (nat_lit 149,hF "need_board" (top 18) (hS "cellpatches.boards" 319) 148)::
 (nat_lit 150,hT #[])::
 (nat_lit 152,hT #[hS "board" 371,hS "thing" 372])::
 (nat_lit 153,hT #[])::
 (nat_lit 155,{cls:= .type "code",data:=Data.fields #[hS "need_cell" 368,hS "need_cell" 369,hS "/claim/cut.py" 370, .int 45 0, .int 2 0, .int 0 0, .int 0 0, .int 3 0, .ref 150, .bool true, .int 181 0, .ref 151, .none, .ref 152, .ref 153, .ref 154, .int 373 0, .int 45 0,hS "/claim/cut.py" 374]})::
 (nat_lit 156,hF "need_cell" (top 19) (hS "cellpatches.boards" 319) 155)::
 (nat_lit 157,hT #[])::
 (nat_lit 159,hT #[hS "thing" 379])::
 (nat_lit 160,hT #[])::
 (nat_lit 162,{cls:= .type "code",data:=Data.fields #[hS "need_ways" 376,hS "need_ways" 377,hS "/claim/cut.py" 378, .int 48 0, .int 1 0, .int 0 0, .int 0 0, .int 3 0, .ref 157, .bool true, .int 181 0, .ref 158, .none, .ref 159, .ref 160, .ref 161, .int 380 0, .int 48 0,hS "/claim/cut.py" 381]})::
 (nat_lit 163,hF "need_ways" (top 20) (hS "cellpatches.boards" 319) 162)::
 (nat_lit 164,hT #[])::
 (nat_lit 167,{cls:= .type "code",data:=Data.fields #[hS "cells_of_row" 383,hS "cells_of_row" 384,hS "/claim/cut.py" 385, .int 51 0, .int 2 0, .int 0 0, .int 0 0, .int 3 0, .ref 164, .bool true, .int 181 0, .ref 165, .none, .none, .none, .ref 166, .int 386 0, .int 51 0,hS "/claim/cut.py" 387]})::
 (nat_lit 168,hF "cells_of_row" (top 21) (hS "cellpatches.boards" 319) 167)::
 (nat_lit 169,hT #[])::
 (nat_lit 171,hT #[hS "board" 392,hS "found" 393,hS "row" 394])::
 (nat_lit 172,hT #[])::
 (nat_lit 174,{cls:= .type "code",data:=Data.fields #[hS "all_cells" 389,hS "all_cells" 390,hS "/claim/cut.py" 391, .int 53 0, .int 1 0, .int 0 0, .int 0 0, .int 3 0, .ref 169, .bool true, .int 181 0, .ref 170, .none, .ref 171, .ref 172, .ref 173, .int 395 0, .int 53 0,hS "/claim/cut.py" 396]})::
 (nat_lit 175,hF "all_cells" (top 22) (hS "cellpatches.boards" 319) 174)::
 (nat_lit 176,hT #[])::
 (nat_lit 178,hT #[hS "board" 401,hS "cell" 402])::
 (nat_lit 179,hT #[])::
 (nat_lit 181,{cls:= .type "code",data:=Data.fields #[hS "letter_of" 398,hS "letter_of" 399,hS "/claim/cut.py" 400, .int 58 0, .int 2 0, .int 0 0, .int 0 0, .int 3 0, .ref 176, .bool true, .int 181 0, .ref 177, .none, .ref 178, .ref 179, .ref 180, .int 403 0, .int 58 0,hS "/claim/cut.py" 404]})::
 (nat_lit 182,hF "letter_of" (top 23) (hS "cellpatches.boards" 319) 181)::
 (nat_lit 183,hT #[])::
 (nat_lit 185,hT #[hS "one" 409,hS "other" 410,hS "ways" 411,hS "down" 412,hS "along" 413])::
 (nat_lit 186,hT #[])::
 (nat_lit 188,{cls:= .type "code",data:=Data.fields #[hS "are_next" 406,hS "are_next" 407,hS "/claim/cut.py" 408, .int 60 0, .int 3 0, .int 0 0, .int 0 0, .int 3 0, .ref 183, .bool true, .int 181 0, .ref 184, .none, .ref 185, .ref 186, .ref 187, .int 414 0, .int 60 0,hS "/claim/cut.py" 415]})::
 (nat_lit 189,hF "are_next" (top 24) (hS "cellpatches.boards" 319) 188)::
 (nat_lit 190,hT #[])::
 (nat_lit 192,hT #[hS "board" 420,hS "cell" 421,hS "ways" 422,hS "found" 423,hS "row" 424,hS "column" 425])::
 (nat_lit 193,hT #[])::
 (nat_lit 195,{cls:= .type "code",data:=Data.fields #[hS "next_cells" 417,hS "next_cells" 418,hS "/claim/cut.py" 419, .int 66 0, .int 3 0, .int 0 0, .int 0 0, .int 3 0, .ref 190, .bool true, .int 181 0, .ref 191, .none, .ref 192, .ref 193, .ref 194, .int 426 0, .int 66 0,hS "/claim/cut.py" 427]})::
 (nat_lit 196,hF "next_cells" (top 25) (hS "cellpatches.boards" 319) 195)::
 (nat_lit 197,hT #[])::
 (nat_lit 199,hT #[hS "things" 432,hS "found" 433,hS "thing" 434])::
 (nat_lit 200,hT #[])::
 (nat_lit 202,{cls:= .type "code",data:=Data.fields #[hS "keyed" 429,hS "keyed" 430,hS "/claim/cut.py" 431, .int 73 0, .int 1 0, .int 0 0, .int 0 0, .int 3 0, .ref 197, .bool true, .int 181 0, .ref 198, .none, .ref 199, .ref 200, .ref 201, .int 435 0, .int 73 0,hS "/claim/cut.py" 436]})::
 (nat_lit 203,hF "keyed" (top 26) (hS "cellpatches.boards" 319) 202)::
 (nat_lit 204,hT #[])::
 (nat_lit 207,{cls:= .type "code",data:=Data.fields #[hS "like_cells" 440,hS "like_cells" 441,hS "/claim/cut.py" 442, .int 79 0, .int 3 0, .int 0 0, .int 0 0, .int 3 0, .ref 204, .bool true, .int 181 0, .ref 205, .none, .none, .none, .ref 206, .int 443 0, .int 79 0,hS "/claim/cut.py" 444]})::
 (nat_lit 208,hF "like_cells" (top 28) (hS "cellpatches.patches" 438) 207)::
 (nat_lit 209,hT #[])::
 (nat_lit 211,hT #[hS "board" 449,hS "start" 450,hS "ways" 451,hS "back" 452,hS "ring" 453,hS "further" 454,hS "cell" 455,hS "near" 456])::
 (nat_lit 212,hT #[])::
 (nat_lit 214,{cls:= .type "code",data:=Data.fields #[hS "steps_back" 446,hS "steps_back" 447,hS "/claim/cut.py" 448, .int 82 0, .int 3 0, .int 0 0, .int 0 0, .int 3 0, .ref 209, .bool true, .int 181 0, .ref 210, .none, .ref 211, .ref 212, .ref 213, .int 457 0, .int 82 0,hS "/claim/cut.py" 458]})::
 (nat_lit 215,hF "steps_back" (top 29) (hS "cellpatches.patches" 438) 214)::
 (nat_lit 216,hT #[])::
 (nat_lit 218,hT #[hS "board" 463,hS "ways" 464,hS "found" 465,hS "seen" 466,hS "cell" 467,hS "patch" 468])::
 (nat_lit 219,hT #[])::
 (nat_lit 221,{cls:= .type "code",data:=Data.fields #[hS "all_patches" 460,hS "all_patches" 461,hS "/claim/cut.py" 462, .int 94 0, .int 2 0, .int 0 0, .int 0 0, .int 3 0, .ref 216, .bool true, .int 181 0, .ref 217, .none, .ref 218, .ref 219, .ref 220, .int 469 0, .int 94 0,hS "/claim/cut.py" 470]})::
 (nat_lit 222,hF "all_patches" (top 30) (hS "cellpatches.patches" 438) 221)::
 (nat_lit 223,hT #[])::
 (nat_lit 225,hT #[hS "found" 475,hS "numbers" 476,hS "number" 477,hS "patch" 478,hS "cell" 479])::
 (nat_lit 226,hT #[])::
 (nat_lit 228,{cls:= .type "code",data:=Data.fields #[hS "numbers_of" 472,hS "numbers_of" 473,hS "/claim/cut.py" 474, .int 103 0, .int 1 0, .int 0 0, .int 0 0, .int 3 0, .ref 223, .bool true, .int 181 0, .ref 224, .none, .ref 225, .ref 226, .ref 227, .int 480 0, .int 103 0,hS "/claim/cut.py" 481]})::
 (nat_lit 229,hF "numbers_of" (top 31) (hS "cellpatches.patches" 438) 228)::
 (nat_lit 230,hT #[])::
 (nat_lit 232,hT #[hS "board" 486,hS "cell" 487,hS "ways" 488])::
 (nat_lit 233,hT #[])::
 (nat_lit 235,{cls:= .type "code",data:=Data.fields #[hS "patch_of" 483,hS "patch_of" 484,hS "/claim/cut.py" 485, .int 109 0, .int 3 0, .int 0 0, .int 0 0, .int 3 0, .ref 230, .bool true, .int 181 0, .ref 231, .none, .ref 232, .ref 233, .ref 234, .int 489 0, .int 109 0,hS "/claim/cut.py" 490]})::
 (nat_lit 236,hF "patch_of" (top 32) (hS "cellpatches.patches" 438) 235)::
 (nat_lit 237,hT #[])::
 (nat_lit 239,hT #[hS "board" 495,hS "ways" 496])::
 (nat_lit 240,hT #[])::
 (nat_lit 242,{cls:= .type "code",data:=Data.fields #[hS "patches" 492,hS "patches" 493,hS "/claim/cut.py" 494, .int 114 0, .int 2 0, .int 0 0, .int 0 0, .int 3 0, .ref 237, .bool true, .int 181 0, .ref 238, .none, .ref 239, .ref 240, .ref 241, .int 497 0, .int 114 0,hS "/claim/cut.py" 498]})::
 (nat_lit 243,hF "patches" (top 33) (hS "cellpatches.patches" 438) 242)::
 (nat_lit 244,hT #[])::
 (nat_lit 246,hT #[hS "board" 503,hS "ways" 504])::
 (nat_lit 247,hT #[])::
 (nat_lit 249,{cls:= .type "code",data:=Data.fields #[hS "how_many" 500,hS "how_many" 501,hS "/claim/cut.py" 502, .int 118 0, .int 2 0, .int 0 0, .int 0 0, .int 3 0, .ref 244, .bool true, .int 181 0, .ref 245, .none, .ref 246, .ref 247, .ref 248, .int 505 0, .int 118 0,hS "/claim/cut.py" 506]})::
 (nat_lit 250,hF "how_many" (top 34) (hS "cellpatches.patches" 438) 249)::
 (nat_lit 251,hT #[])::
 (nat_lit 254,{cls:= .type "code",data:=Data.fields #[hS "numbered" 508,hS "numbered" 509,hS "/claim/cut.py" 510, .int 122 0, .int 2 0, .int 0 0, .int 0 0, .int 3 0, .ref 251, .bool true, .int 181 0, .ref 252, .none, .none, .none, .ref 253, .int 511 0, .int 122 0,hS "/claim/cut.py" 512]})::
 (nat_lit 255,hF "numbered" (top 35) (hS "cellpatches.patches" 438) 254)::
 (nat_lit 256,hT #[])::
 (nat_lit 258,hT #[hS "_law_script" 519,hS "_law_k" 520])::
 (nat_lit 259,hT #[])::
 (nat_lit 261,{cls:= .type "code",data:=Data.fields #[hS "_law_cell" 516,hS "_law_cell" 517,hS "/claim/cut.py" 518, .int 131 0, .int 2 0, .int 0 0, .int 0 0, .int 3 0, .ref 256, .bool true, .int 181 0, .ref 257, .none, .ref 258, .ref 259, .ref 260, .int 521 0, .int 131 0,hS "/claim/cut.py" 522]})::
 (nat_lit 262,hF "_law_cell" (top 37) (hS "law_cellpatches_k10_patches" 514) 261)::
 (nat_lit 263,hT #[])::
 (nat_lit 265,hT #[hS "_law_script" 527,hS "_law_k" 528,hS "_law_many" 529,hS "_law_cell_here" 530])::
 (nat_lit 266,hT #[])::
 (nat_lit 268,{cls:= .type "code",data:=Data.fields #[hS "_law_drawn" 524,hS "_law_drawn" 525,hS "/claim/cut.py" 526, .int 135 0, .int 3 0, .int 0 0, .int 0 0, .int 3 0, .ref 263, .bool true, .int 181 0, .ref 264, .none, .ref 265, .ref 266, .ref 267, .int 531 0, .int 135 0,hS "/claim/cut.py" 532]})::
 (nat_lit 269,hF "_law_drawn" (top 38) (hS "law_cellpatches_k10_patches" 514) 268)::
 (nat_lit 270,hT #[])::
 (nat_lit 273,{cls:= .type "code",data:=Data.fields #[hS "_law_board" 534,hS "_law_board" 535,hS "/claim/cut.py" 536, .int 139 0, .int 3 0, .int 0 0, .int 0 0, .int 3 0, .ref 270, .bool true, .int 181 0, .ref 271, .none, .none, .none, .ref 272, .int 537 0, .int 139 0,hS "/claim/cut.py" 538]})::
 (nat_lit 274,hF "_law_board" (top 39) (hS "law_cellpatches_k10_patches" 514) 273)::
 (nat_lit 275,hT #[])::
 (nat_lit 278,{cls:= .type "code",data:=Data.fields #[hS "_law_cells" 540,hS "_law_cells" 541,hS "/claim/cut.py" 542, .int 148 0, .int 1 0, .int 0 0, .int 0 0, .int 3 0, .ref 275, .bool true, .int 181 0, .ref 276, .none, .none, .none, .ref 277, .int 543 0, .int 148 0,hS "/claim/cut.py" 544]})::
 (nat_lit 279,hF "_law_cells" (top 40) (hS "law_cellpatches_k10_patches" 514) 278)::
 (nat_lit 280,hT #[])::
 (nat_lit 282,hT #[hS "_law_board_here" 549,hS "_law_cell_here" 550,hS "_law_ways" 551,hS "_law_found" 552,hS "_law_down" 553,hS "_law_right" 554,hS "_law_row" 555,hS "_law_column" 556,hS "_law_inside" 557])::
 (nat_lit 283,hT #[])::
 (nat_lit 285,{cls:= .type "code",data:=Data.fields #[hS "_law_beside" 546,hS "_law_beside" 547,hS "/claim/cut.py" 548, .int 153 0, .int 3 0, .int 0 0, .int 0 0, .int 3 0, .ref 280, .bool true, .int 181 0, .ref 281, .none, .ref 282, .ref 283, .ref 284, .int 558 0, .int 153 0,hS "/claim/cut.py" 559]})::
 (nat_lit 286,hF "_law_beside" (top 41) (hS "law_cellpatches_k10_patches" 514) 285)::
 (nat_lit 287,hT #[])::
 (nat_lit 290,{cls:= .type "code",data:=Data.fields #[hS "_law_labels" 561,hS "_law_labels" 562,hS "/claim/cut.py" 563, .int 163 0, .int 2 0, .int 0 0, .int 0 0, .int 3 0, .ref 287, .bool true, .int 181 0, .ref 288, .none, .none, .none, .ref 289, .int 564 0, .int 163 0,hS "/claim/cut.py" 565]})::
 (nat_lit 291,hF "_law_labels" (top 42) (hS "law_cellpatches_k10_patches" 514) 290)::
 (nat_lit 292,hT #[])::
 (nat_lit 295,{cls:= .type "code",data:=Data.fields #[hS "_law_patches" 567,hS "_law_patches" 568,hS "/claim/cut.py" 569, .int 181 0, .int 2 0, .int 0 0, .int 0 0, .int 3 0, .ref 292, .bool true, .int 181 0, .ref 293, .none, .none, .none, .ref 294, .int 570 0, .int 181 0,hS "/claim/cut.py" 571]})::
 (nat_lit 296,hF "_law_patches" (top 43) (hS "law_cellpatches_k10_patches" 514) 295)::
 (nat_lit 297,hT #[])::
 (nat_lit 299,hT #[hS "_law_e" 576,hS "_law_flags" 577])::
 (nat_lit 300,hT #[])::
 (nat_lit 302,{cls:= .type "code",data:=Data.fields #[hS "_law_refused" 573,hS "_law_refused" 574,hS "/claim/cut.py" 575, .int 187 0, .int 1 0, .int 0 0, .int 0 0, .int 3 0, .ref 297, .bool true, .int 181 0, .ref 298, .none, .ref 299, .ref 300, .ref 301, .int 578 0, .int 187 0,hS "/claim/cut.py" 579]})::
 (nat_lit 303,hF "_law_refused" (top 44) (hS "law_cellpatches_k10_patches" 514) 302)::
 (nat_lit 304,hT #[])::
 (nat_lit 306,hT #[hS "_law_which" 584,hS "_law_board_here" 585,hS "_law_cell_here" 586,hS "_law_ways" 587,hS "_law_e" 588])::
 (nat_lit 307,hT #[])::
 (nat_lit 309,{cls:= .type "code",data:=Data.fields #[hS "_law_told" 581,hS "_law_told" 582,hS "/claim/cut.py" 583, .int 194 0, .int 4 0, .int 0 0, .int 0 0, .int 3 0, .ref 304, .bool true, .int 181 0, .ref 305, .none, .ref 306, .ref 307, .ref 308, .int 589 0, .int 194 0,hS "/claim/cut.py" 590]})::
 (nat_lit 310,hF "_law_told" (top 45) (hS "law_cellpatches_k10_patches" 514) 309)::
 (nat_lit 311,hT #[])::
 (nat_lit 314,{cls:= .type "code",data:=Data.fields #[hS "law" 592,hS "law" 593,hS "/claim/cut.py" 594, .int 201 0, .int 1 0, .int 0 0, .int 0 0, .int 3 0, .ref 311, .bool true, .int 181 0, .ref 312, .none, .none, .none, .ref 313, .int 595 0, .int 201 0,hS "/claim/cut.py" 596]})::
 (nat_lit 315,hF "law" (top 46) (hS "law_cellpatches_k10_patches" 514) 314)::[]
def mH:List Nat:=[2,3,15,22,23,24,25,28,35,36,37,40,47,48,49,52,59,60,61,64,71,72,73,76,83,84,85,88,95,96,97,100,107,108,109,112,114,115,117,118,119,121,122,124,125,126,129,130,131,134,135,136,138,139,141,142,143,145,146,148,149,150,152,153,155,156,157,159,160,162,163,164,167,168,169,171,172,174,175,176,178,179,181,182,183,185,186,188,189,190,192,193,195,196,197,199,200,202,203,204,207,208,209,211,212,214,215,216,218,219,221,222,223,225,226,228,229,230,232,233,235,236,237,239,240,242,243,244,246,247,249,250,251,254,255,256,258,259,261,262,263,265,266,268,269,270,273,274,275,278,279,280,282,283,285,286,287,290,291,292,295,296,297,299,300,302,303,304,306,307,309,310,311,314,315]
def sI:Program:={PySem.Challenge.pw_cellpatches_k10_patches with main:={PySem.Challenge.pw_cellpatches_k10_patches.main with body:=[top 1,top 2,top 3,top 4,top 5,top 6,top 7,top 8,top 10,top 11,top 12,top 13,top 14,top 15,top 16,top 17,top 18,top 19,top 20,top 21,top 22,top 23,top 24,top 25,top 26,top 28,top 29,top 30,top 31,top 32,top 33,top 34,top 35,top 37,top 38,top 39,top 40,top 41,top 42,top 43,top 44,top 45,top 46]} }
open PySem.W PyProof.Rows in
set_option maxHeartbeats 0 in
theorem CY:LeftO PySem.Challenge.rw_cellpatches_k10_patches.row.prog sI [] (fun s=>xlAt sI [] s&&recOk PySem.Challenge.rw_cellpatches_k10_patches.row.records s) (kHook mx mH (fun _=>by kernel_rfl)).obs (kHook mx mH (fun _=>by kernel_rfl)).val 5508:=fun w=>by kernel_rfl
end K1
namespace L2
open PySem PySem.Spec PyProof.Rows
abbrev Key:=Sum Int Str
def mi:Key→Value→Bool
 | .inl k,v=>Value.isInt k v
 | .inr x,v=>Value.isStrOf x v
def C9 (w:World):Key→Int
 | .inl k=>hashInt k
 | .inr x=>hashStr w x
theorem bQ:∀{k:Key}{v:Value},mi k v=true→(∃i t,k=Sum.inl i∧v=Value.int i t)∨(∃x t,k=Sum.inr x∧v=Value.str x t)
 | .inl i,v,h=>by
   obtain⟨t,e⟩:=Value.isInt_shape (k:=i) (v:=v) h
   exact .inl ⟨i,t,rfl,e⟩
 | .inr x,v,h=>by
   obtain⟨t,e⟩:=Value.isStrOf_shape (x:=x) (v:=v) h
   exact .inr ⟨x,t,rfl,e⟩
theorem wo (i:Int) (t:Tok):mi (.inl i) (.int i t)=true:=by simp[mi,Value.isInt]
theorem wO (x:Str) (t:Tok):mi (.inr x) (.str x t)=true:=by simp[mi,Value.isStrOf]
theorem B8 (a b:Int):decide ((Sum.inl a:Key)=Sum.inl b)=(a==b):=by
 by_cases e:a=b
 ·subst e;simp
 ·have h:¬(Sum.inl a:Key)=Sum.inl b:=fun q=>e (Sum.inl.inj q)
  rw[decide_eq_false h]
  exact(beq_eq_false_iff_ne.mpr e).symm
theorem BI (a b:Str):decide ((Sum.inr a:Key)=Sum.inr b)=decide (a=b):=by
 by_cases e:a=b
 ·subst e;simp
 ·have h:¬(Sum.inr a:Key)=Sum.inr b:=fun q=>e (Sum.inr.inj q)
  rw[decide_eq_false h,decide_eq_false e]
theorem CN (a:Int) (b:Str):decide ((Sum.inl a:Key)=Sum.inr b)=false:=decide_eq_false (fun q=>nomatch q)
theorem B1 (a:Str) (b:Int):decide ((Sum.inr a:Key)=Sum.inl b)=false:=decide_eq_false (fun q=>nomatch q)
def aP (prog:Program) (w:World):PySem.KeyKind prog w Key where
 is:=mi
 hash:=C9 w
 inj:=fun v a b ha hb=>by
  rcases bQ ha with⟨i,t,rfl,rfl⟩ | ⟨x,t,rfl,rfl⟩
  ·rcases bQ hb with⟨j,u,rfl,e⟩ | ⟨y,u,rfl,e⟩
   ·injection e with e1 _;rw[e1]
   ·exact nomatch e
  ·rcases bQ hb with⟨j,u,rfl,e⟩ | ⟨y,u,rfl,e⟩
   ·exact nomatch e
   ·injection e with e1 _;rw[e1]
 byValue:=fun k v h=>by
  rcases bQ h with⟨i,t,rfl,rfl⟩ | ⟨x,t,rfl,rfl⟩<;>rfl
 pyHash:=fun hv h=>by
  rcases bQ hv with⟨i,t,rfl,rfl⟩ | ⟨x,t,rfl,rfl⟩
  ·exact wpAny_pyHash_int h
  ·exact wpAny_pyHash_str h
 eqBool:=fun hu hv h=>by
  rcases bQ hu with⟨i,t,rfl,rfl⟩ | ⟨x,t,rfl,rfl⟩
  ·rcases bQ hv with⟨j,u,rfl,rfl⟩ | ⟨y,u,rfl,rfl⟩
   ·rw[B8] at h;exact wpAny_eqBool_int h
   ·rw[CN] at h;exact SeqAt.EqAt.int_str i t y u _ _ _ _ h
  ·rcases bQ hv with⟨j,u,rfl,rfl⟩ | ⟨y,u,rfl,rfl⟩
   ·rw[B1] at h;exact SeqAt.EqAt.str_int x t j u _ _ _ _ h
   ·rw[BI] at h;exact wpAny_eqBool_str h
 «strs» :=fun k x t v h=>by
  rcases bQ h with⟨i,u,rfl,e⟩ | ⟨y,u,rfl,e⟩
  ·exact nomatch e
  ·injection e with e1 _
   subst e1
   cases v<;>rfl
theorem sX (prog:Program) (w:World) (i:Int) (t:Tok):(aP prog w).is (.inl i) (.int i t)=true:=wo i t
theorem tL (prog:Program) (w:World) (x:Str) (t:Tok):(aP prog w).is (.inr x) (.str x t)=true:=wO x t
end L2
namespace L2
open PySem PySem.Spec PyProof.Rows
inductive V where
 |non | bl (b:Bool) | int (i:Int) | str (x:Str) | byt (b:Array UInt8) | flt (b:UInt64) | ref (a:Addr) | ty (n:String)
 deriving DecidableEq
def RelV:V→Value→Prop
 | .non,u=>u=Value.none
 | .bl b,u=>u=Value.bool b
 | .int i,u=>∃t,u=Value.int i t
 | .str x,u=>∃t,u=Value.str x t
 | .byt b,u=>∃t,u=Value.bytes b t
 | .flt b,u=>∃t,u=Value.float b t
 | .ref a,u=>u=Value.ref a
 | .ty n,u=>u=Value.type n
abbrev Vals:List V→List Value→Prop:=Paired RelV
theorem Vals.length {xs:List V}{us:List Value}(r:Vals xs us):xs.length=us.length:=Paired.length r
theorem Vals.get:∀{xs:List V}{us:List Value}{i:Nat}{x:V},Vals xs us→xs[i]? =some x→∃u,us[i]? =some u∧RelV x u
 |_,_,_,_, .nil,e=>by simp at e
 |_,_,0,_, .cons r _,e=>by simp at e;subst e;exact⟨_,rfl,r⟩
 |_,_,i+1,x, .cons _ t,e=>by
  obtain⟨u,h1,h2⟩:=Vals.get (i:=i) (x:=x) t (by simpa using e)
  exact⟨u,by simpa using h1,h2⟩
theorem Vals.append:∀{xs ys:List V}{us ws:List Value},Vals xs us→Vals ys ws→Vals (xs++ys) (us++ws)
 |_,_,_,_, .nil,s=>s
 |_,_,_,_, .cons r t,s=> .cons r (Vals.append t s)
theorem Vals.take:∀{xs:List V}{us:List Value}(n:Nat),Vals xs us→Vals (xs.take n) (us.take n)
 |_,_,0,_=> .nil
 |_,_,_+1, .nil=> .nil
 |_,_,n+1, .cons r t=> .cons r (Vals.take n t)
theorem Vals.drop:∀{xs:List V}{us:List Value}(n:Nat),Vals xs us→Vals (xs.drop n) (us.drop n)
 |_,_,0,r=>r
 |_,_,_+1, .nil=> .nil
 |_,_,n+1, .cons _ t=>Vals.drop n t
def RelO:Option V→Option Value→Prop
 |some v,some u=>RelV v u
 |none,none=>True
 |_,_=>False
def KV {κ:Type}:List (κ×V)→List (κ×Value)→Prop:=Paired fun(p:κ×V) (q:κ×Value)=>p.1=q.1∧RelV p.2 q.2
def kV:Key→V
 | .inl i=> .int i
 | .inr x=> .str x
inductive HO where
 |lst (xs:List V)
 |tup (xs:List V)
 |dK (kvs:List (Key×V)) | dT (kvs:List (List Key×V))
 |set (S:Int→Bool) (n:Nat)
 |ins (C dx:Addr) (fs:List (Str×V))
 |own (x:Addr)
 |xd (fs:List (Str×V))
 |met (f x:Addr)
 |rng (lo hi:Int)
 |frz (o:Obj) (u:HO)
 |tbl (ps:Array Value)
 |ext (φ:Heap→Prop)
abbrev Hp:=Addr→Option HO
def upd (H:Hp) (a:Addr) (o:HO):Hp:=fun b=>if b=a then some o else H b
theorem aF {H:Hp}{a:Addr}{o:HO}:upd H a o a=some o:=by unfold upd;rw[if_pos rfl]
theorem av {H:Hp}{a b:Addr}{o:HO}(h:b≠a):upd H a o b=H b:=by unfold upd;rw[if_neg h]
theorem yn {H:Hp}{a b:Addr}{o u:HO}(h:H a=some o) (h':H b=some u) (d:o≠u):a≠b:=by
 intro e;subst e;rw[h] at h';exact d (Option.some.inj h')
theorem bb {H:Hp}{a b:Addr}{o:HO}(h:H a=some o) (h':H b=none):a≠b:=by
 intro e;subst e;rw[h] at h';cases h'
section
variable (P : Program) (w : World)
def ObjOk (H:Hp) (h:Heap) (a:Addr):HO→Prop
 | .lst xs=>xs.length≤sizeLine∧∃(its:List Value) (n:Nat),Vals xs its∧h.get? a=some {cls:= .type "list",data:= .seq its.toArray n}
 | .tup xs=>xs.length≤sizeLine∧∃its:List Value,Vals xs its∧IsTup h a its.toArray
 | .dK kvs=>kvs.length≤sizeLine∧(a==sysModules)=false∧∃vs,KV kvs vs∧h.DictOf (aP P w) a vs
 | .dT kvs=>kvs.length≤sizeLine∧(a==sysModules)=false∧∃xs:List (List Key×Addr×Value),
    Paired (fun (p:List Key×V) (q:List Key×Addr×Value)=>p.1=q.1∧H q.2.1=some (.tup (p.1.map kV))∧RelV p.2 q.2.2) kvs xs∧
    ∃o es ep,h.get? a=some o∧o.ExactDict∧o.data= .dict es ep∧es.toList=xs.map (entryOfKey (tupleKind (aP P w)))∧(xs.map (·.1)).Nodup
 | .set S n=>h.SetOf (intKind P w) a S n
 | .ins C dx fs=>H dx=some (.own a)∧fs.length≤1000∧dx≠a∧h.get? a=some (PySem.W.instObj C dx)∧
    ∃mA,h.Ns1 dx mA∧(∀f,RelO (fs.lookup f) (mA f))∧PySem.Within mA (fs.map (·.1))
 | .own _=>∃o,h.get? a=some o
 | .xd fs=>∃mA,h.Ns1 a mA∧∀f,RelO (fs.lookup f) (mA f)
 | .rng lo hi=>∃t u v,h.get? a=some {cls:= .type "range",data:= .fields #[.int lo t, .int hi u, .int 1 v]}
 | .frz o u=>h.get? a=some o∧ObjOk H h a u
 | .tbl ps=>h.get? a=some {cls:= .none,data:= .fields ps}
 | .met f x=>h.get? a=some (PySem.W.methodObj (.ref f) (.ref x))
 | .ext φ=>φ h∧(∃o,h.get? a=some o)∧∀h1 h2:Heap,φ h1→(∀o,h1.get? a=some o→h2.get? a=some o)→φ h2
def HOk (H:Hp) (h:Heap):Prop:=∀a o,H a=some o→ObjOk P w H h a o
end
section
variable {P : Program} {w : World} {H H' : Hp} {h h' : Heap} {a : Addr} {o : HO}
theorem ObjOk.lt (x:ObjOk P w H h a o):a<h.objs.size:=by
 cases o with
 |lst xs=>obtain⟨_,_,_,_,e⟩:=x;exact Heap.lt_size e
 |tup xs=>obtain⟨_,_,_,p⟩:=x;exact p.lt
 |dK kvs=>obtain⟨_,_,_,_,o,_,_,e,_⟩:=x;exact Heap.lt_size e
 |dT kvs=>obtain⟨_,_,_,_,o,_,_,e,_⟩:=x;exact Heap.lt_size e
 |set S n=>obtain⟨o,_,_,_,e,_⟩:=x;exact Heap.lt_size e
 |ins C dx fs=>obtain⟨_,_,_,e,_⟩:=x;exact Heap.lt_size e
 |own y=>obtain⟨_,e⟩:=x;exact Heap.lt_size e
 |xd fs=>obtain⟨_,⟨_,_,_,e,_⟩,_⟩:=x;exact Heap.lt_size e
 |rng lo hi=>obtain⟨_,_,_,e⟩:=x;exact Heap.lt_size e
 |frz ob u=>obtain⟨e,_⟩:=x;exact Heap.lt_size e
 |tbl ps=>exact Heap.lt_size (show h.get? a=some _ from x)
 |met f y=>exact Heap.lt_size (show h.get? a=some _ from x)
 |ext φ=>obtain⟨_,⟨_,e⟩,_⟩:=x;exact Heap.lt_size e
theorem Paired.mapP {α β:Type}{F G:α→β→Prop}:∀{l₁:List α}{l₂:List β},Paired F l₁ l₂→(∀a b,F a b→G a b)→Paired G l₁ l₂
 |_,_, .nil,_=> .nil
 |_,_, .cons r t,f=> .cons (f _ _ r) (Paired.mapP t f)
theorem ObjOk.stay (x:ObjOk P w H h a o) (k:∀b u,(b=a∨H b=some (.own a))→h.get? b=some u→h'.get? b=some u)
 (ho:∀b,H b=some (.own a)→H' b=some (.own a)) (ht:∀b xs,H b=some (.tup xs)→H' b=some (.tup xs)):ObjOk P w H' h' a o:=by
 induction o with
 |lst xs=>obtain⟨z,its,n,r,e⟩:=x;exact⟨z,its,n,r,k _ _ (.inl rfl) e⟩
 |tup xs=>obtain⟨z,its,r,ob,e,c⟩:=x;exact⟨z,its,r,ob,k _ _ (.inl rfl) e,c⟩
 |dK kvs=>obtain⟨z,y,vs,r,ob,es,ep,e,c⟩:=x;exact⟨z,y,vs,r,ob,es,ep,k _ _ (.inl rfl) e,c⟩
 |dT kvs=>
  obtain⟨z,y,xs,r,ob,es,ep,e,c⟩:=x
  exact⟨z,y,xs,Paired.mapP r fun p q z=>⟨z.1,ht _ _ z.2.1,z.2.2⟩,ob,es,ep,k _ _ (.inl rfl) e,c⟩
 |set S n=>obtain⟨ob,es,ep,t,e,c⟩:=x;exact⟨ob,es,ep,t,k _ _ (.inl rfl) e,c⟩
 |ins C dx fs=>
  obtain⟨d,z,ne,e,mA,⟨od,es,ep,e2,c⟩,r⟩:=x
  exact⟨ho _ d,z,ne,k _ _ (.inl rfl) e,mA,⟨od,es,ep,k _ _ (.inr d) e2,c⟩,r⟩
 |own y=>obtain⟨ob,e⟩:=x;exact⟨ob,k _ _ (.inl rfl) e⟩
 |xd fs=>obtain⟨mA,⟨od,es,ep,e,c⟩,r⟩:=x;exact⟨mA,⟨od,es,ep,k _ _ (.inl rfl) e,c⟩,r⟩
 |rng lo hi=>obtain⟨t,u,v,e⟩:=x;exact⟨t,u,v,k _ _ (.inl rfl) e⟩
 |frz ob u ih=>obtain⟨e,q⟩:=x;exact⟨k _ _ (.inl rfl) e,ih q⟩
 |tbl ps=>
  have e:h.get? a=some {cls:= .none,data:= .fields ps}:=x
  show h'.get? a=some {cls:= .none,data:= .fields ps}
  exact k a _ (.inl rfl) e
 |met f y=>
  have e:h.get? a=some (PySem.W.methodObj (.ref f) (.ref y)):=x
  show h'.get? a=some (PySem.W.methodObj (.ref f) (.ref y))
  exact k a _ (.inl rfl) e
 |ext φ=>obtain⟨p,⟨o,e⟩,st⟩:=x;exact⟨st _ _ p fun o q=>k _ _ (.inl rfl) q,⟨o,k _ _ (.inl rfl) e⟩,st⟩
theorem HOk.lt (x:HOk P w H h) (e:H a=some o):a<h.objs.size:=(x a o e).lt
theorem HOk.fresh (x:HOk P w H h) (e:h.objs.size≤a):H a=none:=by
 cases q:H a with
 |none=>rfl
 |some u=>exact absurd (Nat.lt_of_lt_of_le (x.lt q) e) (Nat.lt_irrefl _)
theorem HOk.kept (x:HOk P w H h) (k:∀b u,h.get? b=some u→h'.get? b=some u):HOk P w H h':=fun a o e=>
 (x a o e).stay (fun b u _ q=>k b u q) (fun _ q=>q) fun _ _ q=>q
theorem HOk.laid (x:HOk P w H h) (k:∀b u,h.get? b=some u→h'.get? b=some u) (hp:h.objs.size≤a) (new:ObjOk P w (upd H a o) h' a o):HOk P w (upd H a o) h':=fun b u e=>by
 have hn:=x.fresh hp
 by_cases hb:b=a
 ·subst hb;rw[aF] at e;cases e;exact new
 ·rw[av hb] at e
  exact(x b u e).stay (fun c v _ q=>k c v q) (fun c q=>by rw[av (bb q hn)];exact q) fun c xs q=>by rw[av (bb q hn)];exact q
end
def Rd (H:Hp) (a:Addr) (u:HO):Prop:=H a=some u∨∃o,H a=some (.frz o u)
theorem Rd.of {H:Hp}{a:Addr}{u:HO}(h:H a=some u):Rd H a u:= .inl h
theorem Rd.ok {P:Program}{w:World}{H:Hp}{h:Heap}{a:Addr}{u:HO}(r:Rd H a u) (x:HOk P w H h):ObjOk P w H h a u:=by
 rcases r with r | ⟨o,r⟩
 ·exact x a u r
 ·obtain⟨_,q⟩:=x a _ r
  exact q
def Mut:Option HO→Prop
 |some (.lst _)=>True
 |some (.dK _)=>True
 |some (.dT _)=>True
 |some (.set _ _)=>True
 |some (.ins _ _ _)=>True
 |some (.ext _)=>True
 |_=>False
section
variable {P : Program} {w : World} {H : Hp} {h h' : Heap} {x e : Addr} {o' : HO}
theorem HOk.write (ok:HOk P w H h) (mu:Mut (H x)) (he:e=x∨H e=some (.own x)) (k:∀b u,b≠e→h.get? b=some u→h'.get? b=some u) (heo:∃u,h'.get? e=some u)
 (new:ObjOk P w (upd H x o') h' x o'):HOk P w (upd H x o') h':=fun b u q=>by
 have nown:∀c y,H c=some (.own y)→c≠x:=fun c y r z=>by subst z;rw[r] at mu;exact mu
 have ntup:∀c xs,H c=some (.tup xs)→c≠x:=fun c xs r z=>by subst z;rw[r] at mu;exact mu
 by_cases hb:b=x
 ·subst hb;rw[aF] at q;cases q;exact new
 ·rw[av hb] at q
  by_cases hbe:b=e
  ·have q':H b=some (.own x):=by
    rcases he with z | z
    ·exact absurd (hbe.trans z) hb
    ·rw[hbe];exact z
   rw[q] at q';cases q'
   obtain⟨v,hv⟩:=heo
   exact⟨v,by rw[hbe];exact hv⟩
  ·refine(ok b u q).stay (fun c v hc r=>k c v ?_ r) (fun c r=>by rw[av (nown c b r)];exact r) fun c xs r=>by rw[av (ntup c xs r)];exact r
   rcases hc with rfl | hc
   ·exact hbe
   ·rintro rfl
    rcases he with z | z
    ·exact nown c b hc z
    ·rw[hc] at z;cases z;exact hb rfl
end
structure Un (fs ex:List Addr) (H H':Hp) (h h':Heap):Prop where
 keep:∀b o,h.get? b=some o→H b=none→b∉fs→b∉ex→h'.get? b=some o
 slot:∀b o,h.get? b=some o→H b=none→b∈fs→b∉ex→∃sl,h'.get? b=some {o with slots:=sl}
 free:∀b o,h.get? b=some o→H b=none→b∉ex→H' b=none
 there:∀b o,h.get? b=some o→b∉ex→∃o',h'.get? b=some o'
 tups:∀b xs,H b=some (.tup xs)→H' b=some (.tup xs)
 frzs:∀b o u,H b=some (.frz o u)→H' b=some (.frz o u)
 tbls:∀b ps,H b=some (.tbl ps)→∃more,H' b=some (.tbl (ps++more))
section
variable {fs fs' ex ex' : List Addr} {H H1 H2 : Hp} {h h1 h2 h' : Heap} {a x e : Addr} {o : HO}
theorem Un.any (u:Un fs ex H H1 h h1) {b:Addr}{ob:Obj}(q:h.get? b=some ob) (n:H b=none) (hx:b∉ex):∃sl,h1.get? b=some {ob with slots:=sl}:=by
 by_cases hb:b∈fs
 ·exact u.slot b ob q n hb hx
 ·exact⟨ob.slots,u.keep b ob q n hb hx⟩
theorem Un.trans (a:Un fs ex H H1 h h1) (b:Un fs ex H1 H2 h1 h2):Un fs ex H H2 h h2 where
 keep:=fun c ob q n hc hx=>b.keep c ob (a.keep c ob q n hc hx) (a.free c ob q n hx) hc hx
 slot:=fun c ob q n hc hx=>by
  obtain⟨sl,e1⟩:=a.slot c ob q n hc hx
  obtain⟨sl',e2⟩:=b.slot c _ e1 (a.free c ob q n hx) hc hx
  exact⟨sl',e2⟩
 free:=fun c ob q n hx=>by
  obtain⟨o',e1⟩:=a.there c ob q hx
  exact b.free c o' e1 (a.free c ob q n hx) hx
 there:=fun c ob q hx=>by
  obtain⟨o',e1⟩:=a.there c ob q hx
  exact b.there c o' e1 hx
 tups:=fun c xs q=>b.tups c xs (a.tups c xs q)
 frzs:=fun c ob xs q=>b.frzs c ob xs (a.frzs c ob xs q)
 tbls:=fun c ps q=>by
  obtain⟨m1,e1⟩:=a.tbls c ps q
  obtain⟨m2,e2⟩:=b.tbls c _ e1
  exact⟨m1++m2,by rw[e2,Array.append_assoc]⟩
theorem Un.kept (k:∀b u,h.get? b=some u→h'.get? b=some u):Un fs ex H H h h':=
 ⟨fun b ob q _ _ _=>k b ob q,fun b ob q _ _ _=>⟨ob.slots,k b ob q⟩,fun _ _ _ n _=>n,fun b ob q _=>⟨ob,k b ob q⟩,fun _ _ q=>q,fun _ _ _ q=>q,fun _ ps q=>⟨#[],by rw[q];simp⟩⟩
theorem Un.refl:Un fs ex H H h h:=Un.kept fun _ _ q=>q
theorem Un.laid (k:∀b u,h.get? b=some u→h'.get? b=some u) (hp:h.objs.size≤a) (hn:H a=none):Un fs ex H (upd H a o) h h' where
 keep:=fun b u q _ _ _=>k b u q
 slot:=fun b u q _ _ _=>⟨u.slots,k b u q⟩
 free:=fun b u q n _=>by rw[av (Nat.ne_of_lt (Nat.lt_of_lt_of_le (Heap.lt_size q) hp))];exact n
 there:=fun b u q _=>⟨u,k b u q⟩
 tups:=fun b xs q=>by rw[av (bb q hn)];exact q
 frzs:=fun b u xs q=>by rw[av (bb q hn)];exact q
 tbls:=fun b ps q=>⟨#[],by rw[av (bb q hn),q];simp⟩
theorem Un.write (mu:Mut (H x)) (he:e=x∨H e=some (.own x)) (k:∀b u,b≠e→h.get? b=some u→h'.get? b=some u) (heo:∃u,h'.get? e=some u):Un fs ex H (upd H x o) h h':=by
 have hx:∀b,H b=none→b≠x:=fun b n z=>by subst z;rw[n] at mu;exact mu
 have hb:∀b,H b=none→b≠e:=fun b n z=>by
  subst z
  rcases he with r | r
  ·exact hx b n r
  ·rw[n] at r;cases r
 have hm:∀b u,H b=some u→¬Mut (some u)→b≠x:=fun b u q nm z=>by subst z;rw[q] at mu;exact nm mu
 refine⟨fun b u q n _ _=>k b u (hb b n) q,fun b u q n _ _=>⟨u.slots,k b u (hb b n) q⟩,fun b u q n _=>by rw[av (hx b n)];exact n,fun b u q _=>?_,
  fun b xs q=>by rw[av (hm b _ q fun z=>z)];exact q,fun b u xs q=>by rw[av (hm b _ q fun z=>z)];exact q,fun b ps q=>⟨#[],by rw[av (hm b _ q fun z=>z),q];simp⟩⟩
 by_cases hbe:b=e
 ·subst hbe;exact heo
 ·exact⟨u,k b u hbe q⟩
theorem Un.mono (u:Un fs ex H H1 h h1) (hs:∀b∈fs,b∈fs') (hx:∀b∈ex,b∈ex'):Un fs' ex' H H1 h h1:=
 ⟨fun b ob q n hb he=>u.keep b ob q n (fun z=>hb (hs b z)) fun z=>he (hx b z),fun _ _ q n _ he=>u.any q n fun z=>he (hx _ z),fun b ob q n he=>u.free b ob q n fun z=>he (hx b z),fun b ob q he=>u.there b ob q fun z=>he (hx b z),u.tups,u.frzs,u.tbls⟩
end
def trk (h:Heap) (H:Hp):List Addr:=(List.range h.objs.size).filter fun a=>(H a).isSome
def pX (h:Heap) (H:Hp):Heap:=PySem.W.hideAll h (trk h H)
theorem v_ (h:Heap) (H:Hp):(pX h H).objs.size=h.objs.size:=PySem.W.hideAll_size _ _
theorem xJ {h:Heap}{H:Hp}{b:Addr}{o:Obj}(e:h.get? b=some o) (n:H b=none):(pX h H).get? b=some o:=
 PySem.W.hideAll_get _ e fun hm=>by
  have q:(H b).isSome=true:=(List.mem_filter.mp hm).2
  rw[n] at q;simp at q
theorem zU {h:Heap}{H:Hp}{b:Addr}{o:Obj}(e:(pX h H).get? b=some o):h.get? b=some o∧H b=none:=by
 have e':h.get? b=some o:=PySem.W.of_hideAll (trk h H) e
 refine⟨e',?_⟩
 cases q:H b with
 |none=>rfl
 |some x=>
  have hm:b∈trk h H:=List.mem_filter.mpr ⟨List.mem_range.mpr (Heap.lt_size e'),by simp[q]⟩
  have z:(pX h H).get? b=none:=PySem.W.hideAll_none (trk h H) hm
  rw[z] at e;cases e
def Ay (g h:Heap) (L:Addr):List (Addr×Obj):=(List.range h.objs.size).filterMap fun a=>if a=L∨(g.get? a).isSome=true then none else(h.get? a).map fun o=>(a,o)
def rest (g h:Heap) (L d:Addr):List (Addr×Obj):=(Ay g h L).filter fun p=>decide (p.1≠d)
end L2
namespace L2
open PySem PySem.Spec PyProof.Rows
structure Mod (K:PySem.W.Frag) (mg:Str→Option Value) (base:Heap):Prop where
 kin:K.In base
 glob:base.Ns mainGlobals mg
 blt:∃mb,base.Ns builtinsNs mb∧∀x:Str,x≠"__name__"→mb x=bootBuiltins x
 nolimit:base.NoLimit
structure Cx where
 prog:Program
 w:World
 K:PySem.W.Frag
 mg:Str→Option Value
 base:Heap
 A:Around
 N:List Str
 s₀:Shared
 H₀:Hp
 env:Env
 outer:List Env
 stack:List Env
 ex:List Addr
 fn:Str→Bool
 calm:Bool
 pn:List (Addr×Obj)
 xe:Value→Shared→Prop
def frs (l:List Env):List Addr:=l.filterMap (·.frame)
abbrev Cx.fs (X:Cx):List Addr:=frs X.outer
def Vis (sc:Scope) (x:Str):Prop:=sc.names.lookup x=some .local∨sc.names.lookup x=some .cell∨sc.names.lookup x=some .free
def Loc (sc:Scope) (x:Str):Prop:=sc.names.lookup x=some .local∨sc.names.lookup x=some .cell
def Look (env:Env) (h:Heap) (m:Str→Option Value) (x:Str) (u:Value):Prop:=
 (env.kindOf x=some .local∧m x=some u)∨((env.kindOf x=some .cell∨env.kindOf x=some .free)∧∃c,env.cells.lookup x=some c∧h.IsCell c (some u))
structure Cx.Ok (X:Cx):Prop where
 mod:Mod X.K X.mg X.base
 kind:X.env.scope.kind= .function
 glob:X.env.globals=mainGlobals
 blt:X.env.builtins=builtinsNs
 above:X.s₀.heap.objs.size≤X.env.locals
 inj:∀x y c,X.env.cells.lookup x=some c→X.env.cells.lookup y=some c→x=y
 has:∀x,(X.env.kindOf x=some .cell∨X.env.kindOf x=some .free)→∃c,X.env.cells.lookup x=some c
 cab:∀x c,X.fn x=true→X.env.cells.lookup x=some c→X.s₀.heap.objs.size≤c
 hd:X.calm=true→X.A.handled=none
 frames:X.A.frames=some X.stack
 stk:X.stack=X.outer∨(X.stack=X.env::X.outer∧X.env.frame=some X.env.locals)
 exf:∀b∈X.ex,b≠X.env.locals∧∀x c,X.env.cells.lookup x=some c→c≠b
 bs:∀b o,X.base.get? b=some o→X.s₀.heap.get? b=some o∧X.H₀ b=none
 bsz:X.base.objs.size≤X.s₀.heap.objs.size
 noex:∀b o,X.base.get? b=some o→b∉X.ex
 exfs:∀b∈X.ex,b∉X.fs
 funs:X.s₀.heap.FunFrames X.base X.outer
 frf:∀b∈X.fs,X.H₀ b=none
structure Inv (X:Cx) (pins:List (Addr×Obj)) (σ:List (Option V)) (H:Hp) (s:Shared):Prop where
 ok:X.Ok
 os:s.os=X.s₀.os
 bare:AllBare s.gens
 base:Un X.fs X.ex X.H₀ H X.s₀.heap s.heap
 loc:∃m,s.heap.Ns X.env.locals m∧∀(i:Nat) (x:Str) (v:V),X.N[i]? =some x→σ[i]? =some (some v)→Vis X.env.scope x→∃u,RelV v u∧Look X.env s.heap m x u
 cell:∀x c,X.env.cells.lookup x=some c→∃v,s.heap.IsCell c v
 free:H X.env.locals=none
 freeC:∀x c,X.env.cells.lookup x=some c→H c=none
 pin:∀p∈X.pn++pins,s.heap.get? p.1=some p.2∧H p.1=none∧p.1≠X.env.locals∧p.1∉X.fs∧∀v,p.2.data≠ .cell v
 hok:HOk X.prog X.w H s.heap
 len:σ.length=X.N.length
section
variable {X : Cx} {pins : List (Addr × Obj)} {σ : List (Option V)} {H H' : Hp} {s : Shared} {h' : Heap}
theorem Cx.Ok.nofr (ok:X.Ok) {b:Addr}{o:Obj}(e:X.base.get? b=some o):b∉X.fs:=fun hb=>by
 have:=(ok.funs.mem hb).1
 rw[e] at this;cases this
theorem Inv.bs (I:Inv X pins σ H s):∀b o,X.base.get? b=some o→s.heap.get? b=some o∧H b=none:=fun b o e=>
 ⟨I.base.keep b o (I.ok.bs b o e).1 (I.ok.bs b o e).2 (I.ok.nofr e) (I.ok.noex b o e),I.base.free b o (I.ok.bs b o e).1 (I.ok.bs b o e).2 (I.ok.noex b o e)⟩
theorem Inv.bk (I:Inv X pins σ H s):∀b o,X.base.get? b=some o→s.heap.get? b=some o:=fun b o e=>(I.bs b o e).1
theorem Inv.mod (I:Inv X pins σ H s):Mod X.K X.mg X.base:=I.ok.mod
theorem Inv.kIn (I:Inv X pins σ H s):X.K.In s.heap:=I.ok.mod.kin.keeps I.bk
theorem Inv.nolimit (I:Inv X pins σ H s):s.heap.NoLimit:=I.ok.mod.nolimit.keeps I.bk
theorem Inv.lt (I:Inv X pins σ H s):X.env.locals<s.heap.objs.size:=let ⟨_,hn,_⟩:=I.loc;hn.lt
theorem Inv.sz (I:Inv X pins σ H s):X.s₀.heap.objs.size≤s.heap.objs.size:=Nat.le_trans I.ok.above (Nat.le_of_lt I.lt)
theorem Inv.nofs (I:Inv X pins σ H s) {a:Addr}(h:s.heap.objs.size≤a):a∉X.fs:=fun hb=>by
 obtain⟨_,o,ho,_⟩:=I.ok.funs.mem hb
 exact absurd (Nat.lt_of_lt_of_le (Heap.lt_size ho) (Nat.le_trans I.sz h)) (Nat.lt_irrefl _)
theorem Inv.cne (I:Inv X pins σ H s):∀x c,X.env.cells.lookup x=some c→c≠X.env.locals:=fun x c e z=>by
 obtain⟨v,o,ho,hd⟩:=I.cell x c e
 obtain⟨m,⟨o',es,ep,ho',hd',_⟩,_⟩:=I.loc
 rw[z,ho'] at ho;cases ho;rw[hd'] at hd;cases hd
theorem Inv.funs (I:Inv X pins σ H s):s.heap.FunFrames X.base X.outer:=by
 have all:∀(l:List Env),(∀b∈frs l,b∈X.fs)→X.s₀.heap.FunFrames X.base l→s.heap.FunFrames X.base l:=by
  intro l
  induction l with
  |nil=>intro _ _;trivial
  |cons env r ih=>
   intro hs hl
   obtain⟨hk,⟨L,o,hf,hn,ho,hd⟩,hr⟩:=hl
   have hL:L∈X.fs:=hs L (by unfold frs;rw[List.filterMap_cons,hf];exact List.mem_cons_self)
   obtain⟨sl,e⟩:=I.base.slot L o ho (I.ok.frf L hL) hL fun z=>I.ok.exfs L z hL
   exact⟨hk,⟨L,_,hf,hn,e,hd⟩,ih (fun b hb=>hs b (by unfold frs;rw[List.filterMap_cons,hf];exact List.mem_cons_of_mem _ hb)) hr⟩
 exact all X.outer (fun _ hb=>hb) I.ok.funs
theorem Inv.stack (I:Inv X pins σ H s):s.heap.FunFrames X.base X.stack:=by
 rcases I.ok.stk with e | ⟨e,hf⟩
 ·rw[e];exact I.funs
 ·rw[e]
  obtain⟨m,hn,_⟩:=I.loc
  refine .cons (by rw[I.ok.kind];decide) hf hn ?_ I.funs
  exact Heap.get?_none_of_le (Nat.le_trans I.ok.bsz I.ok.above)
theorem Inv.stkSub (I:Inv X pins σ H s):∀b∈frs X.stack,b∈X.env.locals::X.fs:=fun b hb=>by
 rcases I.ok.stk with e | ⟨e,hf⟩
 ·rw[e] at hb;exact List.mem_cons_of_mem _ hb
 ·rw[e] at hb
  unfold frs at hb
  rw[List.filterMap_cons,hf] at hb
  exact hb
theorem Inv.stkFree (I:Inv X pins σ H s):∀b∈frs X.stack,H b=none:=fun b hb=>by
 rcases List.mem_cons.mp (I.stkSub b hb) with e | hb
 ·rw[e];exact I.free
 ·obtain⟨_,o,ho,_⟩:=I.ok.funs.mem hb
  exact I.base.free b o ho (I.ok.frf b hb) fun z=>I.ok.exfs b z hb
theorem Inv.step {g':Array GenState}{t':Nat}{d':Drawn}{ch:List Addr}(I:Inv X pins σ H s)
 (hch:∀b∈ch,(b∈X.ex∨X.s₀.heap.objs.size≤b)∧b≠X.env.locals∧(∀x c,X.env.cells.lookup x=some c→c≠b)∧∀p∈X.pn++pins,p.1≠b)
 (keep:∀b o,b≠X.env.locals→b∉X.fs→b∉ch→s.heap.get? b=some o→H b=none→h'.get? b=some o)
 (slot:∀b o,b≠X.env.locals→b∈X.fs→b∉ch→s.heap.get? b=some o→H b=none→∃sl,h'.get? b=some {o with slots:=sl}) (free:∀b o,b∉ch→s.heap.get? b=some o→H b=none→H' b=none)
 (there:∀b o,b∉ch→s.heap.get? b=some o→∃o',h'.get? b=some o')
 (tups:∀b xs,H b=some (.tup xs)→H' b=some (.tup xs)) (frzs:∀b o u,H b=some (.frz o u)→H' b=some (.frz o u)) (tbls:∀b ps,H b=some (.tbl ps)→∃more,H' b=some (.tbl (ps++more)))
 (ns:∀m,s.heap.Ns X.env.locals m→h'.Ns X.env.locals m) (hok:HOk X.prog X.w H' h') (hg:AllBare g'):
 Inv X pins σ H' {s with heap:=h',gens:=g',drawn:=d',toks:=t'}:=by
 have neL:∀b o,X.s₀.heap.get? b=some o→b≠X.env.locals:=fun b o e=>Nat.ne_of_lt (Nat.lt_of_lt_of_le (Heap.lt_size e) I.ok.above)
 have neC:∀b o,X.s₀.heap.get? b=some o→b∉X.ex→b∉ch:=fun b o e hx hb=>by
  rcases(hch b hb).1 with z | z
  ·exact hx z
  ·exact absurd (Nat.lt_of_lt_of_le (Heap.lt_size e) z) (Nat.lt_irrefl _)
 have cellK:∀x c,X.env.cells.lookup x=some c→∀v,s.heap.IsCell c v→h'.IsCell c v:=fun x c e v ⟨o,ho,hd⟩=>by
  have nch:c∉ch:=fun z=>(hch c z).2.2.1 x c e rfl
  by_cases hc:c∈X.fs
  ·obtain⟨sl,q⟩:=slot c o (I.cne x c e) hc nch ho (I.freeC x c e)
   exact⟨_,q,hd⟩
  ·exact⟨o,keep c o (I.cne x c e) hc nch ho (I.freeC x c e),hd⟩
 refine⟨I.ok,I.os,hg,⟨fun b o e n hb hx=>?_,fun b o e n hb hx=>?_,fun b o e n hx=>?_,fun b o e hx=>?_,fun b xs e=>tups b xs (I.base.tups b xs e),fun b o xs e=>frzs b o xs (I.base.frzs b o xs e),fun b ps e=>?_⟩,?_,fun x c e=>?_,?_,fun x c e=>?_,fun p hp=>?_,hok,I.len⟩
 ·exact keep b o (neL b o e) hb (neC b o e hx) (I.base.keep b o e n hb hx) (I.base.free b o e n hx)
 ·obtain⟨sl,e1⟩:=I.base.slot b o e n hb hx
  obtain⟨sl',e2⟩:=slot b _ (neL b o e) hb (neC b o e hx) e1 (I.base.free b o e n hx)
  exact⟨sl',e2⟩
 ·obtain⟨o',e1⟩:=I.base.there b o e hx
  exact free b o' (neC b o e hx) e1 (I.base.free b o e n hx)
 ·obtain⟨o',e1⟩:=I.base.there b o e hx
  exact there b o' (neC b o e hx) e1
 ·obtain⟨m1,e1⟩:=I.base.tbls b ps e
  obtain⟨m2,e2⟩:=tbls b _ e1
  exact⟨m1++m2,by rw[e2,Array.append_assoc]⟩
 ·obtain⟨m,hn,hl⟩:=I.loc
  refine⟨m,ns m hn,fun i x v e1 e2 e3=>?_⟩
  obtain⟨u,r,l⟩:=hl i x v e1 e2 e3
  refine⟨u,r,?_⟩
  rcases l with l | ⟨k,c,e,z⟩
  ·exact .inl l
  ·exact .inr ⟨k,c,e,cellK x c e _ z⟩
 ·obtain⟨v,z⟩:=I.cell x c e
  exact⟨v,cellK x c e v z⟩
 ·obtain⟨m,⟨o,_,_,ho,_⟩,_⟩:=I.loc
  exact free _ o (fun z=>(hch _ z).2.1 rfl) ho I.free
 ·obtain⟨v,o,ho,hd⟩:=I.cell x c e
  exact free c o (fun z=>(hch c z).2.2.1 x c e rfl) ho (I.freeC x c e)
 ·obtain⟨e,n,ne,nf,d⟩:=I.pin p hp
  have nch:p.1∉ch:=fun z=>(hch p.1 z).2.2.2 p hp rfl
  exact⟨keep p.1 p.2 ne nf nch e n,free p.1 p.2 nch e n,ne,nf,d⟩
theorem Inv.un {t':Nat}(I:Inv X pins σ H s) (u:Un X.fs [] H H' s.heap h') (hok:HOk X.prog X.w H' h'):Inv X pins σ H' {s with heap:=h',toks:=t'}:=by
 obtain⟨m,⟨o,es,ep,ho,r⟩,_⟩:=id I.loc
 obtain⟨sl,hL⟩:=u.any ho I.free (by simp)
 exact I.step (g':=s.gens) (d':=s.drawn) (ch:=[]) (fun _ z=>nomatch z) (fun b o _ hb _ e n=>u.keep b o e n hb (by simp)) (fun b o _ hb _ e n=>u.slot b o e n hb (by simp)) (fun b o _ e n=>u.free b o e n (by simp)) (fun b o _ e=>u.there b o e (by simp)) u.tups u.frzs u.tbls (fun m' hm=>by
  obtain⟨o',es',ep',ho',r'⟩:=hm
  rw[ho] at ho';cases ho'
  exact⟨_,es',ep',hL,r'⟩) hok I.bare
theorem Inv.call {g':Array GenState}{t':Nat}{d':Drawn}{ch:List Addr}(I:Inv X pins σ H s) (u:Un (frs X.stack) ch H H' s.heap h') (hok:HOk X.prog X.w H' h') (hg:AllBare g')
 (hch:∀b∈ch,(b∈X.ex∨X.s₀.heap.objs.size≤b)∧b≠X.env.locals∧(∀x c,X.env.cells.lookup x=some c→c≠b)∧∀p∈X.pn++pins,p.1≠b):
 Inv X pins σ H' {s with heap:=h',gens:=g',drawn:=d',toks:=t'}:=by
 obtain⟨m,⟨o,es,ep,ho,r⟩,_⟩:=id I.loc
 obtain⟨sl,hL⟩:=u.any ho I.free fun z=>(hch _ z).2.1 rfl
 exact I.step (ch:=ch) hch (fun b o hL hb hc e n=>u.keep b o e n (fun z=>(List.mem_cons.mp (I.stkSub b z)).elim hL hb) hc) (fun b o _ _ hc e n=>u.any e n hc) (fun b o hc e n=>u.free b o e n hc) (fun b o hc e=>u.there b o e hc) u.tups u.frzs u.tbls (fun m' hm=>by
  obtain⟨o',es',ep',ho',r'⟩:=hm
  rw[ho] at ho';cases ho'
  exact⟨_,es',ep',hL,r'⟩) hok hg
theorem Inv.turned {t':Nat}{it:Addr}(I:Inv X pins σ H s) (k:∀b o,b≠it→s.heap.get? b=some o→h'.get? b=some o) (hn:H it=none) (hL:it≠X.env.locals)
 (h1:it∈X.ex∨X.s₀.heap.objs.size≤it) (h2:∀x c,X.env.cells.lookup x=some c→c≠it) (h3:∀p∈X.pn++pins,p.1≠it):Inv X pins σ H {s with heap:=h',toks:=t'}:=by
 have nit:∀b u,H b=some u→b≠it:=fun b u e z=>by rw[z,hn] at e;cases e
 refine I.step (g':=s.gens) (d':=s.drawn) (ch:=[it]) (fun b hb=>?_) (fun b o _ _ hc e _=>k b o (fun z=>hc (by simp[z])) e) (fun b o _ _ hc e _=>⟨o.slots,k b o (fun z=>hc (by simp[z])) e⟩) (fun _ _ _ _ n=>n)
  (fun b o hc e=>⟨o,k b o (fun z=>hc (by simp[z])) e⟩) (fun _ _ e=>e) (fun _ _ _ e=>e) (fun b ps e=>⟨#[],by rw[e];simp⟩) (fun m hm=>?_) (fun b u e=>?_) I.bare
 ·have e:b=it:=by simpa using hb
  subst e
  exact⟨h1,hL,h2,h3⟩
 ·obtain⟨o,es,ep,ho,r⟩:=hm
  exact⟨o,es,ep,k _ o (Ne.symm hL) ho,r⟩
 ·refine(I.hok b u e).stay (fun c v hc q=>k c v ?_ q) (fun _ q=>q) fun _ _ q=>q
  rcases hc with z | z
  ·rw[z];exact nit b u e
  ·exact nit c _ z
theorem Inv.tok (I:Inv X pins σ H s) (t:Nat):Inv X pins σ H {s with toks:=t}:=I.un (h':=s.heap) (t':=t) Un.refl I.hok
theorem Inv.kept {t':Nat}(I:Inv X pins σ H s) (k:∀b u,s.heap.get? b=some u→h'.get? b=some u):Inv X pins σ H {s with heap:=h',toks:=t'}:=I.un (Un.kept k) (I.hok.kept k)
theorem Inv.laid {a:Addr}{o:HO}{t':Nat}(I:Inv X pins σ H s) (k:∀b u,s.heap.get? b=some u→h'.get? b=some u) (hp:s.heap.objs.size≤a) (new:ObjOk X.prog X.w (upd H a o) h' a o):
 Inv X pins σ (upd H a o) {s with heap:=h',toks:=t'}:=I.un (Un.laid k hp (I.hok.fresh hp)) (I.hok.laid k hp new)
theorem Inv.write {x e:Addr}{o:HO}{t':Nat}(I:Inv X pins σ H s) (mu:Mut (H x)) (he:e=x∨H e=some (.own x)) (k:∀b u,b≠e→s.heap.get? b=some u→h'.get? b=some u) (heo:∃u,h'.get? e=some u)
 (new:ObjOk X.prog X.w (upd H x o) h' x o):Inv X pins σ (upd H x o) {s with heap:=h',toks:=t'}:=I.un (Un.write mu he k heo) (I.hok.write mu he k heo new)
theorem Inv.weak {σ':List (Option V)}(I:Inv X pins σ H s) (hl:σ'.length=σ.length) (w:∀(i:Nat) v,σ'[i]? =some (some v)→σ[i]? =some (some v)):Inv X pins σ' H s:=
 ⟨I.ok,I.os,I.bare,I.base,let ⟨m,hn,hl'⟩:=I.loc;⟨m,hn,fun i x v e1 e2 e3=>hl' i x v e1 (w i v e2) e3⟩,I.cell,I.free,I.freeC,I.pin,I.hok,hl.trans I.len⟩
theorem Inv.pins_of {pins':List (Addr×Obj)}(I:Inv X pins σ H s) (h:∀p∈pins',s.heap.get? p.1=some p.2∧H p.1=none∧p.1≠X.env.locals∧p.1∉X.fs∧∀v,p.2.data≠ .cell v):Inv X pins' σ H s:=
 ⟨I.ok,I.os,I.bare,I.base,I.loc,I.cell,I.free,I.freeC,fun p hp=>(List.mem_append.mp hp).elim (fun z=>I.pin p (List.mem_append_left _ z)) (h p),I.hok,I.len⟩
theorem sF {N:List Str}(hN:N.Nodup) {i j:Nat}{x:Str}(a:N[i]? =some x) (b:N[j]? =some x):i=j:=by
 obtain⟨h1,e1⟩:=List.getElem?_eq_some_iff.mp a
 obtain⟨h2,e2⟩:=List.getElem?_eq_some_iff.mp b
 exact(List.getElem_inj hN).mp (e1.trans e2.symm)
theorem jX {M:Model}{A:Around}{E:Value→Shared→Prop}{i:Nat}{x:Str}{v:V}{u:Value}{Q:Unit→Shared→Prop}(I:Inv X pins σ H s) (hN:X.N.Nodup) (hi:X.N[i]? =some x) (hx:Loc X.env.scope x) (r:RelV v u)
 (h:∀s',Inv X pins (σ.set i (some v)) H s'→(∃a,Heap.SameBut a s.heap s'.heap∧(a=X.env.locals∨X.env.cells.lookup x=some a))→Q () s') (hf:X.fn x=true∨X.env.scope.names.lookup x=some .local:=by first | exact .inl rfl | exact .inr rfl | assumption):wpAny M A (storeName X.env x u) Q E s:=by
 obtain⟨m,hn,hl⟩:=id I.loc
 have hcls:(X.env.scope.kind== .class||(X.env.scope.kind== .module&&X.env.locals !=X.env.globals))=false:=by rw[I.ok.kind];rfl
 have hiσ:i<σ.length:=by rw[I.len];exact(List.getElem?_eq_some_iff.mp hi).1
 have cne:=I.cne
 have tracked:∀{a:Addr}{h':Heap},(∃o,s.heap.get? a=some o∧H a=none)→Heap.SameBut a s.heap h'→HOk X.prog X.w H h':=fun {a h'} ha hs b ob e=>by
  obtain⟨_,_,hfree⟩:=ha
  refine(I.hok b ob e).stay (fun c w' hc q=>(hs.2 c ?_).trans q) (fun _ q=>q) fun _ _ q=>q
  rintro rfl
  rcases hc with rfl | hc
  ·rw[hfree] at e;cases e
  ·rw[hfree] at hc;cases hc
 rcases hx with hk | hk
 ·refine wpAny_storeName_local hk hn (fun h' hn' hs=>?_) hcls
  obtain⟨oL,_,_,hoL,_⟩:=id hn
  refine h _ ⟨I.ok,I.os,I.bare,⟨fun b o e n hb hx=>?_,fun b o e n hb hx=>?_,I.base.free,fun b o e hx=>?_,I.base.tups,I.base.frzs,I.base.tbls⟩,⟨_,hn',fun j y v' e1 e2 e3=>?_⟩,fun y c e=>?_,I.free,I.freeC,fun p hp=>?_,tracked ⟨oL,hoL,I.free⟩ hs,by simpa using I.len⟩ ⟨_,hs, .inl rfl⟩
  ·exact(hs.2 b (Nat.ne_of_lt (Nat.lt_of_lt_of_le (Heap.lt_size e) I.ok.above))).trans (I.base.keep b o e n hb hx)
  ·obtain⟨sl,e1⟩:=I.base.slot b o e n hb hx
   exact⟨sl,(hs.2 b (Nat.ne_of_lt (Nat.lt_of_lt_of_le (Heap.lt_size e) I.ok.above))).trans e1⟩
  ·obtain⟨o',e1⟩:=I.base.there b o e hx
   exact⟨o',(hs.2 b (Nat.ne_of_lt (Nat.lt_of_lt_of_le (Heap.lt_size e) I.ok.above))).trans e1⟩
  ·by_cases hj:j=i
   ·subst hj
    rw[hi] at e1;cases e1
    rw[List.getElem?_set_self hiσ] at e2
    cases e2
    exact⟨u,r, .inl ⟨hk,by simp⟩⟩
   ·rw[List.getElem?_set_ne (Ne.symm hj)] at e2
    obtain⟨u',r',q⟩:=hl j y v' e1 e2 e3
    refine⟨u',r',?_⟩
    rcases q with⟨k,e⟩ | ⟨k,c,e,z⟩
    ·refine .inl ⟨k,?_⟩
     have:y≠x:=fun e=>hj (sF hN e1 (e▸hi))
     simp[this,e]
    ·exact .inr ⟨k,c,e,z.sameBut hs (cne y c e)⟩
  ·obtain⟨w',z⟩:=I.cell y c e
   exact⟨w',z.sameBut hs (cne y c e)⟩
  ·obtain⟨e,n,ne,nf,d⟩:=I.pin p hp
   exact⟨(hs.2 p.1 ne).trans e,n,ne,nf,d⟩
 ·have hfn:X.fn x=true:=by
   rcases hf with z | z
   ·exact z
   ·rw[z] at hk;cases hk
  obtain⟨c,hc⟩:=I.ok.has x (.inl hk)
  obtain⟨w',z⟩:=I.cell x c hc
  refine wpAny_storeName_cell I.ok.kind hk hc z (fun h' hc' hs=>?_)
  obtain⟨oc,hoc,hocd⟩:=id z
  refine h {s with heap:=h'} ⟨I.ok,I.os,I.bare,⟨fun b o e n hb hx=>?_,fun b o e n hb hx=>?_,I.base.free,fun b o e hx=>?_,I.base.tups,I.base.frzs,I.base.tbls⟩,⟨m,hn.sameBut hs (Ne.symm (cne x c hc)),fun j y v' e1 e2 e3=>?_⟩,fun y c' e=>?_,I.free,I.freeC,fun p hp=>?_,tracked ⟨oc,hoc,I.freeC x c hc⟩ hs,by simpa using I.len⟩ ⟨c,hs, .inr hc⟩
  ·exact(hs.2 b (Nat.ne_of_lt (Nat.lt_of_lt_of_le (Heap.lt_size e) (I.ok.cab x c hfn hc)))).trans (I.base.keep b o e n hb hx)
  ·obtain⟨sl,e1⟩:=I.base.slot b o e n hb hx
   exact⟨sl,(hs.2 b (Nat.ne_of_lt (Nat.lt_of_lt_of_le (Heap.lt_size e) (I.ok.cab x c hfn hc)))).trans e1⟩
  ·obtain⟨o',e1⟩:=I.base.there b o e hx
   exact⟨o',(hs.2 b (Nat.ne_of_lt (Nat.lt_of_lt_of_le (Heap.lt_size e) (I.ok.cab x c hfn hc)))).trans e1⟩
  ·by_cases hj:j=i
   ·subst hj
    rw[hi] at e1;cases e1
    rw[List.getElem?_set_self hiσ] at e2
    cases e2
    exact⟨u,r, .inr ⟨.inl hk,c,hc,hc'⟩⟩
   ·rw[List.getElem?_set_ne (Ne.symm hj)] at e2
    obtain⟨u',r',q⟩:=hl j y v' e1 e2 e3
    refine⟨u',r',?_⟩
    rcases q with q | ⟨k,c',e,z'⟩
    ·exact .inl q
    ·refine .inr ⟨k,c',e,z'.sameBut hs ?_⟩
     rintro rfl
     exact hj (sF hN e1 (I.ok.inj _ _ _ e hc▸hi))
  ·by_cases hcc:c'=c
   ·subst hcc;exact⟨_,hc'⟩
   ·obtain⟨w2,z2⟩:=I.cell y c' e
    exact⟨w2,z2.sameBut hs hcc⟩
  ·obtain⟨e,n,ne,nf,d⟩:=I.pin p hp
   refine⟨(hs.2 p.1 ?_).trans e,n,ne,nf,d⟩
   intro q
   rw[q,hoc] at e
   have q':oc=p.2:=Option.some.inj e
   exact d w' (by rw[←q'];exact hocd)
theorem r_ {M:Model}{A:Around}{E:Value→Shared→Prop}{i:Nat}{x:Str}{v:V}{u:Value}{Q:Unit→Shared→Prop}(I:Inv X pins σ H s) (hN:X.N.Nodup) (hi:X.N[i]? =some x) (hx:Loc X.env.scope x) (r:RelV v u)
 (h:∀s',Inv X pins (σ.set i (some v)) H s'→Q () s') (hf:X.fn x=true∨X.env.scope.names.lookup x=some .local:=by first | exact .inl rfl | exact .inr rfl | assumption):wpAny M A (storeName X.env x u) Q E s:=
 jX I hN hi hx r (fun s' I' _=>h s' I') hf
theorem Inv.call' {s':Shared}{ch:List Addr}(I:Inv X pins σ H s) (ho:s'.os=s.os) (u:Un (frs X.stack) ch H H' s.heap s'.heap) (hok:HOk X.prog X.w H' s'.heap) (hg:AllBare s'.gens)
 (hch:∀b∈ch,(b∈X.ex∨X.s₀.heap.objs.size≤b)∧b≠X.env.locals∧(∀x c,X.env.cells.lookup x=some c→c≠b)∧∀p∈X.pn++pins,p.1≠b):Inv X pins σ H' s':=by
 obtain⟨h',g',d',t',o'⟩:=s'
 have e:o'=s.os:=ho
 subst e
 exact I.call (g':=g') (t':=t') (d':=d') u hok hg hch
end
abbrev XK:=Value→Option Addr→Hp→Prop
abbrev St:=List (Option V)
abbrev VK:=V→Hp→Prop
abbrev TE:=St→Hp→VK→Prop
abbrev TT:=St→Hp→(Bool→Hp→Prop)→Prop
abbrev TA:=St→Hp→(List V→Hp→Prop)→Prop
structure Ends where
 nx:St→Hp→Prop
 rt:VK
 bk:St→Hp→Prop:=fun _ _=>False
 ct:St→Hp→Prop:=fun _ _=>False
abbrev TS:=Ends→St→Hp→Prop
def EP (X:Cx) (pins:List (Addr×Obj)) (σ:St) (Q:VK) (u:Value) (s':Shared):Prop:=∃v H',Inv X pins σ H' s'∧RelV v u∧Q v H'
def TP (X:Cx) (pins:List (Addr×Obj)) (σ:St) (Q:Bool→Hp→Prop) (b:Bool) (s':Shared):Prop:=∃H',Inv X pins σ H' s'∧Q b H'
def AP (X:Cx) (pins:List (Addr×Obj)) (σ:St) (Q:List V→Hp→Prop) (us:List Value) (s':Shared):Prop:=∃vs H',Inv X pins σ H' s'∧Vals vs us∧Q vs H'
def SP (X:Cx) (pins:List (Addr×Obj)) (D:Ends) (f:Flow) (s':Shared):Prop:=
 match f with
 | .next=>∃σ' H',Inv X pins σ' H' s'∧D.nx σ' H'
 | .brk=>∃σ' H',Inv X pins σ' H' s'∧D.bk σ' H'
 | .cont=>∃σ' H',Inv X pins σ' H' s'∧D.ct σ' H'
 | .ret u=>∃v σ' H',Inv X pins σ' H' s'∧RelV v u∧D.rt v H'
def PE (X:Cx) (e:Expr) (t:TE):Prop:=
 ∀(pins:List (Addr×Obj)) (s:Shared) (σ:St) (H:Hp) (Q:VK),Inv X pins σ H s→t σ H Q→wpAny (model X.prog X.w) X.A (eval e X.env) (EP X pins σ Q) X.xe s
def PT (X:Cx) (e:Expr) (t:TT):Prop:=
 ∀(pins:List (Addr×Obj)) (s:Shared) (σ:St) (H:Hp) (Q:Bool→Hp→Prop),Inv X pins σ H s→t σ H Q→wpAny (model X.prog X.w) X.A (isTrue e X.env (eval e X.env)) (TP X pins σ Q) X.xe s
def PW (X:Cx) (e:Expr) (t:TT):Prop:=
 ∀(whole:Sem Value) (pins:List (Addr×Obj)) (s:Shared) (σ:St) (H:Hp) (Q:Bool→Hp→Prop),Inv X pins σ H s→t σ H Q→wpAny (model X.prog X.w) X.A (isTrue e X.env whole) (TP X pins σ Q) X.xe s
theorem PW.pt {X:Cx}{e:Expr}{t:TT}(h:PW X e t):PT X e t:=h _
def PA (X:Cx) (es:List Expr) (t:TA):Prop:=
 ∀(pos:Pos) (pins:List (Addr×Obj)) (s:Shared) (σ:St) (H:Hp) (Q:List V→Hp→Prop),Inv X pins σ H s→t σ H Q→wpAny (model X.prog X.w) X.A (spliced (backTo pos (starEach es X.env))) (AP X pins σ Q) X.xe s
def PS (X:Cx) (st:Stmt) (t:TS):Prop:=
 ∀(pins:List (Addr×Obj)) (s:Shared) (σ:St) (H:Hp) (D:Ends),Inv X pins σ H s→t D σ H→wpAny (model X.prog X.w) X.A (exec st X.env) (SP X pins D) X.xe s
def PSs (X:Cx) (st:List Stmt) (t:TS):Prop:=
 ∀(pins:List (Addr×Obj)) (s:Shared) (σ:St) (H:Hp) (D:Ends),Inv X pins σ H s→t D σ H→wpAny (model X.prog X.w) X.A (execs st X.env) (SP X pins D) X.xe s
theorem thn {α:Type}{t:Sem α}{Q Q':α→Shared→Prop}{M:Model}{A:Around}{E:Value→Shared→Prop}{s:Shared}(h:wpAny M A t Q E s) (hQ:∀a s,Q a s→Q' a s):wpAny M A t Q' E s:=wpAny_mono h hQ fun _ _ x=>x
end L2
namespace L2
open PySem PySem.Spec PyProof.Rows
section
variable {X : Cx}
theorem bin {a b:Expr}{ta tb:TE}(ha:PE X a ta) (hb:PE X b tb) {pins:List (Addr×Obj)}{s:Shared}{σ:St}{H:Hp}{R:V→V→Hp→Prop}(I:Inv X pins σ H s) (h:ta σ H fun x H1=>tb σ H1 fun y H2=>R x y H2)
 {α:Type}{Q:α→Shared→Prop}{f:Value→Value→Sem α}
 (hf:∀v u s2 x y H2,Inv X pins σ H2 s2→RelV x v→RelV y u→R x y H2→wpAny (model X.prog X.w) X.A (f v u) Q X.xe s2):
 wpAny (model X.prog X.w) X.A (eval a X.env) (fun v s₁=>wpAny (model X.prog X.w) X.A (eval b X.env) (fun u s₂=>wpAny (model X.prog X.w) X.A (f v u) Q X.xe s₂) X.xe s₁) X.xe s:=by
 refine thn (ha pins s σ H _ I h) fun v s1 ⟨x,H1,I1,r1,q1⟩=>?_
 refine thn (hb pins s1 σ H1 _ I1 q1) fun u s2 ⟨y,H2,I2,r2,q2⟩=>?_
 exact hf v u s2 x y H2 I2 r1 r2 q2
def m9 (i:Nat):TE:=fun σ H Q=>∃v,σ[i]? =some (some v)∧Q v H
def tC (v:V):TE:=fun _ H Q=>Q v H
theorem Bj {i:Nat}{x:Str}{pos:Pos}(hN:X.N[i]? =some x) (hv:Vis X.env.scope x) (hd:(x==("__debug__":Str))=false:=by decide) (hcd:(x==("__classdict__":Str))=false:=by decide):PE X (.Name x pos) (m9 i):=by
 intro pins s σ H Q I h
 obtain⟨v,e,h⟩:=h
 obtain⟨m,hn,hl⟩:=I.loc
 obtain⟨u,r,l⟩:=hl i x v hN e hv
 have fin:EP X pins σ Q u s:=⟨v,H,I,r,h⟩
 rcases l with⟨hk,hm⟩ | ⟨hk,c,hc,hcell⟩
 ·exact wpAny_Name (wpAny_loadName_local I.ok.kind hk hn hm fin) hd
 ·rcases hk with hk | hk
  ·exact wpAny_Name (wpAny_loadName_cell I.ok.kind hk hc hcell fin) hd
  ·exact wpAny_Name (wpAny_loadName_free I.ok.kind hk hc hcell fin hcd) hd
theorem BW {i j pos}:PE X (.Constant (.int i) j pos) (tC (.int i)):=fun _ _ _ H _ I h=>wpAny_Constant_int ⟨.int i,H,I.tok _,⟨_,rfl⟩,h⟩
theorem Dv {b j pos}:PE X (.Constant (.bool b) j pos) (tC (.bl b)):=fun _ _ _ H _ I h=>Constant_bool ⟨.bl b,H,I,rfl,h⟩
theorem BC {j pos}:PE X (.Constant .none j pos) (tC .non):=fun _ _ _ H _ I h=>Constant_none ⟨.non,H,I,rfl,h⟩
theorem Cw {x j pos}:PE X (.Constant (.str x) j pos) (tC (.str x)):=fun _ _ _ H _ I h=>Calls.Constant_str ⟨.str x,H,I.tok _,⟨_,rfl⟩,h⟩
def Gl (X:Cx) (x:Str):Prop:=X.env.kindOf x=some .globalImplicit
theorem jC {E:Value→Shared→Prop}{pins:List (Addr×Obj)}{s:Shared}{σ:St}{H:Hp}{x:Str}{u:Value}{pos:Pos}{Q:Value→Shared→Prop}(I:Inv X pins σ H s) (hg:Gl X x) (hm:X.mg x=some u) (h:Q u s)
 (hd:(x==("__debug__":Str))=false:=by decide):wpAny (model X.prog X.w) X.A (eval (.Name x pos) X.env) Q E s:=
 Calls.Name_function_global I.ok.kind hg (Calls.loadGlobal_global (by rw[I.ok.glob];exact I.mod.glob.keeps I.bk) hm h) hd
theorem kj {E:Value→Shared→Prop}{pins:List (Addr×Obj)}{s:Shared}{σ:St}{H:Hp}{x:Str}{u:Value}{pos:Pos}{Q:Value→Shared→Prop}(I:Inv X pins σ H s) (hg:Gl X x) (hm:X.mg x=none) (hv:bootBuiltins x=some u) (h:Q u s)
 (hn:x≠"__name__":=by decide) (hd:(x==("__debug__":Str))=false:=by decide):wpAny (model X.prog X.w) X.A (eval (.Name x pos) X.env) Q E s:=by
 obtain⟨mb,h1,h2⟩:=I.mod.blt
 exact Calls.Name_function_global I.ok.kind hg (Calls.loadGlobal_builtin (by rw[I.ok.glob];exact I.mod.glob.keeps I.bk) hm (by rw[I.ok.blt];exact h1.keeps I.bk) ((h2 x hn).trans hv) h) hd
theorem lA {x:Str}{v:V}{u:Value}{pos:Pos}(hg:Gl X x) (hm:X.mg x=some u) (r:RelV v u) (hd:(x==("__debug__":Str))=false:=by decide):PE X (.Name x pos) (tC v):=
 fun _ _ _ H _ I h=>jC I hg hm ⟨v,H,I,r,h⟩ hd
theorem zS {x:Str}{v:V}{u:Value}{pos:Pos}(hg:Gl X x) (hm:X.mg x=none) (hv:bootBuiltins x=some u) (r:RelV v u) (hn:x≠"__name__":=by decide) (hd:(x==("__debug__":Str))=false:=by decide):PE X (.Name x pos) (tC v):=
 fun _ _ _ H _ I h=>kj I hg hm hv ⟨v,H,I,r,h⟩ hn hd
variable {a b : Expr} {ta tb : TE} {pos : Pos}
def PC (X:Cx) (op:CmpOp) (a b:Expr) (t:TE):Prop:=
 ∀(pins:List (Addr×Obj)) (s:Shared) (σ:St) (H:Hp) (Q:VK),Inv X pins σ H s→t σ H Q→
  wpAny (model X.prog X.w) X.A (eval a X.env) (fun v s₁=>wpAny (model X.prog X.w) X.A (eval b X.env) (fun u s₂=>wpAny (model X.prog X.w) X.A (compareOp op v u) (EP X pins σ Q) X.xe s₂) X.xe s₁) X.xe s
theorem y6 (b:Expr) {op:CmpOp}(h:op≠ .In) (h2:op≠ .NotIn):behindInMarks op b=false:=by
 have e1:(op==CmpOp.In)=false:=by cases op<;>first | rfl | exact absurd rfl h
 have e2:(op==CmpOp.NotIn)=false:=by cases op<;>first | rfl | exact absurd rfl h2
 cases b<;>simp[behindInMarks,e1,e2]
theorem BQ {op:CmpOp}{t:TE}(h:PC X op a b t) (h1:behindInMarks op b=false:=by first | exact y6 _ (by decide) (by decide) | rfl):PE X (.Compare a [op] [b] pos) t:=fun pins s σ H Q I hw=>wpAny_Compare1 (h pins s σ H Q I hw) h1
variable {tA tB' : TT} {rest : List Expr}
def Ep (t u:TT):TT:=fun σ H Q=>t σ H fun c H1=>if c=true then u σ H1 Q else Q false H1
def tOr (t u:TT):TT:=fun σ H Q=>t σ H fun c H1=>if c=true then Q true H1 else u σ H1 Q
def D8 (t:TT):TT:=fun σ H Q=>t σ H fun c H1=>Q (!c) H1
theorem Aw (ha:PT X a tA):PW X (.BoolOp .And [a] pos) tA:=by
 intro wh pins s σ H Q I h
 refine isTrue_and (thn (ha pins s σ H Q I h) fun c s1 e=>?_)
 cases c with
 |true=>exact isTrue_and_nil e
 |false=>exact e
theorem CG (ha:PT X a tA):PW X (.BoolOp .Or [a] pos) tA:=by
 intro wh pins s σ H Q I h
 refine isTrue_or (thn (ha pins s σ H Q I h) fun c s1 e=>?_)
 cases c with
 |false=>exact isTrue_or_nil e
 |true=>exact e
theorem BD (ha:PT X a tA) (hb:PW X (.BoolOp .And (b::rest) pos) tB'):PW X (.BoolOp .And (a::b::rest) pos) (Ep tA tB'):=by
 intro wh pins s σ H Q I h
 refine isTrue_and (thn (ha pins s σ H _ I h) fun c s1 ⟨H1,I1,q1⟩=>?_)
 cases c with
 |true=>exact hb wh pins s1 σ H1 Q I1 q1
 |false=>exact⟨H1,I1,q1⟩
theorem Dc (ha:PT X a tA) (hb:PW X (.BoolOp .Or (b::rest) pos) tB'):PW X (.BoolOp .Or (a::b::rest) pos) (tOr tA tB'):=by
 intro wh pins s σ H Q I h
 refine isTrue_or (thn (ha pins s σ H _ I h) fun c s1 ⟨H1,I1,q1⟩=>?_)
 cases c with
 |true=>exact⟨H1,I1,q1⟩
 |false=>exact hb wh pins s1 σ H1 Q I1 q1
theorem CJ (ha:PT X a tA):PT X (.UnaryOp .Not a pos) (D8 tA):=by
 intro pins s σ H Q I h
 exact isTrue_not (ha pins s σ H (fun c H1=>Q (!c) H1) I h)
def CT (ta tb:TE):TE:=fun σ H Q=>ta σ H fun x H1=>∃c,x= .bl c∧if c=true then tb σ H1 Q else Q (.bl false) H1
def C_ (ta:TE):TE:=fun σ H Q=>ta σ H fun x H1=>∃c,x= .bl c∧Q (.bl (!c)) H1
theorem Cf {op} {t:TE}(h:PE X a t):PE X (.BoolOp op [a] pos) t:=fun pins s σ H Q I hw=>BoolOp_one (h pins s σ H Q I hw)
theorem CA (ha:PE X a ta) (hb:PE X (.BoolOp .And (b::rest) pos) tb):PE X (.BoolOp .And (a::b::rest) pos) (CT ta tb):=by
 intro pins s σ H Q I h
 refine BoolOp_and (thn (ha pins s σ H _ I h) fun v s1 ⟨x,H1,I1,r1,q1⟩=>?_)
 obtain⟨c,rfl,q1⟩:=q1
 cases r1
 refine wpAny_truthy_bool ?_
 cases c with
 |true=>exact hb pins s1 σ H1 Q I1 q1
 |false=>exact⟨.bl false,H1,I1,rfl,q1⟩
theorem BA (ha:PE X a ta):PE X (.UnaryOp .Not a pos) (C_ ta):=by
 intro pins s σ H Q I h
 refine UnaryOp_ (thn (ha pins s σ H _ I h) fun v s1 ⟨x,H1,I1,r1,q1⟩=>?_)
 obtain⟨c,rfl,q1⟩:=q1
 cases r1
 exact not_of (wpAny_truthy_bool ⟨.bl (!c),H1,I1,rfl,q1⟩)
end
end L2
namespace L2
open PySem PySem.Spec PyProof.Rows
def SqL (K:PySem.W.Frag) (H:Hp) (a:Addr) (xs:List V):Prop:=
 Rd H a (.lst xs)∨
  ∃(o:Obj) (its:Array Value) (n:Nat),K.lookup a=some o∧o.cls= .type "list"∧o.dict=none∧o.data= .seq its n∧its.size≤sizeLine∧Vals xs its.toList
def SqT (K:PySem.W.Frag) (H:Hp) (a:Addr) (xs:List V):Prop:=
 Rd H a (.tup xs)∨
  ∃(o:Obj) (its:Array Value) (n:Nat),K.lookup a=some o∧o.cls= .type "tuple"∧o.data= .seq its n∧its.size≤sizeLine∧Vals xs its.toList
def D5:Value→Option V
 | .none=>some .non
 | .bool b=>some (.bl b)
 | .int i _=>some (.int i)
 | .str x _=>some (.str x)
 | .bytes b _=>some (.byt b)
 | .float b _=>some (.flt b)
 | .ref a=>some (.ref a)
 | .type n=>some (.ty n)
 |_=>none
theorem RelV.abs {x:V}{u:Value}(r:RelV x u):D5 u=some x:=by
 cases x with
 |non=>cases r;rfl
 |bl _=>cases r;rfl
 |int _=>obtain⟨t,rfl⟩:=r;rfl
 |str _=>obtain⟨t,rfl⟩:=r;rfl
 |byt _=>obtain⟨t,rfl⟩:=r;rfl
 |flt _=>obtain⟨t,rfl⟩:=r;rfl
 |ref _=>cases r;rfl
 |ty _=>cases r;rfl
theorem RelV.inj {x y:V}{u:Value}(r:RelV x u) (q:RelV y u):x=y:=Option.some.inj (r.abs.symm.trans q.abs)
theorem Vals.inj:∀{xs ys:List V}{us:List Value},Vals xs us→Vals ys us→xs=ys
 |_,_,_, .nil, .nil=>rfl
 |_,_,_, .cons r t, .cons r' t'=>by rw[r.inj r',Vals.inj t t']
section
variable {X : Cx} {pins : List (Addr × Obj)} {σ : St} {H : Hp} {s : Shared} {a : Addr} {xs ys : List V}
theorem SqL.of {K:PySem.W.Frag}(h:H a=some (.lst xs)):SqL K H a xs:= .inl (.inl h)
theorem SqT.of {K:PySem.W.Frag}(h:H a=some (.tup xs)):SqT K H a xs:= .inl (.inl h)
theorem Inv.list (I:Inv X pins σ H s) (h:SqL X.K H a xs):∃its:List Value,Vals xs its∧PlainL s.heap a its.toArray∧xs.length≤sizeLine:=by
 rcases h with h | ⟨o,its,n,hk,hc,hd,hs,hz,r⟩
 ·obtain⟨z,its,n,r,e⟩:=h.ok I.hok
  exact⟨its,r,⟨_,n,e,rfl,rfl,rfl⟩,z⟩
 ·refine⟨its.toList,r,⟨o,n,I.kIn a o hk,hc,hd,by simpa using hs⟩,?_⟩
  have e:=r.length
  simp only[Array.length_toList] at e
  omega
theorem Inv.tuple (I:Inv X pins σ H s) (h:SqT X.K H a xs):∃its:List Value,Vals xs its∧IsTup s.heap a its.toArray∧xs.length≤sizeLine:=by
 rcases h with h | ⟨o,its,n,hk,hc,hs,hz,r⟩
 ·obtain⟨z,its,r,p⟩:=h.ok I.hok
  exact⟨its,r,p,z⟩
 ·refine⟨its.toList,r,⟨o,I.kIn a o hk,hc,n,by simpa using hs⟩,?_⟩
  have e:=r.length
  simp only[Array.length_toList] at e
  omega
theorem Inv.list_inj (I:Inv X pins σ H s) (h:SqL X.K H a xs) (h':SqL X.K H a ys):xs=ys:=by
 obtain⟨its,r,⟨o,n,e,_,_,d⟩,_⟩:=I.list h
 obtain⟨its',r',⟨o',n',e',_,_,d'⟩,_⟩:=I.list h'
 rw[e] at e';cases e'
 rw[d] at d'
 injection d' with d1 _
 have:its=its':=by simpa using congrArg Array.toList d1
 subst this
 exact r.inj r'
theorem Inv.tuple_inj (I:Inv X pins σ H s) (h:SqT X.K H a xs) (h':SqT X.K H a ys):xs=ys:=by
 obtain⟨its,r,⟨o,e,_,n,d⟩,_⟩:=I.tuple h
 obtain⟨its',r',⟨o',e',_,n',d'⟩,_⟩:=I.tuple h'
 rw[e] at e';cases e'
 rw[d] at d'
 injection d' with d1 _
 have:its=its':=by simpa using congrArg Array.toList d1
 subst this
 exact r.inj r'
end
abbrev Cx.wish (X:Cx) (E:Value→Shared→Prop):Cx:={X with xe:=E}
abbrev Cx.nox (X:Cx):Cx:=X.wish fun _ _=>False
theorem Cx.Ok.wish {X:Cx}(ok:X.Ok) (E:Value→Shared→Prop):(X.wish E).Ok:=
 ⟨ok.mod,ok.kind,ok.glob,ok.blt,ok.above,ok.inj,ok.has,ok.cab,ok.hd,ok.frames,ok.stk,ok.exf,ok.bs,ok.bsz,ok.noex,ok.exfs,ok.funs,ok.frf⟩
theorem Cx.Ok.unwish {X:Cx}{E:Value→Shared→Prop}(ok:(X.wish E).Ok):X.Ok:=
 ⟨ok.mod,ok.kind,ok.glob,ok.blt,ok.above,ok.inj,ok.has,ok.cab,ok.hd,ok.frames,ok.stk,ok.exf,ok.bs,ok.bsz,ok.noex,ok.exfs,ok.funs,ok.frf⟩
section
variable {X : Cx} {pins : List (Addr × Obj)} {σ : St} {H : Hp} {s : Shared} {E : Value → Shared → Prop}
theorem Inv.wish (I:Inv X pins σ H s) (E:Value→Shared→Prop):Inv (X.wish E) pins σ H s:=⟨I.ok.wish E,I.os,I.bare,I.base,I.loc,I.cell,I.free,I.freeC,I.pin,I.hok,I.len⟩
theorem Inv.unwish (I:Inv (X.wish E) pins σ H s):Inv X pins σ H s:=⟨I.ok.unwish,I.os,I.bare,I.base,I.loc,I.cell,I.free,I.freeC,I.pin,I.hok,I.len⟩
theorem SP.unwish {D:Ends}{f:Flow}{s':Shared}(h:SP (X.wish E) pins D f s'):SP X pins D f s':=by
 cases f with
 |next=>obtain⟨σ',H',I,q⟩:=h;exact⟨σ',H',I.unwish,q⟩
 |brk=>obtain⟨σ',H',I,q⟩:=h;exact⟨σ',H',I.unwish,q⟩
 |cont=>obtain⟨σ',H',I,q⟩:=h;exact⟨σ',H',I.unwish,q⟩
 |ret u=>obtain⟨v,σ',H',I,r,q⟩:=h;exact⟨v,σ',H',I.unwish,r,q⟩
theorem PE.nox {e:Expr}{t:TE}(h:PE X.nox e t):PE X e t:=fun pins s σ H Q I hw=>
 wpAny_mono (h pins s σ H Q (I.wish _) hw) (fun _ _ ⟨v,H',I',r,q⟩=>⟨v,H',I'.unwish,r,q⟩) fun _ _ z=>False.elim z
theorem PT.nox {e:Expr}{t:TT}(h:PT X.nox e t):PT X e t:=fun pins s σ H Q I hw=>
 wpAny_mono (h pins s σ H Q (I.wish _) hw) (fun _ _ ⟨H',I',q⟩=>⟨H',I'.unwish,q⟩) fun _ _ z=>False.elim z
theorem PSs.nox {st:List Stmt}{t:TS}(h:PSs X.nox st t):PSs X st t:=fun pins s σ H D I hw=>
 wpAny_mono (h pins s σ H D (I.wish _) hw) (fun _ _ q=>q.unwish) fun _ _ z=>False.elim z
end
section
variable {X : Cx} {st : Stmt} {rest : List Stmt} {t u : TS} {e : Expr} {te : TE} {pos : Pos}
def DM:TS:=fun D σ H=>D.nx σ H
def D3 (t u:TS):TS:=fun D σ H=>t {D with nx:=u D} σ H
theorem zH:PSs X [] DM:=fun _ _ σ H _ I h=>wpAny_execs_nil ⟨σ,H,I,h⟩
theorem zx (h1:PS X st t) (h2:PSs X rest u):PSs X (st::rest) (D3 t u):=by
 intro pins s σ H D I h
 refine wpAny_execs_cons (thn (h1 pins s σ H {D with nx:=u D} I h) fun f s1 q=>?_)
 cases f with
 |next=>
  obtain⟨σ',H',I',q⟩:=q
  exact h2 pins s1 σ' H' D I' q
 |ret v=>exact q
 |brk=>exact q
 |cont=>exact q
theorem Ac (h1:PS X st t):PSs X [st] t:=by
 intro pins s σ H D I h
 refine wpAny_execs_cons (thn (h1 pins s σ H D I h) fun f s1 q=>?_)
 cases f with
 |next=>exact wpAny_execs_nil q
 |ret v=>exact q
 |brk=>exact q
 |cont=>exact q
theorem Inv.quiet {pins:List (Addr×Obj)}{σ:St}{H:Hp}{s:Shared}(I:Inv X pins σ H s):interactive X.env=false:=by simp[interactive,I.ok.kind]
def ze (te:TE):TS:=fun D σ H=>te σ H fun _ H1=>D.nx σ H1
theorem lz (he:PE X e te) (hs:swapsWith e none pos.line X.env=pure false:=by rfl):PS X (.Expr e pos) (ze te):=by
 intro pins s σ H D I h
 exact wpAny_Expr_any (thn (he pins s σ H _ I h) fun v s1 ⟨x,H1,I1,r1,q1⟩=>⟨σ,H1,I1,q1⟩) I.quiet hs
def Eb (te:TE):TS:=fun D σ H=>te σ H D.rt
theorem B0 (he:PE X e te):PS X (.Return (some e) pos) (Eb te):=by
 intro pins s σ H D I h
 exact wpAny_Return_some (thn (he pins s σ H _ I h) fun v s1 ⟨x,H1,I1,r1,q1⟩=>⟨x,σ,H1,I1,r1,q1⟩)
def D_ (c:TT) (t u:TS):TS:=fun D σ H=>c σ H fun b H1=>if b=true then t D σ H1 else u D σ H1
theorem CU {c:Expr}{a b:List Stmt}{tc:TT}(hc:PT X c tc) (ha:PSs X a t) (hb:PSs X b u):PS X (.If c a b pos) (D_ tc t u):=by
 intro pins s σ H D I h
 refine wpAny_If (thn (hc pins s σ H _ I h) fun d s1 ⟨H1,I1,q1⟩=>?_)
 cases d with
 |true=>exact ha pins s1 σ H1 D I1 q1
 |false=>exact hb pins s1 σ H1 D I1 q1
end
abbrev TG:=V→St→Hp→(St→Hp→Prop)→Prop
abbrev TGs:=List V→St→Hp→(St→Hp→Prop)→Prop
def PG (X:Cx) (target:Expr) (t:TG):Prop:=
 ∀(pins:List (Addr×Obj)) (s:Shared) (σ:St) (H:Hp) (v:V) (u:Value) (Q:St→Hp→Prop),Inv X pins σ H s→RelV v u→t v σ H Q→
  wpAny (model X.prog X.w) X.A (assign target X.env u) (fun _ s'=>∃σ' H',Inv X pins σ' H' s'∧Q σ' H') X.xe s
def PGs (X:Cx) (ts:List Expr) (t:TGs):Prop:=
 ∀(pins:List (Addr×Obj)) (s:Shared) (σ:St) (H:Hp) (vs:List V) (us:List Value) (Q:St→Hp→Prop),Inv X pins σ H s→Vals vs us→t vs σ H Q→
  wpAny (model X.prog X.w) X.A (assignInOrder ((assignEach ts X.env).map (·.2)) us) (fun _ s'=>∃σ' H',Inv X pins σ' H' s'∧Q σ' H') X.xe s
abbrev Er:=V→V→V→Hp→(Hp→Prop)→Prop
section
variable {X : Cx} {pos : Pos}
def xy (i:Nat):TG:=fun v σ H Q=>Q (σ.set i (some v)) H
theorem a9 {i:Nat}{x:Str}(hN:X.N.Nodup) (hi:X.N[i]? =some x) (hx:Loc X.env.scope x) (hf:X.fn x=true∨X.env.scope.names.lookup x=some .local:=by first | exact .inl rfl | exact .inr rfl | assumption):PG X (.Name x pos) (xy i):=by
 intro pins s σ H v u Q I r h
 exact wpAny_assign_Name (r_ I hN hi hx r (fun s' I'=>⟨_,H,I',h⟩) hf)
def CW:TGs:=fun vs σ H Q=>vs=[]∧Q σ H
def A3 (t:TG) (u:TGs):TGs:=fun vs σ H Q=>∃v r,vs=v::r∧t v σ H fun σ' H'=>u r σ' H' Q
theorem qr:PGs X [] CW:=by
 intro pins s σ H vs us Q I r h
 obtain⟨e,h⟩:=h
 subst e
 cases r
 exact assignInOrder_nil ⟨σ,H,I,h⟩
theorem gr {e:Expr}{es:List Expr}{t:TG}{u:TGs}(h1:PG X e t) (h2:PGs X es u)
 (hs:(assignEach (e::es) X.env).map (·.2)=assign e X.env::(assignEach es X.env).map (·.2):=by rfl):PGs X (e::es) (A3 t u):=by
 intro pins s σ H vs us Q I r h
 obtain⟨v,vr,e1,h⟩:=h
 subst e1
 cases r with
 |cons r rr=>
  rw[hs]
  refine assignInOrder_cons (thn (h1 pins s σ H _ _ _ I r h) fun _ s1 ⟨σ1,H1,I1,q1⟩=>?_)
  exact h2 pins s1 σ1 H1 _ _ Q I1 rr q1
def DQ (K:PySem.W.Frag) (n:Nat) (t:TGs):TG:=fun v σ H Q=>∃a xs,v= .ref a∧SqT K H a xs∧xs.length=n∧t xs σ H Q
theorem uQ {es:List Expr}{k:Nat}{t:TGs}{n:Nat}(hc:X.calm=true) (h:PGs X es t)
 (hn:(assignEach es X.env).length=n:=by rfl) (hst:(assignEach es X.env).findIdx? (·.1)=none:=by rfl):PG X (.Tuple es k pos) (DQ X.K n t):=by
 intro pins s σ H v u Q I r hw
 obtain⟨a,xs,e1,hq,hl,hw⟩:=hw
 subst e1
 cases r
 obtain⟨its,rv,ht,hz⟩:=I.tuple hq
 refine assign_Tuple_tuple (I.ok.hd hc) ht (by simp[hn,←hl,rv.length]) hst fun h' hx=>?_
 have I1:Inv X pins σ H {s with heap:=h'}:=I.kept (t':=s.toks) fun b o e=>hx b o (Nat.ne_of_lt (Heap.lt_size e)) e
 exact h pins _ σ H xs _ Q I1 (by simpa using rv) hw
def rF (to ti:TE) (t:Er):TG:=fun v σ H Q=>to σ H fun o H1=>ti σ H1 fun i H2=>t o i v H2 fun H3=>Q σ H3
def D0 (te:TE) (g:TG):TS:=fun D σ H=>te σ H fun x H1=>g x σ H1 D.nx
theorem qF {tg e:Expr}{te:TE}{g:TG}(he:PE X e te) (hg:PG X tg g) (hs:swapsWithSole [tg] e pos.line X.env=pure false:=by rfl) (hw:swappedStores [tg] e X.env=pure none:=by rfl)
 (h1:(assignEach [tg] X.env).map (·.2)=[assign tg X.env]:=by rfl):PS X (.Assign [tg] e pos) (D0 te g):=by
 intro pins s σ H D I h
 refine wpAny_Assign_stores (thn (he pins s σ H _ I h) fun v s1 ⟨x,H1,I1,r1,q1⟩=>?_) hs hw
 rw[h1]
 exact thn (hg pins s1 σ H1 x v _ I1 r1 q1) fun _ s2 q=>q
end
section
variable {X : Cx} {pos : Pos}
def Cm (c:TT) (tb:TS):TS:=fun D σ H=>∃W:Nat→St→Hp→Prop,(∃m,W m σ H)∧∀m σ H,W m σ H→
 c σ H fun b H1=>if b=true then∃N:St→Hp→Prop,(∀σ' H',N σ' H'→∃m',m'<m∧W m' σ' H')∧tb {D with nx:=N,ct:=N,bk:=D.nx} σ H1 else D.nx σ H1
theorem zi {c:Expr}{body:List Stmt}{tc:TT}{tb:TS}(hp:PassesOwn (model X.prog X.w) X.A X.env X.xe) (hc:PT X c tc) (hb:PSs X body tb):PS X (.While c body [] pos) (Cm tc tb):=by
 intro pins s σ H D I h
 obtain⟨W,⟨m0,w0⟩,turn⟩:=h
 refine wpAny_While (codeAny_whileLoop (fun n s'=>∃σ' H',Inv X pins σ' H' s'∧W n σ' H') ?_ m0 ⟨σ,H,I,w0⟩)
 rintro n s1 ⟨σ1,H1,I1,w1⟩
 refine wpAny_passesOwn hp (thn (hc pins s1 σ1 H1 _ I1 (turn n σ1 H1 w1)) fun b s2 ⟨H2,I2,q2⟩=>?_)
 cases b with
 |true=>
  obtain⟨N,hN,q2⟩:=q2
  rw[if_pos rfl]
  refine wpAny_passesOwn hp (thn (hb pins s2 σ1 H2 _ I2 q2) fun f s3 q3=>?_)
  cases f with
  |next=>
   obtain⟨σ3,H3,I3,n3⟩:=q3
   obtain⟨m',hm,w3⟩:=hN σ3 H3 n3
   exact⟨m',hm,σ3,H3,I3,w3⟩
  |cont=>
   obtain⟨σ3,H3,I3,n3⟩:=q3
   obtain⟨m',hm,w3⟩:=hN σ3 H3 n3
   exact⟨m',hm,σ3,H3,I3,w3⟩
  |brk=>exact q3
  |ret v=>exact q3
 |false=>
  rw[if_neg Bool.false_ne_true]
  exact wpAny_execs_nil ⟨σ1,H2,I2,q2⟩
end
structure It where
 go:Nat→Hp→Prop
 yld:Nat→Hp→V→Hp→Prop
 stop:Nat→Hp→Prop
def nY (X:Cx) (pins:List (Addr×Obj)) (H:Hp) (b:Addr):Prop:=
 H b=none∧b≠X.env.locals∧b∉X.fs∧(b∈X.ex∨X.s₀.heap.objs.size≤b)∧(∀x c,X.env.cells.lookup x=some c→c≠b)∧∀p∈X.pn++pins,p.1≠b
theorem Inv.fpOk {X:Cx}{pins:List (Addr×Obj)}{σ:St}{H H':Hp}{s:Shared}{b:Addr}(I:Inv X pins σ H s) (hb:s.heap.objs.size≤b) (hn:H' b=none):nY X pins H' b:=by
 refine⟨hn,Nat.ne_of_gt (Nat.lt_of_lt_of_le I.lt hb),I.nofs hb, .inr (Nat.le_trans I.sz hb),fun x c e z=>?_,fun p hp z=>?_⟩
 ·obtain⟨v,q⟩:=I.cell x c e
  exact absurd (Nat.lt_of_lt_of_le q.lt (by rw[z];exact hb)) (Nat.lt_irrefl _)
 ·exact absurd (Nat.lt_of_lt_of_le (Heap.lt_size (I.pin p hp).1) (by rw[z];exact hb)) (Nat.lt_irrefl _)
structure Turn (P:Program) (w:World) (K:PySem.W.Frag) (tg:Expr) (J:It) (fp:List Addr) (it:Addr) (tn:Nat→Heap→Prop):Prop where
 mem:it∈fp
 obj:∀i h,tn i h→∀b∈fp,∃o,h.get? b=some o∧∀v,o.data≠ .cell v
 keep:∀i h h',tn i h→(∀b∈fp,∀o,h.get? b=some o→h'.get? b=some o)→tn i h'
 item:∀(X:Cx),X.prog=P→X.w=w→X.K=K→X.calm=true→∀(i:Nat) (pins:List (Addr×Obj)) (s:Shared) (σ:St) (H:Hp) (E:Value→Shared→Prop),Inv X pins σ H s→(∀b∈fp,nY X pins H b)→tn i s.heap→J.go i H→
  wpAny (model P w) X.A (pyNext (.ref it)) (fun r s1=>∃u,r=some u∧
   wpAny (model P w) X.A (letOwnedTupleGo tg (.ref it) u) (fun _ s2=>∃x H',Inv X pins σ H' s2∧RelV x u∧J.yld i H x H'∧tn (i+1) s2.heap∧∀b∈fp,H' b=none) E s1) E s
 done:∀(X:Cx),X.prog=P→X.w=w→X.K=K→X.calm=true→∀(i:Nat) (pins:List (Addr×Obj)) (s:Shared) (σ:St) (H:Hp) (E:Value→Shared→Prop),Inv X pins σ H s→(∀b∈fp,nY X pins H b)→tn i s.heap→J.stop i H→
  wpAny (model P w) X.A (pyNext (.ref it)) (fun r s1=>r=none∧Inv X pins σ H s1) E s
 self:∀(A:Around) (i:Nat) (s:Shared) (Q:Value→Shared→Prop) (E:Value→Shared→Prop),tn i s.heap→Q (.ref it) s→wpAny (model P w) A (pyIter (.ref it)) Q E s
abbrev TI:=St→Hp→(It→Hp→Prop)→Prop
def PIE (X:Cx) (pins:List (Addr×Obj)) (σ:St) (tg:Expr) (R:It→Hp→Prop) (itv:Value) (s2:Shared):Prop:=
 ∃(it:Addr) (fp:List Addr) (tn:Nat→Heap→Prop) (J:It) (H':Hp),itv= .ref it∧Inv X pins σ H' s2∧Turn X.prog X.w X.K tg J fp it tn∧tn 0 s2.heap∧(∀b∈fp,nY X pins H' b)∧R J H'
def PI (X:Cx) (tg iter:Expr) (wi:TI):Prop:=
 ∀(pins:List (Addr×Obj)) (s:Shared) (σ:St) (H:Hp) (R:It→Hp→Prop),Inv X pins σ H s→wi σ H R→
  wpAny (model X.prog X.w) X.A (eval iter X.env) (fun v s1=>wpAny (model X.prog X.w) X.A (pyIter v) (PIE X pins σ tg R) X.xe s1) X.xe s
theorem oH {M:Model}{A:Around}{E:Value→Shared→Prop}{s:Shared}{tg:Expr}{it:Addr}{u:Value}{o:Obj}{n:String}{vs:Array Value}{Q:Unit→Shared→Prop}(ho:s.heap.get? it=some o) (hc:o.cls= .type n) (hd:o.data= .fields vs)
 (hn:["enumerate","zip","dict_itemiterator","dict_reverseitemiterator","odict_iterator","itertools.zip_longest","itertools.pairwise"].contains n=false) (hQ:Q () s):wpAny M A (letOwnedTupleGo tg (.ref it) u) Q E s:=by
 unfold letOwnedTupleGo
 cases tg<;>first
  |exact wpAny_pure hQ
  |(cases u<;>first
    |exact wpAny_pure hQ
    |(refine wpAny_bind (wpAny_load ho ?_)
      rw[hc,hd]
      show wpAny M A (if (["enumerate","zip","dict_itemiterator","dict_reverseitemiterator","odict_iterator","itertools.zip_longest","itertools.pairwise"].contains n&&vs[0]? ==some (rawInt _))=true then _ else _) Q E s
      rw[if_neg (by intro h;rw[hn,Bool.false_and] at h;cases h)]
      exact wpAny_pure hQ))
def Itl (K:PySem.W.Frag) (a:Addr):It:=
 ⟨fun i H=>∃xs x,SqL K H a xs∧xs[i]? =some x,fun i H x H'=>H'=H∧∀xs,SqL K H a xs→xs[i]? =some x,fun i H=>∃xs,SqL K H a xs∧xs.length≤i⟩
def Itt (K:PySem.W.Frag) (a:Addr):It:=
 ⟨fun i H=>∃xs x,SqT K H a xs∧xs[i]? =some x,fun i H x H'=>H'=H∧∀xs,SqT K H a xs→xs[i]? =some x,fun i H=>∃xs,SqT K H a xs∧xs.length≤i⟩
def Itr (lo:Int) (n:Nat):It:=⟨fun i _=>i<n,fun i H x H'=>H'=H∧x= .int (lo+i),fun i _=>n≤i⟩
theorem v8 {P:Program}{w:World}{K:PySem.W.Frag}{tg:Expr}(a it:Addr):Turn P w K tg (Itl K a) [it] it (fun i h=>h.IsListIter it a i) where
 mem:=by simp
 obj:=fun i h st b hb=>by
  have e:b=it:=by simpa using hb
  subst e
  obtain⟨o,e,c,d⟩:=st
  exact⟨o,e,fun v z=>by rw[d] at z;cases z⟩
 keep:=fun i h h' st k=>st.at fun o e=>k it (by simp) o e
 item:=by
  intro X hP hw hK hc i pins s σ H E I hf st hg
  subst hP hw hK
  obtain⟨xs,x,hq,hx⟩:=hg
  obtain⟨its,rv,p,hz⟩:=I.list hq
  obtain⟨u,hu,ru⟩:=rv.get hx
  obtain⟨f0,f1,f2,f3,f4,f5⟩:=hf it (by simp)
  refine wpAny_pyNext_list_item st p.isList (x:=u) (by simpa using hu) fun h' st' sb=>?_
  have I1:Inv X pins σ H {s with heap:=h'}:=I.turned (t':=s.toks) (fun b o hb e=>(sb.2 b hb).trans e) f0 f1 f3 f4 f5
  obtain⟨o,e,c,d⟩:=id st'
  exact⟨u,rfl,oH (s:={s with heap:=h'}) e c d (by decide) ⟨x,H,I1,ru,⟨rfl,fun ys hy=>by rw[I.list_inj hy hq];exact hx⟩,st',fun b hb=>(hf b hb).1⟩⟩
 done:=by
  intro X hP hw hK hc i pins s σ H E I hf st hg
  subst hP hw hK
  obtain⟨xs,hq,hx⟩:=hg
  obtain⟨its,rv,p,hz⟩:=I.list hq
  obtain⟨f0,f1,f2,f3,f4,f5⟩:=hf it (by simp)
  have hl:=rv.length
  exact wpAny_pyNext_list_end (I.ok.hd hc) st p.isList (by simp;omega) fun h' eb=>⟨rfl,I.turned (t':=s.toks) (fun b o hb e=>eb b o hb e) f0 f1 f3 f4 f5⟩
 self:=fun _ _ _ _ _ st h=>wpAny_pyIter_listiter st h
theorem uX {P:Program}{w:World}{K:PySem.W.Frag}{tg:Expr}(a it:Addr):Turn P w K tg (Itt K a) [it] it (fun i h=>h.IsTupleIter it a i) where
 mem:=by simp
 obj:=fun i h st b hb=>by
  have e:b=it:=by simpa using hb
  subst e
  obtain⟨o,e,c,d⟩:=st
  exact⟨o,e,fun v z=>by rw[d] at z;cases z⟩
 keep:=fun i h h' st k=>st.at fun o e=>k it (by simp) o e
 item:=by
  intro X hP hw hK hc i pins s σ H E I hf st hg
  subst hP hw hK
  obtain⟨xs,x,hq,hx⟩:=hg
  obtain⟨its,rv,p,hz⟩:=I.tuple hq
  obtain⟨u,hu,ru⟩:=rv.get hx
  obtain⟨f0,f1,f2,f3,f4,f5⟩:=hf it (by simp)
  refine wpAny_pyNext_tuple_item st (show s.heap.IsTuple a its.toArray from p) (x:=u) (by simpa using hu) fun h' st' sb=>?_
  have I1:Inv X pins σ H {s with heap:=h'}:=I.turned (t':=s.toks) (fun b o hb e=>(sb.2 b hb).trans e) f0 f1 f3 f4 f5
  obtain⟨o,e,c,d⟩:=id st'
  exact⟨u,rfl,oH (s:={s with heap:=h'}) e c d (by decide) ⟨x,H,I1,ru,⟨rfl,fun ys hy=>by rw[I.tuple_inj hy hq];exact hx⟩,st',fun b hb=>(hf b hb).1⟩⟩
 done:=by
  intro X hP hw hK hc i pins s σ H E I hf st hg
  subst hP hw hK
  obtain⟨xs,hq,hx⟩:=hg
  obtain⟨its,rv,p,hz⟩:=I.tuple hq
  obtain⟨f0,f1,f2,f3,f4,f5⟩:=hf it (by simp)
  have hl:=rv.length
  exact wpAny_pyNext_tuple_end (I.ok.hd hc) st (show s.heap.IsTuple a its.toArray from p) (by simp;omega) fun h' eb=>⟨rfl,I.turned (t':=s.toks) (fun b o hb e=>eb b o hb e) f0 f1 f3 f4 f5⟩
 self:=fun _ _ _ _ _ st h=>wpAny_pyIter_tupleiter st h
theorem uo {P:Program}{w:World}{K:PySem.W.Frag}{tg:Expr}(it:Addr) (lo:Int) (n:Nat):Turn P w K tg (Itr lo n) [it] it (fun i h=>IsRangeIter h it (lo+(i:Nat)*1) ((n:Int) - (i:Nat)) 1) where
 mem:=by simp
 obj:=fun i h st b hb=>by
  have e:b=it:=by simpa using hb
  subst e
  exact⟨_,st,fun v z=>by
   have z':Data.fields _=Data.cell v:=z
   cases z'⟩
 keep:=fun i h h' st k=>k it (by simp) _ st
 item:=by
  intro X hP hw hK hc i pins s σ H E I hf st hg
  subst hP hw hK
  obtain⟨f0,f1,f2,f3,f4,f5⟩:=hf it (by simp)
  have W:=Walks.range (prog:=X.prog) (w:=X.w) (I.ok.hd hc) it lo 1 n
  refine W.item i s _ _ hg st fun v h' tk hv st' kk=>?_
  obtain⟨t,rfl⟩:=hv
  have I1:Inv X pins σ H {s with heap:=h',toks:=tk}:=I.turned (fun b o hb e=>kk b o (by simpa using hb) e) f0 f1 f3 f4 f5
  refine⟨_,rfl,oH (s:={s with heap:=h',toks:=tk}) (n:="range_iterator") st' rfl rfl (by decide) ⟨.int (lo+i),H,I1,⟨t,?_⟩,⟨rfl,rfl⟩,st',fun b hb=>(hf b hb).1⟩⟩
  rw[Int.mul_one]
 done:=by
  intro X hP hw hK hc i pins s σ H E I hf st hg
  subst hP hw hK
  obtain⟨f0,f1,f2,f3,f4,f5⟩:=hf it (by simp)
  exact wpAny_pyNext_range_end (I.ok.hd hc) st (by have:n≤i:=hg;omega) fun h' eb=>⟨rfl,I.turned (t':=s.toks) (fun b o hb e=>eb b o hb e) f0 f1 f3 f4 f5⟩
 self:=fun _ _ _ _ _ st h=>wpAny_pyIter_rangeiter st h
end L2
namespace L2
open PySem PySem.Spec PyProof.Rows
section
variable {X : Cx} {tg : Expr}
def C8 (K:PySem.W.Frag) (tl:TE):TI:=fun σ H R=>tl σ H fun x H1=>∃a,x= .ref a∧(∃xs,SqL K H1 a xs)∧R (Itl K a) H1
def D2 (K:PySem.W.Frag) (tl:TE):TI:=fun σ H R=>tl σ H fun x H1=>∃a,x= .ref a∧(∃xs,SqT K H1 a xs)∧R (Itt K a) H1
theorem zX {l:Expr}{tl:TE}(hl:PE X l tl):PI X tg l (C8 X.K tl):=by
 intro pins s σ H R I h
 refine thn (hl pins s σ H _ I h) fun v s1 ⟨x,H1,I1,r1,q1⟩=>?_
 obtain⟨a,e,⟨xs,hq⟩,q⟩:=q1
 subst e
 cases r1
 obtain⟨its,rv,p,hz⟩:=I1.list hq
 refine wpAny_pyIter_list p.isList ?_
 refine⟨s1.heap.objs.size,[s1.heap.objs.size],_,_,H1,rfl,I1.kept (t':=s1.toks) fun b o e=>Heap.get?_push_of_some _ e,v8 a _,⟨_,Heap.get?_push_size _ rfl,rfl,rfl⟩,fun b hb=>?_,q⟩
 have e:b=s1.heap.objs.size:=by simpa using hb
 subst e
 exact I1.fpOk (Nat.le_refl _) (I1.hok.fresh (Nat.le_refl _))
theorem Bo {l:Expr}{tl:TE}(hl:PE X l tl):PI X tg l (D2 X.K tl):=by
 intro pins s σ H R I h
 refine thn (hl pins s σ H _ I h) fun v s1 ⟨x,H1,I1,r1,q1⟩=>?_
 obtain⟨a,e,⟨xs,hq⟩,q⟩:=q1
 subst e
 cases r1
 obtain⟨its,rv,p,hz⟩:=I1.tuple hq
 refine wpAny_pyIter_tuple (show s1.heap.IsTuple a its.toArray from p) ?_
 refine⟨s1.heap.objs.size,[s1.heap.objs.size],_,_,H1,rfl,I1.kept (t':=s1.toks) fun b o e=>Heap.get?_push_of_some _ e,uX a _,⟨_,Heap.get?_push_size _ rfl,rfl,rfl⟩,fun b hb=>?_,q⟩
 have e:b=s1.heap.objs.size:=by simpa using hb
 subst e
 exact I1.fpOk (Nat.le_refl _) (I1.hok.fresh (Nat.le_refl _))
theorem so {pins:List (Addr×Obj)}{σ:St}{H:Hp}{s:Shared}{R:It→Hp→Prop}{E:Value→Shared→Prop}{lo hi:Int}{t u v:Tok}{tk:Nat}(I:Inv X pins σ H s) (h1: -(2 ^ 62)≤lo) (h2:lo<2 ^ 62) (h3: -(2 ^ 62)≤hi) (h4:hi<2 ^ 62)
 (q:R (Itr lo (hi - lo).toNat) H):wpAny (model X.prog X.w) X.A (pyIter (.ref s.heap.objs.size)) (PIE X pins σ tg R) E {s with heap:=s.heap.push {cls:= .type "range",data:= .fields #[.int lo t, .int hi u, .int 1 v]},toks:=tk}:=by
 refine wpAny_pyIter_range (IsRange.new ..) (small_one h1 h2 h3 h4) ?_
 have I1:Inv X pins σ H {s with heap:=s.heap.push {cls:= .type "range",data:= .fields #[.int lo t, .int hi u, .int 1 v]},toks:=tk}:=I.kept fun b o e=>Heap.get?_push_of_some _ e
 refine⟨(s.heap.push {cls:= .type "range",data:= .fields #[.int lo t, .int hi u, .int 1 v]}).objs.size,[(s.heap.push {cls:= .type "range",data:= .fields #[.int lo t, .int hi u, .int 1 v]}).objs.size],_,_,H,rfl,
  I1.kept (t':=tk) fun b o e=>Heap.get?_push_of_some _ e,uo _ lo (hi - lo).toNat,?_,fun b hb=>?_,q⟩
 ·have e1:lo+((0:Nat):Int)*1=lo:=by simp
  have e2:(((hi - lo).toNat:Nat):Int) - ((0:Nat):Int)=Builtin.Range.rangeSize lo hi 1:=by rw[rangeSize_one];split<;>omega
  show IsRangeIter _ _ (lo+((0:Nat):Int)*1) ((((hi - lo).toNat:Nat):Int) - ((0:Nat):Int)) 1
  rw[e1,e2]
  exact Heap.get?_push_size _ rfl
 ·have e:b=(s.heap.push {cls:= .type "range",data:= .fields #[.int lo t, .int hi u, .int 1 v]}).objs.size:=by simpa using hb
  subst e
  exact I1.fpOk (Nat.le_refl _) (I1.hok.fresh (Nat.le_refl _))
def DN (ta:TA):TI:=fun σ H R=>ta σ H fun vs H1=>∃j:Int,vs=[.int j]∧ -(2 ^ 62)≤j∧j<2 ^ 62∧R (Itr 0 j.toNat) H1
def DI (ta:TA):TI:=fun σ H R=>ta σ H fun vs H1=>∃i j:Int,vs=[.int i, .int j]∧(-(2 ^ 62)≤i∧i<2 ^ 62∧ -(2 ^ 62)≤j∧j<2 ^ 62)∧R (Itr i (j - i).toNat) H1
theorem wY {a:Expr}{ta:TA}{p pos:Pos}(hg:Gl X "range") (hm:X.mg "range"=none) (ha:PA X [a] ta) (hs:starEach [a] X.env=[(false,eval a X.env)]:=by rfl):PI X tg (.Call (.Name "range" p) [a] [] pos) (DN ta):=by
 intro pins s σ H R I h
 refine Call_ (kj I hg hm boot_range (PyProof.Rows.callWith_type1 (thn (ha pos pins s σ H _ I h) fun us s1 ⟨vs,H1,I1,r1,q1⟩=>?_) hs rfl))
 obtain⟨j,e,q1,q2,q⟩:=q1
 subst e
 cases r1 with
 |cons r rr=>
  cases rr
  obtain⟨t,rfl⟩:=r
  exact call_range_1 (so I1 (by omega) (by omega) q1 q2 (by simpa using q))
theorem wz {a b:Expr}{ta:TA}{p pos:Pos}(hg:Gl X "range") (hm:X.mg "range"=none) (ha:PA X [a,b] ta) (hs:starEach [a,b] X.env=[(false,eval a X.env),(false,eval b X.env)]:=by rfl) (hs2:starEach [b] X.env=[(false,eval b X.env)]:=by rfl):
 PI X tg (.Call (.Name "range" p) [a,b] [] pos) (DI ta):=by
 intro pins s σ H R I h
 refine Call_ (kj I hg hm boot_range (PyProof.Rows.callWith_type1 (thn (ha pos pins s σ H _ I h) fun us s1 ⟨vs,H1,I1,r1,q1⟩=>?_) (by rw[hs,hs2]) (by rw[hs2];rfl)))
 obtain⟨i,j,e,⟨q1,q2,q3,q4⟩,q⟩:=q1
 subst e
 cases r1 with
 |cons r rr=>
  cases rr with
  |cons r' rr=>
   cases rr
   obtain⟨t,rfl⟩:=r
   obtain⟨t',rfl⟩:=r'
   exact call_range_2 (so I1 q1 q2 q3 q4 q)
def Ef (wi:TI) (g:TG) (tb:TS):TS:=fun D σ H=>wi σ H fun J H1=>∃W:Nat→Nat→St→Hp→Prop,(∃m,W 0 m σ H1)∧∀i m σ H,W i m σ H→
 (J.stop i H∧D.nx σ H)∨(J.go i H∧∃N:St→Hp→Prop,(∀σ' H',N σ' H'→∃m',m'<m∧W (i+1) m' σ' H')∧∀x H',J.yld i H x H'→g x σ H' fun σ2 H2=>tb {D with nx:=N,ct:=N,bk:=D.nx} σ2 H2)
def mf (fp:List Addr) (h:Heap):List (Addr×Obj):=fp.filterMap fun b=>(h.get? b).map fun o=>(b,o)
theorem gP {fp:List Addr}{h:Heap}{b:Addr}{o:Obj}(hb:b∈fp) (e:h.get? b=some o):(b,o)∈mf fp h:=List.mem_filterMap.mpr ⟨b,hb,by rw[e];rfl⟩
theorem wX {fp:List Addr}{h:Heap}{p:Addr×Obj}(hp:p∈mf fp h):p.1∈fp∧h.get? p.1=some p.2:=by
 obtain⟨b,hb,e⟩:=List.mem_filterMap.mp hp
 cases q:h.get? b with
 |none=>rw[q] at e;cases e
 |some o=>
  rw[q] at e
  have e':(b,o)=p:=Option.some.inj e
  subst e'
  exact⟨hb,q⟩
theorem Inv.pinned {pins:List (Addr×Obj)}{σ:St}{H:Hp}{s:Shared}{fp:List Addr}(I:Inv X pins σ H s) (hf:∀b∈fp,nY X pins H b) (ho:∀b∈fp,∃o,s.heap.get? b=some o∧∀v,o.data≠ .cell v):Inv X (pins++mf fp s.heap) σ H s:=
 I.pins_of fun p hp=>(List.mem_append.mp hp).elim (fun z=>I.pin p (List.mem_append_right _ z)) fun z=>by
  obtain⟨hb,e⟩:=wX z
  obtain⟨f0,f1,f2,_⟩:=hf p.1 hb
  obtain⟨o,e',d⟩:=ho p.1 hb
  rw[e] at e';cases e'
  exact⟨e,f0,f1,f2,d⟩
theorem Inv.unpinned {pins pl:List (Addr×Obj)}{σ:St}{H:Hp}{s:Shared}(I:Inv X (pins++pl) σ H s):Inv X pins σ H s:=I.pins_of fun p hp=>I.pin p (List.mem_append_right _ (List.mem_append_left _ hp))
theorem CO {iter:Expr}{body:List Stmt}{wi:TI}{g:TG}{tb:TS}{pos:Pos}(hp:PassesOwn (model X.prog X.w) X.A X.env X.xe) (hc:X.calm=true) (hi:PI X tg iter wi) (hg:PG X tg g) (hb:PSs X body tb)
 (hs:∀x,foldedSetIterable iter X.env x=pure x:=by intro _;rfl):PS X (.For tg iter body [] pos) (Ef wi g tb):=by
 intro pins s σ H D I h
 refine wpAny_For (thn (hi pins s σ H _ I h) fun v s1 h1=>thn h1 fun itv s2 h2=>?_) hs
 obtain⟨it,fp,tn,J,H2,e,I2,T,st2,f2,W,⟨m0,w0⟩,turn⟩:=h2
 subst e
 have stat:∀{H':Hp},(∀b∈fp,H' b=none)→∀b∈fp,nY X pins H' b:=fun hn b hb=>⟨hn b hb,(f2 b hb).2⟩
 refine codeAny_forLoop_any (fun n s'=>∃i σ' H',Inv X pins σ' H' s'∧tn i s'.heap∧(∀b∈fp,H' b=none)∧W i n σ' H') ?_ m0 ⟨0,σ,H2,I2,st2,fun b hb=>(f2 b hb).1,w0⟩
 rintro n s3 ⟨i,σ3,H3,I3,st3,fr3,w3⟩
 rcases turn i n σ3 H3 w3 with⟨stop,qn⟩ | ⟨go,N,hN,step⟩
 ·refine wpAny_passesOwn hp (thn (T.done X rfl rfl rfl hc i pins s3 σ3 H3 X.xe I3 (stat fr3) st3 stop) fun r s4 ⟨hr,I4⟩=>?_)
  subst hr
  exact wpAny_execs_nil ⟨σ3,H3,I4,qn⟩
 ·refine wpAny_passesOwn hp (thn (T.item X rfl rfl rfl hc i pins s3 σ3 H3 X.xe I3 (stat fr3) st3 go) fun r s4 ⟨u,hr,h4⟩=>?_)
  subst hr
  refine wpAny_passesOwn hp (thn h4 fun _ s5 ⟨x,H5,I5,r5,y5,st5,fr5⟩=>?_)
  have I5':=I5.pinned (stat fr5) (T.obj _ _ st5)
  refine wpAny_passesOwn hp (thn (hg _ s5 σ3 H5 x u _ I5' r5 (step x H5 y5)) fun _ s6 ⟨σ6,H6,I6,q6⟩=>?_)
  refine wpAny_passesOwn hp (thn (hb _ s6 σ6 H6 _ I6 q6) fun f s7 q7=>?_)
  have again:∀{σ7:St}{H7:Hp},Inv X (pins++mf fp s5.heap) σ7 H7 s7→N σ7 H7→∃m,m<n∧∃i σ' H',Inv X pins σ' H' s7∧tn i s7.heap∧(∀b∈fp,H' b=none)∧W i m σ' H':=fun {σ7 H7} I7 n7=>by
   obtain⟨m',hm,w7⟩:=hN σ7 H7 n7
   refine⟨m',hm,i+1,σ7,H7,I7.unpinned,T.keep _ _ _ st5 fun b hb o e=>(I7.pin (b,o) (List.mem_append_right _ (List.mem_append_right _ (gP hb e)))).1,fun b hb=>?_,w7⟩
   obtain⟨o,e,d⟩:=T.obj _ _ st5 b hb
   exact(I7.pin (b,o) (List.mem_append_right _ (List.mem_append_right _ (gP hb e)))).2.1
  cases f with
  |next=>obtain⟨σ7,H7,I7,n7⟩:=q7;exact again I7 n7
  |cont=>obtain⟨σ7,H7,I7,n7⟩:=q7;exact again I7 n7
  |brk=>obtain⟨σ7,H7,I7,q7⟩:=q7;exact⟨σ7,H7,I7.unpinned,q7⟩
  |ret v=>obtain⟨x7,σ7,H7,I7,r7,q7⟩:=q7;exact⟨x7,σ7,H7,I7.unpinned,r7,q7⟩
end
end L2
namespace L2
open PySem PySem.Spec PyProof.Rows
abbrev R2:=V→V→Hp→VK→Prop
def OpR (X:Cx) (f:Value→Value→Sem Value) (r:R2):Prop:=
 ∀(pins:List (Addr×Obj)) (s:Shared) (σ:St) (H:Hp) (x y:V) (v u:Value) (Q:VK),Inv X pins σ H s→RelV x v→RelV y u→r x y H Q→
  wpAny (model X.prog X.w) X.A (f v u) (EP X pins σ Q) X.xe s
def UnR (X:Cx) (f:Value→Sem Value) (r:V→Hp→VK→Prop):Prop:=
 ∀(pins:List (Addr×Obj)) (s:Shared) (σ:St) (H:Hp) (x:V) (v:Value) (Q:VK),Inv X pins σ H s→RelV x v→r x H Q→
  wpAny (model X.prog X.w) X.A (f v) (EP X pins σ Q) X.xe s
def CallR (X:Cx) (f:Value) (r:List V→Hp→VK→Prop):Prop:=
 ∀(pins:List (Addr×Obj)) (s:Shared) (σ:St) (H:Hp) (xs:List V) (us:List Value) (Q:VK),Inv X pins σ H s→Vals xs us→r xs H Q→
  wpAny (model X.prog X.w) X.A (call f us) (EP X pins σ Q) X.xe s
def D1 (X:Cx) (r:V→Hp→(Bool→Hp→Prop)→Prop):Prop:=
 ∀(pins:List (Addr×Obj)) (s:Shared) (σ:St) (H:Hp) (x:V) (v:Value) (Q:Bool→Hp→Prop),Inv X pins σ H s→RelV x v→r x H Q→
  wpAny (model X.prog X.w) X.A (truthy v) (TP X pins σ Q) X.xe s
def tOp (r:R2) (ta tb:TE):TE:=fun σ H Q=>ta σ H fun x H1=>tb σ H1 fun y H2=>r x y H2 Q
def tUn (r:V→Hp→VK→Prop) (ta:TE):TE:=fun σ H Q=>ta σ H fun x H1=>r x H1 Q
def rI (C:Int→Int→Prop) (g:Int→Int→V):R2:=fun x y H Q=>∃i j,x= .int i∧y= .int j∧C i j∧Q (g i j) H
def rI0 (g:Int→Int→V):R2:=fun x y H Q=>∃i j,x= .int i∧y= .int j∧Q (g i j) H
def rU (g:Int→V):V→Hp→VK→Prop:=fun x H Q=>∃i,x= .int i∧Q (g i) H
section
variable {X : Cx} {a b c : Expr} {ta tb tc : TE} {pos : Pos}
theorem BM (ha:PE X a ta) (hb:PE X b tb) {pins:List (Addr×Obj)}{s:Shared}{σ:St}{H:Hp}{R:V→V→Hp→Prop}(I:Inv X pins σ H s)
 (h:ta σ H fun x H1=>tb σ H1 fun y H2=>R x y H2) {Q:Value→Shared→Prop}{f:Value→Value→Sem Value}
 (hf:∀v u s2 x y H2,Inv X pins σ H2 s2→RelV x v→RelV y u→R x y H2→wpAny (model X.prog X.w) X.A (f v u) Q X.xe s2):
 wpAny (model X.prog X.w) X.A (eval a X.env) (fun v s₁=>wpAny (model X.prog X.w) X.A (eval b X.env) (fun u s₂=>wpAny (model X.prog X.w) X.A (f v u) Q X.xe s₂) X.xe s₁) X.xe s:=by
 refine thn (ha pins s σ H _ I h) fun v s1 ⟨x,H1,I1,r1,q1⟩=>?_
 refine thn (hb pins s1 σ H1 _ I1 q1) fun u s2 ⟨y,H2,I2,r2,q2⟩=>?_
 exact hf v u s2 x y H2 I2 r1 r2 q2
theorem Dg {op:Operator}{r:R2}(ho:OpR X (binaryOp op) r) (ha:PE X a ta) (hb:PE X b tb):PE X (.BinOp a op b pos) (tOp r ta tb):=by
 intro pins s σ H Q I h
 exact wpAny_BinOp (BM ha hb I h fun v u s2 x y H2 I2 rx ry q=>ho pins s2 σ H2 x y v u Q I2 rx ry q)
theorem Dm {op:UnaryOp}{r:V→Hp→VK→Prop}(ho:UnR X (unaryOp op) r) (ha:PE X a ta):PE X (.UnaryOp op a pos) (tUn r ta):=by
 intro pins s σ H Q I h
 exact UnaryOp_ (thn (ha pins s σ H _ I h) fun v s1 ⟨x,H1,I1,r1,q1⟩=>ho pins s1 σ H1 x v Q I1 r1 q1)
theorem opI {f:Value→Value→Sem Value}{C:Int→Int→Prop}{g:Int→Int→Int}
 (rule:∀(i j:Int) (t u:Tok) (s:Shared) (Q:Value→Shared→Prop) (E:Value→Shared→Prop),C i j→Q (.int (g i j) s.toks) {s with toks:=s.toks+1}→wpAny (model X.prog X.w) X.A (f (.int i t) (.int j u)) Q E s):
 OpR X f (rI C fun i j=> .int (g i j)):=by
 intro pins s σ H x y v u Q I rx ry h
 obtain⟨i,j,rfl,rfl,hc,q⟩:=h
 obtain⟨t,rfl⟩:=rx
 obtain⟨t',rfl⟩:=ry
 exact rule i j t t' s _ _ hc ⟨.int (g i j),H,I.tok _,⟨_,rfl⟩,q⟩
theorem DW {f:Value→Value→Sem Value}{g:Int→Int→Int}
 (rule:∀(i j:Int) (t u:Tok) (s:Shared) (Q:Value→Shared→Prop) (E:Value→Shared→Prop),Q (.int (g i j) s.toks) {s with toks:=s.toks+1}→wpAny (model X.prog X.w) X.A (f (.int i t) (.int j u)) Q E s):
 OpR X f (rI0 fun i j=> .int (g i j)):=by
 intro pins s σ H x y v u Q I rx ry h
 obtain⟨i,j,rfl,rfl,q⟩:=h
 obtain⟨t,rfl⟩:=rx
 obtain⟨t',rfl⟩:=ry
 exact rule i j t t' s _ _ ⟨.int (g i j),H,I.tok _,⟨_,rfl⟩,q⟩
theorem Do {f:Value→Value→Sem Value}{g:Int→Int→Bool}
 (rule:∀(i j:Int) (t u:Tok) (s:Shared) (Q:Value→Shared→Prop) (E:Value→Shared→Prop),Q (.bool (g i j)) s→wpAny (model X.prog X.w) X.A (f (.int i t) (.int j u)) Q E s):
 OpR X f (rI0 fun i j=> .bl (g i j)):=by
 intro pins s σ H x y v u Q I rx ry h
 obtain⟨i,j,rfl,rfl,q⟩:=h
 obtain⟨t,rfl⟩:=rx
 obtain⟨t',rfl⟩:=ry
 exact rule i j t t' s _ _ ⟨.bl (g i j),H,I,rfl,q⟩
def DC (i j:Int):Prop:=0<j∧j<1073741824
def CMul (i j:Int):Prop:=(-(2 ^ 64)<i∧i<2 ^ 64)∨(-(2 ^ 64)<j∧j<2 ^ 64)
theorem CMul.ok {i j:Int}(h:CMul i j):IntMulOk i j:=by
 rcases h with⟨h1,h2⟩ | ⟨h1,h2⟩
 ·exact .of_left (intBits_le_64 h1 h2)
 ·exact .of_right (intBits_le_64 h1 h2)
theorem B5:OpR X (binaryOp .Add) (rI0 fun i j=> .int (i+j)):=DW fun _ _ _ _ _ _ _ q=>add_int q
theorem CD:OpR X (binaryOp .Sub) (rI0 fun i j=> .int (i - j)):=DW fun _ _ _ _ _ _ _ q=>sub_int q
theorem CC:OpR X (binaryOp .Mult) (rI CMul fun i j=> .int (i*j)):=opI fun _ _ _ _ _ _ _ hc q=>mul_int q hc.ok
theorem z6:OpR X (binaryOp .FloorDiv) (rI DC fun i j=> .int (i / j)):=opI fun i j _ _ _ _ _ hc q=>by
 have h1:(0:Int)<j:=hc.1
 have h2:j<1073741824:=hc.2
 exact floordiv_int (by omega) (by rw[Int.fdiv_eq_ediv_of_nonneg i (by omega)];exact q) (.inl (PyProof.noPylong_small (by omega)))
theorem BP:OpR X (binaryOp .Mod) (rI (fun _ j=>0<j) fun i j=> .int (i % j)):=opI fun i j _ _ _ _ _ hc q=>by
 have h1:(0:Int)<j:=hc
 exact mod_int' (by omega) (by rw[Int.fmod_eq_emod_of_nonneg i (by omega)];exact q)
theorem unI {f:Value→Sem Value}{g:Int→Int}
 (rule:∀(i:Int) (t:Tok) (s:Shared) (Q:Value→Shared→Prop) (E:Value→Shared→Prop),Q (.int (g i) s.toks) {s with toks:=s.toks+1}→wpAny (model X.prog X.w) X.A (f (.int i t)) Q E s):
 UnR X f (rU fun i=> .int (g i)):=by
 intro pins s σ H x v Q I rx h
 obtain⟨i,rfl,q⟩:=h
 obtain⟨t,rfl⟩:=rx
 exact rule i t s _ _ ⟨.int (g i),H,I.tok _,⟨_,rfl⟩,q⟩
theorem BL:UnR X (unaryOp .USub) (rU fun i=> .int (-i)):=unI fun _ _ _ _ _ q=>neg_int q
end
section
variable {X : Cx} {a b c : Expr} {ta tb tc : TE} {pos : Pos}
theorem Ci {pins:List (Addr×Obj)}{σ:St}{H:Hp}{s:Shared}{Q:VK}{k k':Bool}(I:Inv X pins σ H s) (q:Q (.bl k) H) (e:k=k'):EP X pins σ Q (.bool k') s:=by
 subst e
 exact⟨.bl k,H,I,rfl,q⟩
theorem uZ:OpR X (compareOp .Lt) (rI0 fun i j=> .bl (decide (i<j))):=Do fun _ _ _ _ _ _ _ q=>lt_int q
theorem kA:OpR X (compareOp .LtE) (rI0 fun i j=> .bl (decide (i≤j))):=Do fun _ _ _ _ _ _ _ q=>le_int q
theorem xf:OpR X (compareOp .In) (fun x y H Q=>∃i j,x= .str i∧y= .str j∧Q (.bl (!(Builtin.Str.occurrences j i 0 j.length 1).isEmpty)) H):=by
 intro pins s σ H x y v u Q I rx ry h
 obtain⟨i,j,rfl,rfl,q⟩:=h
 obtain⟨t,rfl⟩:=rx
 obtain⟨t',rfl⟩:=ry
 exact in_str (Ci I q rfl)
theorem OpR.or {f:Value→Value→Sem Value}{r r':R2}(h:OpR X f r) (h':OpR X f r'):OpR X f (fun x y H Q=>r x y H Q∨r' x y H Q):=by
 intro pins s σ H x y v u Q I rx ry q
 rcases q with q | q
 ·exact h pins s σ H x y v u Q I rx ry q
 ·exact h' pins s σ H x y v u Q I rx ry q
theorem yZ (b:Expr) {op:CmpOp}(h:op≠ .In:=by decide) (h2:op≠ .NotIn:=by decide):behindInMarks op b=false:=by
 have e1:(op==CmpOp.In)=false:=by cases op<;>first | rfl | exact absurd rfl h
 have e2:(op==CmpOp.NotIn)=false:=by cases op<;>first | rfl | exact absurd rfl h2
 cases b<;>simp[behindInMarks,e1,e2]
theorem Ao {op:CmpOp}{r:R2}(ho:OpR X (compareOp op) r) (ha:PE X a ta) (hb:PE X b tb) (hm:behindInMarks op b=false):PE X (.Compare a [op] [b] pos) (tOp r ta tb):=by
 intro pins s σ H Q I h
 exact wpAny_Compare1 (BM ha hb I h fun v u s2 x y H2 I2 rx ry q=>ho pins s2 σ H2 x y v u Q I2 rx ry q) hm
def Bc (t:TE):TT:=fun σ H Q=>t σ H fun x H'=>∃k,x= .bl k∧Q k H'
theorem zT {op:CmpOp}{r:R2}(ho:OpR X (compareOp op) r) (ha:PE X a ta) (hb:PE X b tb) (hm:behindInMarks op b=false):PT X (.Compare a [op] [b] pos) (Bc (tOp r ta tb)):=by
 intro pins s σ H Q I h
 refine wpAny_isTrue_Compare1 (thn (ha pins s σ H _ I h) fun v s1 ⟨x,H1,I1,r1,q1⟩=>thn (hb pins s1 σ H1 _ I1 q1) fun u s2 ⟨y,H2,I2,r2,q2⟩=>
  thn (ho pins s2 σ H2 x y v u _ I2 r1 r2 q2) fun c s3 ⟨z,H3,I3,r3,k,e,q3⟩=>?_) hm
 subst e
 cases r3
 exact wpAny_truthy_bool ⟨H3,I3,q3⟩
def uC (r r':R2) (ta tb tc:TE):TE:=fun σ H Q=>ta σ H fun x H1=>tb σ H1 fun y H2=>r x y H2 fun z H3=>∃k,z= .bl k∧
 (if k=true then tc σ H3 fun w' H4=>r' y w' H4 Q else Q (.bl false) H3)
theorem yl {op op':CmpOp}{r r':R2}(ho:OpR X (compareOp op) r) (ho':OpR X (compareOp op') r') (ha:PE X a ta) (hb:PE X b tb) (hc:PE X c tc)
 (hm:lastMarks [op,op'] [b,c]=false:=by with_unfolding_all rfl):PE X (.Compare a [op,op'] [b,c] pos) (uC r r' ta tb tc):=by
 intro pins s σ H Q I h
 refine Compare_chain (thn (ha pins s σ H _ I h) fun v s1 ⟨x,H1,I1,r1,q1⟩=>chain_link (thn (hb pins s1 σ H1 _ I1 q1) fun u s2 ⟨y,H2,I2,r2,q2⟩=>
  thn (ho pins s2 σ H2 x y v u _ I2 r1 r2 q2) fun d s3 ⟨z,H3,I3,r3,k,e,q3⟩=>?_)) hm
 subst e
 cases r3
 refine wpAny_truthy_bool ?_
 cases k with
 |false=>exact ite_ff ⟨.bl false,H3,I3,rfl,q3⟩
 |true=>exact ite_tt (chain_last (thn (hc pins s3 σ H3 _ I3 q3) fun w' s4 ⟨z',H4,I4,r4,q4⟩=>ho' pins s4 σ H4 y z' u w' Q I4 r2 r4 q4))
theorem xS {op op':CmpOp}{r r':R2}(ho:OpR X (compareOp op) r) (ho':OpR X (compareOp op') r') (ha:PE X a ta) (hb:PE X b tb) (hc:PE X c tc)
 (hm:lastMarks [op,op'] [b,c]=false:=by with_unfolding_all rfl):PT X (.Compare a [op,op'] [b,c] pos) (Bc (uC r r' ta tb tc)):=by
 intro pins s σ H Q I h
 refine isTrue_chain (thn (ha pins s σ H _ I h) fun v s1 ⟨x,H1,I1,r1,q1⟩=>test_link (thn (hb pins s1 σ H1 _ I1 q1) fun u s2 ⟨y,H2,I2,r2,q2⟩=>
  thn (ho pins s2 σ H2 x y v u _ I2 r1 r2 q2) fun d s3 ⟨z,H3,I3,r3,k,e,q3⟩=>?_)) hm
 subst e
 cases r3
 refine wpAny_truthy_bool ?_
 cases k with
 |false=>
  obtain⟨k',e',q'⟩:=q3
  cases e'
  exact ite_ff ⟨H3,I3,q'⟩
 |true=>
  refine ite_tt (test_last (thn (hc pins s3 σ H3 _ I3 q3) fun w' s4 ⟨z',H4,I4,r4,q4⟩=>thn (ho' pins s4 σ H4 y z' u w' _ I4 r2 r4 q4) fun d' s5 ⟨z2,H5,I5,r5,k2,e2,q5⟩=>?_))
  subst e2
  cases r5
  exact wpAny_truthy_bool ⟨H5,I5,q5⟩
def Dt (K:PySem.W.Frag) (x:V) (H:Hp) (k:Bool):Prop:=
 match x with
 | .non=>k=false
 | .bl b=>k=b
 | .int i=>k=(i !=0)
 | .str y=>y.length≤sizeLine∧k=((y.length:Int) !=0)
 | .byt y=>y.size≤sizeLine∧k=((y.size:Int) !=0)
 | .ref p=>(∃xs,SqL K H p xs∧k=!xs.isEmpty)∨(∃xs,SqT K H p xs∧k=!xs.isEmpty)∨∃kvs,H p=some (.dK kvs)∧k=!kvs.isEmpty
 |_=>False
theorem tZ {κ:Type}{kvs:List (κ×V)}{vs:List (κ×Value)}(r:KV kvs vs):(!vs.isEmpty)=!kvs.isEmpty:=by
 cases r<;>rfl
theorem lY {xs:List V}{its:List Value}(r:Vals xs its):(!its.toArray.isEmpty)=!xs.isEmpty:=by
 cases r<;>simp
theorem kg:(sizeLine:Nat)<2 ^ 63:=by rw[sizeLine_eq];decide
theorem B9:D1 X (fun x H Q=>∃k,Dt X.K x H k∧Q k H):=by
 intro pins s σ H x v Q I rx h
 obtain⟨k,e,q⟩:=h
 have hl:=kg
 have hs:sizeLine=16777216:=sizeLine_eq
 cases x with
 |non=>
  cases rx
  have e':k=false:=e
  subst e'
  exact truthy_none ⟨H,I,q⟩
 |bl b=>
  cases rx
  have e':k=b:=e
  subst e'
  exact wpAny_truthy_bool ⟨H,I,q⟩
 |int i=>
  obtain⟨t,rfl⟩:=rx
  have e':k=(i !=0):=e
  subst e'
  exact PySem.P.truthy_int ⟨H,I,q⟩
 |str y=>
  obtain⟨t,rfl⟩:=rx
  obtain⟨hy,e'⟩:y.length≤sizeLine∧k=((y.length:Int) !=0):=e
  subst e'
  exact PySem.P.truthy_str (by omega) ⟨H,I.tok _,q⟩
 |byt y=>
  obtain⟨t,rfl⟩:=rx
  obtain⟨hy,e'⟩:y.size≤sizeLine∧k=((y.size:Int) !=0):=e
  subst e'
  exact PySem.W.truthy_bytes (by omega) ⟨H,I.tok _,q⟩
 |ref p=>
  cases rx
  have e':(∃xs,SqL X.K H p xs∧k=!xs.isEmpty)∨(∃xs,SqT X.K H p xs∧k=!xs.isEmpty)∨∃kvs,H p=some (.dK kvs)∧k=!kvs.isEmpty:=e
  rcases e' with⟨xs,hx,e'⟩ | ⟨xs,hx,e'⟩ | ⟨kvs,hx,e'⟩
  ·subst e'
   obtain⟨its,r,pl,hz⟩:=I.list hx
   have hlen:=r.length
   exact wpAny_truthy_list pl.isList (by simp only[List.size_toArray];omega) ⟨H,I.tok _,by rw[lY r];exact q⟩
  ·subst e'
   obtain⟨its,r,pl,hz⟩:=I.tuple hx
   have hlen:=r.length
   exact truthy_tuple pl (by simp only[List.size_toArray];omega) ⟨H,I.tok _,by rw[lY r];exact q⟩
  ·subst e'
   obtain⟨hz,hS,vs,r,m⟩:kvs.length≤sizeLine∧(p==sysModules)=false∧∃vs,KV kvs vs∧s.heap.DictOf (aP X.prog X.w) p vs:=I.hok p _ hx
   have hlen:kvs.length=vs.length:=Paired.length r
   exact wpAny_truthy_dict hS m (by omega) ⟨H,I.tok _,by rw[tZ r];exact q⟩
 |_=>exact(show False from e).elim
theorem zg (ha:PE X a ta) (he:∀whole,isTrue a X.env whole=(do let v←whole;standAt a.pos;holding [v] (truthy v))):
 PT X a (fun σ H Q=>ta σ H fun x H'=>∃k,Dt X.K x H' k∧Q k H'):=by
 intro pins s σ H Q I h
 exact isTrue_plain (thn (ha pins s σ H _ I h) fun v s1 ⟨x,H1,I1,r1,q1⟩=>B9 pins s1 σ H1 x v Q I1 r1 q1) (he _)
theorem vals1 {x:V}{us:List Value}(r:Vals [x] us):∃u,us=[u]∧RelV x u:=by
 cases r with
 |cons r1 r2=>cases r2;exact⟨_,rfl,r1⟩
theorem vals2 {x y:V}{us:List Value}(r:Vals [x,y] us):∃u w',us=[u,w']∧RelV x u∧RelV y w':=by
 cases r with
 |cons r1 r2=>
  cases r2 with
  |cons r3 r4=>cases r4;exact⟨_,_,rfl,r1,r3⟩
theorem zw:CallR X (.builtin "abs") (fun xs H Q=>∃i,xs=[.int i]∧Q (.int (if i<0 then -i else i)) H):=by
 intro pins s σ H xs us Q I r h
 obtain⟨i,rfl,q⟩:=h
 obtain⟨u,rfl,t,rfl⟩:=vals1 r
 exact call_abs_int fun u tk=>⟨.int (if i<0 then -i else i),H,I.tok _,⟨_,rfl⟩,q⟩
theorem xb (hc:X.calm=true):CallR X (.builtin "max") (fun xs H Q=>∃i j,xs=[.int i, .int j]∧Q (.int (if j>i then j else i)) H):=by
 intro pins s σ H xs us Q I r h
 obtain⟨i,j,rfl,q⟩:=h
 obtain⟨u,w',rfl,⟨t,rfl⟩,⟨t',rfl⟩⟩:=vals2 r
 refine max_two_ints (I.ok.hd hc) fun h' tk k=>⟨_,H,I.kept k,?_,q⟩
 by_cases hj:j>i
 ·rw[if_pos hj,if_pos hj];exact⟨_,rfl⟩
 ·rw[if_neg hj,if_neg hj];exact⟨_,rfl⟩
theorem wZ (hc:X.calm=true):CallR X (.builtin "min") (fun xs H Q=>∃i j,xs=[.int i, .int j]∧Q (.int (if j<i then j else i)) H):=by
 intro pins s σ H xs us Q I r h
 obtain⟨i,j,rfl,q⟩:=h
 obtain⟨u,w',rfl,⟨t,rfl⟩,⟨t',rfl⟩⟩:=vals2 r
 refine min_two_ints (I.ok.hd hc) fun h' tk k=>⟨_,H,I.kept k,?_,q⟩
 by_cases hj:j<i
 ·rw[if_pos hj,if_pos hj];exact⟨_,rfl⟩
 ·rw[if_neg hj,if_neg hj];exact⟨_,rfl⟩
end
end L2
namespace L2
open PySem PySem.Spec PyProof.Rows
structure ObjM (h:Heap) (x dx C:Addr) (mA:Str→Option Value):Prop where
 obj:h.get? x=some (PySem.W.instObj C dx)
 ns:h.Ns1 dx mA
 ne:dx≠x
theorem vP {h:Heap}{dx:Addr}{mA:Str→Option Value}(n:h.Ns1 dx mA):∃od,h.get? dx=some od∧∀name,PySem.W.lookIn name od=some (mA name):=by
 obtain⟨o,es,ep,ho,hd,hk,_,hm⟩:=n
 refine⟨o,ho,fun name=>?_⟩
 have e:=hm name
 unfold nsFind findBy at e
 rw[←Array.find?_toList] at e
 unfold PySem.W.lookIn
 rw[hd]
 dsimp only
 split
 ·rename_i y q
  rw[q] at e
  exact congrArg some e
 ·rename_i q
  rw[q] at e
  have a:es.toList.any (·.refKey)=false:=by
   rw[List.any_eq_false]
   intro y hy
   obtain⟨z,t,hkey⟩:=hk y (Array.mem_toList_iff.mp hy)
   simp[DictEntry.refKey,hkey]
  have a':¬es.toList.any (·.refKey)=true:=by rw[a];exact Bool.false_ne_true
  rw[if_neg a']
  exact congrArg some e
theorem ObjM.look {h:Heap}{x dx C:Addr}{mA:Str→Option Value}(I:ObjM h x dx C mA):∃od,PySem.W.InstAt h x (PySem.W.instObj C dx) C (some od)∧∀name,PySem.W.lookIn name od=some (mA name):=
 let ⟨od,ho,hl⟩:=vP I.ns
 ⟨od,⟨I.obj,rfl,rfl,ho⟩,hl⟩
section
variable {prog : Program} {w : World} {A : Around} {E : Value → Shared → Prop} {s : Shared} {K : PySem.W.Frag} {x dx C f : Addr} {mA : Str → Option Value} {name : Str} {v : Value}
end
theorem RelO.some_of {v:V}{o:Option Value}(r:RelO (some v) o):∃u,o=some u∧RelV v u:=by
 cases o with
 |none=>exact(show False from r).elim
 |some u=>exact⟨u,rfl,r⟩
section
variable {P : Program} {w : World} {H H' : Hp} {h h' : Heap} {a C dx : Addr} {fs fs' : List (Str × V)}
theorem zK (hok:HOk P w H h) (e:H a=some (.ins C dx fs)):∃mA,ObjM h a dx C mA∧(∀f,RelO (fs.lookup f) (mA f))∧PySem.Within mA (fs.map (·.1))∧fs.length≤1000∧H dx=some (.own a):=by
 obtain⟨d,z,ne,ob,mA,n,r,q⟩:=(show ObjOk P w H h a (.ins C dx fs) from hok a _ e)
 exact⟨mA,⟨ob,n,ne⟩,r,q,z,d⟩
end
structure Cls (K:PySem.W.Frag) (C:Addr):Prop where
 pg:PySem.W.plainGet K C Str.empty=true
 hd:PySem.W.hasDictIn K C=true
 po:PySem.W.plainOver K C=true
 sa:PySem.W.findIn K (.ref C) "__setattr__"=some (some (.builtin "object.__setattr__"))
theorem Cls.get {K:PySem.W.Frag}{C:Addr}(c:Cls K C) (f:Str):PySem.W.plainGet K C f=true:=c.pg
structure Con (K:PySem.W.Frag) (C:Addr) (f:Str) (v:V) (u:Value):Prop where
 at_:PySem.W.findIn K (.ref C) f=some (some u)
 rel:RelV v u
 get:PySem.W.specialIn K u "__get__"=some none
 cp:PySem.W.copiedNames.contains f=false
structure Meth (K:PySem.W.Frag) (C:Addr) (m:Str) (f:Addr):Prop where
 at_:PySem.W.findIn K (.ref C) m=some (some (.ref f))
 fn:PySem.W.isFn K (.ref f)=true
 kp:PySem.W.keepIn K (.ref f)=true
section
variable {X : Cx} {pins : List (Addr × Obj)} {σ : St} {H : Hp} {s : Shared} {a C dx : Addr} {fs : List (Str × V)} {f : Str} {v : V} {A : Around} {E : Value → Shared → Prop}
end
section
variable {X : Cx} {o e value : Expr} {f : Str} {pos pos' tpos : Pos} {ta tv : TE}
end
section
variable {X : Cx} {pins : List (Addr × Obj)} {σ : St} {H : Hp} {s : Shared} {A : Around} {E : Value → Shared → Prop} {Q : Value → Shared → Prop} {c : Value} {b : Bool}
inductive TyOf (K:PySem.W.Frag) (H:Hp):V→Value→Prop where
 |non:TyOf K H .non (.type "NoneType")
 |bl (x:Bool):TyOf K H (.bl x) (.type "bool")
 |int (i:Int):TyOf K H (.int i) (.type "int")
 |str (x:Str):TyOf K H (.str x) (.type "str")
 |flt (x:UInt64):TyOf K H (.flt x) (.type "float")
 |lst {a:Addr}{xs:List V}(e:H a=some (.lst xs)):TyOf K H (.ref a) (.type "list")
 |frz {a:Addr}{o:Obj}{xs:List V}(e:H a=some (.frz o (.lst xs))):TyOf K H (.ref a) (.type "list")
 |tup {a:Addr}{xs:List V}(e:H a=some (.tup xs)):TyOf K H (.ref a) (.type "tuple")
 |dK {a:Addr}{kvs:List (Key×V)}(e:H a=some (.dK kvs)):TyOf K H (.ref a) (.type "dict")
 |dT {a:Addr}{kvs:List (List Key×V)}(e:H a=some (.dT kvs)):TyOf K H (.ref a) (.type "dict")
 |ins {a C dx:Addr}{fs:List (Str×V)}(e:H a=some (.ins C dx fs)) (cl:Cls K C) (ha:PySem.W.findIn K (.ref C) "__class__"=some (some (.builtin "object.__class__")))
   (hn:PySem.W.specialIn K (.builtin "object.__class__") "__get__"=some (some (.builtin "getset_descriptor.__get__"))) (htk:PySem.W.takesIn K (.builtin "object.__class__")=some true)
   (hm:PySem.W.mroIn K C (.type "object")=some true):TyOf K H (.ref a) (.ref C)
theorem wM {x:V}{u t:Value}(I:Inv X pins σ H s) (rx:RelV x u) (ty:TyOf X.K H x t) (e:PySem.W.kitOne X.K t c=some b) (h:∀tk,Q (.bool b) {s with toks:=tk}):
 wpAny (model X.prog X.w) A (call (.builtin "isinstance") [u,c]) Q E s:=by
 cases ty with
 |non=>cases (show u=Value.none from rx);exact PySem.W.kia_one PySem.W.kitx_none I.kIn True.intro e (fun z=>nomatch z) h
 |bl y=>cases (show u=Value.bool y from rx);exact PySem.W.kia_one PySem.W.kitx_bool I.kIn True.intro e (fun z=>nomatch z) h
 |int i=>obtain⟨t,q⟩:=(show∃t,u=Value.int i t from rx);cases q;exact PySem.W.kia_one PySem.W.kitx_int I.kIn True.intro e (fun z=>nomatch z) h
 |str y=>obtain⟨t,q⟩:=(show∃t,u=Value.str y t from rx);cases q;exact PySem.W.kia_one PySem.W.kitx_str I.kIn True.intro e (fun z=>nomatch z) h
 |flt y=>obtain⟨t,q⟩:=(show∃t,u=Value.float y t from rx);cases q;exact PySem.W.kia_one PySem.W.kitx_float I.kIn True.intro e (fun z=>nomatch z) h
 | @lst a xs ea=>
   cases (show u=Value.ref a from rx)
   obtain⟨_,_,n,_,h1⟩:=(show ObjOk X.prog X.w H s.heap a (.lst xs) from I.hok a _ ea)
   exact PySem.W.kia_one PySem.W.kitx_list I.kIn ⟨_,h1,rfl⟩ e (fun z=>nomatch z) h
 | @frz a ob xs ea=>
   cases (show u=Value.ref a from rx)
   obtain⟨_,_,_,n,_,h1⟩:=(show ObjOk X.prog X.w H s.heap a (.frz ob (.lst xs)) from I.hok a _ ea)
   exact PySem.W.kia_one PySem.W.kitx_list I.kIn ⟨_,h1,rfl⟩ e (fun z=>nomatch z) h
 | @tup a xs ea=>
   cases (show u=Value.ref a from rx)
   obtain⟨_,_,_,p⟩:=(show ObjOk X.prog X.w H s.heap a (.tup xs) from I.hok a _ ea)
   obtain⟨o,h1,h2,_⟩:=p
   exact PySem.W.kia_one PySem.W.kitx_tuple I.kIn ⟨o,h1,h2⟩ e (fun z=>nomatch z) h
 | @dK a kvs ea=>
   cases (show u=Value.ref a from rx)
   obtain⟨_,_,vs,_,p⟩:=(show ObjOk X.prog X.w H s.heap a (.dK kvs) from I.hok a _ ea)
   obtain⟨o,es,ep,h1,h2,_⟩:=p
   exact PySem.W.kia_one PySem.W.kitx_dict I.kIn ⟨o,h1,h2.1⟩ e (fun z=>nomatch z) h
 | @dT a kvs ea=>
   cases (show u=Value.ref a from rx)
   obtain⟨_,_,xs,_,o,es,ep,h1,h2,_⟩:=(show ObjOk X.prog X.w H s.heap a (.dT kvs) from I.hok a _ ea)
   exact PySem.W.kia_one PySem.W.kitx_dict I.kIn ⟨o,h1,h2.1⟩ e (fun z=>nomatch z) h
 | @ins a C dx fs ea cl ha hn htk hm=>
   cases (show u=Value.ref a from rx)
   obtain⟨mA,O,_⟩:=zK I.hok ea
   obtain⟨od,J,_⟩:=O.look
   exact PySem.W.kia_one (PySem.W.kitx_own (cl.get _) cl.hd ha hn htk hm) I.kIn J e (fun z=>nomatch z) h
end
end L2
namespace L2
open PySem PySem.Spec PyProof.Rows
structure Room (k:Nat) (A:Around):Prop where
 hd:A.handled=none
 dp:A.depth+3*k+5<recursionLimit
 un:A.units+16*k+200<cLine
theorem Room.mono {j k:Nat}{A:Around}(r:Room k A) (h:j≤k):Room j A:=⟨r.hd,by have:=r.dp;omega,by have:=r.un;omega⟩
theorem Room.deeper {k:Nat}{A:Around}(r:Room (k+1) A) (env:Env):Room k (A.deeper env):=
 ⟨r.hd,by have:=r.dp;show A.depth+1+3*k+5<_;omega,by have:=r.un;show A.units+3+16*k+200<_;omega⟩
theorem Room.in1 {k:Nat}{A:Around}(r:Room (k+1) A):Room k A.in1:=
 ⟨r.hd,by have:=r.dp;show A.depth+3*k+5<_;omega,by have:=r.un;show A.units+1+16*k+200<_;omega⟩
theorem Room.depth {k:Nat}{A:Around}(r:Room k A):A.depth<recursionLimit:=by have:=r.dp;omega
theorem Room.units {k:Nat}{A:Around}(r:Room k A):A.units+64<cLine:=by have:=r.un;omega
def BZ:TA:=fun _ H Q=>Q [] H
def xN (ta:TE) (tr:TA):TA:=fun σ H Q=>ta σ H fun x H1=>tr σ H1 fun xs H2=>Q (x::xs) H2
section
variable {X : Cx} {e : Expr} {es : List Expr} {te : TE} {t : TA} {pos : Pos}
theorem me:PA X [] BZ:=fun _ _ _ _ H Q I h=>Calls.spliced_nil ⟨[],H,I, .nil,h⟩
theorem iB (ha:PE X e te) (hr:PA X es t) (hs:starEach (e::es) X.env=(false,eval e X.env)::starEach es X.env:=by rfl):PA X (e::es) (xN te t):=by
 intro pos pins s σ H Q I h
 rw[hs]
 show wpAny _ _ (spliced ((false,eval e X.env)::backTo pos (starEach es X.env))) _ _ s
 refine Calls.spliced_cons (thn (ha pins s σ H _ I h) fun u s1 ⟨x,H1,I1,r1,q1⟩=>?_)
 exact thn (hr pos pins s1 σ H1 _ I1 q1) fun us s2 ⟨xs,H2,I2,r2,q2⟩=>⟨x::xs,H2,I2, .cons r1 r2,q2⟩
def Eo (t:TA):TE:=fun σ H Q=>t σ H fun xs H1=>xs.length≤sizeLine∧∀p,H1 p=none→Q (.ref p) (upd H1 p (.tup xs))
def En (t:TA):TE:=fun σ H Q=>t σ H fun xs H1=>xs.length≤sizeLine∧∀p,H1 p=none→Q (.ref p) (upd H1 p (.lst xs))
theorem CI {x1} (h:PA X es t):PE X (.Tuple es x1 pos) (Eo t):=by
 intro pins s σ H Q I hq
 refine wpAny_Tuple_spliced (thn (h pos pins s σ H _ I hq) fun us s1 ⟨xs,H1,I1,r,z,q⟩=>⟨by rw[←r.length];exact z,?_⟩)
 have hf:H1 s1.heap.objs.size=none:=I1.hok.fresh (Nat.le_refl _)
 refine⟨.ref s1.heap.objs.size,upd H1 s1.heap.objs.size (.tup xs),I1.laid (t':=s1.toks) (fun b u e=>Heap.get?_push_of_some _ e) (Nat.le_refl _) ?_,rfl,q _ hf⟩
 exact⟨z,us,r,⟨_,Heap.get?_push_size _ rfl,rfl,_,rfl⟩⟩
theorem uP (h:PA X es t):PE X (.List es pos) (En t):=by
 intro pins s σ H Q I hq
 refine wpAny_List_spliced (thn (h pos pins s σ H _ I hq) fun us s1 ⟨xs,H1,I1,r,z,q⟩=>⟨by rw[←r.length];exact z,?_⟩)
 have hf:H1 s1.heap.objs.size=none:=I1.hok.fresh (Nat.le_refl _)
 refine⟨.ref s1.heap.objs.size,upd H1 s1.heap.objs.size (.lst xs),I1.laid (t':=s1.toks) (fun b u e=>Heap.get?_push_of_some _ e) (Nat.le_refl _) ?_,rfl,q _ hf⟩
 exact⟨z,us,0,r,Heap.get?_push_size _ rfl⟩
end
abbrev Sp:=List V→Hp→VK→XK→Prop
abbrev CXT:=List Env→Hp→Shared→XK→Value→Shared→Prop
structure Env0 (P:Program) (w:World) (K:PySem.W.Frag) (mg:Str→Option Value) (base:Heap) (A:Around) (outer:List Env) (s:Shared) (H:Hp):Prop where
 frames:A.frames=some outer
 mod:Mod K mg base
 bs:∀b o,base.get? b=some o→s.heap.get? b=some o∧H b=none
 bsz:base.objs.size≤s.heap.objs.size
 funs:s.heap.FunFrames base outer
 frf:∀b∈frs outer,H b=none
 hok:HOk P w H s.heap
 bare:AllBare s.gens
def CE (outer:List Env) (P:Program) (w:World) (H:Hp) (s:Shared) (Q:VK) (u:Value) (s':Shared):Prop:=
 ∃v H',s'.os=s.os∧AllBare s'.gens∧Un (frs outer) [] H H' s.heap s'.heap∧HOk P w H' s'.heap∧RelV v u∧Q v H'
def CR (CX:CXT) (outer:List Env) (P:Program) (w:World) (H:Hp) (s:Shared) (Q:VK) (E:XK) (r:Result) (s':Shared):Prop:=
 match r with
 | .ok (.ret u)=>CE outer P w H s Q u s'
 | .ok _=>False
 | .error e=>CX outer H s E e s'
structure FnOk (P:Program) (w:World) (K:PySem.W.Frag) (mg:Str→Option Value) (base:Heap) (CX:CXT) (k:Nat) (f:Addr) (fd:FuncData) (ps:List Str) (sp:Sp):Prop where
 len:∀vs H Q E,sp vs H Q E→vs.length=ps.length
 run:∀(A:Around) (outer:List Env) (s:Shared) (H:Hp) (args:Args) (us:List Value) (vs:List V) (Q:VK) (E:XK),Room k A→Env0 P w K mg base A outer s H→BindsTo s fd args (ps.zip us)→Vals vs us→sp vs H Q E→
  codeAny (model P w) A (.call (.ref f) args) (CR CX outer P w H s Q E) s
theorem FnOk.mono {P:Program}{w:World}{K:PySem.W.Frag}{mg:Str→Option Value}{base:Heap}{CX:CXT}{j k:Nat}{f:Addr}{fd:FuncData}{ps:List Str}{sp:Sp}(F:FnOk P w K mg base CX j f fd ps sp) (h:j≤k):
 FnOk P w K mg base CX k f fd ps sp:=⟨F.len,fun A outer s H args us vs Q E hr=>F.run A outer s H args us vs Q E (hr.mono h)⟩
theorem Env0.in1 {P:Program}{w:World}{K:PySem.W.Frag}{mg:Str→Option Value}{base:Heap}{A:Around}{outer:List Env}{s:Shared}{H:Hp}(e:Env0 P w K mg base A outer s H):
 Env0 P w K mg base A.in1 outer s H:=⟨e.frames,e.mod,e.bs,e.bsz,e.funs,e.frf,e.hok,e.bare⟩
section
variable {X : Cx} {pins : List (Addr × Obj)} {σ : St} {H : Hp} {s s' : Shared}
theorem Inv.env0 (I:Inv X pins σ H s):Env0 X.prog X.w X.K X.mg X.base X.A X.stack s H:=
 ⟨I.ok.frames,I.ok.mod,I.bs,Nat.le_trans I.ok.bsz I.sz,I.stack,I.stkFree,I.hok,I.bare⟩
theorem Inv.after {Q:VK}{u:Value}(I:Inv X pins σ H s) (h:CE X.stack X.prog X.w H s Q u s'):EP X pins σ Q u s':=by
 obtain⟨v,H',os,bare,un,hok,r,q⟩:=h
 obtain⟨hh,g,d,t,os'⟩:=s'
 obtain rfl:os'=s.os:=os
 exact⟨v,H',I.call (h':=hh) (g':=g) (d':=d) (t':=t) (ch:=[]) un hok bare (fun b z=>absurd z (by simp)),r,q⟩
end
def Dy (sp:Sp) (dvs:List V) (E:XK) (t:TA):TE:=fun σ H Q=>t σ H fun vs H1=>sp (vs++dvs) H1 Q E
def Binds (K:PySem.W.Frag) (fd:FuncData) (ps:List Str) (ds:List Value):Prop:=
 ∀(s:Shared) (us:List Value),K.In s.heap→(us++ds).length=ps.length→BindsTo s fd ⟨us,[]⟩ (ps.zip (us++ds))
theorem Binds.all {K:PySem.W.Frag}{fd:FuncData}{ps:List Str}(h:∀us:List Value,us.length=ps.length→bindArgs fd ⟨us,[]⟩=pure (ps.zip us)):Binds K fd ps []:=fun s us _ hl=>by
 rw[List.append_nil] at hl⊢
 exact .of_eq (h us hl)
def gL (CX:CXT) (X:Cx) (E:XK):Prop:=∀(pins:List (Addr×Obj)) (σ:St) (H:Hp) (s:Shared) (e:Value) (s':Shared),Inv X pins σ H s→CX X.stack H s E e s'→X.xe e s'
section
variable {X : Cx} {CX : CXT} {k : Nat} {f C : Addr} {fd : FuncData} {ps : List Str} {sp : Sp} {dvs : List V} {ds : List Value} {E : XK} {x m : Str} {p pos apos : Pos} {e o : Expr} {es : List Expr} {ta : TE} {t : TA}
theorem ye {pins:List (Addr×Obj)}{σ:St}{H:Hp}{s:Shared}{Q:VK}{us:List Value}{vs:List V}(F:FnOk X.prog X.w X.K X.mg X.base CX k f fd ps sp) (hr:Room k X.A) (hb:Binds X.K fd ps ds) (hd:Vals dvs ds) (hx:gL CX X E)
 (I:Inv X pins σ H s) (r:Vals vs us) (h:sp (vs++dvs) H Q E):wpAny (model X.prog X.w) X.A (call (.ref f) us) (EP X pins σ Q) X.xe s:=by
 have r2:Vals (vs++dvs) (us++ds):=r.append hd
 have hl:(us++ds).length=ps.length:=by rw[←r2.length];exact F.len _ _ _ _ h
 refine wpAny_call (codeAny_mono (F.run X.A X.stack s H ⟨us,[]⟩ (us++ds) (vs++dvs) Q E hr I.env0 (hb s us I.kIn hl) r2 h) fun r s' hq=>?_)
 cases r with
 |error e=>exact hx pins σ H s e s' I hq
 |ok fl=>
  cases fl with
  |ret u=>exact I.after hq
  |next=>exact False.elim hq
  |brk=>exact False.elim hq
  |cont=>exact False.elim hq
theorem zY (F:FnOk X.prog X.w X.K X.mg X.base CX k f fd ps sp) (hr:Room k X.A) (hg:Gl X x) (hm:X.mg x=some (.ref f)) (hk:PySem.W.keepIn X.K (.ref f)=true) (hb:Binds X.K fd ps ds) (hd:Vals dvs ds) (hx:gL CX X E)
 (ha:PA X (e::es) t) (hdb:(x==("__debug__":Str))=false:=by decide) (he:starEach (e::es) X.env=(false,eval e X.env)::starEach es X.env:=by rfl) (hpl:(backTo pos (starEach es X.env)).any (·.1)=false:=by rfl):
 PE X (.Call (.Name x p) (e::es) [] pos) (Dy sp dvs E t):=by
 intro pins s σ H Q I h
 refine wpAny_Call_Name_kw (jC I hg hm ?_ hdb)
 refine PySem.W.callWith_K (h₀:=X.base) I.ok.mod.kin hk (thn (ha pos pins s σ H _ I h) fun us s1 ⟨vs,H1,I1,r,q⟩=>⟨I1.kIn,?_⟩) he hpl
 exact ye F hr hb hd hx I1 r q
structure Mk (K:PySem.W.Frag) (C f:Addr):Prop where
 makes:PySem.W.makesIn K C=true
 init:PySem.W.findIn K (.ref C) "__init__"=some (some (.ref f))
 fn:PySem.W.isFn K (.ref f)=true
 kp:PySem.W.keepIn K (.ref C)=true
end
section
variable {X : Cx} {CX : CXT} {k : Nat} {f C : Addr} {fd : FuncData} {ps ks : List Str} {sp : Sp} {E : XK} {x m : Str} {p pos apos kpos : Pos} {e o : Expr} {es : List Expr} {kws : List Keyword} {te ta : TE} {t tk : TA} {nm : Option Str}
structure KBinds (K:PySem.W.Frag) (fd:FuncData) (ps ks:List Str) (g:List Value→List Value→List Value) (gV:List V→List V→List V):Prop where
 to:∀(s:Shared) (us ws:List Value),K.In s.heap→(g us ws).length=ps.length→BindsTo s fd ⟨us,ks.zip ws⟩ (ps.zip (g us ws))
 rel:∀{vs:List V}{us:List Value}{zs:List V}{ws:List Value},Vals vs us→Vals zs ws→Vals (gV vs zs) (g us ws)
variable {g : List Value → List Value → List Value} {gV : List V → List V → List V}
end
structure FnScope (N P:List Str) (sc:Scope):Prop where
 kind:sc.kind= .function
 co:sc.isCoroutine=false
 gen:sc.isGenerator=false
 nd:N.Nodup
 pre:N.take P.length=P
 par:∀x∈P,sc.names.lookup x=some .local∨sc.names.lookup x=some .cell
 nofree:∀y∈sc.names,y.2≠ .free
theorem oG {kindOf:Str→Option NameKind}{x:Str}:∀{binds:List (Str×Value)}{m:Str→Option Value},(∀v,(x,v)∉binds)→bindL kindOf binds m x=m x
 |[],_,_=>rfl
 |(n,v)::r,m,h=>by
  unfold bindL
  rw[oG fun w hw=>h w (List.mem_cons_of_mem _ hw)]
  split
  ·have:x≠n:=by rintro rfl;exact h v List.mem_cons_self
   simp[this]
  ·rfl
theorem o8 {kindOf:Str→Option NameKind}{x:Str}:∀{binds:List (Str×Value)}{m:Str→Option Value},(∀v,(x,v)∉binds)→bindC kindOf binds m x=m x
 |[],_,_=>rfl
 |(n,v)::r,m,h=>by
  unfold bindC
  rw[o8 fun w hw=>h w (List.mem_cons_of_mem _ hw)]
  split
  ·rfl
  ·have:x≠n:=by rintro rfl;exact h v List.mem_cons_self
   simp[this]
theorem oP {kindOf:Str→Option NameKind}{x:Str}{v:Value}:∀{P:List Str}{vs:List Value}{i:Nat}{m:Str→Option Value},P.Nodup→P[i]? =some x→vs[i]? =some v→kindOf x=some .local→
 bindL kindOf (P.zip vs) m x=some v
 |[],_,_,_,_,h,_,_=>by simp at h
 |_::_,[],_,_,_,_,h,_=>by simp at h
 |p::P,w::vs,0,m,nd,h1,h2,hk=>by
  simp at h1 h2;subst h1;subst h2
  show bindL kindOf ((p,w)::P.zip vs) m p=_
  unfold bindL
  rw[oG fun v hv=>(List.nodup_cons.mp nd).1 (List.of_mem_zip hv).1,if_pos hk]
  simp
 |p::P,w::vs,i+1,m,nd,h1,h2,hk=>by
  show bindL kindOf ((p,w)::P.zip vs) m x=_
  unfold bindL
  exact oP (i:=i) (List.nodup_cons.mp nd).2 (by simpa using h1) (by simpa using h2) hk
theorem oj {kindOf:Str→Option NameKind}{x:Str}{v:Value}:∀{P:List Str}{vs:List Value}{i:Nat}{m:Str→Option Value},P.Nodup→P[i]? =some x→vs[i]? =some v→kindOf x≠some .local→
 bindC kindOf (P.zip vs) m x=some v
 |[],_,_,_,_,h,_,_=>by simp at h
 |_::_,[],_,_,_,_,h,_=>by simp at h
 |p::P,w::vs,0,m,nd,h1,h2,hk=>by
  simp at h1 h2;subst h1;subst h2
  show bindC kindOf ((p,w)::P.zip vs) m p=_
  unfold bindC
  rw[o8 fun v hv=>(List.nodup_cons.mp nd).1 (List.of_mem_zip hv).1,if_neg hk]
  simp
 |p::P,w::vs,i+1,m,nd,h1,h2,hk=>by
  show bindC kindOf ((p,w)::P.zip vs) m x=_
  unfold bindC
  exact oj (i:=i) (List.nodup_cons.mp nd).2 (by simpa using h1) (by simpa using h2) hk
def start (N:List Str) (vs:List V):St:=vs.map some++List.replicate (N.length - vs.length) none
def aZ (CX:CXT) (P:Program) (w:World) (K:PySem.W.Frag) (mg:Str→Option Value) (base:Heap) (N:List Str) (qual:Str) (scope:Scope) (f:Addr) (cd:Value) (A:Around) (outer:List Env) (s:Shared) (H:Hp) (E:XK):Cx where
 prog:=P
 w:=w
 K:=K
 mg:=mg
 base:=base
 A:=A.deeper (envOfC qual scope s.heap.objs.size f cd)
 N:=N
 s₀:=s
 H₀:=H
 env:=envOfC qual scope s.heap.objs.size f cd
 outer:=outer
 stack:=envOfC qual scope s.heap.objs.size f cd::outer
 ex:=[]
 calm:=true
 fn:=fun _=>true
 pn:=[]
 xe:=fun e s'=>wpAny (model P w) (A.deeper (envOfC qual scope s.heap.objs.size f cd)) (leaving (envOfC qual scope s.heap.objs.size f cd) e) (fun _ s''=>CX outer H s E e s'') (fun e' s''=>CX outer H s E e' s'') s'
theorem rf {sc:Scope}{n:Nat}{x:Str}(h:sc.names.lookup x=some .cell):∃c,(cellsFrom n sc.names []).lookup x=some c:=by
 have q:=PySem.W.cellsFrom_some sc.names n [] (.inl h)
 exact Option.isSome_iff_exists.mp q
theorem o9 {CX:CXT}{P:Program}{w:World}{K:PySem.W.Frag}{mg:Str→Option Value}{base:Heap}{N ps:List Str}{qual:Str}{scope:Scope}{f:Addr}{cd:Value}{A:Around}{outer:List Env}{s s1:Shared}{H:Hp}{E:XK}{us:List Value}{vs:List V}
 (S:FnScope N ps scope) (hd:A.handled=none) (e0:Env0 P w K mg base A outer s H) (hl:vs.length=ps.length) (r:Vals vs us)
 (x:InCallC s s.heap.objs.size (bindL (envOfC qual scope s.heap.objs.size f cd).kindOf (ps.zip us) fun _=>none) (cellsFrom (s.heap.objs.size+1) scope.names []) (bindC (envOfC qual scope s.heap.objs.size f cd).kindOf (ps.zip us) fun _=>none) s1):
 Inv (aZ CX P w K mg base N qual scope f cd A outer s H E) [] (start N vs) H s1:=by
 have hpl:ps.length≤N.length:=by have:=congrArg List.length S.pre;rw[List.length_take] at this;omega
 obtain⟨h1,tk,rfl,hk⟩:=x.done
 have noA:∀b:Addr,b∉(aZ CX P w K mg base N qual scope f cd A outer s H E).ex:=fun b z=>absurd (show b∈([]:List Addr) from z) (by simp)
 refine⟨⟨e0.mod,S.kind,rfl,rfl,Nat.le_refl _,fun y z c h1 h2=>?_,fun y hy=>?_,fun y c _ h=>?_,fun _=>hd,Around.frames_deeper e0.frames, .inr ⟨rfl,rfl⟩,fun b z=>absurd z (noA b),e0.bs,e0.bsz,fun b _ _=>noA b,fun b z=>absurd z (noA b),e0.funs,e0.frf⟩,
  rfl,e0.bare,Un.kept hk,⟨_,x.toInCall.ns,fun i y v h1 h2 h3=>?_⟩,fun y c h=>⟨_,x.cell y c h⟩,e0.hok.fresh (Nat.le_refl _),fun y c h=>?_,fun p hp=>absurd (show p∈([]:List (Addr×Obj)) from hp) (by simp),e0.hok.kept hk,?_⟩
 ·exact name_of_addr x.apart (PySem.mem_of_lookup h1) (PySem.mem_of_lookup h2)
 ·have hy:scope.names.lookup y=some .cell∨scope.names.lookup y=some .free:=hy
  rcases hy with hy | hy
  ·exact rf hy
  ·exact absurd rfl (S.nofree _ (PySem.mem_of_lookup hy))
 ·exact Nat.le_of_lt (x.above y c (PySem.mem_of_lookup h))
 ·have hi:i<vs.length:=by
   unfold start at h2
   by_cases hi:i<vs.length
   ·exact hi
   ·rw[List.getElem?_append_right (by simpa using hi)] at h2
    rw[List.getElem?_replicate] at h2
    split at h2<;>cases h2
  have ha:vs[i]? =some v:=by
   unfold start at h2
   rw[List.getElem?_append_left (by simpa using hi),List.getElem?_map] at h2
   cases e:vs[i]? with
   |none=>rw[e] at h2;cases h2
   |some a=>rw[e] at h2;cases h2;rfl
  obtain⟨u,hu,rv⟩:=r.get ha
  have hp:ps[i]? =some y:=by
   rw[←S.pre,List.getElem?_take_of_lt (by omega)];exact h1
  have ndP:ps.Nodup:=by rw[←S.pre];exact S.nd.sublist (List.take_sublist _ _)
  refine⟨u,rv,?_⟩
  rcases S.par y (List.mem_of_getElem? hp) with k | k
  ·exact .inl ⟨k,oP ndP hp hu k⟩
  ·obtain⟨c,e⟩:=rf (n:=s.heap.objs.size+1) k
   refine .inr ⟨.inl k,c,e,?_⟩
   have q:=x.cell y c e
   rw[oj ndP hp hu (by show scope.names.lookup y≠_;rw[k];decide)] at q
   exact q
 ·exact e0.hok.fresh (Nat.le_of_lt (x.above y c (PySem.mem_of_lookup h)))
 ·unfold start
  show _=N.length
  rw[List.length_append,List.length_map,List.length_replicate]
  omega
theorem A4 {CX:CXT}{P:Program}{w:World}{K:PySem.W.Frag}{mg:Str→Option Value}{base:Heap}{k:Nat}{f:Addr}{name qual:Str}{params:Arguments}{body:List Stmt}{scope:Scope}{dV kV doc pm cdv ct oc:Value}{an od:Option Addr}
 {osl:Array (Option Value)}{N ps:List Str}{sp:Sp}(lk:K.lookup f=some ⟨oc,od, .func (PySem.W.fnOf name qual params body scope dV kV doc pm an cdv ct),osl⟩) (hcd:PySem.W.codeIn K cdv qual=true) (S:FnScope N ps scope)
 (len:∀vs H Q E,sp vs H Q E→vs.length=ps.length)
 (hbody:∀(A:Around) (outer:List Env) (s:Shared) (H:Hp) (vs:List V) (Q:VK) (E:XK),Room k (A.deeper (envOfC qual scope s.heap.objs.size f cdv))→sp vs H Q E→
  ∃t,PSs (aZ CX P w K mg base N qual scope f cdv A outer s H E) body t∧t {nx:=fun _ H'=>Q .non H',rt:=Q} (start N vs) H):
 FnOk P w K mg base CX (k+1) f (PySem.W.fnOf name qual params body scope dV kV doc pm an cdv ct) ps sp:=by
 refine⟨len,fun A outer s H args us vs Q E hr e0 hb r hsp=>?_⟩
 have hl:=len _ _ _ _ hsp
 have KX:K.In s.heap:=e0.mod.kin.keeps fun b o e=>(e0.bs b o e).1
 have lim:s.heap.NoLimit:=e0.mod.nolimit.keeps fun b o e=>(e0.bs b o e).1
 have hkind:∀y∈ps.zip us,scope.names.lookup y.1=some .local∨(scope.names.lookup y.1=some .cell∧((cellsFrom (s.heap.objs.size+1) scope.names []).lookup y.1).isSome=true):=fun⟨n,v⟩ hy=>by
  rcases S.par n (List.of_mem_zip hy).1 with q | q
  ·exact .inl q
  ·exact .inr ⟨q,PySem.W.cellsFrom_some _ _ _ (.inl q)⟩
 refine codeAny_call_function hr.depth (KX _ _ lk) rfl S.co S.gen rfl (PySem.W.codeRec_of KX hcd) (hb _ _ _ _ ?_)
 refine wpAny_newFunctionEnv_cells S.kind hkind fun env he s1 x=>?_
 subst he
 refine⟨lim.keeps x.toInCall.keep,codeAny_func ?_⟩
 obtain⟨t,ht,hq⟩:=hbody A outer s H vs Q E (hr.deeper _) hsp
 have I:Inv (aZ CX P w K mg base N qual scope f cdv A outer s H E) [] (start N vs) H s1:=o9 S hr.hd e0 hl r x
 refine wpAny_mono (ht [] s1 (start N vs) H _ I hq) (fun fl s' hs=>?_) fun e s' hs=>hs
 have fin:∀{σ':St}{H':Hp}{v:V}{u:Value},Inv (aZ CX P w K mg base N qual scope f cdv A outer s H E) [] σ' H' s'→RelV v u→Q v H'→CE outer P w H s Q u s':=
  fun {σ' H' v u} J rv q=>⟨v,H',J.os,J.bare,J.base,J.hok,rv,q⟩
 cases fl with
 |ret u=>
  obtain⟨v,σ',H',J,rv,q⟩:=hs
  exact fin J rv q
 |next=>
  obtain⟨σ',H',J,q⟩:=hs
  exact fin (v:=V.non) (u:=Value.none) J rfl q
 |brk=>
  obtain⟨_,_,_,q⟩:=hs
  exact False.elim q
 |cont=>
  obtain⟨_,_,_,q⟩:=hs
  exact False.elim q
end L2
namespace L2
open PySem PySem.Spec PyProof.Rows
section
variable {X : Cx} {x : Str} {p pos : Pos} {e : Expr} {es : List Expr} {t : TA} {id T : String} {r : List V → Hp → VK → Prop}
def tCB (r:List V→Hp→VK→Prop) (t:TA):TE:=fun σ H Q=>t σ H fun vs H1=>r vs H1 Q
theorem xp (hc:CallR X (.builtin id) r) (hg:Gl X x) (hm:X.mg x=none) (hv:bootBuiltins x=some (.builtin id)) (ha:PA X (e::es) t) (hn:x≠"__name__":=by decide) (hdb:(x==("__debug__":Str))=false:=by decide)
 (he:starEach (e::es) X.env=(false,eval e X.env)::starEach es X.env:=by rfl) (hpl:(backTo pos (starEach es X.env)).any (·.1)=false:=by rfl):PE X (.Call (.Name x p) (e::es) [] pos) (tCB r t):=by
 intro pins s σ H Q I h
 refine wpAny_Call_Name_kw (kj I hg hm hv ?_ hn hdb)
 exact PyProof.Rows.callWith_builtin1 (thn (ha pos pins s σ H _ I h) fun us s1 ⟨vs,H1,I1,r1,q1⟩=>hc pins s1 σ H1 vs us Q I1 r1 q1) he hpl
theorem n_ (hc:CallR X (.type T) r) (hg:Gl X x) (hm:X.mg x=none) (hv:bootBuiltins x=some (.type T)) (ha:PA X (e::es) t) (hn:x≠"__name__":=by decide) (hdb:(x==("__debug__":Str))=false:=by decide)
 (he:starEach (e::es) X.env=(false,eval e X.env)::starEach es X.env:=by rfl) (hpl:(backTo pos (starEach es X.env)).any (·.1)=false:=by rfl):PE X (.Call (.Name x p) (e::es) [] pos) (tCB r t):=by
 intro pins s σ H Q I h
 refine wpAny_Call_Name_kw (kj I hg hm hv ?_ hn hdb)
 exact PyProof.Rows.callWith_type1 (thn (ha pos pins s σ H _ I h) fun us s1 ⟨vs,H1,I1,r1,q1⟩=>hc pins s1 σ H1 vs us Q I1 r1 q1) he hpl
end
end L2
namespace HT
open PySem PyProof.Rows
def lexLt:List Int→List Int→Bool
 |[],[]=>false
 |[],_::_=>true
 |_::_,[]=>false
 |x::xs,y::ys=>if x=y then lexLt xs ys else decide (x<y)
theorem lexLt_cons (x y:Int) (xs ys:List Int):lexLt (x::xs) (y::ys)=if x=y then lexLt xs ys else decide (x<y):=rfl
theorem lexLt_nil_nil:lexLt [] []=false:=rfl
theorem lexLt_nil_cons (y:Int) (ys:List Int):lexLt [] (y::ys)=true:=rfl
theorem lexLt_cons_nil (x:Int) (xs:List Int):lexLt (x::xs) []=false:=rfl
theorem eqAt_int (A:Around) (s:Shared) (a:Int) (t:Tok) (c:Int) (u:Tok):∃e,SeqAt.EqAt A s (.int a t) (.int c u) e∧(e=true↔a=c):=
 ⟨(a==c),SeqAt.EqAt.int_int a t c u,by simp⟩
theorem rcLt_int (A:Around) (s:Shared) (a:Int) (t:Tok) (c:Int) (u:Tok) (prog:Program) (w:World) (E:Value→Shared→Prop) (Q:Value→Shared→Prop) (h:Q (.bool (decide (a<c))) s):
 wpAny (model prog w) A (richCompare .Lt (.int a t) (.int c u)) Q E s:=
 (PyProof.Rows.lt_int h:wpAny (model prog w) A (compareOp .Lt (.int a t) (.int c u)) Q E s)
section
open PySem.SeqAt
open PySem.AutoSeq1 (wpAny_loadPart')
open PySem.MeetsSeq PySem.MeetsSeq2 PySem.MeetsSeq3
theorem tuple_lt_ints (l b:Addr) (items items2:Array Value) (n n2:Nat) (dd dd2:Option Addr) (sl sl2:Array (Option Value)) (ns ms:List Int) (hi:IntsAre items.toList ns) (hj:IntsAre items2.toList ms):
 Meets (Builtin.«tuple.__lt__» ⟨[.ref l, .ref b],[]⟩)
  (fun _ R s=>s.heap.get? l=some {cls:= .type "tuple",dict:=dd,data:= .seq items n,slots:=sl}∧s.heap.get? b=some {cls:= .type "tuple",dict:=dd2,data:= .seq items2 n2,slots:=sl2}∧
   R (.ok (.ret (.bool (lexLt ns ms)))) s):=
 .of_wp fun prog w A R s h=>by
  obtain⟨hp,g,d,tk,os⟩:=s;obtain⟨hl,hb,h⟩:=h
  have f2:=AutoSeq1.sub_tuple_tuple
  have z1:items.size=ns.length:=by rw[←hi.length];simp
  have z2:items2.size=ms.length:=by rw[←hj.length];simp
  wp_walk using wpAny_loadPart' hl,wpAny_loadPart' hb,wpAny_forIn_list _ (fun rest b s'=>b.1=none∧s'=⟨hp,g,d,tk,os⟩∧∃(vs ws:List Value) (ns' ms':List Int),rest=vs.zip ws∧
   IntsAre vs ns'∧IntsAre ws ms'∧ns'.length+items2.size=ms'.length+items.size∧R (.ok (.ret (.bool (lexLt ns' ms')))) ⟨hp,g,d,tk,os⟩) _
  case turn=>
   rintro⟨y,x⟩ rest b s' ⟨hb',rfl,vs,ws,ns',ms',hz,hvi,hwi,hlen,hR⟩
   cases hvi with
   |nil=>rw[List.zip_nil_left] at hz;cases hz
   |cons a t hvi'=>
    cases hwi with
    |nil=>rw[List.zip_nil_right] at hz;cases hz
    |cons c u hwi'=>
     rw[List.zip_cons_cons] at hz
     injection hz with hyx hrest
     injection hyx with hy hx
     subst hy hx
     rw[lexLt_cons] at hR
     simp only[List.length_cons] at hlen
     obtain⟨e,he,hiff⟩:=eqAt_int A.in1 ⟨hp,g,d,tk,os⟩ a t c u
     refine wpAny_bind (he prog w _ _ ?_)
     cases e with
     |true=>
      rw[if_pos (hiff.mp rfl)] at hR
      wp_walk
      exact⟨rfl,rfl,_,_,_,_,hrest,hvi',hwi',by omega,hR⟩
     |false=>
      rw[if_neg (fun q=>absurd (hiff.mpr q) Bool.false_ne_true)] at hR
      have hri:=rcLt_int A.in1 ⟨hp,g,d,tk,os⟩ a t c u prog w
      wp_walk using hri
      exact⟨_,rfl,by simpa using hR⟩
  case fin=>
   rintro⟨b1,b2⟩ s' ⟨hb',rfl,vs,ws,ns',ms',hz,hvi,hwi,hlen,hR⟩
   simp only at hb'
   subst hb'
   have hv:lexLt ns' ms'=decide (items.size<items2.size):=by
    cases hvi with
    |nil=>
     cases hwi with
     |nil=>
      simp only[List.length_nil] at hlen
      rw[lexLt_nil_nil]
      exact(decide_eq_false (by omega)).symm
     |cons c u hw=>
      simp only[List.length_nil,List.length_cons] at hlen
      rw[lexLt_nil_cons]
      exact(decide_eq_true (by omega)).symm
    |cons a t hv=>
     cases hwi with
     |nil=>
      simp only[List.length_nil,List.length_cons] at hlen
      rw[lexLt_cons_nil]
      exact(decide_eq_false (by omega)).symm
     |cons c u hw=>
      rw[List.zip_cons_cons] at hz
      cases hz
   rw[hv] at hR
   wp_walk
   exact⟨_,rfl,by simpa[Builtin.Tuple.tupleCompareSizes] using hR⟩
  case h=>
   exact⟨rfl,rfl,items.toList,items2.toList,ns,ms,rfl,hi,hj,by omega,h⟩
end
section
variable {prog : Program} {w : World} {A : Around} {E : Value → Shared → Prop} {s : Shared}
theorem lt_tupInts {l b:Addr}{items items2:Array Value}{ns ms:List Int}{Q:Value→Shared→Prop}(hl:IsTup s.heap l items) (hb:IsTup s.heap b items2) (hi:IntsAre items.toList ns) (hj:IntsAre items2.toList ms)
 (hu:A.units<cLine) (h:Q (.bool (lexLt ns ms)) s):wpAny (model prog w) A (compareOp .Lt (.ref l) (.ref b)) Q E s:=by
 obtain⟨⟨cls,dd,data,sl⟩,ho,hc,n,hd⟩:=id hl
 obtain⟨⟨cls2,dd2,data2,sl2⟩,ho2,hc2,n2,hd2⟩:=id hb
 simp only at hc hd hc2 hd2
 subst hc hd hc2 hd2
 exact richCompare_meets_room (op:= .Lt) ⟨_,ho,rfl⟩ ⟨_,ho2,rfl⟩ PySem.F.slot_tuple_lt PySem.F.entry_tuple_lt (PySem.F.args_tuple_lt_2 _ _) (tuple_lt_ints l b items items2 n n2 dd dd2 sl sl2 ns ms hi hj)
  ⟨ho,ho2,show Value.bool (lexLt ns ms)≠Value.notImplemented∧Q (.bool (lexLt ns ms)) s from⟨(fun x=>nomatch x),h⟩⟩ hu
theorem cat_tup {t b:Addr}{vs ws:List Value}{Q:Value→Shared→Prop}(ht:IsTup s.heap t vs.toArray) (hb:IsTup s.heap b ws.toArray) (hv:vs≠[])
 (h1:ws=[]→Q (.ref t) s) (h2:ws≠[]→Q (.ref s.heap.objs.size) {s with heap:=s.heap.push {cls:= .type "tuple",data:= .seq (vs++ws).toArray} })
 (hsz:vs.length+ws.length≤sizeLine):wpAny (model prog w) A (binaryOp .Add (.ref t) (.ref b)) Q E s:=by
 obtain⟨⟨cls,dd,data,sl⟩,ho,hc,n,hd⟩:=id ht
 obtain⟨⟨cls2,dd2,data2,sl2⟩,ho2,hc2,n2,hd2⟩:=id hb
 simp only at hc hd hc2 hd2
 subst hc hd hc2 hd2
 have e:vs.toArray++ws.toArray=(vs++ws).toArray:=by simp
 by_cases hw:ws=[]
 ·exact concat_meets ⟨_,ho,rfl⟩ ⟨_,ho2,rfl⟩ noFill_tuple_add seq_tuple_add PySem.F.slot_tuple_add PySem.F.entry_tuple_add (PySem.F.args_tuple_add_2 _ _)
   (tuple_addW1 t b vs.toArray ws.toArray n n2 dd dd2 sl sl2 (by simpa using hv) (by simp[hw])) ⟨ho,ho2,h1 hw⟩
 ·refine concat_meets ⟨_,ho,rfl⟩ ⟨_,ho2,rfl⟩ noFill_tuple_add seq_tuple_add PySem.F.slot_tuple_add PySem.F.entry_tuple_add (PySem.F.args_tuple_add_2 _ _)
   (tuple_addW2 t b vs.toArray ws.toArray n n2 dd dd2 sl sl2 (by simpa using hv) (by simpa using hw) (by rw[List.size_toArray,List.size_toArray];exact hsz)) ⟨ho,ho2,?_⟩
  rw[e]
  exact h2 hw
def sIx (n d:Nat):Option Int→Nat
 |none=>d
 |some v=>if v<0 then(v+(n:Int)).toNat else min v.toNat n
end
end HT
namespace L2
open PySem PySem.Spec PyProof.Rows
abbrev TO:=St→Hp→(Option Int→Hp→Prop)→Prop
theorem intsAre_of {ns:List Int}:∀{us:List Value},Vals (ns.map V.int) us→IntsAre us ns:=by
 induction ns with
 |nil=>intro us r;rw[List.map_nil] at r;cases r;exact .nil
 |cons n ns ih=>
  intro us r
  rw[List.map_cons] at r
  cases r with
  |cons r1 r2=>
   obtain⟨t,e⟩:=r1
   subst e
   exact .cons n t (ih r2)
section
variable {X : Cx} {e : Expr} {te : TE} {lo hi : Option Expr} {tl th : TO} {pos p2 : Pos}
def SlR (X:Cx) (r:V→Option Int→Option Int→Hp→VK→Prop):Prop:=
 ∀(pins:List (Addr×Obj)) (s:Shared) (σ:St) (H:Hp) (x:V) (v vl vu:Value) (lo hi:Option Int) (sl:Addr) (Q:VK),Inv X pins σ H s→RelV x v→s.heap.IsSliceOf sl vl vu .none→IsPart vl lo→IsPart vu hi→r x lo hi H Q→
  ∃T id,typeLookup (.type T) "__getitem__"=pure (some (.builtin id))∧s.TypeIs v T∧wpAny (model X.prog X.w) X.A (getItem v (.ref sl)) (EP X pins σ Q) X.xe s
def zL (xs:List V) (lo hi:Option Int):List V:=(xs.drop (HT.sIx xs.length 0 lo)).take (HT.sIx xs.length xs.length hi - HT.sIx xs.length 0 lo)
theorem rl (xs:List V) (lo hi:Option Int):(zL xs lo hi).length≤xs.length:=by
 unfold zL
 rw[List.length_take,List.length_drop]
 omega
def CZ (K:PySem.W.Frag):R2:=fun x y H Q=>∃a b ns ms,x= .ref a∧y= .ref b∧SqT K H a (ns.map V.int)∧SqT K H b (ms.map V.int)∧Q (.bl (HT.lexLt ns ms)) H
theorem Cr (hu:X.A.units<cLine):OpR X (compareOp .Lt) (CZ X.K):=by
 intro pins s σ H x y v u Q I rx ry h
 obtain⟨a,b,ns,ms,rfl,rfl,ha,hb,q⟩:=h
 cases rx
 cases ry
 obtain⟨its,r1,p1,_⟩:=I.tuple ha
 obtain⟨its2,r2,p2,_⟩:=I.tuple hb
 have i1:IntsAre its.toArray.toList ns:=intsAre_of r1
 have i2:IntsAre its2.toArray.toList ms:=intsAre_of r2
 exact HT.lt_tupInts p1 p2 i1 i2 hu ⟨.bl (HT.lexLt ns ms),H,I,rfl,q⟩
def DB (K:PySem.W.Frag):R2:=fun x y H Q=>∃a b xs ys,x= .ref a∧y= .ref b∧SqT K H a xs∧SqT K H b ys∧xs≠[]∧xs.length+ys.length≤sizeLine∧
 (ys=[]→Q (.ref a) H)∧(ys≠[]→∀p,H p=none→Q (.ref p) (upd H p (.tup (xs++ys))))
theorem Vals.nil_iff {xs:List V}{us:List Value}(r:Vals xs us):us=[]↔xs=[]:=by
 cases r with
 |nil=>simp
 |cons _ _=>simp
theorem AY:OpR X (binaryOp .Add) (DB X.K):=by
 intro pins s σ H x y v u Q I rx ry h
 obtain⟨a,b,xs,ys,rfl,rfl,ha,hb,hx,hz,q1,q2⟩:=h
 cases rx
 cases ry
 obtain⟨its,r1,p1,_⟩:=I.tuple ha
 obtain⟨its2,r2,p2,_⟩:=I.tuple hb
 refine HT.cat_tup p1 p2 (fun z=>hx (r1.nil_iff.mp z)) (fun z=>⟨.ref a,H,I,rfl,q1 (r2.nil_iff.mp z)⟩) (fun z=>?_) (by rw[←r1.length,←r2.length];exact hz)
 refine⟨.ref s.heap.objs.size,_,I.laid (t':=s.toks) (o:= .tup (xs++ys)) (fun b ob q=>Heap.get?_push_of_some _ q) (Nat.le_refl _) ?_,rfl,q2 (fun w=>z (r2.nil_iff.mpr w)) _ (I.hok.fresh (Nat.le_refl _))⟩
 exact⟨by rw[List.length_append];exact hz,_,r1.append r2,IsTup.new _ _⟩
end
end L2
namespace L2
open PySem PySem.Spec PyProof.Rows
def ixN (n:Nat) (i:Int):Option Nat:=if 0≤i then(if i<n then some i.toNat else none) else if -(n:Int)≤i then some (i+n).toNat else none
def atI {α:Type}(xs:List α) (i:Int):Option α:=(ixN xs.length i).bind fun j=>xs[j]?
theorem zG {n:Nat}{i:Int}{j:Nat}(h:ixN n i=some j):seqIndex? i n=some j∧j<n∧ -(n:Int)≤i∧i<n:=by
 unfold ixN at h
 by_cases h0:0≤i
 ·rw[if_pos h0] at h
  by_cases h1:i<n
  ·rw[if_pos h1] at h
   have e:i.toNat=j:=Option.some.inj h
   exact⟨by rw[seqIndex_of h0 h1,e],by omega,by omega,h1⟩
  ·rw[if_neg h1] at h;cases h
 ·rw[if_neg h0] at h
  by_cases h1: -(n:Int)≤i
  ·rw[if_pos h1] at h
   have e:(i+n).toNat=j:=Option.some.inj h
   exact⟨by rw[seqIndex_neg (by omega) h1,e],by omega,h1,by omega⟩
  ·rw[if_neg h1] at h;cases h
theorem p7 {α:Type}{xs:List α}{i:Int}{v:α}(h:atI xs i=some v):∃j,seqIndex? i xs.length=some j∧xs[j]? =some v∧j<xs.length∧ -(xs.length:Int)≤i∧i<xs.length:=by
 unfold atI at h
 cases e:ixN xs.length i with
 |none=>rw[e] at h;cases h
 |some j=>
  rw[e] at h
  obtain⟨h1,h2,h3,h4⟩:=zG e
  exact⟨j,h1,h,h2,h3,h4⟩
theorem rM {α:Type}(xs:List α) (v:α):atI (xs++[v]) (-1)=some v:=by
 have hl:(xs++[v]).length=xs.length+1:=by simp
 have e:ixN (xs++[v]).length (-1)=some xs.length:=by
  unfold ixN
  rw[hl,if_neg (by decide),if_pos (by omega)]
  congr 1
  omega
 unfold atI
 rw[e]
 show (xs++[v])[xs.length]? =some v
 simp
def gN (b:Expr):Prop:=∀o i,subscripted b false o i=operate [o,i] (getItem o i)
def IxR (X:Cx) (r:R2):Prop:=
 ∀(value slice:Expr) (pins:List (Addr×Obj)) (s:Shared) (σ:St) (H:Hp) (x y:V) (v u:Value) (Q:VK),Inv X pins σ H s→RelV x v→RelV y u→r x y H Q→
  subscripted slice false v u=operate [v,u] (getItem v u)→wpAny (model X.prog X.w) X.A (subscriptTail value slice v u) (EP X pins σ Q) X.xe s
def MtR (X:Cx) (id:String) (r:V→List V→Hp→VK→Prop):Prop:=
 ∀(pins:List (Addr×Obj)) (s:Shared) (σ:St) (H:Hp) (x:V) (xs:List V) (v:Value) (us:List Value) (Q:VK),Inv X pins σ H s→RelV x v→Vals xs us→r x xs H Q→
  wpAny (model X.prog X.w) X.A (call (.builtin id) (v::us)) (EP X pins σ Q) X.xe s
section
variable {X : Cx} {a b : Expr} {ta tb : TE} {pos : Pos}
theorem Bf {r:R2}(hr:IxR X r) (ha:PE X a ta) (hb:PE X b tb) (hs:gN b):PE X (.Subscript a b pos) (tOp r ta tb):=by
 intro pins s σ H Q I h
 exact Subscript_ (BM ha hb I h fun v u s2 x y H2 I2 rx ry q=>hr a b pins s2 σ H2 x y v u Q I2 rx ry q (hs _ _))
def CK (K:PySem.W.Frag):R2:=fun x y H Q=>∃p xs i v,x= .ref p∧y= .int i∧SqL K H p xs∧atI xs i=some v∧Q v H
def DD (K:PySem.W.Frag):R2:=fun x y H Q=>∃p xs i v,x= .ref p∧y= .int i∧SqT K H p xs∧atI xs i=some v∧Q v H
def DK:R2:=fun x y H Q=>∃z i c,x= .str z∧y= .int i∧z.length≤sizeLine∧atI z.cps.toList i=some c∧Q (.str ⟨#[c]⟩) H
theorem qT:IxR X (CK X.K):=by
 intro value slice pins s σ H x y v u Q I rx ry h hs
 obtain⟨p,xs,i,z,rfl,rfl,hq,he,q⟩:=h
 cases rx
 obtain⟨t,rfl⟩:=ry
 obtain⟨its,r,pl,hz⟩:=I.list hq
 obtain⟨j,h1,h2,h3,h4,h5⟩:=p7 he
 obtain⟨w,ew,rw'⟩:=r.get h2
 have hl:=r.length
 have hn:=kg
 have fin:EP X pins σ Q w s:=⟨z,H,I,rw',q⟩
 by_cases h0:0≤i
 ·have hj:i.toNat=j:=by
   rw[seqIndex_of h0 h5] at h1
   exact Option.some.inj h1
  exact item_listR pl.isList h0 (by omega) (by rw[hj];simpa using ew) fin hs
 ·have hj:(i+(its.toArray.size:Int)).toNat=j:=by
   rw[seqIndex_neg (by omega) h4] at h1
   rw[List.size_toArray,←hl]
   exact Option.some.inj h1
  exact subscriptTail_builtinR (x:=w) pl.isList.typeIs slot_list_getitem.lookup
   (wpAny_getItem_list_neg (Q:=fun r s'=>r=w∧EP X pins σ Q r s') pl.isList (by omega) (by rw[List.size_toArray]<;>omega) (by omega) (by rw[hj];simpa using ew) ⟨rfl,fin⟩) hs
theorem Bw:IxR X (DD X.K):=by
 intro value slice pins s σ H x y v u Q I rx ry h hs
 obtain⟨p,xs,i,z,rfl,rfl,hq,he,q⟩:=h
 cases rx
 obtain⟨t,rfl⟩:=ry
 obtain⟨its,r,pl,hz⟩:=I.tuple hq
 obtain⟨j,h1,h2,h3,h4,h5⟩:=p7 he
 obtain⟨w,ew,rw'⟩:=r.get h2
 have hl:=r.length
 have hn:=kg
 have fin:EP X pins σ Q w s:=⟨z,H,I,rw',q⟩
 exact subscriptTail_builtinR (x:=w) pl.typeIs slot_tuple_getitem.lookup
  (getItem_tuple (j:=j) (Q:=fun r s'=>r=w∧EP X pins σ Q r s') pl (by omega) (by omega) (by rw[List.size_toArray,←hl];exact h1) (by simpa using ew) ⟨rfl,fin⟩) hs
theorem Bp:IxR X DK:=by
 intro value slice pins s σ H x y v u Q I rx ry h hs
 obtain⟨z,i,c,rfl,rfl,hz,he,q⟩:=h
 obtain⟨t,rfl⟩:=rx
 obtain⟨t',rfl⟩:=ry
 obtain⟨j,h1,h2,h3,h4,h5⟩:=p7 he
 have hl:z.cps.toList.length=z.length:=by simp[Str.length]
 rw[hl] at h1 h4 h5
 have hn:=kg
 exact tail_any (typeIs_str s z t) slot_str_getitem.lookup (getItem_str (c:=c) (by
  have e1:decide (i< -(2 ^ 63:Int))=false:=decide_eq_false (by omega)
  have e2:decide (i≥2 ^ 63)=false:=decide_eq_false (by omega)
  rw[e1,e2,Bool.or_false]) (by rw[h1];simpa using h2) ⟨.str ⟨#[c]⟩,H,I.tok _,⟨_,rfl⟩,q⟩) hs
theorem pH (lo hi:Option Int) (n:Nat):(sliceBounds lo hi none n).1=((HT.sIx n 0 lo:Nat):Int)∧(sliceBounds lo hi none n).2.1=((HT.sIx n n hi:Nat):Int)∧(sliceBounds lo hi none n).2.2=1:=by
 refine⟨?_,?_,rfl⟩
 ·cases lo with
  |none=>simp[sliceBounds,HT.sIx]
  |some i=>
   simp only[sliceBounds,HT.sIx,Option.getD_none,show (1:Int)>0 by decide,if_true]
   by_cases h:i<0
   ·simp only[h,if_true]<;>omega
   ·simp only[h,if_false]<;>omega
 ·cases hi with
  |none=>simp[sliceBounds,HT.sIx]
  |some i=>
   simp only[sliceBounds,HT.sIx,Option.getD_none,show (1:Int)>0 by decide,if_true]
   by_cases h:i<0
   ·simp only[h,if_true]<;>omega
   ·simp only[h,if_false]<;>omega
theorem nG (its:List Value) (lo hi:Option Int):slicePick its.toArray lo hi none=((its.drop (HT.sIx its.length 0 lo)).take (HT.sIx its.length its.length hi - HT.sIx its.length 0 lo)).toArray:=by
 obtain⟨h1,h2,h3⟩:=pH lo hi its.toArray.size
 unfold slicePick
 rw[h1,h2,h3]
 simp only[sliceRange_one,pick_run,List.size_toArray]<;>rfl
def Em (K:PySem.W.Frag):V→Option Int→Option Int→Hp→VK→Prop:=fun x lo hi H Q=>∃a xs,x= .ref a∧SqL K H a xs∧∀p,H p=none→Q (.ref p) (upd H p (.lst (zL xs lo hi)))
theorem DZ:SlR X (Em X.K):=by
 intro pins s σ H x v vl vu lo hi sl Q I rx hs pl pu h
 obtain⟨a,xs,rfl,hx,q⟩:=h
 cases rx
 obtain⟨its,r,ht,hz⟩:=I.list hx
 have hlen:=r.length
 refine⟨"list",_,slot_list_getitem.lookup,ht.isList.typeIs,?_⟩
 refine wpAny_getItem_list_slice ht.isList hs pl pu .none (by simp) ?_ (by rw[List.size_toArray]<;>omega)
 rw[nG,←hlen]
 refine⟨.ref s.heap.objs.size,_,I.laid (t':=s.toks) (o:= .lst (zL xs lo hi)) (fun b ob q=>Heap.get?_push_of_some _ q) (Nat.le_refl _) ?_,rfl,q _ (I.hok.fresh (Nat.le_refl _))⟩
 exact⟨Nat.le_trans (rl xs lo hi) hz,_,0,(r.drop (HT.sIx xs.length 0 lo)).take (HT.sIx xs.length xs.length hi - HT.sIx xs.length 0 lo),Heap.get?_push_size _ rfl⟩
def kC:V→Bool
 | .non=>true
 | .bl _=>true
 | .int _=>true
 | .str _=>true
 |_=>false
def eqV:V→V→Bool
 | .non, .non=>true
 | .bl a, .bl b=>a==b
 | .bl a, .int b=>(if a then 1 else 0)==b
 | .int a, .bl b=>a==(if b then 1 else 0)
 | .int a, .int b=>a==b
 | .str a, .str b=>a==b
 |_,_=>false
theorem Br {A:Around}{s:Shared}{y x:V}{u v:Value}(ry:RelV y u) (rx:RelV x v) (fy:kC y=true) (fx:kC x=true):SeqAt.EqAt A s u v (eqV y x):=by
 cases y with
 |non=>
  cases ry
  cases x with
  |non=>cases rx;exact SeqAt.EqAt.same _
  |bl b=>cases rx;exact SeqAt.EqAt.none_bool b
  |int b=>obtain⟨t,rfl⟩:=rx;exact SeqAt.EqAt.none_int b t
  |str b=>obtain⟨t,rfl⟩:=rx;exact SeqAt.EqAt.none_str b t
  |_=>exact absurd (show false=true from fx) Bool.false_ne_true
 |bl a=>
  cases ry
  cases x with
  |non=>cases rx;exact SeqAt.EqAt.bool_none a
  |bl b=>cases rx;exact SeqAt.EqAt.bool_bool a b
  |int b=>obtain⟨t,rfl⟩:=rx;exact SeqAt.EqAt.bool_int a b t
  |str b=>obtain⟨t,rfl⟩:=rx;exact SeqAt.EqAt.bool_str a b t
  |_=>exact absurd (show false=true from fx) Bool.false_ne_true
 |int a=>
  obtain⟨t',rfl⟩:=ry
  cases x with
  |non=>cases rx;exact SeqAt.EqAt.int_none a t'
  |bl b=>cases rx;exact SeqAt.EqAt.int_bool a t' b
  |int b=>obtain⟨t,rfl⟩:=rx;exact SeqAt.EqAt.int_int a t' b t
  |str b=>obtain⟨t,rfl⟩:=rx;exact SeqAt.EqAt.int_str a t' b t
  |_=>exact absurd (show false=true from fx) Bool.false_ne_true
 |str a=>
  obtain⟨t',rfl⟩:=ry
  cases x with
  |non=>cases rx;exact SeqAt.EqAt.str_none a t'
  |bl b=>cases rx;exact SeqAt.EqAt.str_bool a t' b
  |int b=>obtain⟨t,rfl⟩:=rx;exact SeqAt.EqAt.str_int a t' b t
  |str b=>obtain⟨t,rfl⟩:=rx;exact SeqAt.EqAt.str_str a t' b t
  |_=>exact absurd (show false=true from fx) Bool.false_ne_true
 |_=>exact absurd (show false=true from fy) Bool.false_ne_true
def eqU (x:V) (u:Value):Bool:=match u with
 | .none=>eqV .non x
 | .bool b=>eqV (.bl b) x
 | .int i _=>eqV (.int i) x
 | .str z _=>eqV (.str z) x
 |_=>false
theorem yw {x y:V}{u:Value}(r:RelV y u) (f:kC y=true):eqU x u=eqV y x:=by
 cases y with
 |non=>cases r;rfl
 |bl b=>cases r;rfl
 |int i=>obtain⟨t,rfl⟩:=r;rfl
 |str z=>obtain⟨t,rfl⟩:=r;rfl
 |_=>exact absurd (show false=true from f) Bool.false_ne_true
theorem qU {x:V}:∀{xs:List V}{us:List Value},Vals xs us→xs.all kC=true→us.any (eqU x)=xs.any fun y=>eqV y x
 |_,_, .nil,_=>rfl
 |y::xs,u::us, .cons r t,f=>by
  rw[List.all_cons,Bool.and_eq_true] at f
  rw[List.any_cons,List.any_cons,yw r f.1,qU t f.2]
theorem l9 {A:Around}{s:Shared}{x:V}{v:Value}(rx:RelV x v) (fx:kC x=true):∀{xs:List V}{us:List Value},Vals xs us→xs.all kC=true→∀u∈us,SeqAt.EqAt A s u v (eqU x u)
 |_,_, .nil,_=>fun u hu=>by cases hu
 |y::xs,u::us, .cons r t,f=>fun u' hu=>by
  rw[List.all_cons,Bool.and_eq_true] at f
  rcases List.mem_cons.mp hu with rfl | hu
  ·rw[yw r f.1];exact Br r rx f.1 fx
  ·exact l9 rx fx t f.2 u' hu
def inV (x:V) (xs:List V):Bool:=xs.any fun y=>eqV y x
def rIn (K:PySem.W.Frag) (neg:Bool):R2:=fun x y H Q=>∃p xs,y= .ref p∧(SqL K H p xs∨SqT K H p xs)∧kC x=true∧xs.all kC=true∧Q (.bl (if neg then !inV x xs else inV x xs)) H
theorem pK:OpR X (compareOp .NotIn) (rIn X.K true):=by
 intro pins s σ H x y v u Q I rx ry h
 obtain⟨p,xs,rfl,hq,fx,fs,q⟩:=h
 cases ry
 rcases hq with hq | hq
 ·obtain⟨its,r,pl,hz⟩:=I.list hq
  refine SeqAt.notIn_listAt (eqU x) pl.isList (fun w hw=>l9 rx fx r fs w (by simpa using hw)) ⟨.bl _,H,I,rfl,?_⟩
  rw[show its.toArray.any (eqU x)=its.any (eqU x) by simp,qU r fs]
  exact q
 ·obtain⟨its,r,pl,hz⟩:=I.tuple hq
  refine SeqAt.notIn_tupleAt (eqU x) pl (fun w hw=>l9 rx fx r fs w (by simpa using hw)) ⟨.bl _,H,I,rfl,?_⟩
  rw[show its.toArray.any (eqU x)=its.any (eqU x) by simp,qU r fs]
  exact q
theorem qw:CallR X (.builtin "len") (fun xs H Q=>∃p ys,xs=[.ref p]∧(SqL X.K H p ys∨SqT X.K H p ys)∧Q (.int ys.length) H):=by
 intro pins s σ H xs us Q I r h
 obtain⟨p,ys,rfl,hq,q⟩:=h
 obtain⟨u,rfl,rx⟩:=vals1 r
 cases rx
 have hn:=kg
 rcases hq with hq | hq
 ·obtain⟨its,r',pl,hz⟩:=I.list hq
  have hlen:=r'.length
  exact Calls.call_len_list pl.isList (by simp only[List.size_toArray]<;>omega) ⟨.int ys.length,H,I.tok _,⟨s.toks+1,by rw[List.size_toArray,hlen]⟩,q⟩
 ·obtain⟨its,r',pl,hz⟩:=I.tuple hq
  have hlen:=r'.length
  exact len_tuple pl (by simp only[List.size_toArray]<;>omega) ⟨.int ys.length,H,I.tok _,⟨s.toks+1,by rw[List.size_toArray,hlen]⟩,q⟩
theorem qy:CallR X (.builtin "len") (fun xs H Q=>∃z,xs=[.str z]∧z.length≤sizeLine∧Q (.int z.length) H):=by
 intro pins s σ H xs us Q I r h
 obtain⟨z,rfl,hz,q⟩:=h
 obtain⟨u,rfl,t,rfl⟩:=vals1 r
 have hn:=kg
 exact len_str (by omega) ⟨.int z.length,H,I.tok _,⟨_,rfl⟩,q⟩
theorem CallR.or {f:Value}{r r':List V→Hp→VK→Prop}(h:CallR X f r) (h':CallR X f r'):CallR X f (fun xs H Q=>r xs H Q∨r' xs H Q):=by
 intro pins s σ H xs us Q I rs q
 rcases q with q | q
 ·exact h pins s σ H xs us Q I rs q
 ·exact h' pins s σ H xs us Q I rs q
theorem pT:CallR X (.type "list") (fun xs H Q=>∃p ys,xs=[.ref p]∧(SqL X.K H p ys∨SqT X.K H p ys)∧∀l,H l=none→Q (.ref l) (upd H l (.lst ys))):=by
 intro pins s σ H xs us Q I r h
 obtain⟨p,ys,rfl,hq,q⟩:=h
 obtain⟨u,rfl,rx⟩:=vals1 r
 cases rx
 have fin:∀(its:List Value),Vals ys its→ys.length≤sizeLine→∀(h':Heap) (c':Nat),(∀b o',s.heap.get? b=some o'→h'.get? b=some o')→
  h'.get? s.heap.objs.size=some {cls:= .type "list",dict:=none,data:= .seq its.toArray c',slots:= #[]}→EP X pins σ Q (.ref s.heap.objs.size) {s with heap:=h'}:=fun its r' hz h' c' kp e=>
  ⟨.ref s.heap.objs.size,_,I.laid (t':=s.toks) kp (Nat.le_refl _) (show ObjOk X.prog X.w _ h' _ (.lst ys) from⟨hz,its,c',r',e⟩),rfl,q _ (I.hok.fresh (Nat.le_refl _))⟩
 rcases hq with hq | hq
 ·obtain⟨its,r',pl,hz⟩:=I.list hq
  have hlen:=r'.length
  obtain⟨o,ho,hc,n,hd⟩:=pl.isList
  exact call_list_seq p (.inl rfl) ho hc hd (fun h' c' kp e=>fin its r' hz h' c' kp e) (by simp only[List.size_toArray]<;>omega)
 ·obtain⟨its,r',pl,hz⟩:=I.tuple hq
  have hlen:=r'.length
  obtain⟨o,ho,hc,n,hd⟩:=pl
  exact call_list_seq p (.inr rfl) ho hc hd (fun h' c' kp e=>fin its r' hz h' c' kp e) (by simp only[List.size_toArray]<;>omega)
def tyV (K:PySem.W.Frag) (T:String) (x:V) (H:Hp):Prop:=match x with
 | .str _=>T="str"
 | .int _=>T="int"
 | .ref p=>(T="list"∧∃xs,SqL K H p xs)∨(T="tuple"∧∃o,K.lookup p=some o∧o.cls= .type "tuple"∧o.dict=none)∨
    (T="dict"∧((∃kvs,H p=some (.dK kvs))∨∃kvs,H p=some (.dT kvs)))∨(T="set"∧∃S n,H p=some (.set S n))
 |_=>False
theorem CL {pins:List (Addr×Obj)}{σ:St}{H:Hp}{s:Shared}{T:String}{x:V}{v:Value}(I:Inv X pins σ H s) (r:RelV x v) (ty:tyV X.K T x H):
 s.TypeIs v T∧∀a,v= .ref a→∃ob,s.heap.get? a=some ob∧ob.dict=none:=by
 cases x with
 |str z=>
  obtain⟨t,rfl⟩:=r
  cases (show T="str" from ty)
  exact⟨typeIs_str s z t,fun _ e=>nomatch e⟩
 |int i=>
  obtain⟨t,rfl⟩:=r
  cases (show T="int" from ty)
  exact⟨typeIs_int s i t,fun _ e=>nomatch e⟩
 |ref p=>
  cases r
  rcases ty with⟨rfl,xs,hq⟩ | ⟨rfl,o,hk,hc,hd⟩ | ⟨rfl,hk⟩ | ⟨rfl,S,n,hk⟩
  ·obtain⟨its,_,pl,_⟩:=I.list hq
   refine⟨pl.isList.typeIs,fun a e=>?_⟩
   cases e
   obtain⟨o,n,e,c,hd,_⟩:=pl
   exact⟨o,e,hd⟩
  ·refine⟨⟨o,I.kIn p o hk,hc⟩,fun a e=>?_⟩
   cases e
   exact⟨o,I.kIn _ o hk,hd⟩
  ·have z:∃o,s.heap.get? p=some o∧o.ExactDict:=by
    rcases hk with⟨kvs,hk⟩ | ⟨kvs,hk⟩
    ·obtain⟨_,_,_,_,o,_,_,e,ex,_⟩:=I.hok p _ hk
     exact⟨o,e,ex⟩
    ·obtain⟨_,_,_,_,o,_,_,e,ex,_⟩:=I.hok p _ hk
     exact⟨o,e,ex⟩
   obtain⟨o,e,ex⟩:=z
   refine⟨⟨o,e,ex.1⟩,fun a e2=>?_⟩
   cases e2
   exact⟨o,e,ex.2.1⟩
  ·obtain⟨o,_,_,_,e,ex,_⟩:=I.hok p _ hk
   refine⟨⟨o,e,ex.1⟩,fun a e2=>?_⟩
   cases e2
   exact⟨o,e,ex.2.1⟩
 |_=>exact False.elim ty
def tBM (K:PySem.W.Frag) (T:String) (r:V→List V→Hp→VK→Prop) (to:TE) (t:TA):TE:=fun σ H Q=>to σ H fun x H1=>tyV K T x H1∧t σ H1 fun xs H2=>r x xs H2 Q
variable {o e : Expr} {es : List Expr} {to : TE} {t : TA} {name : Str} {apos cpos : Pos} {T id : String} {r : V → List V → Hp → VK → Prop}
theorem zo (pa:PlainAttrs T) (slot:Slot T name id) (hty:typeOf (.builtin id)=pure (.type "method_descriptor")) (hm:MtR X id r) (ho:PE X o to) (ha:PA X (e::es) t)
 (hbase:attributeBase o name X.env (eval o X.env)=eval o X.env:=by rfl)
 (hfew:((backTo cpos (starEach (e::es) X.env)).all (fun x=>!x.1)&&(backToKw cpos (keywordEach [] X.env)).all (fun x=>x.1.isSome)
  &&decide ((e::es).length+([]:List Keyword).length+(if ([]:List Keyword).isEmpty then 0 else 1)<30))=true:=by rfl)
 (hline:(apos.endLine==cpos.line)=true:=by rfl) (hs:starEach (e::es) X.env=(false,eval e X.env)::starEach es X.env:=by rfl) (hplain:(backTo cpos (starEach es X.env)).any (·.1)=false:=by rfl):
 PE X (.Call (.Attribute o name apos) (e::es) [] cpos) (tBM X.K T r to t):=by
 intro pins s σ H Q I h
 refine wpAny_Call_method_late hbase hfew hline rfl (thn (ho pins s σ H _ I h) fun v s1 ⟨x,H1,I1,r1,ty,q1⟩=>?_)
 obtain⟨h1,h2⟩:=CL I1 r1 ty
 refine⟨T,id,pa,slot,hty,h1,h2,?_⟩
 have hA:=ha cpos pins s1 σ H1 _ I1 q1
 rw[hs] at hA⊢
 refine Calls.callWith_builtin (by show (false||(backTo cpos (starEach es X.env)).any (·.1))=false;rw[hplain]<;>rfl) (Calls.evalArgs_plain ?_)
 exact thn hA fun us s2 ⟨vs,H2,I2,r2,q2⟩=>hm pins s2 σ H2 x vs v us Q I2 r1 r2 q2
end
end L2
namespace L2
open PySem PySem.Spec PyProof.Rows
def MtM (X:Cx) (id:String) (r:V→List V→Hp→VK→Prop):Prop:=
 ∀(pins:List (Addr×Obj)) (s:Shared) (σ:St) (H:Hp) (x:V) (xs:List V) (v:Value) (us:List Value) (Q:VK),Inv X pins σ H s→RelV x v→Vals xs us→r x xs H Q→
  wpAny (model X.prog X.w) X.A (call (.builtin id) (v::us)) (EP X pins σ Q) X.xe s
theorem Vals.one:∀{x:V}{us:List Value},Vals [x] us→∃u,us=[u]∧RelV x u
 |_,_, .cons r .nil=>⟨_,rfl,r⟩
theorem Vals.two:∀{x y:V}{us:List Value},Vals [x,y] us→∃u v,us=[u,v]∧RelV x u∧RelV y v
 |_,_,_, .cons r (.cons q .nil)=>⟨_,_,rfl,r,q⟩
theorem Vals.rep {xs:List V}{us:List Value}(h:Vals xs us):∀k:Nat,Vals (List.replicate k xs).flatten (List.replicate k us).flatten
 |0=> .nil
 |k+1=>by
  rw[List.replicate_succ,List.replicate_succ,List.flatten_cons,List.flatten_cons]
  exact Vals.append h (Vals.rep h k)
theorem foldl_rep (its:List Value):∀(k:Nat) (acc:List Value),
 List.foldl (fun x1 x2=>x1++x2) acc.toArray (List.replicate k its.toArray)=(acc++(List.replicate k its).flatten).toArray
 |0,acc=>by simp
 |k+1,acc=>by
  have e:acc.toArray++its.toArray=(acc++its).toArray:=by simp
  have e2:(acc++its)++(List.replicate k its).flatten=acc++(List.replicate (k+1) its).flatten:=by
   rw[List.replicate_succ,List.flatten_cons,List.append_assoc]
  rw[←e2,←foldl_rep its k (acc++its),←e,List.replicate_succ,List.foldl_cons]
section
variable {X : Cx} {pins : List (Addr × Obj)} {σ : St} {H : Hp} {s : Shared} {l b : Addr} {xs ys zs : List V}
theorem Inv.lset {its its':List Value}{n:Nat}{f:Array Value→Array Value}{t':Nat}(I:Inv X pins σ H s) (hH:H l=some (.lst xs))
 (e:s.heap.get? l=some {cls:= .type "list",data:= .seq its.toArray n}) (hf:f its.toArray=its'.toArray) (hv:Vals ys its') (hz:ys.length≤sizeLine):
 Inv X pins σ (upd H l (.lst ys)) {s with heap:=s.heap.update l (Obj.mapSeq f),toks:=t'}:=by
 have q:=PySem.IsL.update e f
 rw[hf] at q
 refine I.write (x:=l) (e:=l) (by rw[hH];exact trivial) (.inl rfl) (fun b' u hb hu=>(Heap.get?_update_other s.heap (Obj.mapSeq f) (Ne.symm hb)).trans hu) ⟨_,q⟩ ?_
 exact⟨hz,its',_,hv,q⟩
theorem Inv.lnew {its:List Value}{t':Nat}(I:Inv X pins σ H s) (hv:Vals ys its) (hz:ys.length≤sizeLine):
 Inv X pins σ (upd H s.heap.objs.size (.lst ys)) {s with heap:=s.heap.push {cls:= .type "list",data:= .seq its.toArray},toks:=t'}:=
 I.laid (fun _ _ q=>Heap.get?_push_of_some _ q) (Nat.le_refl _) ⟨hz,its,0,hv,Heap.get?_push_size _ rfl⟩
theorem Inv.fresh (I:Inv X pins σ H s):H s.heap.objs.size=none:=I.hok.fresh (Nat.le_refl _)
theorem Inv.lstM (I:Inv X pins σ H s) (hH:H l=some (.lst xs)):xs.length≤sizeLine∧∃(its:List Value) (n:Nat),Vals xs its∧xs.length=its.length∧s.heap.get? l=some {cls:= .type "list",data:= .seq its.toArray n}:=by
 obtain⟨z,its,n,r,e⟩:=I.hok l _ hH
 exact⟨z,its,n,r,r.length,e⟩
theorem rn {n:Nat}(h:n≤sizeLine):Builtin.List.listTooLong n=false:=by
 unfold Builtin.List.listTooLong
 exact decide_eq_false (by omega)
end
section
variable {X : Cx}
def vj:V→List V→Hp→VK→Prop:=fun x vs H Q=>∃l xs y,x= .ref l∧vs=[y]∧H l=some (.lst xs)∧xs.length<sizeLine∧Q .non (upd H l (.lst (xs++[y])))
theorem oY:MtM X "list.append" vj:=by
 intro pins s σ H x vs v us Q I rx rv h
 obtain⟨l,xs,y,rfl,rfl,hH,hz,q⟩:=h
 cases rx
 obtain⟨u,rfl,ru⟩:=rv.one
 obtain⟨z,its,n,r,hl,e⟩:=I.lstM hH
 refine call_meets F.slot_list_append ⟨_,e,rfl⟩ F.entry_list_append (F.args_list_append_2 _ _) (PySem.list_append l its.toArray n u (by rw[List.size_toArray];omega)) ⟨e,?_⟩
 refine⟨.non,_,I.lset (its':=its++[u]) hH e (by simp) (r.append (.cons ru .nil)) ?_,rfl,q⟩
 rw[List.length_append,List.length_singleton]
 omega
def uY:V→List V→Hp→VK→Prop:=fun x vs H Q=>∃l b xs zs,x= .ref l∧vs=[.ref b]∧H l=some (.lst xs)∧H b=some (.lst zs)∧xs.length+zs.length≤sizeLine∧Q .non (upd H l (.lst (xs++zs)))
theorem wA:MtM X "list.extend" uY:=by
 intro pins s σ H x vs v us Q I rx rv h
 obtain⟨l,b,xs,zs,rfl,rfl,hH,hB,hz,q⟩:=h
 cases rx
 obtain⟨u,rfl,ru⟩:=rv.one
 cases ru
 obtain⟨z,its,n,r,hl,e⟩:=I.lstM hH
 obtain⟨z2,its2,n2,r2,hl2,e2⟩:=I.lstM hB
 have hsz:its.toArray.size+its2.toArray.size≤sizeLine:=by rw[List.size_toArray,List.size_toArray];omega
 have hlong:¬(!its.toArray.isEmpty&&Builtin.List.listTooLong (its.toArray.size+its2.toArray.size))=true:=by
  rw[rn hsz,Bool.and_false]
  exact Bool.false_ne_true
 refine call_meets F.slot_list_extend ⟨_,e,rfl⟩ F.entry_list_extend (F.args_list_extend_2 _ _)
  (AutoSeq1.list_extend_list_list_0 l its.toArray n b its2.toArray n2 hlong (by rw[List.size_toArray];omega) (by omega)) ⟨e,e2,?_⟩
 refine⟨.non,_,I.lset (its':=its++its2) hH e (by simp) (r.append r2) ?_,rfl,q⟩
 rw[List.length_append]
 omega
def D4:R2:=fun x y H Q=>∃l b xs zs,x= .ref l∧y= .ref b∧H l=some (.lst xs)∧H b=some (.lst zs)∧xs.length+zs.length≤sizeLine∧∀p,H p=none→Q (.ref p) (upd H p (.lst (xs++zs)))
theorem BO:OpR X (binaryOp .Add) D4:=by
 intro pins s σ H x y v u Q I rx ry h
 obtain⟨l,b,xs,zs,rfl,rfl,hH,hB,hz,q⟩:=h
 cases rx
 cases ry
 obtain⟨z,its,n,r,hl,e⟩:=I.lstM hH
 obtain⟨z2,its2,n2,r2,hl2,e2⟩:=I.lstM hB
 refine PySem.P.add_list e e2 ?_ (by rw[List.size_toArray,List.size_toArray];omega)
 have ea:its.toArray++its2.toArray=(its++its2).toArray:=by simp
 rw[ea]
 exact⟨.ref _,_,I.lnew (t':=s.toks) (r.append r2) (by rw[List.length_append];omega),rfl,q _ I.fresh⟩
def Ei:R2:=fun x y H Q=>∃l k xs,x= .ref l∧y= .int k∧H l=some (.lst xs)∧ -(2 ^ 63)≤k∧k<2 ^ 63∧xs.length*k.toNat≤sizeLine∧
 ∀p,H p=none→Q (.ref p) (upd H p (.lst (List.replicate k.toNat xs).flatten))
theorem len_rep {α:Type}(xs:List α) (k:Nat):(List.replicate k xs).flatten.length=k*xs.length:=by
 induction k with
 |zero=>simp
 |succ k ih=>rw[List.replicate_succ,List.flatten_cons,List.length_append,ih,Nat.succ_mul,Nat.add_comm]
theorem B3:OpR X (binaryOp .Mult) Ei:=by
 intro pins s σ H x y v u Q I rx ry h
 obtain⟨l,k,xs,rfl,rfl,hH,h1,h2,hz,q⟩:=h
 cases rx
 obtain⟨t,rfl⟩:=ry
 obtain⟨z,its,n,r,hl,e⟩:=I.lstM hH
 have hlen:its.toArray.size*k.toNat≤sizeLine:=by rw[List.size_toArray,←hl];exact hz
 have hcap:¬its.toArray.size*k.toNat>(2 ^ 63 - 1) / 8:=by
  have:(sizeLine:Nat)≤(2 ^ 63 - 1) / 8:=by decide
  omega
 have hfit:¬(!Builtin.List.listFitsIndex k)=true:=by
  rw[fitsIndex_both h1 h2]
  exact Bool.false_ne_true
 have hlong:¬Builtin.List.listTooLong (its.toArray.size*k.toNat)=true:=by
  rw[rn hlen]
  exact Bool.false_ne_true
 have hnew:List.foldl (fun x1 x2=>x1++x2) #[] (List.replicate (if its.toArray.isEmpty=true then 0 else k.toNat) its.toArray)=(List.replicate k.toNat its).flatten.toArray:=by
  have f0:∀m:Nat,List.foldl (fun x1 x2=>x1++x2) #[] (List.replicate m its.toArray)=(List.replicate m its).flatten.toArray:=fun m=>by
   have:=foldl_rep its m []
   rw[List.nil_append] at this
   exact this
  rw[f0]
  cases its with
  |nil=>simp
  |cons a r'=>rw[if_neg (by simp)]
 refine wpAny_binaryOp_repeat_ref (T:="list") (U:="int") (by decide) ⟨_,e,rfl⟩ (fun s'=>typeIs_int s' k t) noFill_list_mul F.fills_int_mul F.slot_int_rmul repeat_list F.slot_int_index.lookup
  (call_meets F.slot_int_rmul (typeIs_int s k t) F.entry_int_rmul (F.args_int_rmul_2 _ _) (int___rmul___int_list k t l its.toArray n)
   ⟨e,rfl,⟨_,e,rfl⟩,call_meets F.slot_list_mul ⟨_,e,rfl⟩ F.entry_list_mul (F.args_list_mul_2 _ _) (AutoListH.list___mul___list_int_3 l its.toArray n k t hfit hcap hlong) ⟨e,?_⟩⟩)
 rw[hnew]
 exact⟨.ref _,_,I.lnew (t':=s.toks) (r.rep k.toNat) (by rw[len_rep,Nat.mul_comm];exact hz),rfl,q _ I.fresh⟩
end
section
variable {prog : Program} {w : World} {A : Around} {E : Value → Shared → Prop} {s : Shared}
end
section
variable {X : Cx}
end
end L2
namespace Att
open PySem PySem.W PySem.Calls PyProof.Rows
theorem ints_of_wellAll {P:Params}{h:Heap}:∀(ns:List Int) (vs:List Value),WellAll P h vs (ns.map WData.int)→IntsAre vs ns:=by
 intro ns
 induction ns with
 |nil=>
  intro vs w
  rw[List.map_nil] at w
  cases w
  exact .nil
 |cons n ns ih=>
  intro vs w
  rw[List.map_cons] at w
  cases w with
  |cons a b=>
   cases a
   exact .cons _ _ (ih _ b)
theorem script_of {l:OpenLaw}{n:Nat}(hn:l.most=some n) {P:Params}{h:Heap}{args:List WData}{vals:List Value}
 (hpre:l.row.toRowW.claim.pre args=true) (hwl:WellAll P h vals args):
 ∃a vs ns,vals=[Value.ref a]∧args=[WData.list (ns.map WData.int)]∧h.get? a=some {cls:= .type "list",data:= .seq vs.toArray}∧IntsAre vs ns∧ns.length≤n:=by
 have hsh:WShape.hasAll [] args [.list .int]=true:=(pre_splitW hpre).1
 have hc:l.pre.holds [] {args:=args}=true:=(pre_splitW hpre).2
 obtain⟨d,r,rfl,h1,h2⟩:=hasAllW_cons hsh
 obtain rfl:=hasAllW_nil h2
 obtain⟨xs,rfl,h3⟩:=hasW_list h1
 obtain⟨ns,rfl⟩:=items_int h3
 have hlen:ns.length≤n:=by
  unfold OpenLaw.pre at hc
  have h4:(WTm.not (.lt (.lit (.int (n:Int))) (.len (.arg 0)))).holds [] {args:=[.list (ns.map .int)]}=true:=by
   have h4:=(holds_andW hc).1
   rw[hn] at h4
   exact h4
  have h5:=condW_of h4 (w_not (w_lt w_lit (w_len_list (w_arg rfl))))
  rw[List.length_map] at h5
  refine Nat.le_of_not_lt fun q=>?_
  have q':(n:Int)<((ns.length:Nat):Int):=by omega
  first
   |(rw [decide_eq_true q'] at h5;exact absurd h5 (by decide))
   |(simp at h5;omega)
 cases hwl with
 |cons w1 w2=>
  cases w2
  cases w1 with
  |list ho hall=>exact⟨_,_,ns,rfl,rfl,ho,ints_of_wellAll ns _ hall,hlen⟩
theorem post_true (l:OpenLaw) (args:List WData):l.row.toRowW.claim.post args (.bool true) args=true:=
 postW_of (r:=l.row.toRowW) (X:=(true==true))
  (show WShape.has [] (.bool true) .bool=true by first | rfl | decide | simp[WShape.has,WShape.arms,WShape.armsAll])
  (show (WTm.eq .res (.lit (.bool true))).value [] {args:=args,res:=some (.bool true),after:=args}=some (.bool (true==true)) from w_eq_bool (w_res rfl) w_lit) rfl
theorem attach_call {l:OpenLaw}{n:Nat}{q:Program}{loose:List Str}{XP:(Str→Option Value)→Heap→Prop}{YP:World→Heap→Prop}{d:DefRec}
 (hn:l.most=some n) (hdf:d.params.defaults=[])
 (call:∀(w:World) (s₀ s₁:Shared) (mg mb:Str→Option Value) (fa:Addr) (o:Obj) (pm cd doc:Value) (a:Addr) (vs:List Value) (ns:List Int),
  Ground q loose [] XP w s₀ mg mb s₁.heap→YP w s₁.heap→
  s₁.heap.get? fa=some o→o.data= .func (docDef d.name d.params d.body d.scope pm cd doc)→s₁.heap.CodeRec cd d.name→mg d.name=some (.ref fa)→
  s₁.heap.get? a=some {cls:= .type "list",data:= .seq vs.toArray}→IntsAre vs ns→ns.length≤n→s₁.gens= #[]→
  codeAny (model l.prog w) callerA (.call (.ref fa) ⟨[.ref a],[]⟩) (fun r s'=>r= .ok (.ret (.bool true))∧OldK s₁.heap s'.heap∧s'.os=s₁.os∧AllBare s'.gens) s₁):
 WalkO q loose XP YP l.row.toRowW d [] (fun f vs=>PySem.call f vs):=by
 intro w s₀ s₁ mg mb G Y fa o pm cd doc dV kV ho hd hcd hD hmg hg args vals as hpre hlay hrd hwl hlo
 obtain rfl:dV= .none:=Dflts.none hD hdf
 obtain rfl:kV= .none:=Dflts.noKw hD
 obtain⟨a,vs,ns,rfl,rfl,hobj,hints,hlen⟩:=script_of hn hpre hwl
 refine enter_call (codeAny_mono (call w s₀ s₁ mg mb fa o pm cd doc a vs ns G Y ho (fd_plain hd) hcd hmg hobj hints hlen hg) fun r s' hq=>?_)
 obtain⟨rfl,h2,h3,h4⟩:=hq
 exact⟨.inl ⟨.bool true, .bool true,[],rfl,fun _=>rfl, .bool true,post_true l _,fun _=>⟨List.Pairwise.nil,fun _ hm=>(nomatch hm)⟩⟩,h2,h3,h4⟩
section
variable {prog : Program} {w : World} {A : Around} {E : Value → Shared → Prop} {s : Shared} {K : Frag}
def ledger (h:Heap) (L d:Addr):List (Addr×Obj):=(List.range h.objs.size).filterMap fun a=>if a=L∨a=d then none else(h.get? a).map fun o=>(a,o)
end
end Att
namespace L2
open PySem PySem.Spec PyProof.Rows
theorem pe:∀{vs:List Value}{ns:List Int},IntsAre vs ns→Vals (ns.map V.int) vs
 |_,_, .nil=> .nil
 |_,_, .cons n t h=> .cons ⟨t,rfl⟩ (pe h)
def BR (H:Hp):Prop:=∀b,H b=none∨∃o xs,H b=some (.frz o (.lst xs))
theorem sf {P:Program}{w:World}{K:PySem.W.Frag}{mg mb:Str→Option Value}{CX:CXT}{k:Nat}{fa a:Addr}{fd:FuncData}{x:Str}{sp:Sp}{s₁:Shared}{vs:List Value}{ns:List Int}
 (KX:K.In s₁.heap) (hns:s₁.heap.Ns mainGlobals mg) (hb:s₁.heap.Ns builtinsNs mb) (hbb:∀x:Str,x≠"__name__"→mb x=bootBuiltins x) (hlim:s₁.heap.NoLimit) (hg:s₁.gens= #[])
 (ha:s₁.heap.get? a=some {cls:= .type "list",data:= .seq vs.toArray}) (hi:IntsAre vs ns) (hl:ns.length≤sizeLine) (hr:Room k callerA)
 (F:∀base:Heap,K.In base→base.Ns mainGlobals mg→FnOk P w K mg base CX k fa fd [x] sp) (hbind:∀(s:Shared) (u:Value),BindsTo s fd ⟨[u],[]⟩ [(x,u)])
 (hsp:∀H:Hp,BR H→SqL K H a (ns.map V.int)→sp [.ref a] H (fun v _=>v= .bl true) fun _ _ _=>False)
 (hCX:∀H e s',CX [] H s₁ (fun _ _ _=>False) e s'→False):
 codeAny (model P w) callerA (.call (.ref fa) ⟨[.ref a],[]⟩) (fun r s'=>r= .ok (.ret (.bool true))∧OldK s₁.heap s'.heap∧s'.os=s₁.os∧AllBare s'.gens) s₁:=by
 have rv:=pe hi
 have lenV:=hi.length
 have core:∀H:Hp,BR H→SqL K H a (ns.map V.int)→HOk P w H s₁.heap→(∀b,H b≠none→b=a)→(H a≠none→K.lookup a=none)→
  codeAny (model P w) callerA (.call (.ref fa) ⟨[.ref a],[]⟩) (fun r s'=>r= .ok (.ret (.bool true))∧OldK s₁.heap s'.heap∧s'.os=s₁.os∧AllBare s'.gens) s₁:=by
  intro H hO hS hok hA hK
  have base_of:∀{b:Addr}{o:Obj},s₁.heap.get? b=some o→H b=none→(pX s₁.heap H).get? b=some o:=fun e n=>xJ e n
  have noA:∀{b:Addr}{o:Obj}{es:Array DictEntry}{ep:Nat},s₁.heap.get? b=some o→o.data= .dict es ep→H b=none:=fun {b o es ep} e d=>by
   cases q:H b with
   |none=>rfl
   |some u=>
    have e':b=a:=hA b (by rw[q];simp)
    subst e'
    rw[ha] at e;cases e
    have d':Data.seq vs.toArray _=Data.dict es ep:=d
    cases d'
  have nsK:∀{b:Addr}{m:Str→Option Value},s₁.heap.Ns b m→(pX s₁.heap H).Ns b m:=fun {b m} ⟨o,es,ep,e,d,r⟩=>⟨o,es,ep,base_of e (noA e d),d,r⟩
  have hKb:K.In (pX s₁.heap H):=fun b o e=>base_of (KX b o e) (by
   cases q:H b with
   |none=>rfl
   |some u=>
    have e':b=a:=hA b (by rw[q];simp)
    subst e'
    rw[hK (by rw[q];simp)] at e;cases e)
  have hM:Mod K mg (pX s₁.heap H):=⟨hKb,nsK hns,⟨mb,nsK hb,hbb⟩,let ⟨mc,h1,h2⟩:=hlim;⟨mc,nsK h1,h2⟩⟩
  have e0:Env0 P w K mg (pX s₁.heap H) callerA [] s₁ H:=⟨rfl,hM,fun b o e=>zU e,Nat.le_of_eq (v_ _ _),trivial,fun b hb=>absurd (show b∈([]:List Addr) from hb) (by simp),hok, .of_eq hg⟩
  refine codeAny_mono ((F _ hKb (nsK hns)).run callerA [] s₁ H ⟨[.ref a],[]⟩ [.ref a] [.ref a] _ _ hr e0 (hbind s₁ (.ref a)) (.cons rfl .nil) (hsp H hO hS)) fun r s' h=>?_
  cases r with
  |error e=>exact(hCX H e s' h).elim
  |ok fl=>
   cases fl with
   |next=>exact False.elim h
   |brk=>exact False.elim h
   |cont=>exact False.elim h
   |ret u=>
    obtain⟨v,H',os,bare,un,hok',r',q⟩:=h
    have q':v= .bl true:=q
    subst q'
    obtain rfl:u=Value.bool true:=r'
    refine⟨rfl,OldK.of_keep fun b o e=>?_,os,bare⟩
    cases q:H b with
    |none=>exact un.keep b o e q (by intro z;exact absurd (show b∈([]:List Addr) from z) (by simp)) (by simp)
    |some u=>
     rcases hO b with z | ⟨ob,xs,z⟩
     ·rw[q] at z;cases z
     ·have z2:=un.frzs b ob _ z
      obtain⟨e1,_⟩:=hok b _ z
      obtain⟨e2,_⟩:=hok' b _ z2
      rw[e] at e1;cases e1
      exact e2
 cases hk:K.lookup a with
 |some o=>
  have e:=KX a o hk
  rw[ha] at e
  cases e
  refine core (fun _=>none) (fun _=> .inl rfl) (.inr ⟨_,vs.toArray,_,hk,rfl,rfl,rfl,by rw[List.size_toArray,lenV];exact hl,by simpa using rv⟩) (fun b u z=>by have z':(none:Option HO)=some u:=z;cases z') (fun b z=>absurd rfl z) fun z=>absurd rfl z
 |none=>
  refine core (fun b=>if b=a then some (.frz {cls:= .type "list",data:= .seq vs.toArray} (.lst (ns.map V.int))) else none) (fun b=>?_) (.inl (.inr ⟨{cls:= .type "list",data:= .seq vs.toArray},if_pos rfl⟩)) (fun b u z=>?_) (fun b z=>?_) fun _=>hk
  ·by_cases hb:b=a
   ·exact .inr ⟨_,_,if_pos hb⟩
   ·exact .inl (if_neg hb)
  ·by_cases hb:b=a
   ·have z':=(if_pos hb).symm.trans z
    cases z'
    subst hb
    exact⟨ha,by rw[List.length_map];exact hl,vs,_,rv,ha⟩
   ·have z':=(if_neg hb).symm.trans z
    cases z'
  ·by_cases hb:b=a
   ·exact hb
   ·exact absurd (if_neg hb) z
end L2
namespace L2
open PySem PySem.Spec PyProof.Rows
abbrev KOf {K:PySem.W.Frag}{h:Heap}(_:K.In h):PySem.W.Frag:=K
theorem DY {l:PySem.W.OpenLaw}{n k:Nat}{q:Program}{loose:List Str}{XP:(Str→Option Value)→Heap→Prop}{YP:World→Heap→Prop}{d:DefRec}{K:Params→PySem.W.Frag}{CX:World→CXT}{sp:World→Sp}{x:Str}
 (hn:l.most=some n) (hn2:n≤sizeLine) (hdf:d.params.defaults=[]) (hr:Room k callerA)
 (hY:∀(w:World) (h:Heap),YP w h→(K w.params).In h)
 (F:∀(w:World) (mg:Str→Option Value) (fa:Addr) (h:Heap),(K w.params).In h→h.Ns mainGlobals mg→mg d.name=some (.ref fa)→
  ∃fd:FuncData,(∀(s:Shared) (u:Value),BindsTo s fd ⟨[u],[]⟩ [(x,u)])∧
   ∀base:Heap,(K w.params).In base→base.Ns mainGlobals mg→FnOk l.prog w (K w.params) mg base (CX w) k fa fd [x] (sp w))
 (hsp:∀(w:World) (H:Hp) (a:Addr) (ns:List Int),ns.length≤n→BR H→SqL (K w.params) H a (ns.map V.int)→sp w [.ref a] H (fun v _=>v= .bl true) fun _ _ _=>False)
 (hCX:∀(w:World) (H:Hp) (s:Shared) (e:Value) (s':Shared),CX w [] H s (fun _ _ _=>False) e s'→False):
 PySem.W.WalkO q loose XP YP l.row.toRowW d [] (fun f vs=>PySem.call f vs):=by
 refine Att.attach_call hn hdf fun w s₀ s₁ mg mb fa o pm cd doc a vs ns G Y ho hd hcd hmg hobj hints hlen hg=>?_
 have KX:=hY w _ Y
 obtain⟨fd,hb,hF⟩:=F w mg fa _ KX G.T.g hmg
 exact sf KX G.T.g G.T.b G.T.builtins G.T.nolimit hg hobj hints (Nat.le_trans hlen hn2) hr hF hb (fun H hO hS=>hsp w H a ns hlen hO hS) fun H e s'=>hCX w H s₁ e s'
end L2
namespace L2
open PySem PySem.Spec PyProof.Rows
abbrev CX0:CXT:=fun _ _ _ _ _ _=>False
abbrev E0:XK:=fun _ _ _=>False
structure Fun (K:PySem.W.Frag) (x qual:Str) (st:Stmt) (f:Addr) (fd:FuncData):Prop where
 ex:∃(oc:Value) (od:Option Addr) (kV doc pm:Value) (an:Option Addr) (cdv ct:Value) (osl:Array (Option Value)),
  fd=PySem.W.fnOf x qual (aH st) (az st) (ag st) .none kV doc pm an cdv ct∧K.lookup f=some ⟨oc,od, .func fd,osl⟩∧PySem.W.codeIn K cdv qual=true
 kp:PySem.W.keepIn K (.ref f)=true
section
variable {P : Program} {w : World} {K : PySem.W.Frag} {mg : Str → Option Value} {base : Heap}
theorem Fun.ok {x qual:Str}{st:Stmt}{f:Addr}{fd:FuncData}{N ps:List Str}{k:Nat}{sp:Sp}(F:Fun K x qual st f fd) (S:FnScope N ps (ag st)) (len:∀vs H Q E,sp vs H Q E→vs.length=ps.length)
 (hbody:∀(cdv:Value) (A:Around) (outer:List Env) (s:Shared) (H:Hp) (vs:List V) (Q:VK) (E:XK),Room k (A.deeper (envOfC qual (ag st) s.heap.objs.size f cdv))→sp vs H Q E→
  ∃t,PSs (aZ CX0 P w K mg base N qual (ag st) f cdv A outer s H E).nox (az st) t∧t {nx:=fun _ H'=>Q .non H',rt:=Q} (start N vs) H):FnOk P w K mg base CX0 (k+1) f fd ps sp:=by
 obtain⟨oc,od,kV,doc,pm,an,cdv,ct,osl,rfl,lk,hcd⟩:=F.ex
 refine A4 lk hcd S len fun A outer s H vs Q E hr hsp=>?_
 obtain⟨t,h,q⟩:=hbody cdv A outer s H vs Q E hr hsp
 exact⟨t,h.nox,q⟩
theorem Fun.binds {x qual:Str}{st:Stmt}{f:Addr}{fd:FuncData}{ps:List Str}(F:Fun K x qual st f fd)
 (h:∀(kV doc pm:Value) (an:Option Addr) (cdv ct:Value) (us:List Value),us.length=ps.length→bindArgs (PySem.W.fnOf x qual (aH st) (az st) (ag st) .none kV doc pm an cdv ct) ⟨us,[]⟩=pure (ps.zip us)):Binds K fd ps []:=by
 obtain⟨oc,od,kV,doc,pm,an,cdv,ct,osl,rfl,lk,hcd⟩:=F.ex
 exact .all (h kV doc pm an cdv ct)
theorem bc {x qual:Str}{st:Stmt}{f:Addr}{oc:Value}{od an:Option Addr}{osl:Array (Option Value)}{kV doc pm cdv ct:Value}(l:K.lookup f=some ⟨oc,od, .func (PySem.W.fnOf x qual (aH st) (az st) (ag st) .none kV doc pm an cdv ct),osl⟩)
 (c:PySem.W.codeIn K cdv qual=true) (k:PySem.W.keepIn K (.ref f)=true):Fun K x qual st f (PySem.W.fnOf x qual (aH st) (az st) (ag st) .none kV doc pm an cdv ct):=⟨⟨oc,od,kV,doc,pm,an,cdv,ct,osl,rfl,l,c⟩,k⟩
end
section
variable {X : Cx}
theorem pv (i:Nat) {x:Str}{pos:Pos}(hN:X.N[i]? =some x:=by rfl) (hv:Vis X.env.scope x:=by first | exact Or.inl rfl | exact Or.inr (Or.inl rfl) | exact Or.inr (Or.inr rfl)) (hd:(x==("__debug__":Str))=false:=by decide)
 (hcd:(x==("__classdict__":Str))=false:=by decide):PE X (.Name x pos) (m9 i):=Bj hN hv hd hcd
end
def Same (H H':Hp):Prop:=∀b o,H b=some o→H' b=some o
theorem Same.refl (H:Hp):Same H H:=fun _ _ h=>h
theorem Same.trans {H H1 H2:Hp}(a:Same H H1) (b:Same H1 H2):Same H H2:=fun c o h=>b c o (a c o h)
theorem Same.free {H H':Hp}(e:Same H H') {l:Addr}(h:H' l=Option.none):H l=Option.none:=by
 cases q:H l with
 |none=>rfl
 |some o=>
  rw[e l o q] at h
  cases h
theorem Same.seq {K:PySem.W.Frag}{H H':Hp}{a:Addr}{xs:List V}(e:Same H H') (h:SqL K H a xs):SqL K H' a xs:=by
 rcases h with(h | ⟨o,h⟩) | h
 ·exact .inl (.inl (e _ _ h))
 ·exact .inl (.inr ⟨o,e _ _ h⟩)
 ·exact .inr h
end L2
namespace L2
open PySem PySem.Spec PyProof.Rows
section
variable {κ : Type} [DecidableEq κ]
def jl (kvs:List (κ×V)) (k:κ):Option V:=(kvs.find? fun kv=>decide (kv.1=k)).map (·.2)
def putK (kvs:List (κ×V)) (k:κ) (v:V):List (κ×V):=
 if (kvs.any fun kv=>decide (kv.1=k))=true then kvs.map (fun kv=>if kv.1=k then(kv.1,v) else kv) else kvs++[(k,v)]
def Bh (kvs:List (κ×V)) (k:κ):List (κ×V):=kvs.filter fun kv=>decide (kv.1≠k)
theorem ji {p:κ×V}{r:List (κ×V)}{k:κ}(e:p.1=k):jl (p::r) k=some p.2:=by simp[jl,List.find?_cons,e]
theorem jB {p:κ×V}{r:List (κ×V)}{k:κ}(e:¬p.1=k):jl (p::r) k=jl r k:=by simp[jl,List.find?_cons,e]
theorem mS (k:κ):∀kvs:List (κ×V),(kvs.any fun kv=>decide (kv.1=k))=(jl kvs k).isSome
 |[]=>rfl
 |p::r=>by
  rw[List.any_cons]
  by_cases e:p.1=k
  ·simp only[ji e,decide_eq_true e,Bool.true_or,Option.isSome_some]
  ·rw[jB e,decide_eq_false e,Bool.false_or];exact mS k r
theorem eW (kvs:List (κ×V)) (k:κ) (v:V):(putK kvs k v).length≤kvs.length+1:=by
 unfold putK
 split
 ·rw[List.length_map];omega
 ·rw[List.length_append,List.length_cons,List.length_nil];omega
theorem RelO.isSome_eq {o:Option V}{u:Option Value}(r:RelO o u):o.isSome=u.isSome:=by
 cases o with
 |none=>cases u with
  |none=>rfl
  |some _=>exact(show False from r).elim
 |some _=>cases u with
  |none=>exact(show False from r).elim
  |some _=>rfl
theorem RelO.getD {o:Option V}{u:Option Value}{d:V}{d':Value}(r:RelO o u) (rd:RelV d d'):RelV (o.getD d) (u.getD d'):=by
 cases o with
 |none=>cases u with
  |none=>exact rd
  |some _=>exact(show False from r).elim
 |some _=>cases u with
  |none=>exact(show False from r).elim
  |some _=>exact r
theorem KV.val {kvs:List (κ×V)}{vs:List (κ×Value)}(r:KV kvs vs) (k:κ):RelO (jl kvs k) (valueAt vs k):=by
 unfold KV at r
 induction r with
 |nil=>exact True.intro
 | @cons p q ps qs h t ih=>
   obtain⟨h1,h2⟩:=h
   by_cases e:p.1=k
   ·have e':q.1=k:=h1.symm.trans e
    have b:valueAt (q::qs) k=some q.2:=by simp[valueAt,List.find?_cons,e']
    rw[ji e,b];exact h2
   ·have e':¬q.1=k:=fun z=>e (h1.trans z)
    have b:valueAt (q::qs) k=valueAt qs k:=by simp[valueAt,List.find?_cons,e']
    rw[jB e,b];exact ih
theorem KV.any {kvs:List (κ×V)}{vs:List (κ×Value)}(r:KV kvs vs) (k:κ):(kvs.any fun kv=>decide (kv.1=k))=vs.any fun kv=>decide (kv.1=k):=by
 unfold KV at r
 induction r with
 |nil=>rfl
 |cons h t ih=>rw[List.any_cons,List.any_cons,ih,h.1]
theorem KV.repl {kvs:List (κ×V)}{vs:List (κ×Value)}(r:KV kvs vs) (k:κ) {y:V}{u:Value}(ry:RelV y u):
 KV (kvs.map fun kv=>if kv.1=k then(kv.1,y) else kv) (vs.map fun kv=>if kv.1=k then(kv.1,u) else kv):=by
 unfold KV at r⊢
 induction r with
 |nil=>exact .nil
 | @cons p q ps qs h t ih=>
   rw[List.map_cons,List.map_cons]
   refine .cons ?_ ih
   obtain⟨h1,h2⟩:=h
   by_cases e:p.1=k
   ·rw[if_pos e,if_pos (h1.symm.trans e)];exact⟨h1,ry⟩
   ·rw[if_neg e,if_neg (fun z=>e (h1.trans z))];exact⟨h1,h2⟩
theorem KV.put {kvs:List (κ×V)}{vs:List (κ×Value)}(r:KV kvs vs) (k:κ) {y:V}{u:Value}(ry:RelV y u):KV (putK kvs k y) (stored vs k u):=by
 unfold putK stored
 rw[r.any k]
 by_cases e:(vs.any fun kv=>decide (kv.1=k))=true
 ·rw[if_pos e,if_pos e];exact r.repl k ry
 ·rw[if_neg e,if_neg e];exact Paired.snoc r ⟨rfl,ry⟩
theorem KV.drop {kvs:List (κ×V)}{vs:List (κ×Value)}(r:KV kvs vs) (k:κ):KV (Bh kvs k) (without vs k):=by
 unfold KV at r⊢
 unfold Bh without
 induction r with
 |nil=>exact .nil
 | @cons p q ps qs h t ih=>
   obtain⟨h1,h2⟩:=h
   rw[List.filter_cons,List.filter_cons]
   by_cases e:p.1=k
   ·have a:¬decide (p.1≠k)=true:=by simp[e]
    have b:¬decide (q.1≠k)=true:=by simp[h1.symm.trans e]
    rw[if_neg a,if_neg b];exact ih
   ·have e':¬q.1=k:=fun z=>e (h1.trans z)
    have a:decide (p.1≠k)=true:=by simp[e]
    have b:decide (q.1≠k)=true:=by simp[e']
    rw[if_pos a,if_pos b];exact .cons ⟨h1,h2⟩ ih
theorem KV.length {kvs:List (κ×V)}{vs:List (κ×Value)}(r:KV kvs vs):kvs.length=vs.length:=Paired.length r
end
theorem kW {P:Program}{w:World}{k:Key}{u:Value}(r:RelV (kV k) u):(aP P w).is k u=true:=by
 cases k with
 |inl i=>obtain⟨t,e⟩:=(show∃t,u=Value.int i t from r);subst e;exact sX P w i t
 |inr x=>obtain⟨t,e⟩:=(show∃t,u=Value.str x t from r);subst e;exact tL P w x t
theorem Cz {a b:Key}(e:kV a=kV b):a=b:=by
 cases a with
 |inl i=>cases b with
  |inl j=>have e':V.int i=V.int j:=e;injection e' with e';rw[e']
  |inr y=>exact nomatch (show V.int i=V.str y from e)
 |inr x=>cases b with
  |inl j=>exact nomatch (show V.str x=V.int j from e)
  |inr y=>have e':V.str x=V.str y:=e;injection e' with e';rw[e']
theorem vh:∀{a b:List Key},a.map kV=b.map kV→a=b
 |[],[],_=>rfl
 |[],_::_,e=>by simp at e
 |_::_,[],e=>by simp at e
 |x::xs,y::ys,e=>by
  rw[List.map_cons,List.map_cons] at e
  injection e with e1 e2
  rw[Cz e1,vh e2]
theorem pd {P:Program}{w:World}:∀{ks:List Key}{us:List Value},Vals (ks.map kV) us→ItemsAre (aP P w) ks us
 |[],_,r=>by rw[List.map_nil] at r;cases r;exact .nil
 |k::ks,_,r=>by
  rw[List.map_cons] at r
  cases r with
  |cons h t=>exact .cons (kW h) (pd t)
abbrev KT (H:Hp):List (List Key×V)→List (List Key×Addr×Value)→Prop:=Paired fun p q=>p.1=q.1∧H q.2.1=some (.tup (p.1.map kV))∧RelV p.2 q.2.2
theorem KT.val {H:Hp}{kvs:List (List Key×V)}{xs:List (List Key×Addr×Value)}(r:KT H kvs xs) (k:List Key):RelO (jl kvs k) ((atKey xs k).map (·.2)):=by
 induction r with
 |nil=>exact True.intro
 | @cons p q ps qs h t ih=>
   obtain⟨h1,_,h2⟩:=h
   by_cases e:p.1=k
   ·have e':q.1=k:=h1.symm.trans e
    have b:atKey (q::qs) k=some q.2:=by simp[atKey,List.find?_cons,e']
    rw[ji e,b];exact h2
   ·have e':¬q.1=k:=fun z=>e (h1.trans z)
    have b:atKey (q::qs) k=atKey qs k:=by simp[atKey,List.find?_cons,e']
    rw[jB e,b];exact ih
theorem KT.repl {H:Hp}{kvs:List (List Key×V)}{xs:List (List Key×Addr×Value)}(r:KT H kvs xs) (k:List Key) {y:V}{u:Value}(ry:RelV y u):
 KT H (kvs.map fun kv=>if kv.1=k then(kv.1,y) else kv) (xs.map (putAt k u)):=by
 induction r with
 |nil=>exact .nil
 | @cons p q ps qs h t ih=>
   rw[List.map_cons,List.map_cons]
   refine .cons ?_ ih
   obtain⟨h1,h2,h3⟩:=h
   unfold putAt
   by_cases e:p.1=k
   ·rw[if_pos e,if_pos (h1.symm.trans e)];exact⟨h1,h2,ry⟩
   ·rw[if_neg e,if_neg (fun z=>e (h1.trans z))];exact⟨h1,h2,h3⟩
theorem KT.put {H:Hp}{kvs:List (List Key×V)}{xs:List (List Key×Addr×Value)}(r:KT H kvs xs) (k:List Key) {b:Addr}{y:V}{u:Value}(hb:H b=some (.tup (k.map kV))) (ry:RelV y u):
 KT H (putK kvs k y) (storedH xs k b u):=by
 have e:(kvs.any fun kv=>decide (kv.1=k))=(atKey xs k).isSome:=by
  rw[mS,(r.val k).isSome_eq,Option.isSome_map]
 unfold putK storedH
 rw[e]
 by_cases q:(atKey xs k).isSome=true
 ·rw[if_pos q,if_pos q];exact r.repl k ry
 ·rw[if_neg q,if_neg q];exact Paired.snoc r ⟨rfl,hb,ry⟩
theorem KT.keeps {H H':Hp}{kvs:List (List Key×V)}{xs:List (List Key×Addr×Value)}(r:KT H kvs xs) (ht:∀b ys,H b=some (.tup ys)→H' b=some (.tup ys)):KT H' kvs xs:=
 Paired.mapP r fun _ _ z=>⟨z.1,ht _ _ z.2.1,z.2.2⟩
section
variable {P : Program} {w : World} {H : Hp} {h : Heap} {a : Addr}
theorem A6 {u:HO}(ok:HOk P w H h) (e:Rd H a u):ObjOk P w H h a u:=e.ok ok
theorem ku {kvs:List (Key×V)}(ok:HOk P w H h) (e:Rd H a (.dK kvs)):kvs.length≤sizeLine∧(a==sysModules)=false∧∃vs,KV kvs vs∧h.DictOf (aP P w) a vs:=
 show ObjOk P w H h a (.dK kvs) from A6 ok e
theorem Ba {kvs:List (Key×V)}(ok:HOk P w H h) (e:H a=some (.dK kvs)):kvs.length≤sizeLine∧(a==sysModules)=false∧∃vs,KV kvs vs∧h.DictOf (aP P w) a vs:=ku ok (.inl e)
theorem gx {ks:List Key}(ok:HOk P w H h) (e:H a=some (.tup (ks.map kV))):(tupleKind (aP P w)).is h ks a:=by
 obtain⟨_,its,r,o,h1,h2,n,h3⟩:=(show ObjOk P w H h a (.tup (ks.map kV)) from ok a _ e)
 exact⟨o,its.toArray,n,h1,h2,h3,by simpa using pd r⟩
theorem jS {kvs:List (List Key×V)}(ok:HOk P w H h) (e:Rd H a (.dT kvs)):kvs.length≤sizeLine∧(a==sysModules)=false∧
 ∃xs,KT H kvs xs∧h.DictOfH (tupleKind (aP P w)) a xs:=by
 obtain⟨z,y,xs,r,o,es,ep,h1,h2,h3,h4,h5⟩:=(show ObjOk P w H h a (.dT kvs) from A6 ok e)
 refine⟨z,y,xs,r,o,es,ep,h1,h2,h3,h4,fun x hx=>?_,h5⟩
 have all:∀{l:List (List Key×V)}{m:List (List Key×Addr×Value)},KT H l m→∀x∈m,(tupleKind (aP P w)).is h x.1 x.2.1:=by
  intro l m q
  induction q with
  |nil=>intro x hx;exact nomatch hx
  | @cons p q ps qs hq t ih=>
    intro x hx
    rcases List.mem_cons.mp hx with e | hx
    ·subst e
     exact gx ok (by rw[←hq.1];exact hq.2.1)
    ·exact ih x hx
 exact all r x hx
theorem xk {kvs:List (List Key×V)}(ok:HOk P w H h) (e:H a=some (.dT kvs)):kvs.length≤sizeLine∧(a==sysModules)=false∧
 ∃xs,KT H kvs xs∧h.DictOfH (tupleKind (aP P w)) a xs:=jS ok (.inl e)
end
def iY (H:Hp) (a:Addr) (y:V) (r:Option V):Prop:=
 (∃kvs k,Rd H a (.dK kvs)∧y=kV k∧r=jl kvs k)∨∃kvs k b,Rd H a (.dT kvs)∧y= .ref b∧H b=some (.tup (k.map kV))∧r=jl kvs k
def DPut (H:Hp) (a:Addr) (y v:V) (H':Hp):Prop:=
 (∃kvs k,H a=some (.dK kvs)∧y=kV k∧kvs.length<sizeLine∧H'=upd H a (.dK (putK kvs k v)))∨
 ∃kvs k b,H a=some (.dT kvs)∧y= .ref b∧H b=some (.tup (k.map kV))∧kvs.length<sizeLine∧H'=upd H a (.dT (putK kvs k v))
theorem DPut.k {H:Hp}{a:Addr}{kvs:List (Key×V)}{k:Key}{v:V}(e:H a=some (.dK kvs)) (hl:kvs.length<sizeLine):DPut H a (kV k) v (upd H a (.dK (putK kvs k v))):= .inl ⟨kvs,k,e,rfl,hl,rfl⟩
theorem DPut.t {H:Hp}{a b:Addr}{kvs:List (List Key×V)}{k:List Key}{v:V}(e:H a=some (.dT kvs)) (eb:H b=some (.tup (k.map kV))) (hl:kvs.length<sizeLine):
 DPut H a (.ref b) v (upd H a (.dT (putK kvs k v))):= .inr ⟨kvs,k,b,e,rfl,eb,hl,rfl⟩
section
variable {X : Cx} {pins : List (Addr × Obj)} {σ : St} {H : Hp} {s : Shared} {a : Addr} {y v : V} {u r : Value} {o : Option V} {A : Around} {E : Value → Shared → Prop}
theorem Inv.big (I:Inv X pins σ H s):sysModules<s.heap.objs.size:=by
 have h:mainGlobals<s.heap.objs.size:=(I.mod.glob.keeps I.bk).lt
 exact Nat.lt_trans (by decide) h
theorem wD {Q:Value→Shared→Prop}(hu:A.units+1<cLine) (I:Inv X pins σ H s) (g:iY H a y (some v)) (ry:RelV y u) (h:∀w' s',Inv X pins σ H s'→RelV v w'→Q w' s'):
 wpAny (model X.prog X.w) A (getItem (.ref a) u) Q E s:=by
 rcases g with⟨kvs,k,e,ey,l⟩ | ⟨kvs,k,b,e,ey,eb,l⟩
 ·subst ey
  obtain⟨z,hd,vs,rel,dd⟩:=ku I.hok e
  obtain⟨w',hw,rw'⟩:=RelO.some_of (v:=v) (o:=valueAt vs k) (by rw[l];exact rel.val k)
  exact wpAny_getItem_of (kW ry) dd.mapOf hw (h w' _ (I.tok _) rw')
 ·subst ey
  cases (show u=Value.ref b from ry)
  obtain⟨z,hd,xs,rel,dd⟩:=jS I.hok e
  obtain⟨w',hw,rw'⟩:=RelO.some_of (v:=v) (o:=(atKey xs k).map (·.2)) (by rw[l];exact rel.val k)
  obtain⟨p,hp,hp2⟩:=Option.map_eq_some_iff.mp hw
  refine wpAny_getItem_heap (tupleKind_room_in1 hu) (gx I.hok eb) dd hp ?_
  rw[hp2]
  exact h w' _ (I.tok _) rw'
theorem D6 {Q:Value→Shared→Prop}(hu:A.units+1<cLine) (I:Inv X pins σ H s) (g:iY H a y o) (ry:RelV y u) (h:∀s',Inv X pins σ H s'→Q (.bool o.isSome) s'):
 wpAny (model X.prog X.w) A (compareOp .In u (.ref a)) Q E s:=by
 rcases g with⟨kvs,k,e,ey,l⟩ | ⟨kvs,k,b,e,ey,eb,l⟩
 ·subst ey
  obtain⟨z,hd,vs,rel,dd⟩:=ku I.hok e
  refine wpAny_in_of (kW ry) hd dd.mapOf ?_
  rw[←(rel.val k).isSome_eq,←l]
  exact h _ (I.tok _)
 ·subst ey
  cases (show u=Value.ref b from ry)
  obtain⟨z,hd,xs,rel,dd⟩:=jS I.hok e
  refine wpAny_in_heap (tupleKind_room_in1 hu) (gx I.hok eb) hd dd ?_
  have q:=(rel.val k).isSome_eq
  rw[Option.isSome_map] at q
  rw[←q,←l]
  exact h _ (I.tok _)
theorem An {Q:Value→Shared→Prop}(hu:A.units+1<cLine) (I:Inv X pins σ H s) (g:iY H a y o) (ry:RelV y u) (h:∀s',Inv X pins σ H s'→Q (.bool (!o.isSome)) s'):
 wpAny (model X.prog X.w) A (compareOp .NotIn u (.ref a)) Q E s:=by
 rcases g with⟨kvs,k,e,ey,l⟩ | ⟨kvs,k,b,e,ey,eb,l⟩
 ·subst ey
  obtain⟨z,hd,vs,rel,dd⟩:=ku I.hok e
  refine wpAny_notIn_of (kW ry) hd dd.mapOf ?_
  rw[←(rel.val k).isSome_eq,←l]
  exact h _ (I.tok _)
 ·subst ey
  cases (show u=Value.ref b from ry)
  obtain⟨z,hd,xs,rel,dd⟩:=jS I.hok e
  refine wpAny_notIn_heap (tupleKind_room_in1 hu) (gx I.hok eb) hd dd ?_
  have q:=(rel.val k).isSome_eq
  rw[Option.isSome_map] at q
  rw[←q,←l]
  exact h _ (I.tok _)
theorem jA {h':Heap}{t':Nat}{ob:HO}(I:Inv X pins σ H s) (mu:Mut (H a)) (hs:Heap.SameBut a s.heap h') (he:∃q,h'.get? a=some q) (new:ObjOk X.prog X.w (upd H a ob) h' a ob):
 Inv X pins σ (upd H a ob) {s with heap:=h',toks:=t'}:=
 I.write (x:=a) (e:=a) mu (.inl rfl) (fun b q hb z=>(hs.2 b hb).trans z) he new
theorem zc {P:Program}{w:World}{H':Hp}{h':Heap}{kvs:List (Key×V)}{vs:List (Key×Value)}(z:kvs.length≤sizeLine) (hd:(a==sysModules)=false) (rel:KV kvs vs) (dd:h'.DictOf (aP P w) a vs):
 ObjOk P w H' h' a (.dK kvs):=⟨z,hd,vs,rel,dd⟩
theorem wR {H':Hp}{Q:Unit→Shared→Prop}(hu:A.units+1<cLine) (I:Inv X pins σ H s) (g:DPut H a y v H') (ry:RelV y u) (rv:RelV v r) (h:∀s',Inv X pins σ H' s'→Q () s'):
 wpAny (model X.prog X.w) A (setItem (.ref a) u r) Q E s:=by
 rcases g with⟨kvs,k,e,ey,l,eH⟩ | ⟨kvs,k,b,e,ey,eb,l,eH⟩
 ·subst ey eH
  obtain⟨z,hd,vs,rel,dd⟩:=Ba I.hok e
  have hz:vs.length≤sizeLine:=by rw[←rel.length];exact z
  have hl:(putK kvs k v).length≤sizeLine:=by have:=eW kvs k v;omega
  refine wpAny_setItem_pairs (hsz:=hz) (kW ry) dd fun h' dd' hs=>h _ ?_
  have he:∃q,h'.get? a=some q:=let ⟨q,_,_,hq,_⟩:=dd';⟨q,hq⟩
  exact jA I (by rw[e];exact True.intro) hs he (zc hl hd (rel.put k rv) dd')
 ·subst ey eH
  cases (show u=Value.ref b from ry)
  obtain⟨z,hd,xs,rel,dd⟩:=xk I.hok e
  have hz:xs.length≤sizeLine:=by rw[←Paired.length rel];exact z
  have hl:(putK kvs k v).length≤sizeLine:=by have:=eW kvs k v;omega
  refine wpAny_setItem_heap (hsz:=hz) (tupleKind_room_in1 hu) (gx I.hok eb) dd fun h' dd' hs=>h _ ?_
  obtain⟨q,es,ep,hq,h2,h3,h4,_,h5⟩:=dd'
  refine jA I (by rw[e];exact True.intro) hs ⟨q,hq⟩ ⟨hl,hd,_,(rel.put k eb rv).keeps fun c ys ec=>?_,q,es,ep,hq,h2,h3,h4,h5⟩
  rw[av (yn ec e (fun z=>nomatch z))]
  exact ec
end
section
variable {X : Cx} {pins : List (Addr × Obj)} {σ : St} {H : Hp} {s : Shared} {a : Addr} {kvs : List (Key × V)} {k : Key} {u : Value} {A : Around} {E : Value → Shared → Prop}
end
def BU (i:Expr):Prop:=∀ov iv,subscripted i false ov iv=operate [ov,iv] (getItem ov iv)
theorem zD {prog:Program}{w:World}{A:Around}{E:Value→Shared→Prop}{s:Shared}{env:Env}{value slice:Expr}{pos:Pos}{T id:String}{Q:Value→Shared→Prop}
 (hl:typeLookup (.type T) "__getitem__"=pure (some (.builtin id))) (hs:BU slice)
 (h:wpAny (model prog w) A (eval value env) (fun o s₁=>wpAny (model prog w) A (eval slice env) (fun i s₂=>s₂.TypeIs o T∧wpAny (model prog w) A (getItem o i) Q E s₂) E s₁) E s):
 wpAny (model prog w) A (eval (.Subscript value slice pos) env) Q E s:=by
 refine Subscript_ (wpAny_mono h (fun o s₁ h₁=>wpAny_mono h₁ (fun i s₂ h₂=>?_) fun _ _ x=>x) fun _ _ x=>x)
 obtain⟨hT,h₂⟩:=h₂
 unfold subscriptTail
 refine wpAny_bind ?_
 rw[getitemInPython_of_ne hT.not_modules]
 refine wpAny_bind (wpAny_specialOf hT hl ?_)
 have fin:wpAny (model prog w) A (subscripted slice false o i) (fun r s₃=>wpAny (model prog w) A (letTemporaryGo value o r>>=fun _=>pure r) Q E s₃) E s₂:=by
  rw[hs o i]
  exact wpAny_operating (wpAny_mono h₂ (fun r s₃ h₃=>wpAny_bind (wpAny_letTemporaryGo (wpAny_pure h₃))) fun _ _ x=>x)
 first
  |exact wpAny_pure (wpAny_bind fin)
  |exact wpAny_bind (wpAny_pure (wpAny_bind fin))
  |exact wpAny_bind fin
theorem rK {X:Cx}{pins:List (Addr×Obj)}{σ:St}{H:Hp}{s:Shared}{a:Addr}{y:V}{o:Option V}(I:Inv X pins σ H s) (g:iY H a y o):s.TypeIs (.ref a) "dict":=by
 rcases g with⟨kvs,k,e,_,_⟩ | ⟨kvs,k,b,e,_,_,_⟩
 ·obtain⟨_,_,vs,_,dd⟩:=ku I.hok e
  exact dd.typeIs
 ·obtain⟨_,_,xs,_,dd⟩:=jS I.hok e
  exact dd.typeIs
def Ds (td ty:TE):TE:=fun σ H Q=>td σ H fun x H1=>ty σ H1 fun y H2=>∃a v,x= .ref a∧iY H2 a y (some v)∧Q v H2
def El (ty td:TE):TE:=fun σ H Q=>ty σ H fun y H1=>td σ H1 fun x H2=>∃a o,x= .ref a∧iY H2 a y o∧Q (.bl o.isSome) H2
def Dd (td ty tv:TE):TS:=fun D σ H=>tv σ H fun v H1=>td σ H1 fun x H2=>ty σ H2 fun y H3=>∃a H4,x= .ref a∧DPut H3 a y v H4∧D.nx σ H4
section
variable {X : Cx} {o i e value : Expr} {pos pos' tpos : Pos} {td ty tv : TE}
theorem z_ (hu:X.A.units+1<cLine) (ho:PE X o td) (hi:PE X i ty) (hs:BU i):PE X (.Subscript o i pos) (Ds td ty):=by
 intro pins s σ H Q I h
 refine zD PySem.F.slot_dict_getitem.lookup hs (thn (ho pins s σ H _ I h) fun u s1 ⟨x,H1,I1,rx,q1⟩=>thn (hi pins s1 σ H1 _ I1 q1) fun iv s2 ⟨y,H2,I2,ry,a,v,ex,g,q2⟩=>?_)
 subst ex
 obtain rfl:u=Value.ref a:=rx
 exact⟨rK I2 g,wD hu I2 g ry fun w' s3 I3 rw'=>⟨v,H2,I3,rw',q2⟩⟩
theorem Ck (hu:X.A.units+1<cLine) (hi:PE X i ty) (ho:PE X o td):PC X .In i o (El ty td):=by
 intro pins s σ H Q I h
 refine thn (hi pins s σ H _ I h) fun iv s1 ⟨y,H1,I1,ry,q1⟩=>thn (ho pins s1 σ H1 _ I1 q1) fun u s2 ⟨x,H2,I2,rx,a,ov,ex,g,q2⟩=>?_
 subst ex
 obtain rfl:u=Value.ref a:=rx
 exact D6 hu I2 g ry fun s3 I3=>⟨.bl ov.isSome,H2,I3,rfl,q2⟩
theorem AD (hu:X.A.units+1<cLine) (ho:PE X o td) (hi:PE X i ty) (hv:PE X value tv) (hs:swapsWith value (some (.Subscript o i pos')) pos.line X.env=pure false):
 PS X (.Assign [.Subscript o i pos'] value pos) (Dd td ty tv):=by
 intro pins s σ H D I h
 refine wpAny_Assign_Subscript (thn (hv pins s σ H _ I h) fun r s1 ⟨v,H1,I1,rv,q1⟩=>thn (ho pins s1 σ H1 _ I1 q1) fun u s2 ⟨x,H2,I2,rx,q2⟩=>thn (hi pins s2 σ H2 _ I2 q2) fun iv s3 ⟨y,H3,I3,ry,a,H4,ex,g,q3⟩=>?_) hs
 subst ex
 obtain rfl:u=Value.ref a:=rx
 exact wR hu I3 g ry rv fun s4 I4=>⟨σ,H4,I4,q3⟩
end
theorem sV {P:Program}{w:World}{H:Hp}(h:Heap) (hb:sysModules<h.objs.size):ObjOk P w H (h.push {cls:= .type "dict",data:= .dict #[]}) h.objs.size (.dT []):=
 ⟨Nat.zero_le _,beq_eq_false_iff_ne.mpr (Ne.symm (Nat.ne_of_lt hb)),[], .nil,_,#[],0,Heap.get?_push_size _ rfl,⟨rfl,rfl,rfl⟩,rfl,rfl,List.nodup_nil⟩
def Cc:TE:=fun _ H Q=>∀p,H p=none→Q (.ref p) (upd H p (.dT []))
section
variable {X : Cx} {pos : Pos}
theorem y9:PE X (.Dict [] [] pos) Cc:=fun pins s σ H Q I h=>
 wpAny_Dict_empty ⟨.ref s.heap.objs.size,_,I.laid (a:=s.heap.objs.size) (o:= .dT []) (t':=s.toks) (fun _ _ q=>Heap.get?_push_of_some _ q) (Nat.le_refl _) (sV s.heap I.big),rfl,h _ (I.hok.fresh (Nat.le_refl _))⟩
end
def yz:List (TE×TE)→St→Hp→(List (V×V)→Hp→Prop)→Prop
 |[],_,H,Q=>Q [] H
 |(tk,tv)::r,σ,H,Q=>tk σ H fun x H1=>tv σ H1 fun y H2=>yz r σ H2 fun ps H3=>Q ((x,y)::ps) H3
abbrev VV:List (V×V)→List (Value×Value)→Prop:=Paired fun p q=>RelV p.1 q.1∧RelV p.2 q.2
def PPs (X:Cx) (pos:Pos) (keys:List (Option Expr)) (values:List Expr) (trs:List (TE×TE)):Prop:=
 ∀(pins:List (Addr×Obj)) (s:Shared) (σ:St) (H:Hp) (Q:List (V×V)→Hp→Prop),Inv X pins σ H s→yz trs σ H Q→
  wpAny (model X.prog X.w) X.A (evalPairs (pairTrees keys values X.env pos)) (fun vs s'=>∃ps H',Inv X pins σ H' s'∧VV ps vs∧Q ps H') X.xe s
theorem AG {X:Cx}{pos:Pos}:PPs X pos [] [] []:=fun pins s σ H Q I h=>pairTrees_nil_walk ⟨[],H,I, .nil,h⟩
theorem xm {X:Cx}{pos:Pos}{k v:Expr}{ks:List (Option Expr)}{vs:List Expr}{tk tv:TE}{trs:List (TE×TE)}(hk:PE X k tk) (hv:PE X v tv) (hr:PPs X pos ks vs trs):
 PPs X pos (some k::ks) (v::vs) ((tk,tv)::trs):=fun pins s σ H Q I h=>
 pairTrees_cons_walk (thn (hk pins s σ H _ I h) fun u s1 ⟨x,H1,I1,rx,q1⟩=>thn (hv pins s1 σ H1 _ I1 q1) fun w2 s2 ⟨y,H2,I2,ry,q2⟩=>
  thn (hr pins s2 σ H2 _ I2 q2) fun ws s3 ⟨ps,H3,I3,rel,q3⟩=>⟨(x,y)::ps,H3,I3, .cons ⟨rx,ry⟩ rel,q3⟩)
structure M1 (X:Cx) (o:Expr) (m:Str) (apos:Pos) (e:Expr) (cpos:Pos):Prop where
 base:attributeBase o m X.env (eval o X.env)=eval o X.env
 few:((backTo cpos (starEach [e] X.env)).all (fun x=>!x.1)&&(backToKw cpos (keywordEach [] X.env)).all (fun x=>x.1.isSome)
  &&decide (([e]:List Expr).length+([]:List Keyword).length+(if ([]:List Keyword).isEmpty then 0 else 1)<30))=true
 line:(apos.endLine==cpos.line)=true
 trees:backTo cpos (starEach [e] X.env)=[(false,eval e X.env)]
structure M2 (X:Cx) (o:Expr) (m:Str) (apos:Pos) (e f:Expr) (cpos:Pos):Prop where
 base:attributeBase o m X.env (eval o X.env)=eval o X.env
 few:((backTo cpos (starEach [e,f] X.env)).all (fun x=>!x.1)&&(backToKw cpos (keywordEach [] X.env)).all (fun x=>x.1.isSome)
  &&decide (([e,f]:List Expr).length+([]:List Keyword).length+(if ([]:List Keyword).isEmpty then 0 else 1)<30))=true
 line:(apos.endLine==cpos.line)=true
 trees:backTo cpos (starEach [e,f] X.env)=[(false,eval e X.env),(false,eval f X.env)]
def IsD (H:Hp) (a:Addr):Prop:=(∃kvs,Rd H a (.dK kvs))∨∃kvs,Rd H a (.dT kvs)
theorem tU {X:Cx}{pins:List (Addr×Obj)}{σ:St}{H:Hp}{s:Shared}{a:Addr}(I:Inv X pins σ H s) (d:IsD H a):
 s.TypeIs (.ref a) "dict"∧(∀b,Value.ref a= .ref b→∃ob,s.heap.get? b=some ob∧ob.dict=none)∧(a==sysModules)=false:=by
 rcases d with⟨kvs,e⟩ | ⟨kvs,e⟩
 ·obtain⟨_,hd,vs,_,dd⟩:=ku I.hok e
  refine⟨dd.typeIs,fun b q=>?_,hd⟩
  cases q
  obtain⟨ob,_,_,h1,h2,_⟩:=dd
  exact⟨ob,h1,h2.2.1⟩
 ·obtain⟨_,hd,xs,_,dd⟩:=jS I.hok e
  refine⟨dd.typeIs,fun b q=>?_,hd⟩
  cases q
  obtain⟨ob,_,_,h1,h2,_⟩:=dd
  exact⟨ob,h1,h2.2.1⟩
section
variable {X : Cx} {pins : List (Addr × Obj)} {σ : St} {H : Hp} {s : Shared} {a : Addr} {y d : V} {u r : Value} {o : Option V} {A : Around} {E : Value → Shared → Prop}
theorem Bs {Q:Value→Shared→Prop}(hu:A.units+1<cLine) (I:Inv X pins σ H s) (g:iY H a y o) (ry:RelV y u) (h:∀w' s',Inv X pins σ H s'→RelV (o.getD .non) w'→Q w' s'):
 wpAny (model X.prog X.w) A (call (.builtin "dict.get") [.ref a,u]) Q E s:=by
 rcases g with⟨kvs,k,e,ey,l⟩ | ⟨kvs,k,b,e,ey,eb,l⟩
 ·subst ey
  obtain⟨z,hd,vs,rel,dd⟩:=ku I.hok e
  refine call_meetsIn PySem.F.slot_dict_get dd.typeIs PySem.F.entry_dict_get (PySem.F.args_dict_get_2 _ _) (meets_dict_get (aP X.prog X.w) a (kW ry) hd) ⟨_,dd.mapOf,h _ _ (I.tok _) ?_⟩
  rw[l]
  exact(rel.val k).getD rfl
 ·subst ey
  cases (show u=Value.ref b from ry)
  obtain⟨z,hd,xs,rel,dd⟩:=jS I.hok e
  refine call_meetsIn PySem.F.slot_dict_get dd.typeIs PySem.F.entry_dict_get (PySem.F.args_dict_get_2 _ _) (meetsH_dict_get (tupleKind (aP X.prog X.w)) a b hd) ⟨tupleKind_room_in1 hu,k,xs,gx I.hok eb,dd,h _ _ (I.tok _) ?_⟩
  rw[l]
  exact(rel.val k).getD rfl
theorem CB {Q:Value→Shared→Prop}(hu:A.units+1<cLine) (I:Inv X pins σ H s) (g:iY H a y o) (ry:RelV y u) (rd:RelV d r) (h:∀w' s',Inv X pins σ H s'→RelV (o.getD d) w'→Q w' s'):
 wpAny (model X.prog X.w) A (call (.builtin "dict.get") [.ref a,u,r]) Q E s:=by
 rcases g with⟨kvs,k,e,ey,l⟩ | ⟨kvs,k,b,e,ey,eb,l⟩
 ·subst ey
  obtain⟨z,hd,vs,rel,dd⟩:=ku I.hok e
  refine call_meetsIn PySem.F.slot_dict_get dd.typeIs PySem.F.entry_dict_get (PySem.F.args_dict_get_3 _ _ _) (meets_dict_get_default (aP X.prog X.w) a (kW ry) hd r) ⟨_,dd.mapOf,h _ _ (I.tok _) ?_⟩
  rw[l]
  exact(rel.val k).getD rd
 ·subst ey
  cases (show u=Value.ref b from ry)
  obtain⟨z,hd,xs,rel,dd⟩:=jS I.hok e
  refine call_meetsIn PySem.F.slot_dict_get dd.typeIs PySem.F.entry_dict_get (PySem.F.args_dict_get_3 _ _ _) (meetsH_dict_get_default (tupleKind (aP X.prog X.w)) a b hd r) ⟨tupleKind_room_in1 hu,k,xs,gx I.hok eb,dd,h _ _ (I.tok _) ?_⟩
  rw[l]
  exact(rel.val k).getD rd
end
def Ce (td ty:TE):TE:=fun σ H Q=>td σ H fun x H1=>∃a,x= .ref a∧IsD H1 a∧ty σ H1 fun y H2=>∃o,iY H2 a y o∧Q (o.getD .non) H2
def CH (td ty tx:TE):TE:=fun σ H Q=>td σ H fun x H1=>∃a,x= .ref a∧IsD H1 a∧ty σ H1 fun y H2=>tx σ H2 fun z H3=>∃o,iY H3 a y o∧Q (o.getD z) H3
section
variable {X : Cx} {o e f : Expr} {apos cpos : Pos} {td ty tx : TE}
theorem yt (hu:X.A.units+1<cLine) (ho:PE X o td) (he:PE X e ty) (m:M1 X o "get" apos e cpos):PE X (.Call (.Attribute o "get" apos) [e] [] cpos) (Ce td ty):=by
 intro pins s σ H Q I h
 refine wpAny_Call_method m.base m.few m.line PySem.F.plainAttrs_dict PySem.F.slot_dict_get PySem.F.type_dict_get (thn (ho pins s σ H _ I h) fun u s1 ⟨x,H1,I1,rx,a,ex,d,q1⟩=>?_)
 subst ex
 obtain rfl:u=Value.ref a:=rx
 obtain⟨t1,t2,_⟩:=tU I1 d
 refine⟨t1,t2,?_⟩
 rw[m.trees]
 refine Calls.callWith_builtin rfl (Calls.evalArgs_plain (Calls.spliced_cons (thn (he pins s1 σ H1 _ I1 q1) fun iv s2 ⟨y,H2,I2,ry,ov,g,q2⟩=>Calls.spliced_nil ?_)))
 exact Bs hu I2 g ry fun w' s3 I3 rw'=>⟨_,H2,I3,rw',q2⟩
theorem yh (hu:X.A.units+1<cLine) (ho:PE X o td) (he:PE X e ty) (hf:PE X f tx) (m:M2 X o "get" apos e f cpos):PE X (.Call (.Attribute o "get" apos) [e,f] [] cpos) (CH td ty tx):=by
 intro pins s σ H Q I h
 refine wpAny_Call_method m.base m.few m.line PySem.F.plainAttrs_dict PySem.F.slot_dict_get PySem.F.type_dict_get (thn (ho pins s σ H _ I h) fun u s1 ⟨x,H1,I1,rx,a,ex,d,q1⟩=>?_)
 subst ex
 obtain rfl:u=Value.ref a:=rx
 obtain⟨t1,t2,_⟩:=tU I1 d
 refine⟨t1,t2,?_⟩
 rw[m.trees]
 refine Calls.callWith_builtin rfl (Calls.evalArgs_plain (Calls.spliced_cons (thn (he pins s1 σ H1 _ I1 q1) fun iv s2 ⟨y,H2,I2,ry,q2⟩=>
  Calls.spliced_cons (thn (hf pins s2 σ H2 _ I2 q2) fun fv s3 ⟨z,H3,I3,rz,ov,g,q3⟩=>Calls.spliced_nil ?_))))
 exact CB hu I3 g ry rz fun w' s4 I4 rw'=>⟨_,H3,I4,rw',q3⟩
end
section
variable {X : Cx} {pins : List (Addr × Obj)} {σ : St} {H : Hp} {s : Shared} {a : Addr} {kvs : List (Key × V)} {A : Around} {E : Value → Shared → Prop}
end
section
variable {X : Cx} {pins : List (Addr × Obj)} {σ : St} {H : Hp} {s : Shared} {a : Addr} {y : V} {u : Value} {A : Around} {E : Value → Shared → Prop}
end
end L2
namespace L3
open PySem PySem.Spec L2
open PyProof.Rows hiding St
inductive Rs (α:Type) where
 |ok (a:α) | ex (n:Nat)
def M (α:Type):=Option (Rs α)
def M.ret {α:Type}(a:α):M α:=some (.ok a)
def M.bind {α β:Type}(m:M α) (k:α→M β):M β:=match m with
 |none=>none
 |some (.ex n)=>some (.ex n)
 |some (.ok a)=>k a
def M.stuck {α:Type}:M α:=none
def M.raise {α:Type}(n:Nat):M α:=some (.ex n)
instance:Monad M where
 pure:=M.ret
 bind:=M.bind
@[simp] theorem ar {α β:Type}(a:α) (k:α→M β):(M.ret a>>=k)=k a:=rfl
@[simp] theorem BX {α β:Type}(a:α) (k:α→M β):((pure a:M α)>>=k)=k a:=rfl
@[simp] theorem Cq {α β:Type}(n:Nat) (k:α→M β):(M.raise n>>=k)=M.raise n:=rfl
@[simp] theorem Cs {α β:Type}(k:α→M β):((M.stuck:M α)>>=k)=M.stuck:=rfl
theorem M.cs {α:Type}(m:M α):m=M.stuck∨(∃n,m=M.raise n)∨∃a,m=M.ret a:=by
 match m with
 |none=>exact .inl rfl
 |some (.ex n)=>exact .inr (.inl ⟨n,rfl⟩)
 |some (.ok a)=>exact .inr (.inr ⟨a,rfl⟩)
theorem fS {α:Type}{a b:α}(h:M.ret a=M.ret b):a=b:=by
 have h:some (Rs.ok a)=some (Rs.ok b):=h
 cases h
 rfl
theorem gT {α:Type}{a:α}(h:M.stuck=M.ret a):False:=by
 have h:none=some (Rs.ok a):=h
 cases h
theorem yL {α:Type}{n:Nat}{a:α}(h:M.raise n=M.ret a):False:=by
 have h:some (Rs.ex n)=some (Rs.ok a):=h
 cases h
theorem gE {α β:Type}{m:M α}{k:α→M β}{r:β}(h:(m>>=k)=M.ret r):∃a,m=M.ret a∧k a=M.ret r:=by
 rcases m.cs with e | ⟨n,e⟩ | ⟨a,e⟩
 ·subst e;exact(gT h).elim
 ·subst e;exact(yL h).elim
 ·subst e;exact⟨a,rfl,h⟩
def u3 (h:Heap) (ea D:Addr):Prop:=∃ox,h.get? ea=some ox∧ox.cls= .ref D
def ExO (ea D:Addr):HO:= .ext fun h=>u3 h ea D
inductive D where
 |non | bl (b:Bool) | int (i:Int) | str (x:Str) | raw (v:V) | exc (C:Addr) | scr (l:List Int) | tup (l:List D) | lst (l:List D)
 |dct (ks:List (List Key)) (l:List D) | dci (ks:List Key) (l:List D)
instance:Inhabited D:=⟨.non⟩
def lim:Nat:=4096
theorem dD:lim<sizeLine:=by rw[sizeLine_eq];decide
mutual
def Den (K:PySem.W.Frag) (F:Hp):D→V→Prop
 | .non,v=>v= .non
 | .bl b,v=>v= .bl b
 | .int i,v=>v= .int i
 | .str x,v=>v= .str x∧x.length≤lim
 | .raw u,v=>v=u
 | .exc C,v=>∃ea,v= .ref ea∧F ea=some (ExO ea C)
 | .scr ns,v=>∃a,v= .ref a∧SqL K F a (ns.map V.int)∧ns.length≤lim
 | .tup ds,v=>∃a vs,v= .ref a∧F a=some (.tup vs)∧DenL K F ds vs∧ds.length≤lim
 | .lst ds,v=>∃a vs,v= .ref a∧F a=some (.lst vs)∧DenL K F ds vs∧ds.length≤lim
 | .dct ks ds,v=>∃a ob vs,v= .ref a∧F a=some (.frz ob (.dT (ks.zip vs)))∧DenL K F ds vs∧ks.length=ds.length∧ds.length≤lim
 | .dci ks ds,v=>∃a ob vs,v= .ref a∧F a=some (.frz ob (.dK (ks.zip vs)))∧DenL K F ds vs∧ks.length=ds.length∧ds.length≤lim
def DenL (K:PySem.W.Frag) (F:Hp):List D→List V→Prop
 |[],vs=>vs=[]
 |d::ds,vs=>∃v r,vs=v::r∧Den K F d v∧DenL K F ds r
end
theorem Same.rd {H H':Hp}{a:Addr}{u:HO}(e:Same H H') (h:Rd H a u):Rd H' a u:=by
 rcases h with h | ⟨o,h⟩
 ·exact .inl (e _ _ h)
 ·exact .inr ⟨o,e _ _ h⟩
theorem Same.tup {K:PySem.W.Frag}{H H':Hp}{a:Addr}{xs:List V}(e:Same H H') (h:SqT K H a xs):SqT K H' a xs:=by
 rcases h with h | h
 ·exact .inl (Same.rd e h)
 ·exact .inr h
section
variable {K : PySem.W.Frag} {F F' : Hp}
mutual
theorem Den.mono (e:Same F F'):∀{d:D}{v:V},Den K F d v→Den K F' d v
 | .non,_,h=>h
 | .bl _,_,h=>h
 | .int _,_,h=>h
 | .str _,_,h=>h
 | .raw _,_,h=>h
 | .exc _,_,⟨a,h1,h2⟩=>⟨a,h1,e _ _ h2⟩
 | .scr _,_,⟨a,h1,h2,h3⟩=>⟨a,h1,Same.seq e h2,h3⟩
 | .tup _,_,⟨a,vs,h1,h2,h3,h4⟩=>⟨a,vs,h1,e _ _ h2,DenL.mono e h3,h4⟩
 | .lst _,_,⟨a,vs,h1,h2,h3,h4⟩=>⟨a,vs,h1,e _ _ h2,DenL.mono e h3,h4⟩
 | .dct _ _,_,⟨a,ob,vs,h1,h2,h3,h4⟩=>⟨a,ob,vs,h1,e _ _ h2,DenL.mono e h3,h4⟩
 | .dci _ _,_,⟨a,ob,vs,h1,h2,h3,h4⟩=>⟨a,ob,vs,h1,e _ _ h2,DenL.mono e h3,h4⟩
theorem DenL.mono (e:Same F F'):∀{ds:List D}{vs:List V},DenL K F ds vs→DenL K F' ds vs
 |[],_,h=>h
 |_::_,_,⟨v,r,h1,h2,h3⟩=>⟨v,r,h1,Den.mono e h2,DenL.mono e h3⟩
end
theorem DenL.nil:DenL K F [] []:=rfl
theorem DenL.cons {d:D}{v:V}{ds:List D}{vs:List V}(h:Den K F d v) (r:DenL K F ds vs):DenL K F (d::ds) (v::vs):=⟨v,vs,rfl,h,r⟩
theorem DenL.len:∀{ds:List D}{vs:List V},DenL K F ds vs→ds.length=vs.length
 |[],_,h=>by cases (show _=_ from h);rfl
 |_::ds,_,⟨v,r,h1,_,h3⟩=>by subst h1;rw[List.length_cons,List.length_cons,DenL.len h3]
theorem DenL.get:∀{ds:List D}{vs:List V}{i:Nat}{d:D},DenL K F ds vs→ds[i]? =some d→∃v,vs[i]? =some v∧Den K F d v
 |[],_,_,_,_,e=>by simp at e
 |d::ds,_,0,_,⟨v,r,h1,h2,h3⟩,e=>by subst h1;simp at e;subst e;exact⟨v,rfl,h2⟩
 |d::ds,_,i+1,_,⟨v,r,h1,h2,h3⟩,e=>by
  subst h1
  obtain⟨w,e1,e2⟩:=DenL.get (i:=i) h3 (by simpa using e)
  exact⟨w,by simpa using e1,e2⟩
theorem DenL.at:∀{ds:List D}{vs:List V}{i:Nat}{v:V},DenL K F ds vs→vs[i]? =some v→∃d,ds[i]? =some d∧Den K F d v
 |[],_,_,_,h,e=>by cases (show _=_ from h);simp at e
 |d::ds,_,0,_,⟨v,r,h1,h2,h3⟩,e=>by subst h1;simp at e;subst e;exact⟨d,rfl,h2⟩
 |d::ds,_,i+1,_,⟨v,r,h1,h2,h3⟩,e=>by
  subst h1
  obtain⟨w,e1,e2⟩:=DenL.at (i:=i) h3 (by simpa using e)
  exact⟨w,by simpa using e1,e2⟩
theorem DenL.append:∀{ds es:List D}{vs ws:List V},DenL K F ds vs→DenL K F es ws→DenL K F (ds++es) (vs++ws)
 |[],_,_,_,h,h'=>by cases (show _=_ from h);exact h'
 |d::ds,_,_,_,⟨v,r,h1,h2,h3⟩,h'=>by subst h1;exact⟨v,_,rfl,h2,DenL.append h3 h'⟩
theorem DenL.take:∀{ds:List D}{vs:List V}(n:Nat),DenL K F ds vs→DenL K F (ds.take n) (vs.take n)
 |_,_,0,_=>by simp[List.take];rfl
 |[],_,_+1,h=>by cases (show _=_ from h);rfl
 |d::ds,_,n+1,⟨v,r,h1,h2,h3⟩=>by subst h1;exact⟨v,_,rfl,h2,DenL.take n h3⟩
theorem DenL.drop:∀{ds:List D}{vs:List V}(n:Nat),DenL K F ds vs→DenL K F (ds.drop n) (vs.drop n)
 |_,_,0,h=>by simpa using h
 |[],_,_+1,h=>by cases (show _=_ from h);rfl
 |d::ds,_,n+1,⟨v,r,h1,h2,h3⟩=>by subst h1;exact DenL.drop n h3
theorem DenL.ints (ns:List Int):DenL K F (ns.map D.int) (ns.map V.int):=by
 induction ns with
 |nil=>rfl
 |cons n ns ih=>exact .cons rfl ih
end
structure Ext (F H F' H':Hp):Prop where
 hh:Same H H'
 ff:Same F F'
 fh:Same F' H'
 new:∀a,H a≠none→F' a=F a∨∃ts,H a=some (.tup ts)
theorem Ext.old {F H F' H':Hp}(e:Ext F H F' H') {a:Addr}{o:HO}(h:H a=some o) (hn:∀ts,o≠ .tup ts):F' a=F a:=by
 rcases e.new a (by rw[h];exact fun z=>nomatch z) with q | ⟨ts,q⟩
 ·exact q
 ·rw[h] at q;cases q;exact absurd rfl (hn ts)
theorem Ext.refl {F H:Hp}(h:Same F H):Ext F H F H:=⟨Same.refl _,Same.refl _,h,fun _ _=> .inl rfl⟩
theorem Ext.trans {F H F' H' F'' H'':Hp}(a:Ext F H F' H') (b:Ext F' H' F'' H''):Ext F H F'' H'':=
 ⟨a.hh.trans b.hh,a.ff.trans b.ff,b.fh,fun c hc=>by
  have:H' c≠none:=by
   cases q:H c with
   |none=>exact absurd q hc
   |some o=>rw[a.hh c o q];exact fun z=>nomatch z
  rcases a.new c hc with p | p
  ·rcases b.new c this with q | ⟨ts,q⟩
   ·exact .inl (q.trans p)
   ·cases z:H c with
    |none=>exact absurd z hc
    |some o=>
     rw[a.hh c o z] at q
     exact .inr ⟨ts,q⟩
  ·exact .inr p⟩
theorem Ext.lay {F H:Hp}{a:Addr}{o:HO}(h:Same F H) (n:H a=none):Ext F H (upd F a o) (upd H a o):=by
 have nf:F a=none:=Same.free h n
 refine⟨fun b u e=>?_,fun b u e=>?_,fun b u e=>?_,fun b hb=>?_⟩
 ·rw[av (bb e n)];exact e
 ·rw[av (bb e nf)];exact e
 ·by_cases q:b=a
  ·subst q;rw[aF] at e⊢;exact e
  ·rw[av q] at e⊢;exact h b u e
 ·exact .inl (av fun z=>hb (by rw[z];exact n))
theorem Ext.free {F H:Hp}{a:Addr}{o:HO}(h:Same F H) (n:H a=none):Ext F H F (upd H a o):=
 ⟨fun b u e=>by rw[av (bb e n)];exact e,Same.refl _,fun b u e=>by rw[av (bb (h b u e) n)];exact h b u e,fun _ _=> .inl rfl⟩
theorem Ext.tup {F H:Hp}{a:Addr}{ts:List V}(h:Same F H) (e:H a=some (.tup ts)):Ext F H (upd F a (.tup ts)) H:=by
 refine⟨Same.refl _,fun b u q=>?_,fun b u q=>?_,fun b hb=>?_⟩
 ·by_cases z:b=a
  ·subst z;rw[aF,←e];exact h b u q
  ·rw[av z];exact q
 ·by_cases z:b=a
  ·subst z;rw[aF] at q;rw[e];exact q
  ·rw[av z] at q;exact h b u q
 ·by_cases z:b=a
  ·subst z;exact .inr ⟨ts,e⟩
  ·exact .inl (av z)
def WP (K:PySem.W.Frag) (Xw:Nat→Hp→Prop) (F H:Hp) (m:M D) (Q:VK):Prop:=
 match m with
 |none=>False
 |some (.ok d)=>∀v H' F',Ext F H F' H'→Den K F' d v→Q v H'
 |some (.ex n)=>∀F' H',Ext F H F' H'→Xw n H'
def WPL (K:PySem.W.Frag) (Xw:Nat→Hp→Prop) (F H:Hp) (m:M (List D)) (Q:List V→Hp→Prop):Prop:=
 match m with
 |none=>False
 |some (.ok ds)=>∀vs H' F',Ext F H F' H'→DenL K F' ds vs→Q vs H'
 |some (.ex n)=>∀F' H',Ext F H F' H'→Xw n H'
def WPB (Xw:Nat→Hp→Prop) (F H:Hp) (m:M Bool) (Q:Bool→Hp→Prop):Prop:=
 match m with
 |none=>False
 |some (.ok b)=>∀H' F',Ext F H F' H'→Q b H'
 |some (.ex n)=>∀F' H',Ext F H F' H'→Xw n H'
section
variable {K : PySem.W.Frag} {Xw : Nat → Hp → Prop} {F F' H H' : Hp} {Q : VK}
theorem WP.ext {m:M D}(e:Ext F H F' H') (h:WP K Xw F H m Q):WP K Xw F' H' m Q:=by
 match m,h with
 |none,h=>exact h
 |some (.ok d),h=>exact fun v H2 F2 e2 q=>h v H2 F2 (e.trans e2) q
 |some (.ex n),h=>exact fun F2 H2 e2=>h F2 H2 (e.trans e2)
theorem WPL.ext {m:M (List D)}{Q:List V→Hp→Prop}(e:Ext F H F' H') (h:WPL K Xw F H m Q):WPL K Xw F' H' m Q:=by
 match m,h with
 |none,h=>exact h
 |some (.ok d),h=>exact fun v H2 F2 e2 q=>h v H2 F2 (e.trans e2) q
 |some (.ex n),h=>exact fun F2 H2 e2=>h F2 H2 (e.trans e2)
theorem WPB.ext {m:M Bool}{Q:Bool→Hp→Prop}(e:Ext F H F' H') (h:WPB Xw F H m Q):WPB Xw F' H' m Q:=by
 match m,h with
 |none,h=>exact h
 |some (.ok d),h=>exact fun H2 F2 e2=>h H2 F2 (e.trans e2)
 |some (.ex n),h=>exact fun F2 H2 e2=>h F2 H2 (e.trans e2)
theorem WP.fin {d:D}{v:V}(h:WP K Xw F H (M.ret d) Q) (e:Ext F H F' H') (q:Den K F' d v):Q v H':=h v H' F' e q
theorem WP.now {d:D}{v:V}(h:WP K Xw F H (M.ret d) Q) (s:Same F H) (q:Den K F d v):Q v H:=h v H F (Ext.refl s) q
theorem WP.bind {m:M D}{k:D→M D}(h:WP K Xw F H (m>>=k) Q):WP K Xw F H m fun v H1=>∃F1 d,Ext F H F1 H1∧Den K F1 d v∧WP K Xw F1 H1 (k d) Q:=by
 match m,h with
 |none,h=>exact h
 |some (.ok d),h=>exact fun v H2 F2 e2 q=>⟨F2,d,e2,q,WP.ext e2 (show WP K Xw F H (k d) Q from h)⟩
 |some (.ex n),h=>exact h
theorem WP.bindL {m:M (List D)}{k:List D→M D}(h:WP K Xw F H (m>>=k) Q):WPL K Xw F H m fun vs H1=>∃F1 ds,Ext F H F1 H1∧DenL K F1 ds vs∧WP K Xw F1 H1 (k ds) Q:=by
 match m,h with
 |none,h=>exact h
 |some (.ok d),h=>exact fun v H2 F2 e2 q=>⟨F2,d,e2,q,WP.ext e2 (show WP K Xw F H (k d) Q from h)⟩
 |some (.ex n),h=>exact h
theorem WPB.bind {m:M D}{k:D→M Bool}{Q:Bool→Hp→Prop}(h:WPB Xw F H (m>>=k) Q):WP K Xw F H m fun v H1=>∃F1 d,Ext F H F1 H1∧Den K F1 d v∧WPB Xw F1 H1 (k d) Q:=by
 match m,h with
 |none,h=>exact h
 |some (.ok d),h=>exact fun v H2 F2 e2 q=>⟨F2,d,e2,q,WPB.ext e2 (show WPB Xw F H (k d) Q from h)⟩
 |some (.ex n),h=>exact h
theorem WPB.bindB {m:M Bool}{k:Bool→M Bool}{Q:Bool→Hp→Prop}(h:WPB Xw F H (m>>=k) Q):WPB Xw F H m fun b H1=>∃F1,Ext F H F1 H1∧WPB Xw F1 H1 (k b) Q:=by
 match m,h with
 |none,h=>exact h
 |some (.ok d),h=>exact fun H2 F2 e2=>⟨F2,e2,WPB.ext e2 (show WPB Xw F H (k d) Q from h)⟩
 |some (.ex n),h=>exact h
theorem WPL.bind {m:M D}{k:D→M (List D)}{Q:List V→Hp→Prop}(h:WPL K Xw F H (m>>=k) Q):WP K Xw F H m fun v H1=>∃F1 d,Ext F H F1 H1∧Den K F1 d v∧WPL K Xw F1 H1 (k d) Q:=by
 match m,h with
 |none,h=>exact h
 |some (.ok d),h=>exact fun v H2 F2 e2 q=>⟨F2,d,e2,q,WPL.ext e2 (show WPL K Xw F H (k d) Q from h)⟩
 |some (.ex n),h=>exact h
theorem WPL.bindL {m:M (List D)}{k:List D→M (List D)}{Q:List V→Hp→Prop}(h:WPL K Xw F H (m>>=k) Q):WPL K Xw F H m fun vs H1=>∃F1 ds,Ext F H F1 H1∧DenL K F1 ds vs∧WPL K Xw F1 H1 (k ds) Q:=by
 match m,h with
 |none,h=>exact h
 |some (.ok d),h=>exact fun v H2 F2 e2 q=>⟨F2,d,e2,q,WPL.ext e2 (show WPL K Xw F H (k d) Q from h)⟩
 |some (.ex n),h=>exact h
theorem WP.mono {m:M D}{Q':VK}(h:WP K Xw F H m Q) (k:∀v H',Q v H'→Q' v H'):WP K Xw F H m Q':=by
 match m,h with
 |none,h=>exact h
 |some (.ok d),h=>exact fun v H2 F2 e2 q=>k _ _ (h v H2 F2 e2 q)
 |some (.ex n),h=>exact h
theorem WPL.mono {m:M (List D)}{Q Q':List V→Hp→Prop}(h:WPL K Xw F H m Q) (k:∀v H',Q v H'→Q' v H'):WPL K Xw F H m Q':=by
 match m,h with
 |none,h=>exact h
 |some (.ok d),h=>exact fun v H2 F2 e2 q=>k _ _ (h v H2 F2 e2 q)
 |some (.ex n),h=>exact h
theorem WPB.mono {m:M Bool}{Q Q':Bool→Hp→Prop}(h:WPB Xw F H m Q) (k:∀v H',Q v H'→Q' v H'):WPB Xw F H m Q':=by
 match m,h with
 |none,h=>exact h
 |some (.ok d),h=>exact fun H2 F2 e2=>k _ _ (h H2 F2 e2)
 |some (.ex n),h=>exact h
end
inductive C where
 |lst (l:List D) | dct (ks:List (List Key)) (l:List D) | dci (ks:List Key) (l:List D)
def C.d:C→D
 | .lst ds=> .lst ds
 | .dct ks ds=> .dct ks ds
 | .dci ks ds=> .dci ks ds
inductive Sl where
 |fz (d:D) | ow (c:C)
abbrev Rho:=List (Option Sl)
def DenC (K:PySem.W.Frag) (F:Hp):C→HO→Prop
 | .lst ds,o=>∃vs,o= .lst vs∧DenL K F ds vs∧ds.length≤lim
 | .dct ks ds,o=>∃vs,o= .dT (ks.zip vs)∧DenL K F ds vs∧ks.length=ds.length∧ds.length≤lim
 | .dci ks ds,o=>∃vs,o= .dK (ks.zip vs)∧DenL K F ds vs∧ks.length=ds.length∧ds.length≤lim
theorem DenC.mono {K:PySem.W.Frag}{F F':Hp}(e:Same F F'):∀{c:C}{o:HO},DenC K F c o→DenC K F' c o
 | .lst _,_,⟨vs,h1,h2,h3⟩=>⟨vs,h1,DenL.mono e h2,h3⟩
 | .dct _ _,_,⟨vs,h1,h2,h3⟩=>⟨vs,h1,DenL.mono e h2,h3⟩
 | .dci _ _,_,⟨vs,h1,h2,h3⟩=>⟨vs,h1,DenL.mono e h2,h3⟩
theorem DenC.notup {K:PySem.W.Frag}{F:Hp}:∀{c:C}{o:HO},DenC K F c o→∀ts,o≠ .tup ts
 | .lst _,_,⟨_,h1,_⟩,ts,z=>by rw[h1] at z;cases z
 | .dct _ _,_,⟨_,h1,_⟩,ts,z=>by rw[h1] at z;cases z
 | .dci _ _,_,⟨_,h1,_⟩,ts,z=>by rw[h1] at z;cases z
def ll (ob:Obj):HO→HO
 | .dT kvs=> .frz ob (.dT kvs)
 | .dK kvs=> .frz ob (.dK kvs)
 |o=>o
theorem DenC.den {K:PySem.W.Frag}{F F':Hp}{a:Addr}{ob:Obj}:∀{c:C}{o:HO},DenC K F c o→Same F F'→F' a=some (ll ob o)→Den K F' c.d (.ref a)
 | .lst _,_,⟨vs,h1,h2,h3⟩,e,q=>by subst h1;exact⟨a,vs,rfl,q,DenL.mono e h2,h3⟩
 | .dct _ _,_,⟨vs,h1,h2,h3⟩,e,q=>by subst h1;exact⟨a,ob,vs,rfl,q,DenL.mono e h2,h3⟩
 | .dci _ _,_,⟨vs,h1,h2,h3⟩,e,q=>by subst h1;exact⟨a,ob,vs,rfl,q,DenL.mono e h2,h3⟩
def DenO (K:PySem.W.Frag) (F H:Hp):Sl→V→Prop
 | .fz d,v=>Den K F d v
 | .ow c,v=>∃a o,v= .ref a∧H a=some o∧F a=none∧DenC K F c o
structure StE (K:PySem.W.Frag) (F H:Hp) (σ:St) (ρ:Rho):Prop where
 fh:Same F H
 den:∀(i:Nat) (sl:Sl),ρ[i]? =some (some sl)→∃v,σ[i]? =some (some v)∧DenO K F H sl v
theorem DenO.ext {K:PySem.W.Frag}{F H F' H':Hp}(e:Ext F H F' H'):∀{sl:Sl}{v:V},DenO K F H sl v→DenO K F' H' sl v
 | .fz _,_,h=>Den.mono e.ff h
 | .ow _,_,⟨a,o,h1,h2,h3,h4⟩=>⟨a,o,h1,e.hh _ _ h2,by rw[e.old h2 h4.notup];exact h3,DenC.mono e.ff h4⟩
theorem StE.ext {K:PySem.W.Frag}{F H F' H':Hp}{σ:St}{ρ:Rho}(s:StE K F H σ ρ) (e:Ext F H F' H'):StE K F' H' σ ρ:=
 ⟨e.fh,fun i sl q=>let ⟨v,h1,h2⟩:=s.den i sl q;⟨v,h1,h2.ext e⟩⟩
abbrev DE:=Rho→M D
abbrev DT:=Rho→M Bool
abbrev DA:=Rho→M (List D)
def tD (K:PySem.W.Frag) (Xw:Nat→Hp→Prop) (δ:DE):TE:=fun σ H Q=>∃F ρ,StE K F H σ ρ∧WP K Xw F H (δ ρ) Q
def tDT (K:PySem.W.Frag) (Xw:Nat→Hp→Prop) (δ:DT):TT:=fun σ H Q=>∃F ρ,StE K F H σ ρ∧WPB Xw F H (δ ρ) Q
def tDA (K:PySem.W.Frag) (Xw:Nat→Hp→Prop) (δ:DA):TA:=fun σ H Q=>∃F ρ,StE K F H σ ρ∧WPL K Xw F H (δ ρ) Q
def PD (X:Cx) (Xw:Nat→Hp→Prop) (e:Expr) (δ:DE):Prop:=PE X e (tD X.K Xw δ)
def PDT (X:Cx) (Xw:Nat→Hp→Prop) (e:Expr) (δ:DT):Prop:=PT X e (tDT X.K Xw δ)
def PDA (X:Cx) (Xw:Nat→Hp→Prop) (es:List Expr) (δ:DA):Prop:=PA X es (tDA X.K Xw δ)
theorem PE.weak {X:Cx}{e:Expr}{t t':TE}(h:PE X e t) (k:∀σ H Q,t' σ H Q→t σ H Q):PE X e t':=fun pins s σ H Q I w=>h pins s σ H Q I (k σ H Q w)
theorem PT.weak {X:Cx}{e:Expr}{t t':TT}(h:PT X e t) (k:∀σ H Q,t' σ H Q→t σ H Q):PT X e t':=fun pins s σ H Q I w=>h pins s σ H Q I (k σ H Q w)
theorem PA.weak {X:Cx}{e:List Expr}{t t':TA}(h:PA X e t) (k:∀σ H Q,t' σ H Q→t σ H Q):PA X e t':=fun pos pins s σ H Q I w=>h pos pins s σ H Q I (k σ H Q w)
def dV (i:Nat):DE:=fun ρ=>match ρ[i]? with
 |some (some (.fz d))=>M.ret d
 |_=>M.stuck
def dC (d:D):DE:=fun _=>M.ret d
def d1 (g:D→M D) (a:DE):DE:=fun ρ=>a ρ>>=g
def d2 (g:D→D→M D) (a b:DE):DE:=fun ρ=>a ρ>>=fun x=>b ρ>>=fun y=>g x y
def aN:DA:=fun _=>M.ret []
def aC (a:DE) (r:DA):DA:=fun ρ=>a ρ>>=fun x=>r ρ>>=fun xs=>M.ret (x::xs)
def dA (g:List D→M D) (a:DA):DE:=fun ρ=>a ρ>>=g
def blM:D→M Bool
 | .bl b=>M.ret b
 |_=>M.stuck
def tB' (a:DE):DT:=fun ρ=>a ρ>>=blM
def jH (a b:DT):DT:=fun ρ=>a ρ>>=fun x=>if x then b ρ else M.ret false
def dOr (a b:DT):DT:=fun ρ=>a ρ>>=fun x=>if x then M.ret true else b ρ
def cz (a:DT):DT:=fun ρ=>a ρ>>=fun x=>M.ret (!x)
def dI (a b:DE):DE:=fun ρ=>a ρ>>=fun x=>blM x>>=fun c=>if c then b ρ else M.ret (.bl false)
def A8 (a:DE):DE:=fun ρ=>a ρ>>=fun x=>blM x>>=fun c=>M.ret (.bl (!c))
section
variable {X : Cx} {Xw : Nat → Hp → Prop} {a b : Expr} {δa δb : DE} {pos : Pos}
theorem ae {i:Nat}{x:Str}(h:PE X (.Name x pos) (m9 i)):PD X Xw (.Name x pos) (dV i):=PE.weak h fun σ H Q ⟨F,ρ,s,w⟩=>by
 unfold dV at w
 split at w
 ·rename_i d e
  obtain⟨v,h1,h2⟩:=s.den i _ e
  exact⟨v,h1,WP.now w s.fh h2⟩
 ·exact w.elim
theorem gn {e:Expr}{d:D}{v:V}(h:PE X e (tC v)) (hd:∀F,Den X.K F d v):PD X Xw e (dC d):=PE.weak h fun σ H Q ⟨F,ρ,s,w⟩=>WP.now w s.fh (hd F)
theorem aj {i j}:PD X Xw (.Constant (.int i) j pos) (dC (.int i)):=gn BW fun _=>rfl
theorem dY {i j}:PD X Xw (.Constant (.bool i) j pos) (dC (.bl i)):=gn Dv fun _=>rfl
theorem uu {j}:PD X Xw (.Constant .none j pos) (dC .non):=gn BC fun _=>rfl
theorem er {x j} (h:x.length≤lim:=by decide):PD X Xw (.Constant (.str x) j pos) (dC (.str x)):=gn Cw fun _=>⟨rfl,h⟩
def OpD (K:PySem.W.Frag) (r:R2) (g:D→D→M D):Prop:=∀(Xw:Nat→Hp→Prop) (F H:Hp) (x y:V) (dx dy:D) (Q:VK),Same F H→Den K F dx x→Den K F dy y→WP K Xw F H (g dx dy) Q→r x y H Q
theorem qe {r:R2}{g:D→D→M D}(hg:OpD X.K r g):∀σ H Q,tD X.K Xw (d2 g δa δb) σ H Q→tOp r (tD X.K Xw δa) (tD X.K Xw δb) σ H Q:=fun σ H Q ⟨F,ρ,s,w⟩=>by
 refine⟨F,ρ,s,WP.mono (WP.bind w) fun v H1 ⟨F1,d,e1,q1,w1⟩=>?_⟩
 refine⟨F1,ρ,s.ext e1,WP.mono (WP.bind w1) fun u H2 ⟨F2,d',e2,q2,w2⟩=>?_⟩
 exact hg Xw F2 H2 v u d d' Q e2.fh (Den.mono e2.ff q1) q2 w2
theorem kr {op:Operator}{r:R2}{g:D→D→M D}(ho:OpR X (binaryOp op) r) (hg:OpD X.K r g) (ha:PD X Xw a δa) (hb:PD X Xw b δb):PD X Xw (.BinOp a op b pos) (d2 g δa δb):=
 PE.weak (Dg ho ha hb) (qe hg)
theorem yG {op:CmpOp}{r:R2}{g:D→D→M D}(ho:OpR X (compareOp op) r) (hg:OpD X.K r g) (ha:PD X Xw a δa) (hb:PD X Xw b δb) (hm:behindInMarks op b=false:=by first | exact yZ _ | rfl):PD X Xw (.Compare a [op] [b] pos) (d2 g δa δb):=
 PE.weak (Ao ho ha hb hm) (qe hg)
theorem gw {op:CmpOp}{r:R2}{g:D→D→M D}(ho:OpR X (compareOp op) r) (hg:OpD X.K r g) (ha:PD X Xw a δa) (hb:PD X Xw b δb) (hm:behindInMarks op b=false:=by first | exact yZ _ | rfl):PDT X Xw (.Compare a [op] [b] pos) (tB' (d2 g δa δb)):=
 PT.weak (zT ho ha hb hm) fun σ H Q ⟨F,ρ,s,w⟩=>by
  refine qe hg σ H _ ⟨F,ρ,s,WP.mono (WPB.bind w) fun v H1 ⟨F1,d,e1,q1,w1⟩=>?_⟩
  cases d with
  |bl k=>exact⟨k,q1,w1 _ _ (Ext.refl e1.fh)⟩
  |_=>exact w1.elim
theorem vy {r:R2}{g:D→D→M D}(hr:IxR X r) (hg:OpD X.K r g) (ha:PD X Xw a δa) (hb:PD X Xw b δb) (hs:gN b:=by intro _ _;rfl):PD X Xw (.Subscript a b pos) (d2 g δa δb):=
 PE.weak (Bf hr ha hb hs) (qe hg)
theorem af:PDA X Xw [] aN:=PA.weak me fun σ H Q ⟨F,ρ,s,w⟩=>w [] H F (Ext.refl s.fh) rfl
theorem aa {es:List Expr}{δs:DA}(ha:PD X Xw a δa) (hr:PDA X Xw es δs) (hs:starEach (a::es) X.env=(false,eval a X.env)::starEach es X.env:=by rfl):PDA X Xw (a::es) (aC δa δs):=
 PA.weak (iB ha hr hs) fun σ H Q ⟨F,ρ,s,w⟩=>by
  refine⟨F,ρ,s,WP.mono (WPL.bind w) fun v H1 ⟨F1,d,e1,q1,w1⟩=>?_⟩
  refine⟨F1,ρ,s.ext e1,WPL.mono (WPL.bindL w1) fun vs H2 ⟨F2,ds,e2,q2,w2⟩=>?_⟩
  exact w2 _ _ _ (Ext.refl e2.fh) (.cons (Den.mono e2.ff q1) q2)
def aU (ds:List D):M D:=if ds.length≤lim then M.ret (.tup ds) else M.stuck
def bD (ds:List D):M D:=if ds.length≤lim then M.ret (.lst ds) else M.stuck
theorem uO {ds:List D}{f:List D→D}{Q:VK}{F H:Hp}(w:WP X.K Xw F H (if ds.length≤lim then M.ret (f ds) else M.stuck) Q):ds.length≤lim∧WP X.K Xw F H (M.ret (f ds)) Q:=by
 split at w
 ·rename_i h;exact⟨h,w⟩
 ·exact w.elim
theorem bP {x1} {es:List Expr}{δs:DA}(h:PDA X Xw es δs):PD X Xw (.Tuple es x1 pos) (dA aU δs):=PE.weak (CI h) fun σ H Q ⟨F,ρ,s,w⟩=>by
 refine⟨F,ρ,s,WPL.mono (WP.bindL w) fun vs H1 ⟨F1,ds,e1,q1,w1⟩=>?_⟩
 obtain⟨hl,w1⟩:=uO (X:=X) w1
 have hv:=q1.len
 refine⟨by have:=dD;omega,fun p hp=>WP.fin w1 (Ext.lay e1.fh hp) ⟨p,vs,rfl,aF,DenL.mono (Ext.lay e1.fh hp).ff q1,hl⟩⟩
theorem dz {es:List Expr}{δs:DA}(h:PDA X Xw es δs):PD X Xw (.List es pos) (dA bD δs):=PE.weak (uP h) fun σ H Q ⟨F,ρ,s,w⟩=>by
 refine⟨F,ρ,s,WPL.mono (WP.bindL w) fun vs H1 ⟨F1,ds,e1,q1,w1⟩=>?_⟩
 obtain⟨hl,w1⟩:=uO (X:=X) w1
 have hv:=q1.len
 refine⟨by have:=dD;omega,fun p hp=>WP.fin w1 (Ext.lay e1.fh hp) ⟨p,vs,rfl,aF,DenL.mono (Ext.lay e1.fh hp).ff q1,hl⟩⟩
end
end L3
namespace L3
open PySem PySem.Spec L2
open PyProof.Rows hiding St
def ItD (K:PySem.W.Frag) (F:Hp) (J:It) (ds:List D):Prop:=∀(F' H':Hp) (i:Nat),Same F F'→Same F' H'→
 (∀d,ds[i]? =some d→J.go i H'∧∀x H'',J.yld i H' x H''→∃F'',Ext F' H' F'' H''∧Den K F'' d x)∧(ds.length≤i→J.stop i H')
theorem ItD.mono {K:PySem.W.Frag}{F F1:Hp}{J:It}{ds:List D}(h:ItD K F J ds) (e:Same F F1):ItD K F1 J ds:=fun F' H' i s1 s2=>h F' H' i (e.trans s1) s2
def WPI (K:PySem.W.Frag) (Xw:Nat→Hp→Prop) (F H:Hp) (m:M (List D)) (R:It→Hp→Prop):Prop:=
 match m with
 |none=>False
 |some (.ok ds)=>∀J H' F',Ext F H F' H'→ItD K F' J ds→R J H'
 |some (.ex n)=>∀F' H',Ext F H F' H'→Xw n H'
def tDI (K:PySem.W.Frag) (Xw:Nat→Hp→Prop) (δ:DA):TI:=fun σ H R=>∃F ρ,StE K F H σ ρ∧WPI K Xw F H (δ ρ) R
def PDI (X:Cx) (Xw:Nat→Hp→Prop) (tg iter:Expr) (δ:DA):Prop:=PI X tg iter (tDI X.K Xw δ)
theorem PI.weak {X:Cx}{tg e:Expr}{t t':TI}(h:PI X tg e t) (k:∀σ H Q,t' σ H Q→t σ H Q):PI X tg e t':=fun pins s σ H Q I w=>h pins s σ H Q I (k σ H Q w)
theorem WPI.bind {K:PySem.W.Frag}{Xw:Nat→Hp→Prop}{F H:Hp}{m:M D}{k:D→M (List D)}{R:It→Hp→Prop}(h:WPI K Xw F H (m>>=k) R):
 WP K Xw F H m fun v H1=>∃F1 d,Ext F H F1 H1∧Den K F1 d v∧WPI K Xw F1 H1 (k d) R:=by
 match m,h with
 |none,h=>exact h
 |some (.ok d),h=>
  refine fun v H2 F2 e2 q=>⟨F2,d,e2,q,?_⟩
  have h:WPI K Xw F H (k d) R:=h
  show WPI K Xw F2 H2 (k d) R
  match k d,h with
  |none,h=>exact h
  |some (.ok ds),h=>exact fun J H3 F3 e3 q3=>h J H3 F3 (e2.trans e3) q3
  |some (.ex n),h=>exact fun F3 H3 e3=>h F3 H3 (e2.trans e3)
 |some (.ex n),h=>exact h
theorem WPI.bindL {K:PySem.W.Frag}{Xw:Nat→Hp→Prop}{F H:Hp}{m:M (List D)}{k:List D→M (List D)}{R:It→Hp→Prop}(h:WPI K Xw F H (m>>=k) R):
 WPL K Xw F H m fun v H1=>∃F1 d,Ext F H F1 H1∧DenL K F1 d v∧WPI K Xw F1 H1 (k d) R:=by
 match m,h with
 |none,h=>exact h
 |some (.ok d),h=>
  refine fun v H2 F2 e2 q=>⟨F2,d,e2,q,?_⟩
  have h:WPI K Xw F H (k d) R:=h
  show WPI K Xw F2 H2 (k d) R
  match k d,h with
  |none,h=>exact h
  |some (.ok ds),h=>exact fun J H3 F3 e3 q3=>h J H3 F3 (e2.trans e3) q3
  |some (.ex n),h=>exact fun F3 H3 e3=>h F3 H3 (e2.trans e3)
 |some (.ex n),h=>exact h
def lstM:D→M (List D)
 | .lst ds=>M.ret ds
 |_=>M.stuck
def Ed:D→M (List D)
 | .tup ds=>M.ret ds
 |_=>M.stuck
def cW (a:DE):DA:=fun ρ=>a ρ>>=lstM
def nq (a:DE):DA:=fun ρ=>a ρ>>=Ed
theorem yH {K:PySem.W.Frag}{F:Hp}{a:Addr}{vs:List V}{ds:List D}(h:SqL K F a vs) (hd:DenL K F ds vs):ItD K F (Itl K a) ds:=fun F' H' i s1 s2=>by
 have hs:=Same.seq s2 (Same.seq s1 h)
 refine⟨fun d e=>?_,fun hl=>⟨vs,hs,by rw[←hd.len];exact hl⟩⟩
 obtain⟨v,e1,q⟩:=hd.get e
 refine⟨⟨vs,v,hs,e1⟩,fun x H'' y=>?_⟩
 obtain⟨e2,y⟩:=y
 subst e2
 have:=y vs hs
 rw[e1] at this
 cases this
 exact⟨F',Ext.refl s2,Den.mono s1 q⟩
theorem zJ {K:PySem.W.Frag}{F:Hp}{a:Addr}{vs:List V}{ds:List D}(h:SqT K F a vs) (hd:DenL K F ds vs):ItD K F (Itt K a) ds:=fun F' H' i s1 s2=>by
 have hs:=Same.tup s2 (Same.tup s1 h)
 refine⟨fun d e=>?_,fun hl=>⟨vs,hs,by rw[←hd.len];exact hl⟩⟩
 obtain⟨v,e1,q⟩:=hd.get e
 refine⟨⟨vs,v,hs,e1⟩,fun x H'' y=>?_⟩
 obtain⟨e2,y⟩:=y
 subst e2
 have:=y vs hs
 rw[e1] at this
 cases this
 exact⟨F',Ext.refl s2,Den.mono s1 q⟩
def gm (lo:Int) (n:Nat):List D:=(List.range n).map fun(i:Nat)=>D.int (lo+(i:Int))
theorem oC {K:PySem.W.Frag}{F:Hp}(lo:Int) (n:Nat):ItD K F (Itr lo n) (gm lo n):=fun F' H' i s1 s2=>by
 refine⟨fun d e=>?_,fun hl=>show n≤i by simpa[gm] using hl⟩
 unfold gm at e
 rw[List.getElem?_map] at e
 have hi:i<n:=by
  by_cases hi:i<n
  ·exact hi
  ·rw[List.getElem?_eq_none (by simpa using hi)] at e;cases e
 rw[List.getElem?_range hi] at e
 cases e
 refine⟨hi,fun x H'' y=>?_⟩
 obtain⟨e2,y⟩:=y
 subst e2 y
 exact⟨F',Ext.refl s2,rfl⟩
section
variable {X : Cx} {Xw : Nat → Hp → Prop} {tg l : Expr} {δ : DE} {pos : Pos}
theorem bK (h:PD X Xw l δ):PDI X Xw tg l (cW δ):=PI.weak (zX h) fun σ H R ⟨F,ρ,s,w⟩=>by
 refine⟨F,ρ,s,WP.mono (WPI.bind w) fun v H1 ⟨F1,d,e1,q1,w1⟩=>?_⟩
 cases d with
 |lst ds=>
  obtain⟨a,vs,h1,h2,h3,h4⟩:=q1
  exact⟨a,h1,⟨vs,Same.seq e1.fh (SqL.of h2)⟩,w1 _ _ _ (Ext.refl e1.fh) (yH (SqL.of h2) h3)⟩
 |_=>exact w1.elim
theorem jg (h:PD X Xw l δ):PDI X Xw tg l (nq δ):=PI.weak (Bo h) fun σ H R ⟨F,ρ,s,w⟩=>by
 refine⟨F,ρ,s,WP.mono (WPI.bind w) fun v H1 ⟨F1,d,e1,q1,w1⟩=>?_⟩
 cases d with
 |tup ds=>
  obtain⟨a,vs,h1,h2,h3,h4⟩:=q1
  exact⟨a,h1,⟨vs,Same.tup e1.fh (SqT.of h2)⟩,w1 _ _ _ (Ext.refl e1.fh) (zJ (SqT.of h2) h3)⟩
 |_=>exact w1.elim
def eR:List D→M (List D)
 |[.int j]=>if -4096≤j∧j≤4096 then M.ret (gm 0 j.toNat) else M.stuck
 |_=>M.stuck
def oE:List D→M (List D)
 |[.int i, .int j]=>if (-4096≤i∧i≤4096)∧(-4096≤j∧j≤4096) then M.ret (gm i (j - i).toNat) else M.stuck
 |_=>M.stuck
theorem DenL.one {K:PySem.W.Frag}{F:Hp}{d:D}{vs:List V}(h:DenL K F [d] vs):∃v,vs=[v]∧Den K F d v:=by
 obtain⟨v,r,h1,h2,h3⟩:=h
 cases (show r=[] from h3)
 exact⟨v,h1,h2⟩
theorem DenL.two {K:PySem.W.Frag}{F:Hp}{d d':D}{vs:List V}(h:DenL K F [d,d'] vs):∃v v',vs=[v,v']∧Den K F d v∧Den K F d' v':=by
 obtain⟨v,r,h1,h2,h3⟩:=h
 obtain⟨v',h4,h5⟩:=h3.one
 subst h4
 exact⟨v,v',h1,h2,h5⟩
theorem ck {a:Expr}{δs:DA}{p:Pos}(hg:Gl X "range") (hm:X.mg "range"=none) (ha:PDA X Xw [a] δs) (hs:starEach [a] X.env=[(false,eval a X.env)]:=by rfl):PDI X Xw tg (.Call (.Name "range" p) [a] [] pos) (fun ρ=>δs ρ>>=eR):=
 PI.weak (wY hg hm ha hs) fun σ H R ⟨F,ρ,s,w⟩=>by
  refine⟨F,ρ,s,WPL.mono (WPI.bindL w) fun vs H1 ⟨F1,ds,e1,q1,w1⟩=>?_⟩
  unfold eR at w1
  split at w1
  ·rename_i j
   obtain⟨v,h1,h2⟩:=q1.one
   cases (show v=_ from h2)
   split at w1
   ·exact⟨j,h1,by omega,by omega,w1 _ _ _ (Ext.refl e1.fh) (oC 0 _)⟩
   ·exact w1.elim
  ·exact w1.elim
theorem lT {a b:Expr}{δs:DA}{p:Pos}(hg:Gl X "range") (hm:X.mg "range"=none) (ha:PDA X Xw [a,b] δs) (hs:starEach [a,b] X.env=[(false,eval a X.env),(false,eval b X.env)]:=by rfl)
 (hs2:starEach [b] X.env=[(false,eval b X.env)]:=by rfl):PDI X Xw tg (.Call (.Name "range" p) [a,b] [] pos) (fun ρ=>δs ρ>>=oE):=
 PI.weak (wz hg hm ha hs hs2) fun σ H R ⟨F,ρ,s,w⟩=>by
  refine⟨F,ρ,s,WPL.mono (WPI.bindL w) fun vs H1 ⟨F1,ds,e1,q1,w1⟩=>?_⟩
  unfold oE at w1
  split at w1
  ·rename_i i j
   obtain⟨v,v',h1,h2,h3⟩:=q1.two
   cases (show v=_ from h2)
   cases (show v'=_ from h3)
   split at w1
   ·exact⟨i,j,h1,⟨by omega,by omega,by omega,by omega⟩,w1 _ _ _ (Ext.refl e1.fh) (oC i _)⟩
   ·exact w1.elim
  ·exact w1.elim
end
def cM (tg N:List Str):List Str:=N.map fun y=>if tg.contains y then y++(" ":Str) else y
def iR (X:Cx) (scope:Scope) (tn:List Str) (pins:List (Addr×Obj)) (cl:List (Str×Addr)) (C:Addr) (fp:List Addr) (s₂:Shared) (H:Hp):Cx:=
 {X with N:=tn++cM tn X.N,s₀:=s₂,H₀:=H,env:=compEnvC scope cl C X.env,outer:=X.stack,ex:=fp,fn:=fun _=>false,pn:=X.pn++pins,xe:=fun _ _=>False}
structure CompSc (X:Cx) (scope:Scope) (tn:List Str):Prop where
 kind:scope.kind= .function
 nocell:∀y∈scope.names,y.2≠ .cell
 names:∀y∈scope.names,y.2= .local→scope.names.lookup y.1=some .local
 frees:∀y∈scope.names,y.2= .free→X.env.kindOf y.1=some .cell∨X.env.kindOf y.1=some .free
 vis:∀p∈(cM tn X.N).zip X.N,scope.names.lookup p.1=none∨(p.1=p.2∧scope.names.lookup p.1=some .free)
theorem iZ {env:Env}:∀(names:List (Str×NameKind)) (acc:List (Str×Addr)),(∀y∈names,y.2= .free→∃c,env.cells.lookup y.1=some c)→
 (∀x c,acc.lookup x=some c→env.cells.lookup x=some c)→
 ∃cl,(forIn names acc (fun (x:Str×NameKind) (r:List (Str×Addr))=>do
   let __x:=x
   if (__x.2==NameKind.free)=true then do let c←cellOf env __x.1;pure (ForInStep.yield ((__x.1,c)::r)) else pure (ForInStep.yield r)):Sem (List (Str×Addr)))=pure cl∧
  (∀x c,cl.lookup x=some c→env.cells.lookup x=some c)∧(∀x c,acc.lookup x=some c→∃c',cl.lookup x=some c')∧(∀x,names.lookup x=some .free→∃c,cl.lookup x=some c)
 |[],acc,_,h2=>⟨acc,rfl,h2,fun x c e=>⟨c,e⟩,fun x e=>by simp at e⟩
 |(n,k)::r,acc,h1,h2=>by
  by_cases hk:k= .free
  ·subst hk
   obtain⟨c,hc⟩:=h1 (n, .free) List.mem_cons_self rfl
   obtain⟨cl,e,a1,a2,a3⟩:=iZ r ((n,c)::acc) (fun y hy=>h1 y (List.mem_cons_of_mem _ hy)) (fun x c' q=>by
    rw[List.lookup_cons] at q
    split at q
    ·rename_i hx
     cases q
     rw[show x=n from by simpa using hx];exact hc
    ·exact h2 x c' q)
   refine⟨cl,?_,a1,fun x c' q=>?_,fun x q=>?_⟩
   ·rw[List.forIn_cons]
    have:cellOf env n=pure c:=by unfold cellOf;rw[hc]
    simp only[beq_self_eq_true,if_true,this,pure_bind]
    exact e
   ·by_cases hx:x=n
    ·subst hx
     exact a2 x c (by simp[List.lookup_cons])
    ·exact a2 x c' (by rw[List.lookup_cons,show (x==n)=false from by simpa using hx];exact q)
   ·rw[List.lookup_cons] at q
    split at q
    ·rename_i hx
     exact a2 x c (by rw[List.lookup_cons,hx])
    ·exact a3 x q
  ·obtain⟨cl,e,a1,a2,a3⟩:=iZ r acc (fun y hy=>h1 y (List.mem_cons_of_mem _ hy)) h2
   refine⟨cl,?_,a1,a2,fun x q=>?_⟩
   ·rw[List.forIn_cons]
    have:((k==NameKind.free)=true)=False:=by simpa using hk
    simp only[this,if_false,pure_bind]
    exact e
   ·rw[List.lookup_cons] at q
    split at q
    ·cases q;exact absurd rfl hk
    ·exact a3 x q
theorem mT {scope:Scope}{env:Env}(h:∀y∈scope.names,y.2= .free→∃c,env.cells.lookup y.1=some c):
 ∃cl,closureFor scope env=pure cl∧(∀x c,cl.lookup x=some c→env.cells.lookup x=some c)∧(∀x,scope.names.lookup x=some .free→∃c,cl.lookup x=some c):=by
 obtain⟨cl,e,a1,_,a3⟩:=iZ (env:=env) scope.names [] h (fun x c q=>by simp at q)
 refine⟨cl,?_,a1,a3⟩
 unfold closureFor
 show (forIn scope.names [] _>>=fun r=>pure r)=_
 rw[bind_pure]
 exact e
end L3
namespace L3
open PySem PySem.Spec L2
open PyProof.Rows hiding St
def noex {α:Type}:M α→M α
 |some (.ok a)=>some (.ok a)
 |_=>none
def dF (f:D→M (Option D)):List D→M (List D)
 |[]=>M.ret []
 |d::ds=>f d>>=fun o=>dF f ds>>=fun r=>M.ret (match o with | some y=>y::r | none=>r)
def tgM (n:Nat):D→M (List D):=fun d=>match n,d with
 |0,d=>M.ret [d]
 |n, .tup ds=>if ds.length=n then M.ret ds else M.stuck
 |_,_=>M.stuck
def f9 (n:Nat) (δt:DT) (δe:DE) (ρ:Rho):D→M (Option D):=fun d=>
 tgM n d>>=fun ts=>δt (ts.map (fun t=>some (Sl.fz t))++ρ)>>=fun b=>if b then δe (ts.map (fun t=>some (Sl.fz t))++ρ)>>=fun y=>M.ret (some y) else M.ret none
def br (n:Nat) (δi:DA) (δt:DT) (δe:DE):DE:=fun ρ=>δi ρ>>=fun ds=>noex (dF (f9 n δt δe ρ) ds)>>=bD
def cb:DT:=fun _=>M.ret true
theorem fK (f:D→M (Option D)) (d:D) (ds:List D):dF f (d::ds)=(f d>>=fun o=>dF f ds>>=fun r=>M.ret (match o with | some y=>y::r | none=>r)):=rfl
theorem tW {f:D→M (Option D)}{ds:List D}{i:Nat}{d:D}{ys R:List D}(hd:ds[i]? =some d)
 (h:dF f ds=(dF f (ds.drop i)>>=fun r=>M.ret (ys++r))) (hR:dF f ds=M.ret R):
 ∃o,f d=M.ret o∧dF f ds=(dF f (ds.drop (i+1))>>=fun r=>M.ret ((match o with | some y=>ys++[y] | none=>ys)++r)):=by
 have e:ds.drop i=d::ds.drop (i+1):=by
  obtain⟨hi,e⟩:=List.getElem?_eq_some_iff.mp hd
  rw[List.drop_eq_getElem_cons hi,e]
 rw[e,fK] at h
 have h':=h.symm.trans hR
 obtain⟨r,h1,h2⟩:=gE h'
 obtain⟨o,h3,h4⟩:=gE h1
 refine⟨o,h3,?_⟩
 obtain⟨r',h5,h6⟩:=gE h4
 rw[h5,hR]
 rw[←h2,←fS h6]
 show M.ret _=M.ret _
 cases o with
 |none=>rfl
 |some y=>simp
theorem rD {P:Program}{w:World}{H:Hp}{h1 h2:Heap}{a:Addr}(x:HOk P w H h1) (s:Heap.SameBut a h1 h2) (n:H a=none):HOk P w H h2:=fun b o e=>by
 refine(x b o e).stay (fun c v hc q=>(s.2 c ?_).trans q) (fun _ q=>q) fun _ _ q=>q
 rintro rfl
 rcases hc with rfl | hc
 ·rw[n] at e;cases e
 ·rw[n] at hc;cases hc
theorem xa {prog:Program}{w:World}{A:Around}{R:Result→Shared→Prop}{s:Shared}{elt target iter:Expr}{ifs:List Expr}{scope:Scope}{pos:Pos}{it acc:Value}{env:Env}(I:Nat→Shared→Prop)
 (turn:∀n s,I n s→wpAny (model prog w) A (pyNext it) (fun r s₁=>match r with
  |none=>R (.ok .next) s₁
  |some v=>wpAny (model prog w) A (letOwnedTupleGo target it v) (fun _ s₁'=>wpAny (model prog w) A (assign target env v) (fun _ s₂=>
    wpAny (model prog w) A (forIn ifs true fun c r=>if r=true then do let ok←isTrue c env (eval c env);pure (ForInStep.yield ok) else pure (ForInStep.yield r)) (fun ok s₃=>
     if ok=true then wpAny (model prog w) A (eval elt env) (fun x s₄=>
      wpAny (model prog w) A (call (.builtin "list.append") [acc,x]) (fun _ s₅=>∃m,m<n∧I m s₅) (notedBy (model prog w) A env fun e s'=>R (.error e) s') s₄) (notedBy (model prog w) A env fun e s'=>R (.error e) s') s₃
     else∃m,m<n∧I m s₃) (notedBy (model prog w) A env fun e s'=>R (.error e) s') s₂) (notedBy (model prog w) A env fun e s'=>R (.error e) s') s₁') (notedBy (model prog w) A env fun e s'=>R (.error e) s') s₁) (notedBy (model prog w) A env fun e s'=>R (.error e) s') s)
 (n:Nat) (h:I n s):
 codeAny (model prog w) A (.compLoop (.ListComp elt [⟨target,iter,ifs,0⟩] scope pos) 0 it acc env) R s:=by
 refine codeAny_loop rfl I (fun n s hI=>?_) n h
 show wpAny _ A ((compTurn (.ListComp elt [⟨target,iter,ifs,0⟩] scope pos) 0 it acc env).onRaise (fun x=>do noteFrame x env;theTreesLotGoes x)) _ _ s
 refine wpAny_noted ?_
 rw[compTurn_list]
 refine wpAny_bind (wpAny_standAt (wpAny_bind (wpAny_mono (turn n s hI) (fun r s₁ h₁=>?_) fun _ _ h'=>h')))
 cases r with
 |none=>exact wpAny_pure h₁
 |some v=>
  refine wpAny_bind (wpAny_mono h₁ (fun _ s₁' h₁=>?_) fun _ _ h'=>h')
  refine wpAny_bind (wpAny_mono h₁ (fun _ s₂ h₂=>wpAny_bind (wpAny_mono h₂ (fun ok s₃ h₃=>?_) fun _ _ h'=>h')) fun _ _ h'=>h')
  cases ok with
  |false=>exact wpAny_pure ⟨rfl,h₃⟩
  |true=>
   exact wpAny_bind (wpAny_bind (wpAny_mono h₃ (fun x s₄ h₄=>wpAny_bind (wpAny_mono h₄ (fun _ s₅ h₅=>wpAny_pure (wpAny_pure ⟨rfl,h₅⟩)) fun _ _ h'=>h')) fun _ _ h'=>h'))
def zd (X:Cx) (tg:Expr) (n:Nat) (σ:St):Prop:=∀(pins:List (Addr×Obj)) (s:Shared) (σ':St) (F H:Hp) (d:D) (ts:List D) (v:V) (u:Value),Inv X pins σ' H s→Same F H→σ'.drop (max n 1)=σ→RelV v u→Den X.K F d v→tgM n d=M.ret ts→
 wpAny (model X.prog X.w) X.A (assign tg X.env u) (fun _ s'=>∃vs,Inv X pins (vs.map some++σ) H s'∧DenL X.K F ts vs) X.xe s
def jW (X:Cx) (ifs:List Expr) (δt:DT):Prop:=∀(pins:List (Addr×Obj)) (s:Shared) (σ:St) (H:Hp) (Q:Bool→Hp→Prop),Inv X pins σ H s→tDT X.K (fun _ _=>False) δt σ H Q→
 wpAny (model X.prog X.w) X.A (forIn ifs true fun c r=>if r=true then do let ok←isTrue c X.env (eval c X.env);pure (ForInStep.yield ok) else pure (ForInStep.yield r)) (TP X pins σ Q) X.xe s
theorem cR {X:Cx}:jW X [] cb:=fun pins s σ H Q I ⟨F,ρ,S,w⟩=>wpAny_tests_nil ⟨H,I,w H F (Ext.refl S.fh)⟩
theorem l_ {X:Cx}{c:Expr}{δ:DT}(h:PDT X (fun _ _=>False) c δ):jW X [c] δ:=fun pins s σ H Q I w=>wpAny_tests_one (h pins s σ H Q I w)
theorem StE.cons {K:PySem.W.Frag}{F H:Hp}{σ:St}{ρ:Rho}{ts:List D}{vs:List V}(s:StE K F H σ ρ) (h:DenL K F ts vs):StE K F H (vs.map some++σ) (ts.map (fun t=>some (Sl.fz t))++ρ):=by
 refine⟨s.fh,fun i sl e=>?_⟩
 have hl:=h.len
 by_cases hi:i<ts.length
 ·rw[List.getElem?_append_left (by simpa using hi),List.getElem?_map] at e
  cases q:ts[i]? with
  |none=>rw[q] at e;cases e
  |some t=>
   rw[q] at e
   cases e
   obtain⟨v,e1,e2⟩:=h.get q
   exact⟨v,by rw[List.getElem?_append_left (by simp;omega),List.getElem?_map,e1];rfl,e2⟩
 ·rw[List.getElem?_append_right (by simpa using hi)] at e
  obtain⟨v,e1,e2⟩:=s.den _ _ e
  refine⟨v,?_,e2⟩
  rw[List.getElem?_append_right (by simp;omega)]
  simpa[hl] using e1
theorem WPB.take {Xw:Nat→Hp→Prop}{F H:Hp}{b:Bool}:WPB Xw F H (M.ret b) fun b' H'=>b'=b∧∃F',Ext F H F' H':=fun H' F' e=>⟨rfl,F',e⟩
theorem WP.take {K:PySem.W.Frag}{Xw:Nat→Hp→Prop}{F H:Hp}{d:D}:WP K Xw F H (M.ret d) fun v H'=>∃F',Ext F H F' H'∧Den K F' d v:=fun v H' F' e q=>⟨F',e,q⟩
def j1 (env:Env) (p:Str×NameKind):Str×NameKind:=if (p.2== .free&&env.scope.kind== .function&&env.kindOf p.1==some .cell) then(p.1, .cell) else(p.1,p.2)
theorem fW (scope:Scope) (env:Env):(relabel scope env).names=scope.names.map (j1 env):=rfl
theorem xl (env:Env) (p:Str×NameKind):(j1 env p).1=p.1:=by unfold j1;split<;>rfl
theorem gH (env:Env) (x:Str):∀ns:List (Str×NameKind),(ns.map (j1 env)).lookup x=(ns.lookup x).map fun k=>(j1 env (x,k)).2
 |[]=>rfl
 |(m,k)::r=>by
  rw[List.map_cons,List.lookup_cons,List.lookup_cons]
  have e:j1 env (m,k)=(m,(j1 env (m,k)).2):=Prod.ext (xl env (m,k)) rfl
  rw[e]
  dsimp only
  by_cases hx:(x==m)=true
  ·have hm:x=m:=by simpa using hx
   subst hm
   rw[hx]
   rfl
  ·have hx:(x==m)=false:=by simpa using hx
   rw[hx]
   exact gH env x r
theorem qj {scope:Scope}{env:Env}{x:Str}(h:scope.names.lookup x=none):(relabel scope env).names.lookup x=none:=by
 rw[fW,gH,h];rfl
theorem qx {scope:Scope}{env:Env}{x:Str}(hc:∀y∈scope.names,y.2≠ .cell) (h:(relabel scope env).names.lookup x=some .cell∨(relabel scope env).names.lookup x=some .free):scope.names.lookup x=some .free:=by
 rw[fW,gH] at h
 cases q:scope.names.lookup x with
 |none=>rw[q] at h;rcases h with h | h<;>cases h
 |some k=>
  rw[q] at h
  have hk:k≠ .cell:=hc _ (PySem.mem_of_lookup q)
  have h:(j1 env (x,k)).2= .cell∨(j1 env (x,k)).2= .free:=by simpa using h
  by_cases hf:k= .free
  ·rw[hf]
  ·have:(j1 env (x,k)).2=k:=by
    unfold j1
    rw[if_neg]
    simp[hf]
   rw[this] at h
   rcases h with h | h
   ·exact absurd h hk
   ·exact absurd h hf
theorem j9 {scope:Scope}{env:Env}{x:Str}(h:scope.names.lookup x=some .free):¬(relabel scope env).names.lookup x=some .local:=by
 rw[fW,gH,h]
 intro z
 have z:(j1 env (x, .free)).2= .local:=by simpa using z
 unfold j1 at z
 split at z<;>cases z
structure BlockEnd (X:Cx) (pins:List (Addr×Obj)) (C:Addr) (H':Hp) (s1:Shared):Prop where
 ns:∃m,s1.heap.Ns C m
 free:H' C=none
 nl:C≠X.env.locals
 nw:X.s₀.heap.objs.size≤C
 nc:∀x c,X.env.cells.lookup x=some c→c≠C
 np:∀p∈X.pn++pins,p.1≠C
theorem sk {X:Cx}{Xw:Nat→Hp→Prop}{elt iter tg:Expr}{ifs:List Expr}{scope:Scope}{pos:Pos}{tn:List Str}{n:Nat}{δi:DA}{δt:DT}{δe:DE}{cl:List (Str×Addr)}{pins:List (Addr×Obj)}{s:Shared}{σ:St}{H F:Hp}{ρ:Rho}{Q:VK}{RR:Value→Addr→Result→Shared→Prop}
 (sc:CompSc X scope tn) (hn:tn.length=max n 1) (hc:X.calm=true) (hi:PDI X Xw tg iter δi)
 (hg:∀pins cl C fp s₂ H σ,zd (iR X scope tn pins cl C fp s₂ H) tg n σ)
 (ht:∀pins cl C fp s₂ H,jW (iR X scope tn pins cl C fp s₂ H) ifs δt)
 (he:∀pins cl C fp s₂ H,PD (iR X scope tn pins cl C fp s₂ H) (fun _ _=>False) elt δe)
 (I:Inv X pins σ H s) (S:StE X.K F H σ ρ) (w:WP X.K Xw F H (br n δi δt δe ρ) Q)
 (cl1:∀x c,cl.lookup x=some c→X.env.cells.lookup x=some c) (cl2:∀x,scope.names.lookup x=some .free→∃c,cl.lookup x=some c)
 (hRR:∀(s1:Shared) (C D:Addr) (H':Hp),Inv X pins σ H' s1→Q (.ref D) H'→BlockEnd X pins C H' s1→RR (.ref D) C (.ok .next) s1):
 wpAny (model X.prog X.w) X.A (eval iter X.env) (fun x s₁=>wpAny (model X.prog X.w) X.A (pyIter x) (fun it s₂=>wpAny (model X.prog X.w) X.A (newList []) (fun acc s₃=>
  wpAny (model X.prog X.w) X.A (newFunctionEnv scope X.env.globals cl [] X.env.qual none .none (some X.env)) (fun cenv s₄=>
   codeAny (model X.prog X.w) X.A (.compStart (.ListComp elt [⟨tg,iter,ifs,0⟩] scope pos) 0 it acc {cenv with scope:=relabel scope X.env}) (RR acc cenv.locals) s₄) X.xe s₃) X.xe s₂) X.xe s₁) X.xe s:=by
 refine thn (hi pins s σ H (fun J H2=>∃F2 ds,Ext F H F2 H2∧ItD X.K F2 J ds∧WP X.K Xw F2 H2 (noex (dF (f9 n δt δe ρ) ds)>>=bD) Q) I ⟨F,ρ,S,?_⟩) fun xv s₁ h₁=>thn h₁ fun it s₂ h₂=>?_
 ·unfold br at w
  rcases(δi ρ).cs with hq | ⟨m,hq⟩ | ⟨ds,hq⟩
  ·rw[hq] at w;exact w.elim
  ·rw[hq] at w⊢;exact w
  ·rw[hq] at w⊢;exact fun J H' F' e q=>⟨F',ds,e,q,WP.ext e w⟩
 obtain⟨ia,fp,tnn,J,H2,rfl,I2,T,st2,f2,F2,ds,e2,it2,w2⟩:=h₂
 obtain⟨R,hR,hRl,w2⟩:∃R,dF (f9 n δt δe ρ) ds=M.ret R∧R.length≤lim∧WP X.K Xw F2 H2 (M.ret (.lst R)) Q:=by
  rcases(dF (f9 n δt δe ρ) ds).cs with hq | ⟨m,hq⟩ | ⟨R,hq⟩
  ·rw[hq] at w2;exact w2.elim
  ·rw[hq] at w2;exact w2.elim
  ·rw[hq] at w2
   obtain⟨h1,h2⟩:=uO (X:=X) (f:=D.lst) (show WP X.K Xw F2 H2 (bD R) Q from w2)
   exact⟨R,hq,h1,h2⟩
 refine wpAny_newObj_type (wpAny_newFunctionEnv sc.nocell (by intro y hy;simp at hy) (fun h₁ hns₁ hsb₁=>?_) sc.kind)
 dsimp only at hns₁ hsb₁⊢
 generalize hHL:s₂.heap.push {cls:= .type "list",dict:=none,data:= .seq ([]:List Value).toArray}=HL at hns₁ hsb₁⊢
 have hC:HL.objs.size=s₂.heap.objs.size+1:=by rw[←hHL,Heap.size_push]
 have hDC:s₂.heap.objs.size<HL.objs.size:=by rw[hC];exact Nat.lt_succ_self _
 have old:∀b o,s₂.heap.get? b=some o→h₁.get? b=some o:=fun b o e=>hsb₁.extBut b o (Nat.ne_of_lt (Nat.lt_trans (Heap.lt_size e) hDC)) (Heap.get?_push_of_some _ (hHL▸Heap.get?_push_of_some _ e))
 have hacc:h₁.get? s₂.heap.objs.size=some {cls:= .type "list",data:= .seq ([]:List Value).toArray}:=hsb₁.extBut _ _ (Nat.ne_of_lt hDC) (Heap.get?_push_of_some _ (hHL▸Heap.get?_push_size _ rfl))
 have nD:H2 s₂.heap.objs.size=none:=I2.hok.fresh (Nat.le_refl _)
 have nC:H2 HL.objs.size=none:=I2.hok.fresh (Nat.le_of_lt hDC)
 have gC:s₂.heap.get? HL.objs.size=none:=Heap.get?_none_of_le (Nat.le_of_lt hDC)
 have fl:∀b∈fp,b<s₂.heap.objs.size:=fun b hb=>by
  obtain⟨o,e,_⟩:=T.obj 0 _ st2 b hb
  exact Heap.lt_size e
 generalize hX':iR X scope tn pins cl HL.objs.size fp s₂ H2=X'
 have ok':X'.Ok:=by
  subst hX'
  refine⟨I2.ok.mod,sc.kind,I2.ok.glob,I2.ok.blt,Nat.le_of_lt hDC,fun x y c h1 h2=>I2.ok.inj x y c (cl1 _ _ h1) (cl1 _ _ h2),fun x hx=>?_,fun _ _ h=>(by cases h),I2.ok.hd,I2.ok.frames, .inl rfl,
   fun b hb=>⟨Nat.ne_of_lt (Nat.lt_trans (fl b hb) hDC),fun x c h=>(f2 b hb).2.2.2.2.1 x c (cl1 _ _ h)⟩,I2.bs,Nat.le_trans I2.ok.bsz I2.sz,fun b o e hb=>?_,fun b hb z=>?_,I2.stack,I2.stkFree⟩
  ·have hx:(relabel scope X.env).names.lookup x=some .cell∨(relabel scope X.env).names.lookup x=some .free:=hx
   exact cl2 x (qx sc.nocell hx)
  ·rcases(f2 b hb).2.2.2.1 with z | z
   ·exact I2.ok.noex b o e z
   ·exact absurd (Nat.lt_of_lt_of_le (Heap.lt_size (I2.ok.bs b o e).1) z) (Nat.lt_irrefl _)
  ·rcases List.mem_cons.mp (I2.stkSub b z) with q | q
   ·exact(f2 b hb).2.1 q
   ·exact(f2 b hb).2.2.1 q
 have nD':∀b o,H2 b=some o→b≠s₂.heap.objs.size:=fun b o e=>bb e nD
 have fpok:∀{H':Hp},(∀b∈fp,H' b=none)→∀b∈fp,nY X' [] H' b:=fun hnn b hb=>by
  subst hX'
  refine⟨hnn b hb,Nat.ne_of_lt (Nat.lt_trans (fl b hb) hDC),fun z=>ok'.exfs b hb z, .inl hb,fun x c h=>(f2 b hb).2.2.2.2.1 x c (cl1 _ _ h),fun p hp=>?_⟩
  rw[List.append_nil] at hp
  exact(f2 b hb).2.2.2.2.2 p hp
 have I0:Inv X' [] (List.replicate (max n 1) none++σ) (upd H2 s₂.heap.objs.size (.lst [])) {s₂ with heap:=h₁,toks:=s₂.toks+([]:List (Str×Value)).length}:=by
  subst hX'
  have hokL:HOk X.prog X.w (upd H2 s₂.heap.objs.size (.lst [])) h₁:=I2.hok.laid old (Nat.le_refl _) ⟨Nat.zero_le _,[],_, .nil,hacc⟩
  refine⟨ok',rfl,I2.bare,Un.laid old (Nat.le_refl _) nD,⟨_,hns₁,fun i x v h1 h2 h3=>?_⟩,fun x c h=>?_,?_,fun x c h=>?_,fun p hp=>?_,hokL,?_⟩
  ·by_cases hi:i<max n 1
   ·rw[List.getElem?_append_left (by simpa using hi),List.getElem?_replicate,if_pos hi] at h2
    cases h2
   ·have hi':tn.length≤i:=by omega
    have h1:(tn++cM tn X.N)[i]? =some x:=h1
    rw[List.getElem?_append_right hi'] at h1
    rw[List.getElem?_append_right (by simpa using hi),List.length_replicate,←hn] at h2
    have hN:∃y,X.N[i - tn.length]? =some y∧(x,y)∈(cM tn X.N).zip X.N:=by
     have hlt:=(List.getElem?_eq_some_iff.mp h1).1
     have hlt':i - tn.length<X.N.length:=by simpa[cM] using hlt
     refine⟨X.N[i - tn.length],List.getElem?_eq_getElem hlt',?_⟩
     refine List.mem_iff_getElem?.mpr ⟨i - tn.length,?_⟩
     rw[List.getElem?_zip_eq_some]
     exact⟨h1,List.getElem?_eq_getElem hlt'⟩
    obtain⟨y,hy,hm⟩:=hN
    have hV:(relabel scope X.env).names.lookup x=some .local∨(relabel scope X.env).names.lookup x=some .cell∨(relabel scope X.env).names.lookup x=some .free:=h3
    rcases sc.vis _ hm with hno | ⟨hxy,hfr⟩
    ·have hno:scope.names.lookup x=none:=hno
     have:(relabel scope X.env).names.lookup x=none:=qj hno
     rw[this] at hV
     rcases hV with z | z | z<;>cases z
    ·have hxy:x=y:=hxy
     subst hxy
     have hfr:scope.names.lookup x=some .free:=hfr
     have hk:=sc.frees (x, .free) (PySem.mem_of_lookup hfr) rfl
     obtain⟨m,hm2,hl2⟩:=I2.loc
     obtain⟨u,ru,lk⟩:=hl2 _ x v hy h2 (by rcases hk with z | z;exact .inr (.inl z);exact .inr (.inr z))
     refine⟨u,ru, .inr ⟨?_,?_⟩⟩
     ·rcases hV with z | z | z
      ·exact absurd z (j9 hfr)
      ·exact .inl z
      ·exact .inr z
     ·rcases lk with⟨z,_⟩ | ⟨_,c,hc1,hc2⟩
      ·rcases hk with q | q
       ·rw[show X.env.kindOf x=some .local from z] at q;cases q
       ·rw[show X.env.kindOf x=some .local from z] at q;cases q
      ·obtain⟨c',hc'⟩:=cl2 x hfr
       have:=cl1 _ _ hc'
       rw[hc1] at this
       cases this
       obtain⟨o,ho,hd⟩:=hc2
       exact⟨c,hc',o,old _ _ ho,hd⟩
  ·obtain⟨v,o,ho,hd⟩:=I2.cell x c (cl1 _ _ h)
   exact⟨v,o,old _ _ ho,hd⟩
  ·show upd H2 s₂.heap.objs.size (.lst []) HL.objs.size=none
   rw[av (Nat.ne_of_gt hDC)]
   exact nC
  ·have hcl:=cl1 _ _ h
   obtain⟨v,q⟩:=I2.cell x c hcl
   rw[av (Nat.ne_of_lt q.lt)]
   exact I2.freeC x c hcl
  ·rw[List.append_nil] at hp
   obtain⟨e,nn,ne,nf,d⟩:=I2.pin p hp
   have hlt:=Heap.lt_size e
   refine⟨old _ _ e,by rw[av (Nat.ne_of_lt hlt)];exact nn,Nat.ne_of_lt (Nat.lt_trans hlt hDC),fun z=>?_,d⟩
   rcases List.mem_cons.mp (I2.stkSub p.1 z) with q | q
   ·exact ne q
   ·exact nf q
  ·show (List.replicate (max n 1) none++σ).length=(tn++cM tn X.N).length
   rw[List.length_append,List.length_append,List.length_replicate,hn,show (cM tn X.N).length=X.N.length from by simp[cM],I2.len]
 have loop:∀s₃:Shared,s₃={s₂ with heap:=h₁,toks:=s₂.toks+([]:List (Str×Value)).length}→
  codeAny (model X.prog X.w) X.A (.compLoop (.ListComp elt [⟨tg,iter,ifs,0⟩] scope pos) 0 (.ref ia) (.ref s₂.heap.objs.size) (compEnvC scope cl HL.objs.size X.env))
   (RR (.ref s₂.heap.objs.size) HL.objs.size) s₃:=by
  intro s₃ hs₃
  have env':X'.env=compEnvC scope cl HL.objs.size X.env:=by subst hX';rfl
  have hA:X'.A=X.A:=by subst hX';rfl
  have hP:X'.prog=X.prog:=by subst hX';rfl
  have hw:X'.w=X.w:=by subst hX';rfl
  have hK:X'.K=X.K:=by subst hX';rfl
  have hxe:X'.xe=fun _ _=>False:=by subst hX';rfl
  have hcalm:X'.calm=true:=by subst hX';exact hc
  have hfs:X'.fs=frs X.stack:=by subst hX';rfl
  have hex:X'.ex=fp:=by subst hX';rfl
  have hH₀:X'.H₀=H2:=by subst hX';rfl
  have hs₀:X'.s₀=s₂:=by subst hX';rfl
  have pass:∀{α:Type}{t:Sem α}{P:α→Shared→Prop}{E':Value→Shared→Prop}{s:Shared},wpAny (model X'.prog X'.w) X'.A t P X'.xe s→wpAny (model X.prog X.w) X.A t P E' s:=fun {α t P E' s} h=>by
   rw[hP,hw,hA,hxe] at h
   exact wpAny_mono h (fun _ _ q=>q) fun _ _ q=>q.elim
  refine xa (fun m s'=>∃(i:Nat) (F' H':Hp) (vs:List V) (ys:List D) (σt:St),m=ds.length - i∧i≤ds.length∧σt.length=max n 1∧Inv X' [] (σt++σ) H' s'∧tnn i s'.heap∧(∀b∈fp,H' b=none)∧Ext F2 H2 F' H'∧
   H' s₂.heap.objs.size=some (.lst vs)∧F' s₂.heap.objs.size=none∧DenL X.K F' ys vs∧dF (f9 n δt δe ρ) ds=(dF (f9 n δt δe ρ) (ds.drop i)>>=fun r=>M.ret (ys++r))) ?_ ds.length ?_
  ·rintro m s' ⟨i,F',H',vs,ys,σt,rfl,hile,hσt,I',st',fr',ex',hD,fD,hys,heq⟩
   by_cases hlt:i<ds.length
   ·
    obtain⟨d,hd⟩:∃d,ds[i]? =some d:=⟨_,List.getElem?_eq_getElem hlt⟩
    obtain⟨hgo,hyld⟩:=(it2 F' H' i ex'.ff ex'.fh).1 d hd
    obtain⟨o,ho,heq'⟩:=tW hd heq hR
    have hys_le:ys.length≤lim:=by
     rw[heq] at hR
     obtain⟨r,_,hr⟩:=gE hR
     rw[←fS hr,List.length_append] at hRl
     omega
    obtain⟨ts,hts,ho⟩:=gE ho
    refine pass ?_
    rw[hP,hw]
    refine thn (T.item X' hP hw hK hcalm i [] s' (σt++σ) H' X'.xe I' (fpok fr') st' hgo) ?_
    rintro r s1 ⟨u,rfl,h1⟩
    refine pass ?_
    rw[hP,hw]
    refine thn h1 ?_
    rintro _ s2 ⟨x,H3,I3,rx,y3,st3,fr3⟩
    obtain⟨F3,ex3,q3⟩:=hyld x H3 y3
    have hD3:H3 s₂.heap.objs.size=some (.lst vs):=ex3.hh _ _ hD
    have fD3:F3 s₂.heap.objs.size=none:=by rw[ex3.old hD (fun _ z=>nomatch z)];exact fD
    have I3':=I3.pinned (fpok fr3) (T.obj _ _ st3)
    have keepT:∀{σ7:St}{H7:Hp}{s7:Shared},Inv X' ([]++mf fp s2.heap) σ7 H7 s7→tnn (i+1) s7.heap∧∀b∈fp,H7 b=none:=fun {σ7 H7 s7} I7=>
     ⟨T.keep _ _ _ st3 fun b hb o e=>(I7.pin (b,o) (List.mem_append_right _ (List.mem_append_right _ (gP hb e)))).1,fun b hb=>by
      obtain⟨o,e,_⟩:=T.obj _ _ st3 b hb
      exact(I7.pin (b,o) (List.mem_append_right _ (List.mem_append_right _ (gP hb e)))).2.1⟩
    have hgX:zd X' tg n σ:=by subst hX';exact hg _ _ _ _ _ _ _
    have htX:jW X' ifs δt:=by subst hX';exact ht _ _ _ _ _ _
    have heX:PD X' (fun _ _=>False) elt δe:=by subst hX';exact he _ _ _ _ _ _
    refine pass ?_
    rw[←env']
    refine thn (hgX _ s2 (σt++σ) F3 H3 d ts x u I3' ex3.fh (by rw[←hσt];simp) rx (by rw[hK];exact q3) hts) ?_
    rintro _ s4 ⟨vt,I4,dt⟩
    rw[hK] at dt
    have S4:StE X.K F3 H3 (vt.map some++σ) (ts.map (fun t=>some (Sl.fz t))++ρ):=StE.cons ((S.ext e2).ext (ex'.trans ex3)) dt
    obtain⟨b,hb,ho⟩:=gE ho
    refine pass ?_
    try rw[←env']
    refine thn (htX _ s4 _ H3 (fun b' H5=>b'=b∧∃F5,Ext F3 H3 F5 H5) I4 ⟨F3,_,by rw[hK];exact S4,by rw[hb];exact WPB.take⟩) ?_
    rintro b' s5 ⟨H5,I5,rfl,F5,ex5⟩
    have hD5:H5 s₂.heap.objs.size=some (.lst vs):=ex5.hh _ _ hD3
    have fD5:F5 s₂.heap.objs.size=none:=by rw[ex5.old hD3 (fun _ z=>nomatch z)];exact fD3
    cases b' with
    |false=>
     rw[if_neg Bool.false_ne_true] at ho⊢
     obtain rfl:=fS ho
     refine⟨ds.length - (i+1),by omega,i+1,F5,H5,vs,ys,vt.map some,rfl,hlt,?_,I5.unpinned,(keepT I5).1,(keepT I5).2,ex'.trans (ex3.trans ex5),hD5,fD5,DenL.mono (ex3.trans ex5).ff hys,heq'⟩
     have h1:=I5.len
     have h2:=I3.len
     rw[List.length_append] at h1 h2
     omega
    |true=>
     rw[if_pos rfl] at ho⊢
     obtain⟨yv,hy,ho⟩:=gE ho
     obtain rfl:=fS ho
     refine pass ?_
     try rw[←env']
     refine thn (heX _ s5 _ H5 (fun v H6=>∃F6,Ext F5 H5 F6 H6∧Den X.K F6 yv v) I5 ⟨F5,_,by rw[hK];exact S4.ext ex5,by rw[hy,hK];exact WP.take⟩) ?_
     rintro xv s6 ⟨v,H6,I6,rv,F6,ex6,qv⟩
     have hD6:H6 s₂.heap.objs.size=some (.lst vs):=ex6.hh _ _ hD5
     have fD6:F6 s₂.heap.objs.size=none:=by rw[ex6.old hD5 (fun _ z=>nomatch z)];exact fD5
     have hvl:vs.length<sizeLine:=by
      have:=hys.len
      have:=dD
      omega
     refine pass ?_
     refine thn (oY _ s6 _ H6 (.ref s₂.heap.objs.size) [v] (.ref s₂.heap.objs.size) [xv] (fun _ H7=>H7=upd H6 s₂.heap.objs.size (.lst (vs++[v]))) I6 rfl (.cons rv .nil) ⟨_,vs,v,rfl,rfl,hD6,hvl,rfl⟩) ?_
     rintro _ s7 ⟨_,H7,I7,_,rfl⟩
     have ex7:Ext F2 H2 F6 (upd H6 s₂.heap.objs.size (.lst (vs++[v]))):=by
      have e:=ex'.trans (ex3.trans (ex5.trans ex6))
      refine⟨fun b u q=>?_,e.ff,fun b u q=>?_,e.new⟩
      ·rw[av (nD' b u q)];exact e.hh b u q
      ·rw[av (fun z=>by rw[z,fD6] at q;cases q)];exact e.fh b u q
     refine⟨ds.length - (i+1),by omega,i+1,F6,_,vs++[v],ys++[yv],vt.map some,rfl,hlt,?_,I7.unpinned,(keepT I7).1,(keepT I7).2,ex7,aF,fD6,
      DenL.append (DenL.mono (ex3.trans (ex5.trans ex6)).ff hys) (.cons qv .nil),heq'⟩
     have h1:=I5.len
     have h2:=I3.len
     rw[List.length_append] at h1 h2
     omega
   ·
    have hi:i=ds.length:=by omega
    subst hi
    rw[List.drop_length] at heq
    have hRy:R=ys:=by
     rw[heq] at hR
     have hR:M.ret (ys++[])=M.ret R:=hR
     rw[←fS hR,List.append_nil]
    subst hRy
    refine pass ?_
    rw[hP,hw]
    refine thn (T.done X' hP hw hK hcalm ds.length [] s' (σt++σ) H' X'.xe I' (fpok fr') st' ((it2 F' H' ds.length ex'.ff ex'.fh).2 (Nat.le_refl _))) ?_
    rintro r s1 ⟨rfl,I1⟩
    obtain⟨m,hm,_⟩:=I1.loc
    rw[env'] at hm
    have hCn:H' HL.objs.size=none:=by
     have:=I1.free
     rw[env'] at this
     exact this
    have u:=I1.base
    rw[hfs,hex,hH₀,hs₀] at u
    have hos:s1.os=s₂.os:=by have:=I1.os;rw[hs₀] at this;exact this
    have hhok:=I1.hok
    rw[hP,hw] at hhok
    refine hRR s1 HL.objs.size s₂.heap.objs.size H' (I2.call' (s':=s1) (ch:=fp) hos u hhok I1.bare (fun b hb=>⟨(f2 b hb).2.2.2.1,(f2 b hb).2.1,(f2 b hb).2.2.2.2.1,(f2 b hb).2.2.2.2.2⟩)) ?_
     ⟨⟨m,hm⟩,hCn,Nat.ne_of_gt (Nat.lt_trans I2.lt hDC),Nat.le_trans I2.sz (Nat.le_of_lt hDC),fun x c q z=>?_,fun p hp z=>?_⟩
    rotate_left
    ·obtain⟨v,q'⟩:=I2.cell x c q
     exact absurd (Nat.lt_trans q'.lt hDC) (by rw[z];exact Nat.lt_irrefl _)
    ·exact absurd (Nat.lt_trans (Heap.lt_size (I2.pin p hp).1) hDC) (by rw[z];exact Nat.lt_irrefl _)
    refine WP.fin w2 (F':=upd F' s₂.heap.objs.size (.lst vs)) ⟨ex'.hh,fun b u q=>?_,fun b u q=>?_,fun a ha=>?_⟩ ⟨_,vs,rfl,aF,DenL.mono (fun b u q=>?_) hys,hRl⟩
    ·rw[av (fun z=>by have:=ex'.ff b u q;rw[z,fD] at this;cases this)];exact ex'.ff b u q
    ·by_cases z:b=s₂.heap.objs.size
     ·rw[z,aF] at q;rw[z,hD];exact q
     ·rw[av z] at q;exact ex'.fh b u q
    ·rcases ex'.new a ha with q | q
     ·exact .inl (by rw[av (fun z=>ha (by rw[z];exact nD))];exact q)
     ·exact .inr q
    ·rw[av (fun z=>by rw[z,fD] at q;cases q)];exact q
  ·rw[hs₃]
   refine⟨0,F2,_,[],[],List.replicate (max n 1) none,by simp,Nat.zero_le _,by simp,I0,T.keep _ _ _ st2 (fun b hb o e=>old b o e),fun b hb=>?_,⟨fun b u q=>?_,Same.refl _,fun b u q=>?_,fun _ _=> .inl rfl⟩,aF,Same.free e2.fh nD,rfl,?_⟩
   ·rw[av (Nat.ne_of_lt (fl b hb))];exact(f2 b hb).1
   ·rw[av (nD' b u q)];exact q
   ·rw[av (nD' b u (e2.fh b u q))];exact e2.fh b u q
   ·rw[List.drop_zero]
    rcases(dF (f9 n δt δe ρ) ds).cs with hq | ⟨m,hq⟩ | ⟨R,hq⟩<;>rw[hq]<;>rfl
 exact codeAny_compStart_list (loop _ rfl) (T.self X.A 0 _ _ _ (T.keep _ _ _ st2 (fun b hb o e=>old b o e)) (loop _ rfl))
theorem Inv.block {X:Cx}{pins:List (Addr×Obj)}{σ:St}{H':Hp}{s1:Shared}{C:Addr}{h':Heap}(I:Inv X pins σ H' s1) (b:BlockEnd X pins C H' s1) (hsb:Heap.SameBut C s1.heap h'):Inv X pins σ H' {s1 with heap:=h'}:=
 I.turned (t':=s1.toks) (fun a o ha e=>(hsb.2 a ha).trans e) b.free b.nl (.inr b.nw) b.nc b.np
section
variable {X : Cx} {Xw : Nat → Hp → Prop} {elt iter tg : Expr} {ifs : List Expr} {scope : Scope} {pos : Pos} {tn : List Str} {n : Nat} {δi : DA} {δt : DT} {δe : DE}
theorem cV (sc:CompSc X scope tn) (hn:tn.length=max n 1) (hc:X.calm=true) (hi:PDI X Xw tg iter δi)
 (hg:∀pins cl C fp s₂ H σ,zd (iR X scope tn pins cl C fp s₂ H) tg n σ)
 (ht:∀pins cl C fp s₂ H,jW (iR X scope tn pins cl C fp s₂ H) ifs δt)
 (he:∀pins cl C fp s₂ H,PD (iR X scope tn pins cl C fp s₂ H) (fun _ _=>False) elt δe)
 (hs:∀x,foldedSetIterable iter X.env x=pure x:=by intro _;rfl):
 PD X Xw (.ListComp elt [⟨tg,iter,ifs,0⟩] scope pos) (br n δi δt δe):=by
 intro pins s σ H Q I ⟨F,ρ,S,w⟩
 obtain⟨cl,hclos,cl1,cl2⟩:=mT (scope:=scope) (env:=X.env) fun y hy hf=>I.ok.has y.1 (sc.frees y hy hf)
 rw[eval_ListComp]
 refine wpAny_comprehension_free (use:=none) rfl hs hclos sc.kind sc.names (sk (RR:=fun acc C=>compPost (model X.prog X.w) X.A X.xe none (EP X pins σ Q) acc C) sc hn hc hi hg ht he I S w cl1 cl2 fun s1 C D H' I1 q b=>?_)
 obtain⟨m,hm⟩:=b.ns
 exact⟨m,hm,fun h' hsb=>⟨.ref D,H',Inv.block I1 b hsb,rfl,q⟩⟩
end
end L3
namespace L3
open PySem PySem.Spec L2
open PyProof.Rows hiding St
inductive Out where
 |nx (ρ:Rho) | rt (d:D)
abbrev DS:=Rho→M Out
structure StOk (K:PySem.W.Frag) (F₀ H₀ F H:Hp) (σ:St) (ρ:Rho):Prop where
 ext:Ext F₀ H₀ F H
 st:StE K F H σ ρ
 len:ρ.length=σ.length
 own:∀(i:Nat) (c:C) (a:Addr),ρ[i]? =some (some (.ow c))→σ[i]? =some (some (.ref a))→H₀ a=none
 sep:∀(i j:Nat) (c c':C) (a:Addr),ρ[i]? =some (some (.ow c))→ρ[j]? =some (some (.ow c'))→σ[i]? =some (some (.ref a))→σ[j]? =some (some (.ref a))→i=j
def WPS (K:PySem.W.Frag) (Xw:Nat→Hp→Prop) (F₀ H₀:Hp) (m:M Out) (Dn:Ends):Prop:=
 match m with
 |none=>False
 |some (.ok (.nx ρ))=>∀σ F H,StOk K F₀ H₀ F H σ ρ→Dn.nx σ H
 |some (.ok (.rt d))=>∀v F H,Ext F₀ H₀ F H→Den K F d v→Dn.rt v H
 |some (.ex n)=>∀F H,Ext F₀ H₀ F H→Xw n H
def tS (K:PySem.W.Frag) (Xw:Nat→Hp→Prop) (F₀ H₀:Hp) (τ:DS):TS:=fun Dn σ H=>∃F ρ,StOk K F₀ H₀ F H σ ρ∧WPS K Xw F₀ H₀ (τ ρ) Dn
def PSD (X:Cx) (Xw:Nat→Hp→Prop) (st:Stmt) (τ:DS):Prop:=∀F₀ H₀,PS X st (tS X.K Xw F₀ H₀ τ)
def PSDs (X:Cx) (Xw:Nat→Hp→Prop) (st:List Stmt) (τ:DS):Prop:=∀F₀ H₀,PSs X st (tS X.K Xw F₀ H₀ τ)
theorem PS.weak {X:Cx}{st:Stmt}{t t':TS}(h:PS X st t) (k:∀D σ H,t' D σ H→t D σ H):PS X st t':=fun pins s σ H D I w=>h pins s σ H D I (k D σ H w)
theorem PSs.weak {X:Cx}{st:List Stmt}{t t':TS}(h:PSs X st t) (k:∀D σ H,t' D σ H→t D σ H):PSs X st t':=fun pins s σ H D I w=>h pins s σ H D I (k D σ H w)
section
variable {K : PySem.W.Frag} {Xw : Nat → Hp → Prop} {F₀ H₀ F H F' H' : Hp} {σ : St} {ρ : Rho}
theorem StOk.ext' (s:StOk K F₀ H₀ F H σ ρ) (e:Ext F H F' H'):StOk K F₀ H₀ F' H' σ ρ:=⟨s.ext.trans e,s.st.ext e,s.len,s.own,s.sep⟩
theorem StOk.set (s:StOk K F₀ H₀ F H σ ρ) {i:Nat}{d:D}{v:V}(h:Den K F d v):StOk K F₀ H₀ F H (σ.set i (some v)) (ρ.set i (some (.fz d))):=by
 have hl:=s.len
 have get:∀(j:Nat) (sl:Sl),(ρ.set i (some (.fz d)))[j]? =some (some sl)→(j=i∧i<ρ.length∧sl= .fz d)∨(j≠i∧ρ[j]? =some (some sl)):=fun j sl e=>by
  by_cases hj:j=i
  ·subst hj
   have hi:j<ρ.length:=by
    have:=(List.getElem?_eq_some_iff.mp e).1
    simpa using this
   rw[List.getElem?_set_self hi] at e
   cases e
   exact .inl ⟨rfl,hi,rfl⟩
  ·rw[List.getElem?_set_ne (Ne.symm hj)] at e
   exact .inr ⟨hj,e⟩
 refine⟨s.ext,⟨s.st.fh,fun j sl e=>?_⟩,by simp[hl],fun j c a e e'=>?_,fun j k c c' a e1 e2 e3 e4=>?_⟩
 ·rcases get j sl e with⟨rfl,hi,rfl⟩ | ⟨hj,e⟩
  ·exact⟨v,by rw[List.getElem?_set_self (by omega)],h⟩
  ·obtain⟨u,h1,h2⟩:=s.st.den j sl e
   exact⟨u,by rw[List.getElem?_set_ne (Ne.symm hj)];exact h1,h2⟩
 ·rcases get j _ e with⟨_,_,z⟩ | ⟨hj,e⟩
  ·cases z
  ·rw[List.getElem?_set_ne (Ne.symm hj)] at e'
   exact s.own j c a e e'
 ·rcases get j _ e1 with⟨_,_,z⟩ | ⟨hj,e1⟩
  ·cases z
  ·rcases get k _ e2 with⟨_,_,z⟩ | ⟨hk,e2⟩
   ·cases z
   ·rw[List.getElem?_set_ne (Ne.symm hj)] at e3
    rw[List.getElem?_set_ne (Ne.symm hk)] at e4
    exact s.sep j k c c' a e1 e2 e3 e4
theorem StOk.setNew (s:StOk K F₀ H₀ F H σ ρ) {i:Nat}{a:Addr}{o:HO}{c₀:C}(n:H a=none) (h:DenC K F c₀ o):
 StOk K F₀ H₀ F (upd H a o) (σ.set i (some (.ref a))) (ρ.set i (some (.ow c₀))):=by
 have hle:=s.len
 have e0:=Ext.free (o:=o) s.st.fh n
 have nF:F a=none:=Same.free s.st.fh n
 have get:∀(j:Nat) (sl:Sl),(ρ.set i (some (.ow c₀)))[j]? =some (some sl)→(j=i∧i<ρ.length∧sl= .ow c₀)∨(j≠i∧ρ[j]? =some (some sl)):=fun j sl e=>by
  by_cases hj:j=i
  ·subst hj
   have hi:j<ρ.length:=by
    have:=(List.getElem?_eq_some_iff.mp e).1
    simpa using this
   rw[List.getElem?_set_self hi] at e
   cases e
   exact .inl ⟨rfl,hi,rfl⟩
  ·rw[List.getElem?_set_ne (Ne.symm hj)] at e
   exact .inr ⟨hj,e⟩
 have old:∀(j:Nat) (c:C) (b:Addr),ρ[j]? =some (some (.ow c))→σ[j]? =some (some (.ref b))→b≠a:=fun j c b e e' z=>by
  obtain⟨u,h1,b',o,h2,h3,_⟩:=s.st.den j _ e
  rw[h1] at e'
  cases e'
  cases h2
  rw[z,n] at h3
  cases h3
 refine⟨s.ext.trans e0,⟨e0.fh,fun j sl e=>?_⟩,by simp[hle],fun j c b e e'=>?_,fun j k c c' b e1 e2 e3 e4=>?_⟩
 ·rcases get j sl e with⟨rfl,hi,rfl⟩ | ⟨hj,e⟩
  ·exact⟨.ref a,by rw[List.getElem?_set_self (by omega)],a,_,rfl,aF,nF,h⟩
  ·obtain⟨u,h1,h2⟩:=s.st.den j sl e
   exact⟨u,by rw[List.getElem?_set_ne (Ne.symm hj)];exact h1,h2.ext e0⟩
 ·rcases get j _ e with⟨rfl,hi,_⟩ | ⟨hj,e⟩
  ·rw[List.getElem?_set_self (by omega)] at e'
   cases e'
   exact Same.free s.ext.hh n
  ·rw[List.getElem?_set_ne (Ne.symm hj)] at e'
   exact s.own j c b e e'
 ·rcases get j _ e1 with⟨rfl,hi,_⟩ | ⟨hj,e1⟩
  ·rw[List.getElem?_set_self (by omega)] at e3
   cases e3
   rcases get k _ e2 with⟨rfl,_,_⟩ | ⟨hk,e2⟩
   ·rfl
   ·rw[List.getElem?_set_ne (Ne.symm hk)] at e4
    exact absurd rfl (old k c' a e2 e4)
  ·rcases get k _ e2 with⟨hki,hi,_⟩ | ⟨hk,e2⟩
   ·rw[hki,List.getElem?_set_self (by omega)] at e4
    cases e4
    rw[List.getElem?_set_ne (Ne.symm hj)] at e3
    exact absurd rfl (old j c a (by assumption) e3)
   ·rw[List.getElem?_set_ne (Ne.symm hj)] at e3
    rw[List.getElem?_set_ne (Ne.symm hk)] at e4
    exact s.sep j k c c' b e1 e2 e3 e4
theorem StOk.chg (s:StOk K F₀ H₀ F H σ ρ) {i:Nat}{a:Addr}{c c₀:C}{o₀:HO}(hi:ρ[i]? =some (some (.ow c))) (ha:σ[i]? =some (some (.ref a))) (h:DenC K F c₀ o₀):
 StOk K F₀ H₀ F (upd H a o₀) σ (ρ.set i (some (.ow c₀))):=by
 have hle:=s.len
 have h0:=s.own i c a hi ha
 obtain⟨u,q1,a',o,q2,q3,q4,q5⟩:=s.st.den i _ hi
 rw[ha] at q1
 cases q1
 cases q2
 have hil:i<ρ.length:=(List.getElem?_eq_some_iff.mp hi).1
 have get:∀(j:Nat) (sl:Sl),(ρ.set i (some (.ow c₀)))[j]? =some (some sl)→(j=i∧sl= .ow c₀)∨(j≠i∧ρ[j]? =some (some sl)):=fun j sl e=>by
  by_cases hj:j=i
  ·subst hj
   rw[List.getElem?_set_self hil] at e
   cases e
   exact .inl ⟨rfl,rfl⟩
  ·rw[List.getElem?_set_ne (Ne.symm hj)] at e
   exact .inr ⟨hj,e⟩
 have fh:Same F (upd H a o₀):=fun b o e=>by
  rw[av (fun z=>by rw[z,q4] at e;cases e)];exact s.st.fh b o e
 refine⟨⟨fun b o e=>?_,s.ext.ff,fh,s.ext.new⟩,⟨fh,fun j sl e=>?_⟩,by simp[hle],fun j c' b e e'=>?_,fun j k c1 c2 b e1 e2 e3 e4=>?_⟩
 ·rw[av (fun z=>by rw[z,h0] at e;cases e)];exact s.ext.hh b o e
 ·rcases get j sl e with⟨rfl,rfl⟩ | ⟨hj,e⟩
  ·exact⟨.ref a,ha,a,_,rfl,aF,q4,h⟩
  ·obtain⟨u,h1,h2⟩:=s.st.den j sl e
   refine⟨u,h1,?_⟩
   cases sl with
   |fz d=>exact h2
   |ow c'=>
    obtain⟨b,o',r1,r2,r3,r4⟩:=h2
    refine⟨b,o',r1,?_,r3,r4⟩
    rw[av (fun z=>hj (s.sep j i c' c a e hi (by rw[h1,r1,z]) ha))];exact r2
 ·rcases get j _ e with⟨rfl,_⟩ | ⟨hj,e⟩
  ·rw[ha] at e';cases e';exact h0
  ·exact s.own j c' b e e'
 ·have k1:∃c,ρ[j]? =some (some (.ow c)):=by
   rcases get j _ e1 with⟨rfl,_⟩ | ⟨_,e⟩
   ·exact⟨c,hi⟩
   ·exact⟨_,e⟩
  have k2:∃c,ρ[k]? =some (some (.ow c)):=by
   rcases get k _ e2 with⟨rfl,_⟩ | ⟨_,e⟩
   ·exact⟨c,hi⟩
   ·exact⟨_,e⟩
  obtain⟨_,k1⟩:=k1
  obtain⟨_,k2⟩:=k2
  exact s.sep j k _ _ b k1 k2 e3 e4
def frz (i:Nat) (ρ:Rho):Rho:=match ρ[i]? with
 |some (some (.ow c))=>ρ.set i (some (.fz c.d))
 |_=>ρ
theorem StOk.frz (s:StOk K F₀ H₀ F H σ ρ) (i:Nat) (obj:Addr→Obj):(∃a o,H a=some o∧DenC K F (ρ[i]?.elim (.lst []) fun x=>x.elim (.lst []) fun y=>match y with | .ow c=>c | _=> .lst []) o∧σ[i]? =some (some (.ref a))∧StOk K F₀ H₀ (upd F a (ll (obj a) o)) (upd H a (ll (obj a) o)) σ (frz i ρ))∨frz i ρ=ρ:=by
 unfold L3.frz
 split
 ·rename_i c₀ hi
  have hle:=s.len
  obtain⟨u,ha,a,o,rfl,q3,q4,hds⟩:=s.st.den i _ hi
  refine .inl ⟨a,o,q3,by rw[hi];exact hds,ha,?_⟩
  have h0:=s.own i _ a hi ha
  have hil:i<ρ.length:=(List.getElem?_eq_some_iff.mp hi).1
  have ff:Same F (upd F a (ll (obj a) o)):=fun b o e=>by rw[av (fun z=>by rw[z,q4] at e;cases e)];exact e
  have fh:Same (upd F a (ll (obj a) o)) (upd H a (ll (obj a) o)):=fun b o e=>by
   by_cases z:b=a
   ·rw[z,aF] at e⊢;exact e
   ·rw[av z] at e⊢;exact s.st.fh b o e
  have get:∀(j:Nat) (sl:Sl),(ρ.set i (some (.fz c₀.d)))[j]? =some (some sl)→(j=i∧sl= .fz c₀.d)∨(j≠i∧ρ[j]? =some (some sl)):=fun j sl e=>by
   by_cases hj:j=i
   ·subst hj
    rw[List.getElem?_set_self hil] at e
    cases e
    exact .inl ⟨rfl,rfl⟩
   ·rw[List.getElem?_set_ne (Ne.symm hj)] at e
    exact .inr ⟨hj,e⟩
  refine⟨⟨fun b u q=>?_,s.ext.ff.trans ff,fh,fun b hb=>?_⟩,⟨fh,fun j sl e=>?_⟩,by simp[hle],fun j c' b e e'=>?_,fun j k c1 c2 b e1 e2 e3 e4=>?_⟩
  ·rw[av (fun z=>by rw[z,h0] at q;cases q)];exact s.ext.hh b u q
  ·rcases s.ext.new b hb with q | q
   ·exact .inl (by rw[av (fun z=>hb (by rw[z];exact h0))];exact q)
   ·exact .inr q
  ·rcases get j sl e with⟨rfl,rfl⟩ | ⟨hj,e⟩
   ·exact⟨.ref a,ha,DenC.den hds ff aF⟩
   ·obtain⟨u,h1,h2⟩:=s.st.den j sl e
    refine⟨u,h1,?_⟩
    cases sl with
    |fz d=>exact Den.mono ff h2
    |ow c'=>
     obtain⟨b,o',r1,r2,r3,r4⟩:=h2
     have hne:b≠a:=fun z=>hj (s.sep j i c' _ a e hi (by rw[h1,r1,z]) ha)
     exact⟨b,o',r1,by rw[av hne];exact r2,by rw[av hne];exact r3,DenC.mono ff r4⟩
  ·rcases get j _ e with⟨_,z⟩ | ⟨hj,e⟩
   ·cases z
   ·exact s.own j c' b e e'
  ·rcases get j _ e1 with⟨_,z⟩ | ⟨_,e1⟩
   ·cases z
   ·rcases get k _ e2 with⟨_,z⟩ | ⟨_,e2⟩
    ·cases z
    ·exact s.sep j k _ _ b e1 e2 e3 e4
 ·exact .inr rfl
theorem WPS.weak {m:M Out}{D D':Ends}(h:WPS K Xw F₀ H₀ m D) (hn:∀σ H,D.nx σ H→D'.nx σ H) (hr:∀v H,D.rt v H→D'.rt v H):WPS K Xw F₀ H₀ m D':=by
 match m,h with
 |none,h=>exact h
 |some (.ok (.nx ρ)),h=>exact fun σ F H s=>hn _ _ (h σ F H s)
 |some (.ok (.rt d)),h=>exact fun v F H e q=>hr _ _ (h v F H e q)
 |some (.ex n),h=>exact h
end
def join (F H:Hp):Hp:=fun a=>match F a with
 |some o=>some o
 |none=>H a
theorem StOk.rebase {K:PySem.W.Frag}{F₀ H₀ F H:Hp}{σ:St}{ρ:Rho}(s:StOk K F₀ H₀ F H σ ρ):StOk K F (join F H₀) F H σ ρ∧∀F' H',Ext F (join F H₀) F' H'→Ext F₀ H₀ F' H':=by
 have hj:Same (join F H₀) H:=fun b o e=>by
  unfold join at e
  cases q:F b with
  |some u=>rw[q] at e;cases e;exact s.st.fh b _ q
  |none=>rw[q] at e;exact s.ext.hh b o e
 have h0:Same H₀ (join F H₀):=fun b o e=>by
  unfold join
  cases q:F b with
  |some u=>
   have h1:=s.st.fh b u q
   rw[s.ext.hh b o e] at h1
   exact h1.symm
  |none=>exact e
 refine⟨⟨⟨hj,Same.refl _,s.st.fh,fun _ _=> .inl rfl⟩,s.st,s.len,fun i c a e e'=>?_,s.sep⟩,fun F' H' x=>⟨h0.trans x.hh,s.ext.ff.trans x.ff,x.fh,fun a ha=>?_⟩⟩
 ·have h1:=s.own i c a e e'
  obtain⟨v,q1,a',o,q2,q3,q4,_⟩:=s.st.den i _ e
  rw[e'] at q1
  cases q1
  cases q2
  unfold join
  rw[q4]
  exact h1
 ·have:join F H₀ a≠none:=by
   cases q:H₀ a with
   |none=>exact absurd q ha
   |some o=>rw[h0 a o q];exact fun z=>nomatch z
  rcases s.ext.new a ha with p | p
  ·rcases x.new a this with q | ⟨ts,q⟩
   ·exact .inl (q.trans p)
   ·cases z:H₀ a with
    |none=>exact absurd z ha
    |some o=>
     rw[h0 a o z] at q
     exact .inr ⟨ts,q⟩
  ·exact .inr p
theorem StOk.unbase {K:PySem.W.Frag}{F₀ H₀ F U F' H':Hp}{σ:St}{ρ:Rho}(k:∀F' H',Ext F U F' H'→Ext F₀ H₀ F' H') (s:StOk K F U F' H' σ ρ) (h:Same H₀ U):StOk K F₀ H₀ F' H' σ ρ:=
 ⟨k _ _ s.ext,s.st,s.len,fun i c a e e'=>Same.free h (s.own i c a e e'),s.sep⟩
theorem wj {K:PySem.W.Frag}{F₀ H₀ F H:Hp}{σ:St}{ρ:Rho}(s:StOk K F₀ H₀ F H σ ρ):Same H₀ (join F H₀):=fun b o e=>by
 unfold join
 cases q:F b with
 |some u=>
  have h1:=s.st.fh b u q
  rw[s.ext.hh b o e] at h1
  exact h1.symm
 |none=>exact e
theorem Inv.refrz {X:Cx}{pins:List (Addr×Obj)}{σ:St}{H:Hp}{s:Shared}{a:Addr}{o o':HO}(I:Inv X pins σ H s) (e:H a=some o)
 (ho:o'=o∨∃u,o'= .frz ((s.heap.get? a).getD {cls:= .none,data:= .fields #[]}) u∧((∃k,o= .dT k∧u= .dT k)∨∃k,o= .dK k∧u= .dK k)):Inv X pins σ (upd H a o') s:=by
 rcases ho with rfl | ⟨u,rfl,hu⟩
 ·have:upd H a o'=H:=by
   funext b
   by_cases z:b=a
   ·rw[z,aF,e]
   ·rw[av z]
  rw[this];exact I
 have hou:o=u:=by rcases hu with⟨k,h1,h2⟩ | ⟨k,h1,h2⟩<;>rw[h1,h2]
 subst hou
 have nt:∀ts,o≠ .tup ts:=fun ts z=>by rcases hu with⟨k,h1,_⟩ | ⟨k,h1,_⟩<;>rw[h1] at z<;>cases z
 have nf:∀ob v,o≠ .frz ob v:=fun ob v z=>by rcases hu with⟨k,h1,_⟩ | ⟨k,h1,_⟩<;>rw[h1] at z<;>cases z
 have nb:∀p,o≠ .tbl p:=fun p z=>by rcases hu with⟨k,h1,_⟩ | ⟨k,h1,_⟩<;>rw[h1] at z<;>cases z
 have no:∀p,o≠ .own p:=fun p z=>by rcases hu with⟨k,h1,_⟩ | ⟨k,h1,_⟩<;>rw[h1] at z<;>cases z
 have ne:∀b,H b=none→b≠a:=fun b hb z=>by rw[z,e] at hb;cases hb
 have hk:=I.hok a o e
 have hlt:=hk.lt
 obtain⟨ob,hob⟩:∃ob,s.heap.get? a=some ob:=by
  rcases hu with⟨k,h1,_⟩ | ⟨k,h1,_⟩
  ·subst h1;obtain⟨_,_,_,_,ob,_,_,q,_⟩:=hk;exact⟨ob,q⟩
  ·subst h1;obtain⟨_,_,_,_,ob,_,_,q,_⟩:=hk;exact⟨ob,q⟩
 rw[hob]
 refine⟨I.ok,I.os,I.bare,⟨I.base.keep,I.base.slot,fun b q h1 h2 h3=>?_,I.base.there,fun b xs q=>?_,fun b q1 v q=>?_,fun b ps q=>?_⟩,I.loc,I.cell,?_,fun x c q=>?_,fun p hp=>?_,fun b v q=>?_,I.len⟩
 ·have:=I.base.free b q h1 h2 h3
  rw[av (ne b this)];exact this
 ·have:=I.base.tups b xs q
  rw[av (fun z=>by rw[z,e] at this;exact nt xs (Option.some.inj this))];exact this
 ·have:=I.base.frzs b q1 v q
  rw[av (fun z=>by rw[z,e] at this;exact nf _ _ (Option.some.inj this))];exact this
 ·obtain⟨m,this⟩:=I.base.tbls b ps q
  exact⟨m,by rw[av (fun z=>by rw[z,e] at this;exact nb _ (Option.some.inj this))];exact this⟩
 ·rw[av (ne _ I.free)];exact I.free
 ·rw[av (ne _ (I.freeC x c q))];exact I.freeC x c q
 ·obtain⟨h1,h2,h3⟩:=I.pin p hp
  exact⟨h1,by rw[av (ne _ h2)];exact h2,h3⟩
 ·have st:∀{c:Addr}{v:HO},ObjOk X.prog X.w H s.heap c v→ObjOk X.prog X.w (upd H a (.frz ob o)) s.heap c v:=fun {c v} k=>k.stay (fun _ _ _ q=>q)
   (fun c' q=>by rw[av (fun z=>by rw[z,e] at q;exact no _ (Option.some.inj q))];exact q) fun c' xs q=>by rw[av (fun z=>by rw[z,e] at q;exact nt _ (Option.some.inj q))];exact q
  by_cases z:b=a
  ·subst z
   rw[show (some ob).getD _=ob from rfl,aF] at q
   cases q
   exact⟨hob,st hk⟩
  ·rw[av z] at q
   exact st (I.hok b v q)
def aB (a b:DS):DS:=fun ρ=>a ρ>>=fun o=>match o with | .nx ρ'=>b ρ' | .rt d=>M.ret (.rt d)
def cf:DS:=fun ρ=>M.ret (.nx ρ)
def bp (δ:DE):DS:=fun ρ=>δ ρ>>=fun d=>M.ret (.rt d)
def i8 (δ:DE):DS:=fun ρ=>δ ρ>>=fun _=>M.ret (.nx ρ)
def bh (i:Nat) (δ:DE):DS:=fun ρ=>δ ρ>>=fun d=>M.ret (.nx (ρ.set i (some (.fz d))))
def sIf (c:DT) (a b:DS):DS:=fun ρ=>c ρ>>=fun x=>if x then a ρ else b ρ
def sFz (i:Nat) (a:DS):DS:=fun ρ=>a (frz i ρ)
def qW (i:Nat):DS:=fun ρ=>M.ret (.nx (ρ.set i (some (.ow (.lst [])))))
def wI (ρ:Rho) (i:Nat):Option (List D):=match ρ[i]? with
 |some (some (.ow (.lst ds)))=>some ds
 |_=>none
theorem oD {ρ:Rho}{i:Nat}{ds:List D}(h:wI ρ i=some ds):ρ[i]? =some (some (.ow (.lst ds))):=by
 unfold wI at h
 split at h
 ·rename_i ds' e
  cases h
  exact e
 ·cases h
def gY (i:Nat) (δ:DE):DS:=fun ρ=>match wI ρ i with
 |some ds=>δ ρ>>=fun d=>if ds.length<lim then M.ret (.nx (ρ.set i (some (.ow (.lst (ds++[d])))))) else M.stuck
 |none=>M.stuck
def y0 (i:Nat) (δ:DE):DS:=fun ρ=>match wI ρ i with
 |some ds=>δ ρ>>=fun d=>lstM d>>=fun es=>if ds.length+es.length≤lim then M.ret (.nx (ρ.set i (some (.ow (.lst (ds++es)))))) else M.stuck
 |none=>M.stuck
def forL (put:D→Rho→Option Rho) (body:DS):List D→DS
 |[],ρ=>M.ret (.nx ρ)
 |d::ds,ρ=>(match put d ρ with | none=>M.stuck | some ρ1=>body ρ1>>=fun o=>match o with | .nx ρ2=>forL put body ds ρ2 | .rt v=>M.ret (.rt v))
def putN (i:Nat):D→Rho→Option Rho:=fun d ρ=>some (ρ.set i (some (.fz d)))
def cT (put:D→Rho→Option Rho) (δi:DA) (body:DS):DS:=fun ρ=>δi ρ>>=fun ds=>forL put body ds ρ
section
variable {X : Cx} {Xw : Nat → Hp → Prop} {F₀ H₀ : Hp} {st : Stmt} {rest : List Stmt} {τ τ' : DS} {e : Expr} {δ : DE} {pos : Pos}
theorem bg:PSDs X Xw [] cf:=fun F₀ H₀=>PSs.weak zH fun D σ H ⟨F,ρ,s,w⟩=>w σ F H s
theorem ah (h1:PSD X Xw st τ) (h2:PSDs X Xw rest τ'):PSDs X Xw (st::rest) (aB τ τ'):=fun F₀ H₀=>PSs.weak (zx (h1 F₀ H₀) (h2 F₀ H₀)) fun D σ H ⟨F,ρ,s,w⟩=>by
 refine⟨F,ρ,s,?_⟩
 unfold aB at w
 match τ ρ,w with
 |none,w=>exact w
 |some (.ok (.nx ρ')),w=>exact fun σ' F' H' s'=>⟨F',ρ',s',w⟩
 |some (.ok (.rt d)),w=>exact w
 |some (.ex n),w=>exact w
theorem aq (h1:PSD X Xw st τ):PSDs X Xw [st] τ:=fun F₀ H₀=>Ac (h1 F₀ H₀)
theorem dq {i:Nat}(h:PSD X Xw st τ):PSD X Xw st (sFz i τ):=fun F₀ H₀ pins sh σ H D I ⟨F,ρ,s,w⟩=>by
 rcases s.frz i (fun a=>(sh.heap.get? a).getD {cls:= .none,data:= .fields #[]}) with⟨a,o,ha,hc,hσ,s'⟩ | e
 ·refine h F₀ H₀ pins sh σ _ D (L3.Inv.refrz I ha ?_) ⟨_,_,s',w⟩
  generalize (ρ[i]?.elim (C.lst []) fun x=>x.elim (.lst []) fun y=>match y with | .ow c=>c | _=> .lst [])=c at hc
  cases c with
  |lst ds=>obtain⟨vs,rfl,_⟩:=hc;exact .inl rfl
  |dct ks ds=>obtain⟨vs,rfl,_⟩:=hc;exact .inr ⟨_,rfl, .inl ⟨_,rfl,rfl⟩⟩
  |dci ks ds=>obtain⟨vs,rfl,_⟩:=hc;exact .inr ⟨_,rfl, .inr ⟨_,rfl,rfl⟩⟩
 ·exact h F₀ H₀ pins sh σ H D I ⟨F,ρ,s,by unfold sFz at w;rw[e] at w;exact w⟩
theorem aD (h:PD X Xw e δ):PSD X Xw (.Return (some e) pos) (bp δ):=fun F₀ H₀=>PS.weak (B0 h) fun D σ H ⟨F,ρ,s,w⟩=>by
 refine⟨F,ρ,s.st,?_⟩
 unfold bp at w
 match δ ρ,w with
 |none,w=>exact w
 |some (.ok d),w=>exact fun v H' F' e' q=>w v F' H' (s.ext.trans e') q
 |some (.ex n),w=>exact fun F' H' e'=>w F' H' (s.ext.trans e')
theorem fe (h:PD X Xw e δ) (hs:swapsWith e none pos.line X.env=pure false:=by rfl):PSD X Xw (.Expr e pos) (i8 δ):=fun F₀ H₀=>PS.weak (lz h hs) fun D σ H ⟨F,ρ,s,w⟩=>by
 refine⟨F,ρ,s.st,?_⟩
 unfold i8 at w
 match δ ρ,w with
 |none,w=>exact w
 |some (.ok d),w=>exact fun v H' F' e' q=>w σ F' H' (s.ext' e')
 |some (.ex n),w=>exact fun F' H' e'=>w F' H' (s.ext.trans e')
theorem aJ {i:Nat}{x:Str}{pos':Pos}(hN:X.N.Nodup) (hi:X.N[i]? =some x) (hx:Loc X.env.scope x) (he:PD X Xw e δ) (hf:X.fn x=true∨X.env.scope.names.lookup x=some .local:=by first | exact .inl rfl | exact .inr rfl)
 (hs:swapsWithSole [.Name x pos'] e pos.line X.env=pure false:=by rfl):
 PSD X Xw (.Assign [.Name x pos'] e pos) (bh i δ):=fun F₀ H₀=>PS.weak (qF he (a9 hN hi hx hf) hs) fun D σ H ⟨F,ρ,s,w⟩=>by
 refine⟨F,ρ,s.st,?_⟩
 unfold bh at w
 match δ ρ,w with
 |none,w=>exact w
 |some (.ok d),w=>exact fun v H' F' e' q=>w _ F' H' ((s.ext' e').set q)
 |some (.ex n),w=>exact fun F' H' e'=>w F' H' (s.ext.trans e')
theorem rW {elt iter tg:Expr}{ifs:List Expr}{scope:Scope}{cpos:Pos}{tn:List Str}{n:Nat}{δi:DA}{δt:DT}{δe:DE}{i:Nat}{x:Str}{pos':Pos}(hN:X.N.Nodup) (hi':X.N[i]? =some x) (hx:Loc X.env.scope x)
 (sc:CompSc X scope tn) (hn:tn.length=max n 1) (hc:X.calm=true) (hi:PDI X Xw tg iter δi)
 (hg:∀pins cl C fp s₂ H σ,zd (iR X scope tn pins cl C fp s₂ H) tg n σ)
 (ht:∀pins cl C fp s₂ H,jW (iR X scope tn pins cl C fp s₂ H) ifs δt)
 (he:∀pins cl C fp s₂ H,PD (iR X scope tn pins cl C fp s₂ H) (fun _ _=>False) elt δe)
 (hf:X.fn x=true∨X.env.scope.names.lookup x=some .local:=by first | exact .inl rfl | exact .inr rfl)
 (hsw:swapsWith (.ListComp elt [⟨tg,iter,ifs,0⟩] scope cpos) (some (.Name x pos')) pos.line X.env=pure true:=by rfl)
 (hs:∀x,foldedSetIterable iter X.env x=pure x:=by intro _;rfl):
 PSD X Xw (.Assign [.Name x pos'] (.ListComp elt [⟨tg,iter,ifs,0⟩] scope cpos) pos) (bh i (br n δi δt δe)):=fun F₀ H₀ pins s σ H D I ⟨F,ρ,S,w⟩=>by
 obtain⟨cl,hclos,cl1,cl2⟩:=mT (scope:=scope) (env:=X.env) fun y hy hf=>I.ok.has y.1 (sc.frees y hy hf)
 have w':WP X.K Xw F H (br n δi δt δe ρ) (fun v H'=>D.nx (σ.set i (some v)) H'):=by
  have w:WPS X.K Xw F₀ H₀ (br n δi δt δe ρ>>=fun d=>M.ret (.nx (ρ.set i (some (.fz d))))) D:=w
  match br n δi δt δe ρ,w with
  |none,w=>exact w
  |some (.ok d),w=>exact fun v H' F' e' q=>w _ F' H' ((S.ext' e').set q)
  |some (.ex n),w=>exact fun F' H' e'=>w F' H' (S.ext.trans e')
 rw[exec_Assign_Name_used _ _ _ _ hsw]
 refine wpAny_bind (wpAny_standAt (wpAny_bind ?_))
 show wpAny _ X.A (do let _←comprehension (.ListComp elt [⟨tg,iter,ifs,0⟩] scope cpos) scope X.env _ (newList []) false (eval iter X.env) (some (assign (.Name x pos') X.env))) _ _ s
 refine wpAny_bind (wpAny_mono (wpAny_comprehension_free (use:=some (assign (.Name x pos') X.env)) (Q:=fun _ s'=>SP X pins D .next s') rfl hs hclos sc.kind sc.names
  (sk (RR:=fun acc C=>compPost (model X.prog X.w) X.A X.xe (some (assign (.Name x pos') X.env)) (fun _ s'=>SP X pins D .next s') acc C) sc hn hc hi hg ht he I S.st w' cl1 cl2 fun s1 C D' H' I1 q b=>?_)) (fun _ s' hq=>wpAny_pure (wpAny_pure hq)) fun _ _ e=>e)
 show wpAny _ X.A (assign (.Name x pos') X.env (.ref D')) _ _ _
 refine wpAny_assign_Name (jX I1 hN hi' hx (v:= .ref D') rfl (fun s2 I2 ⟨a,sb,ha⟩=>?_) hf)
 have hCa:C≠a:=by
  rcases ha with z | z
  ·rw[z];exact b.nl
  ·exact Ne.symm (b.nc x a z)
 obtain⟨m,hm⟩:=b.ns
 have hm2:s2.heap.Ns C m:=hm.sameBut sb hCa
 refine⟨m,hm2,fun h' hsb=>⟨_,H',Inv.block I2 ⟨⟨m,hm2⟩,b.free,b.nl,b.nw,b.nc,b.np⟩ hsb,q⟩⟩
theorem bO {c:Expr}{a b:List Stmt}{tc:DT}(hc:PDT X Xw c tc) (ha:PSDs X Xw a τ) (hb:PSDs X Xw b τ'):PSD X Xw (.If c a b pos) (sIf tc τ τ'):=fun F₀ H₀=>PS.weak (CU hc (ha F₀ H₀) (hb F₀ H₀)) fun D σ H ⟨F,ρ,s,w⟩=>by
 refine⟨F,ρ,s.st,?_⟩
 unfold sIf at w
 match tc ρ,w with
 |none,w=>exact w
 |some (.ok true),w=>exact fun H' F' e'=>⟨F',ρ,s.ext' e',w⟩
 |some (.ok false),w=>exact fun H' F' e'=>⟨F',ρ,s.ext' e',w⟩
 |some (.ex n),w=>exact fun F' H' e'=>w F' H' (s.ext.trans e')
theorem gM {i:Nat}{x:Str}{pos' pos2:Pos}(hN:X.N.Nodup) (hi:X.N[i]? =some x) (hx:Loc X.env.scope x) (hf:X.fn x=true∨X.env.scope.names.lookup x=some .local:=by first | exact .inl rfl | exact .inr rfl):
 PSD X Xw (.Assign [.Name x pos'] (.List [] pos2) pos) (qW i):=fun F₀ H₀=>PS.weak (qF (uP me) (a9 hN hi hx hf) rfl) fun D σ H ⟨F,ρ,s,w⟩=>by
 refine⟨Nat.zero_le _,fun p hp=>?_⟩
 exact w _ F _ (s.setNew (c₀:= .lst []) hp ⟨[],rfl,rfl,Nat.zero_le _⟩)
def yJ (K:PySem.W.Frag) (g:TG) (put:D→Rho→Option Rho):Prop:=∀(F₀ H₀ F H:Hp) (σ:St) (ρ ρ':Rho) (d:D) (v:V) (Q:St→Hp→Prop),StOk K F₀ H₀ F H σ ρ→Den K F d v→put d ρ=some ρ'→
 (∀σ',StOk K F₀ H₀ F H σ' ρ'→Q σ' H)→g v σ H Q
theorem bB {K:PySem.W.Frag}{i:Nat}:yJ K (xy i) (putN i):=fun F₀ H₀ F H σ ρ ρ' d v Q s q e k=>by
 cases e
 exact k _ (s.set q)
def tSx (K:PySem.W.Frag) (Xw:Nat→Hp→Prop) (τ:DS):TS:=fun D σ H=>∃F₀ H₀,tS K Xw F₀ H₀ τ D σ H
theorem PSDs.ex {body:List Stmt}(h:PSDs X Xw body τ):PSs X body (tSx X.K Xw τ):=fun pins s σ H D I ⟨F₀,H₀,w⟩=>h F₀ H₀ pins s σ H D I w
theorem bF {tg iter:Expr}{body:List Stmt}{δi:DA}{g:TG}{put:D→Rho→Option Rho}(hp:PassesOwn (model X.prog X.w) X.A X.env X.xe) (hc:X.calm=true) (hi:PDI X Xw tg iter δi) (hg:PG X tg g) (hput:yJ X.K g put) (hb:PSDs X Xw body τ)
 (hs:∀x,foldedSetIterable iter X.env x=pure x:=by intro _;rfl):PSD X Xw (.For tg iter body [] pos) (cT put δi τ):=fun F₀ H₀=>PS.weak (CO hp hc hi hg hb.ex hs) fun D σ H ⟨F,ρ,s,w⟩=>by
 refine⟨F,ρ,s.st,?_⟩
 unfold cT at w
 match δi ρ,w with
 |none,w=>exact w
 |some (.ex n),w=>exact fun F' H' e'=>w F' H' (s.ext.trans e')
 |some (.ok ds),w=>
  have w:WPS X.K Xw F₀ H₀ (forL put τ ds ρ) D:=w
  intro J H1 F1 e1 itd
  obtain⟨s1,back⟩:=(s.ext' e1).rebase
  have hU:=wj (s.ext' e1)
  generalize join F1 H₀=U at s1 back hU
  refine⟨fun i m σ H=>m=ds.length - i∧i≤ds.length∧∃F ρ,StOk X.K F1 U F H σ ρ∧WPS X.K Xw F₀ H₀ (forL put τ (ds.drop i) ρ) D,⟨ds.length,by simp,Nat.zero_le _,F1,ρ,s1,by simpa using w⟩,?_⟩
  rintro i m σ2 H2 ⟨rfl,hile,F2,ρ2,s2,w2⟩
  by_cases hlt:i<ds.length
  ·obtain⟨d,hd⟩:∃d,ds[i]? =some d:=⟨_,List.getElem?_eq_getElem hlt⟩
   obtain⟨hgo,hyld⟩:=(itd F2 H2 i s2.ext.ff s2.st.fh).1 d hd
   have ed:ds.drop i=d::ds.drop (i+1):=by
    obtain⟨hi,e⟩:=List.getElem?_eq_some_iff.mp hd
    rw[List.drop_eq_getElem_cons hi,e]
   rw[ed] at w2
   unfold forL at w2
   refine .inr ⟨hgo,fun σ' H'=>∃F' ρ',StOk X.K F1 U F' H' σ' ρ'∧WPS X.K Xw F₀ H₀ (forL put τ (ds.drop (i+1)) ρ') D,fun σ' H' ⟨F',ρ',h2,h3⟩=>⟨ds.length - (i+1),by omega,rfl,hlt,F',ρ',h2,h3⟩,fun x H3 y3=>?_⟩
   obtain⟨F3,ex3,q3⟩:=hyld x H3 y3
   match hpd:put d ρ2,w2 with
   |none,w2=>exact w2.elim
   |some ρ3,w2=>
    refine hput F1 U F3 H3 σ2 ρ2 ρ3 d x _ (s2.ext' ex3) q3 hpd fun σ3 s3=>⟨F1,U,F3,ρ3,s3,?_⟩
    have w2:WPS X.K Xw F₀ H₀ (τ ρ3>>=fun o=>match o with | .nx ρ2=>forL put τ (ds.drop (i+1)) ρ2 | .rt v=>M.ret (.rt v)) D:=w2
    match τ ρ3,w2 with
    |none,w2=>exact w2
    |some (.ok (.nx ρ')),w2=>exact fun σ' F' H' s'=>⟨F',ρ',s',w2⟩
    |some (.ok (.rt d)),w2=>exact fun v F' H' e q=>w2 v F' H' (back _ _ e) q
    |some (.ex n),w2=>exact fun F' H' e=>w2 F' H' (back _ _ e)
  ·have hi:i=ds.length:=by omega
   subst hi
   rw[List.drop_length] at w2
   exact .inl ⟨(itd F2 H2 ds.length s2.ext.ff s2.st.fh).2 (Nat.le_refl _),w2 σ2 F2 H2 (s2.unbase back hU)⟩
end
end L3
namespace L3
open PySem PySem.Spec L2
open PyProof.Rows hiding St
def gI (f:Int→Int→D):D→D→M D
 | .int i, .int j=>M.ret (f i j)
 |_,_=>M.stuck
def gIC (c:Int→Int→Bool) (f:Int→Int→D):D→D→M D
 | .int i, .int j=>if c i j then M.ret (f i j) else M.stuck
 |_,_=>M.stuck
theorem yf {K:PySem.W.Frag}{gv:Int→Int→V}{gd:Int→Int→D}(h:∀F i j,Den K F (gd i j) (gv i j)):OpD K (rI0 gv) (gI gd):=fun Xw F H x y dx dy Q s hx hy w=>by
 unfold gI at w
 split at w
 ·rename_i i j
  exact⟨i,j,hx,hy,WP.now w s (h F i j)⟩
 ·exact w.elim
theorem uJ {K:PySem.W.Frag}{gv:Int→Int→V}{gd:Int→Int→D}{c:Int→Int→Bool}{C:Int→Int→Prop}(h:∀F i j,Den K F (gd i j) (gv i j)) (hc:∀i j,c i j=true→C i j):OpD K (rI C gv) (gIC c gd):=fun Xw F H x y dx dy Q s hx hy w=>by
 unfold gIC at w
 split at w
 ·rename_i i j
  split at w
  ·rename_i hcc
   exact⟨i,j,hx,hy,hc i j hcc,WP.now w s (h F i j)⟩
  ·exact w.elim
 ·exact w.elim
def dE:=gI fun i j=> .int (i+j)
def rF:=gI fun i j=> .int (i - j)
def fX:=gIC (fun i j=>decide ((-(2 ^ 64)<i∧i<2 ^ 64)∨(-(2 ^ 64)<j∧j<2 ^ 64))) fun i j=> .int (i*j)
def nO:=gIC (fun _ j=>decide (0<j∧j<1073741824)) fun i j=> .int (i / j)
def jN:=gIC (fun _ j=>decide (0<j)) fun i j=> .int (i % j)
section
variable {X : Cx} {Xw : Nat → Hp → Prop} {a b : Expr} {δa δb : DE} {pos : Pos}
theorem cK (ha:PD X Xw a δa) (hb:PD X Xw b δb):PD X Xw (.BinOp a .Add b pos) (d2 dE δa δb):=kr B5 (yf fun _ _ _=>rfl) ha hb
theorem mz (ha:PD X Xw a δa) (hb:PD X Xw b δb):PD X Xw (.BinOp a .Sub b pos) (d2 rF δa δb):=kr CD (yf fun _ _ _=>rfl) ha hb
theorem ig (ha:PD X Xw a δa) (hb:PD X Xw b δb):PD X Xw (.BinOp a .Mult b pos) (d2 fX δa δb):=kr CC (uJ (fun _ _ _=>rfl) fun i j h=>by unfold CMul;exact of_decide_eq_true h) ha hb
theorem qp (ha:PD X Xw a δa) (hb:PD X Xw b δb):PD X Xw (.BinOp a .FloorDiv b pos) (d2 nO δa δb):=kr z6 (uJ (fun _ _ _=>rfl) fun i j h=>by unfold DC;exact of_decide_eq_true h) ha hb
theorem j0 (ha:PD X Xw a δa) (hb:PD X Xw b δb):PD X Xw (.BinOp a .Mod b pos) (d2 jN δa δb):=kr BP (uJ (fun _ _ _=>rfl) fun i j h=>of_decide_eq_true h) ha hb
def e9:D→D→M D
 | .lst ds, .int i=>match atI ds i with | some d=>M.ret d | none=>M.stuck
 |_,_=>M.stuck
def aK:D→D→M D
 | .tup ds, .int i=>match atI ds i with | some d=>M.ret d | none=>M.stuck
 |_,_=>M.stuck
def xi:D→D→M D
 | .scr ns, .int i=>match atI ns i with | some n=>M.ret (.int n) | none=>M.stuck
 |_,_=>M.stuck
def iI:D→D→M D
 | .str x, .int i=>match atI x.cps.toList i with | some c=>M.ret (.str ⟨#[c]⟩) | none=>M.stuck
 |_,_=>M.stuck
theorem DenL.atI {K:PySem.W.Frag}{F:Hp}{ds:List D}{vs:List V}(h:DenL K F ds vs) {i:Int}{d:D}(e:L2.atI ds i=some d):∃v,L2.atI vs i=some v∧Den K F d v:=by
 unfold L2.atI at e⊢
 rw[←h.len]
 cases q:ixN ds.length i with
 |none=>rw[q] at e;cases e
 |some j=>
  rw[q] at e
  exact h.get e
theorem zW {K:PySem.W.Frag}:OpD K (CK K) e9:=fun Xw F H x y dx dy Q s hx hy w=>by
 unfold e9 at w
 split at w
 ·rename_i ds i
  obtain⟨a,vs,h1,h2,h3,h4⟩:=hx
  split at w
  ·rename_i d e
   obtain⟨v,e1,q⟩:=h3.atI e
   exact⟨a,vs,i,v,h1,hy,SqL.of (s _ _ h2),e1,WP.now w s q⟩
  ·exact w.elim
 ·exact w.elim
theorem Af {K:PySem.W.Frag}:OpD K (DD K) aK:=fun Xw F H x y dx dy Q s hx hy w=>by
 unfold aK at w
 split at w
 ·rename_i ds i
  obtain⟨a,vs,h1,h2,h3,h4⟩:=hx
  split at w
  ·rename_i d e
   obtain⟨v,e1,q⟩:=h3.atI e
   exact⟨a,vs,i,v,h1,hy,SqT.of (s _ _ h2),e1,WP.now w s q⟩
  ·exact w.elim
 ·exact w.elim
theorem z4 {K:PySem.W.Frag}:OpD K (CK K) xi:=fun Xw F H x y dx dy Q s hx hy w=>by
 unfold xi at w
 split at w
 ·rename_i ns i
  obtain⟨a,h1,h2,h3⟩:=hx
  split at w
  ·rename_i n e
   refine⟨a,_,i, .int n,h1,hy,Same.seq s h2,?_,WP.now w s rfl⟩
   unfold L2.atI at e⊢
   rw[List.length_map]
   cases q:ixN ns.length i with
   |none=>rw[q] at e;cases e
   |some j=>
    rw[q] at e
    have e:ns[j]? =some n:=e
    show (ns.map V.int)[j]? =some (.int n)
    rw[List.getElem?_map,e];rfl
  ·exact w.elim
 ·exact w.elim
theorem AO {K:PySem.W.Frag}:OpD K DK iI:=fun Xw F H x y dx dy Q s hx hy w=>by
 unfold iI at w
 split at w
 ·rename_i z i
  obtain⟨h1,h2⟩:=hx
  split at w
  ·rename_i c e
   exact⟨z,i,c,h1,hy,by have:=dD;omega,e,WP.now w s ⟨rfl,by show 1≤lim;decide⟩⟩
  ·exact w.elim
 ·exact w.elim
theorem iq (ha:PD X Xw a δa) (hb:PD X Xw b δb) (hs:gN b:=by intro _ _;rfl):PD X Xw (.Subscript a b pos) (d2 e9 δa δb):=vy qT zW ha hb hs
theorem Cv (ha:PD X Xw a δa) (hb:PD X Xw b δb) (hs:gN b:=by intro _ _;rfl):PD X Xw (.Subscript a b pos) (d2 xi δa δb):=vy qT z4 ha hb hs
theorem bo (ha:PD X Xw a δa) (hb:PD X Xw b δb) (hs:gN b:=by intro _ _;rfl):PD X Xw (.Subscript a b pos) (d2 aK δa δb):=vy Bw Af ha hb hs
theorem qz (ha:PD X Xw a δa) (hb:PD X Xw b δb) (hs:gN b:=by intro _ _;rfl):PD X Xw (.Subscript a b pos) (d2 iI δa δb):=vy Bp AO ha hb hs
def gj:D→D→M D
 | .lst x, .lst y=>if x.length+y.length≤lim then M.ret (.lst (x++y)) else M.stuck
 |_,_=>M.stuck
def z8:D→D→M D
 | .lst x, .int k=>if (0≤k∧k≤64)∧x.length*k.toNat≤lim then M.ret (.lst (List.replicate k.toNat x).flatten) else M.stuck
 |_,_=>M.stuck
theorem gZ (x y:Str):(x++y).length=x.length+y.length:=by
 show (x.cps++y.cps).size=_
 simp[Str.length]
theorem lF (ha:PD X Xw a δa) (hb:PD X Xw b δb):PD X Xw (.BinOp a .Add b pos) (d2 gj δa δb):=kr BO (fun Xw F H x y dx dy Q s hx hy w=>by
 unfold gj at w
 split at w
 ·rename_i i j
  obtain⟨a,vs,h1,h2,h3,h4⟩:=hx
  obtain⟨a',vs',k1,k2,k3,k4⟩:=hy
  split at w
  ·rename_i hl
   have e1:=h3.len
   have e2:=k3.len
   have:=dD
   refine⟨a,a',vs,vs',h1,k1,s _ _ h2,s _ _ k2,by omega,fun p hp=>?_⟩
   exact WP.fin w (Ext.lay s hp) ⟨p,_,rfl,aF,DenL.mono (Ext.lay s hp).ff (h3.append k3),by rw[List.length_append];exact hl⟩
  ·exact w.elim
 ·exact w.elim) ha hb
theorem DenL.rep {K:PySem.W.Frag}{F:Hp}{ds:List D}{vs:List V}(h:DenL K F ds vs):∀n:Nat,DenL K F (List.replicate n ds).flatten (List.replicate n vs).flatten
 |0=>rfl
 |n+1=>by
  rw[List.replicate_succ,List.replicate_succ,List.flatten_cons,List.flatten_cons]
  exact h.append (DenL.rep h n)
theorem zm (ha:PD X Xw a δa) (hb:PD X Xw b δb):PD X Xw (.BinOp a .Mult b pos) (d2 z8 δa δb):=kr B3 (fun Xw F H x y dx dy Q s hx hy w=>by
 unfold z8 at w
 split at w
 ·rename_i i k
  obtain⟨a,vs,h1,h2,h3,h4⟩:=hx
  split at w
  ·rename_i hl
   obtain⟨⟨l1,l2⟩,l3⟩:=hl
   have e1:=h3.len
   have:=dD
   refine⟨a,k,vs,h1,hy,s _ _ h2,by omega,by omega,by rw[←e1];omega,fun p hp=>?_⟩
   exact WP.fin w (Ext.lay s hp) ⟨p,_,rfl,aF,DenL.mono (Ext.lay s hp).ff (h3.rep _),by rw[len_rep,Nat.mul_comm];exact l3⟩
  ·exact w.elim
 ·exact w.elim) ha hb
end
end L3
namespace L3
open PySem PySem.Spec L2 SeqAt
open PyProof.Rows hiding St
def eqL (f:D→D→Option Bool):List D→List D→Option Bool
 |[],[]=>some true
 |x::xs,y::ys=>match f x y,eqL f xs ys with
  |some b,some r=>some (b&&r)
  |_,_=>none
 |[],_::_=>some false
 |_::_,[]=>some false
def uy:D→D→Option Bool
 | .non, .non=>some true
 | .bl a, .bl b=>some (a==b)
 | .bl a, .int j=>some ((if a then 1 else 0)==j)
 | .int i, .bl b=>some (i==(if b then 1 else 0))
 | .int i, .int j=>some (i==j)
 | .str x, .str y=>some (x==y)
 | .non, .bl _=>some false
 | .non, .int _=>some false
 | .non, .str _=>some false
 | .non, .lst _=>some false
 | .non, .tup _=>some false
 | .bl _, .non=>some false
 | .bl _, .str _=>some false
 | .bl _, .lst _=>some false
 | .bl _, .tup _=>some false
 | .int _, .non=>some false
 | .int _, .str _=>some false
 | .int _, .lst _=>some false
 | .int _, .tup _=>some false
 | .str _, .non=>some false
 | .str _, .bl _=>some false
 | .str _, .int _=>some false
 | .str _, .lst _=>some false
 | .str _, .tup _=>some false
 | .lst _, .non=>some false
 | .lst _, .bl _=>some false
 | .lst _, .int _=>some false
 | .lst _, .str _=>some false
 | .lst _, .tup _=>some false
 | .tup _, .non=>some false
 | .tup _, .bl _=>some false
 | .tup _, .int _=>some false
 | .tup _, .str _=>some false
 | .tup _, .lst _=>some false
 |_,_=>none
def eqF:Nat→D→D→Option Bool
 |n+1, .tup xs, .tup ys=>eqL (eqF n) xs ys
 |n+1, .lst xs, .lst ys=>eqL (eqF n) xs ys
 |n+1, .scr xs, .lst ys=>eqL (eqF n) (xs.map D.int) ys
 |_,x,y=>uy x y
structure EqAll (A:Around) (s:Shared) (u v:Value) (b:Bool):Prop where
 rc:RcAt A s u v b
 ne:RcNeAt A s u v (!b)
 eq:EqAt A s u v b
section
variable {X : Cx} {pins : List (Addr × Obj)} {σ : St} {F H : Hp} {s : Shared} {A : Around}
theorem e8 (I:Inv X pins σ H s) (hs:Same F H) {ds:List D}{v:V}{u:Value}(h:Den X.K F (.tup ds) v) (r:RelV v u):∃a vs its,u= .ref a∧v= .ref a∧F a=some (.tup vs)∧DenL X.K F ds vs∧Vals vs its∧s.heap.IsTuple a its.toArray:=by
 obtain⟨a,vs,rfl,h2,h3,h4⟩:=h
 obtain⟨its,r1,p1,_⟩:=I.tuple (SqT.of (hs _ _ h2))
 exact⟨a,vs,its,r,rfl,h2,h3,r1,p1⟩
theorem eD (I:Inv X pins σ H s) (hs:Same F H) {ds:List D}{v:V}{u:Value}(h:Den X.K F (.lst ds) v) (r:RelV v u):∃a vs its,u= .ref a∧v= .ref a∧F a=some (.lst vs)∧DenL X.K F ds vs∧Vals vs its∧s.heap.IsList a its.toArray:=by
 obtain⟨a,vs,rfl,h2,h3,h4⟩:=h
 obtain⟨its,r1,p1,_⟩:=I.list (SqL.of (hs _ _ h2))
 exact⟨a,vs,its,r,rfl,h2,h3,r1,p1.isList⟩
theorem CP (I:Inv X pins σ H s) (hs:Same F H) {ns:List Int}{v:V}{u:Value}(h:Den X.K F (.scr ns) v) (r:RelV v u):∃a its,u= .ref a∧v= .ref a∧SqL X.K F a (ns.map V.int)∧Vals (ns.map V.int) its∧s.heap.IsList a its.toArray:=by
 obtain⟨a,rfl,h2,h3⟩:=h
 obtain⟨its,r1,p1,_⟩:=I.list (Same.seq hs h2)
 exact⟨a,its,r,rfl,h2,r1,p1.isList⟩
theorem rA (I:Inv X pins σ H s) (hs:Same F H) (hu:A.units<cLine) {x y:D}{v w:V}{u t:Value}{b:Bool}(hx:Den X.K F x v) (hy:Den X.K F y w) (rx:RelV v u) (ry:RelV w t) (e:uy x y=some b):EqAll A s u t b:=by
 cases x with
 |non=>
  cases y with
  |non=>
   cases e
   cases (show _=_ from hx)
   cases rx
   cases (show _=_ from hy)
   cases ry
   exact⟨RcAt.none_none,RcNeAt.none_none,EqAt.same _⟩
  |bl d=>
   cases e
   cases (show _=_ from hx)
   cases rx
   cases (show _=_ from hy)
   cases ry
   exact⟨RcAt.none_bool _,RcNeAt.none_bool _,EqAt.none_bool _⟩
  |int d=>
   cases e
   cases (show _=_ from hx)
   cases rx
   cases (show _=_ from hy)
   obtain⟨t2,rfl⟩:=ry
   exact⟨RcAt.none_int _ _,RcNeAt.none_int _ _,EqAt.none_int _ _⟩
  |str d=>
   cases e
   cases (show _=_ from hx)
   cases rx
   cases (show _=_ from hy.1)
   obtain⟨t2,rfl⟩:=ry
   exact⟨RcAt.none_str _ _,RcNeAt.none_str _ _,EqAt.none_str _ _⟩
  |raw d=>cases e
  |dct _ _=>cases e
  |dci _ _=>cases e
  |exc d=>cases e
  |scr d=>cases e
  |tup d=>
   cases e
   cases (show _=_ from hx)
   cases rx
   obtain⟨a2,_,_,rfl,_,_,_,_,p2⟩:=e8 I hs hy ry
   exact⟨RcAt.none_tuple p2 hu,RcNeAt.none_tuple p2 hu,EqAt.none_tuple p2 hu⟩
  |lst d=>
   cases e
   cases (show _=_ from hx)
   cases rx
   obtain⟨a2,_,_,rfl,_,_,_,_,p2⟩:=eD I hs hy ry
   exact⟨RcAt.none_list p2 hu,RcNeAt.none_list p2 hu,EqAt.none_list p2 hu⟩
 |bl c=>
  cases y with
  |non=>
   cases e
   cases (show _=_ from hx)
   cases rx
   cases (show _=_ from hy)
   cases ry
   exact⟨RcAt.bool_none _,RcNeAt.bool_none _,EqAt.bool_none _⟩
  |bl d=>
   cases e
   cases (show _=_ from hx)
   cases rx
   cases (show _=_ from hy)
   cases ry
   exact⟨RcAt.bool_bool _ _,RcNeAt.bool_bool _ _,EqAt.bool_bool _ _⟩
  |int d=>
   cases e
   cases (show _=_ from hx)
   cases rx
   cases (show _=_ from hy)
   obtain⟨t2,rfl⟩:=ry
   exact⟨RcAt.bool_int _ _ _,RcNeAt.bool_int _ _ _,EqAt.bool_int _ _ _⟩
  |str d=>
   cases e
   cases (show _=_ from hx)
   cases rx
   cases (show _=_ from hy.1)
   obtain⟨t2,rfl⟩:=ry
   exact⟨RcAt.bool_str _ _ _,RcNeAt.bool_str _ _ _,EqAt.bool_str _ _ _⟩
  |raw d=>cases e
  |dct _ _=>cases e
  |dci _ _=>cases e
  |exc d=>cases e
  |scr d=>cases e
  |tup d=>
   cases e
   cases (show _=_ from hx)
   cases rx
   obtain⟨a2,_,_,rfl,_,_,_,_,p2⟩:=e8 I hs hy ry
   exact⟨RcAt.bool_tuple _ p2 hu,RcNeAt.bool_tuple _ p2 hu,EqAt.bool_tuple _ p2 hu⟩
  |lst d=>
   cases e
   cases (show _=_ from hx)
   cases rx
   obtain⟨a2,_,_,rfl,_,_,_,_,p2⟩:=eD I hs hy ry
   exact⟨RcAt.bool_list _ p2 hu,RcNeAt.bool_list _ p2 hu,EqAt.bool_list _ p2 hu⟩
 |int c=>
  cases y with
  |non=>
   cases e
   cases (show _=_ from hx)
   obtain⟨t1,rfl⟩:=rx
   cases (show _=_ from hy)
   cases ry
   exact⟨RcAt.int_none _ _,RcNeAt.int_none _ _,EqAt.int_none _ _⟩
  |bl d=>
   cases e
   cases (show _=_ from hx)
   obtain⟨t1,rfl⟩:=rx
   cases (show _=_ from hy)
   cases ry
   exact⟨RcAt.int_bool _ _ _,RcNeAt.int_bool _ _ _,EqAt.int_bool _ _ _⟩
  |int d=>
   cases e
   cases (show _=_ from hx)
   obtain⟨t1,rfl⟩:=rx
   cases (show _=_ from hy)
   obtain⟨t2,rfl⟩:=ry
   exact⟨RcAt.int_int _ _ _ _,RcNeAt.int_int _ _ _ _,EqAt.int_int _ _ _ _⟩
  |str d=>
   cases e
   cases (show _=_ from hx)
   obtain⟨t1,rfl⟩:=rx
   cases (show _=_ from hy.1)
   obtain⟨t2,rfl⟩:=ry
   exact⟨RcAt.int_str _ _ _ _,RcNeAt.int_str _ _ _ _,EqAt.int_str _ _ _ _⟩
  |raw d=>cases e
  |dct _ _=>cases e
  |dci _ _=>cases e
  |exc d=>cases e
  |scr d=>cases e
  |tup d=>
   cases e
   cases (show _=_ from hx)
   obtain⟨t1,rfl⟩:=rx
   obtain⟨a2,_,_,rfl,_,_,_,_,p2⟩:=e8 I hs hy ry
   exact⟨RcAt.int_tuple _ _ p2 hu,RcNeAt.int_tuple _ _ p2 hu,EqAt.int_tuple _ _ p2 hu⟩
  |lst d=>
   cases e
   cases (show _=_ from hx)
   obtain⟨t1,rfl⟩:=rx
   obtain⟨a2,_,_,rfl,_,_,_,_,p2⟩:=eD I hs hy ry
   exact⟨RcAt.int_list _ _ p2 hu,RcNeAt.int_list _ _ p2 hu,EqAt.int_list _ _ p2 hu⟩
 |str c=>
  cases y with
  |non=>
   cases e
   cases (show _=_ from hx.1)
   obtain⟨t1,rfl⟩:=rx
   cases (show _=_ from hy)
   cases ry
   exact⟨RcAt.str_none _ _,RcNeAt.str_none _ _,EqAt.str_none _ _⟩
  |bl d=>
   cases e
   cases (show _=_ from hx.1)
   obtain⟨t1,rfl⟩:=rx
   cases (show _=_ from hy)
   cases ry
   exact⟨RcAt.str_bool _ _ _,RcNeAt.str_bool _ _ _,EqAt.str_bool _ _ _⟩
  |int d=>
   cases e
   cases (show _=_ from hx.1)
   obtain⟨t1,rfl⟩:=rx
   cases (show _=_ from hy)
   obtain⟨t2,rfl⟩:=ry
   exact⟨RcAt.str_int _ _ _ _,RcNeAt.str_int _ _ _ _,EqAt.str_int _ _ _ _⟩
  |str d=>
   cases e
   cases (show _=_ from hx.1)
   obtain⟨t1,rfl⟩:=rx
   cases (show _=_ from hy.1)
   obtain⟨t2,rfl⟩:=ry
   exact⟨RcAt.str_str _ _ _ _,RcNeAt.str_str _ _ _ _,EqAt.str_str _ _ _ _⟩
  |raw d=>cases e
  |dct _ _=>cases e
  |dci _ _=>cases e
  |exc d=>cases e
  |scr d=>cases e
  |tup d=>
   cases e
   cases (show _=_ from hx.1)
   obtain⟨t1,rfl⟩:=rx
   obtain⟨a2,_,_,rfl,_,_,_,_,p2⟩:=e8 I hs hy ry
   exact⟨RcAt.str_tuple _ _ p2 hu,RcNeAt.str_tuple _ _ p2 hu,EqAt.str_tuple _ _ p2 hu⟩
  |lst d=>
   cases e
   cases (show _=_ from hx.1)
   obtain⟨t1,rfl⟩:=rx
   obtain⟨a2,_,_,rfl,_,_,_,_,p2⟩:=eD I hs hy ry
   exact⟨RcAt.str_list _ _ p2 hu,RcNeAt.str_list _ _ p2 hu,EqAt.str_list _ _ p2 hu⟩
 |raw _=>cases y<;>cases e
 |dct _ _=>cases y<;>cases e
 |dci _ _=>cases y<;>cases e
 |exc _=>cases y<;>cases e
 |scr c=>cases y<;>cases e
 |tup c=>
  cases y with
  |non=>
   cases e
   obtain⟨a1,_,_,rfl,_,_,_,_,p1⟩:=e8 I hs hx rx
   cases (show _=_ from hy)
   cases ry
   exact⟨RcAt.tuple_none p1 hu,RcNeAt.tuple_none p1 hu,EqAt.tuple_none p1 hu⟩
  |bl d=>
   cases e
   obtain⟨a1,_,_,rfl,_,_,_,_,p1⟩:=e8 I hs hx rx
   cases (show _=_ from hy)
   cases ry
   exact⟨RcAt.tuple_bool _ p1 hu,RcNeAt.tuple_bool _ p1 hu,EqAt.tuple_bool _ p1 hu⟩
  |int d=>
   cases e
   obtain⟨a1,_,_,rfl,_,_,_,_,p1⟩:=e8 I hs hx rx
   cases (show _=_ from hy)
   obtain⟨t2,rfl⟩:=ry
   exact⟨RcAt.tuple_int _ _ p1 hu,RcNeAt.tuple_int _ _ p1 hu,EqAt.tuple_int _ _ p1 hu⟩
  |str d=>
   cases e
   obtain⟨a1,_,_,rfl,_,_,_,_,p1⟩:=e8 I hs hx rx
   cases (show _=_ from hy.1)
   obtain⟨t2,rfl⟩:=ry
   exact⟨RcAt.tuple_str _ _ p1 hu,RcNeAt.tuple_str _ _ p1 hu,EqAt.tuple_str _ _ p1 hu⟩
  |raw d=>cases e
  |dct _ _=>cases e
  |dci _ _=>cases e
  |exc d=>cases e
  |scr d=>cases e
  |tup d=>cases e
  |lst d=>
   cases e
   obtain⟨a1,_,_,rfl,_,_,_,_,p1⟩:=e8 I hs hx rx
   obtain⟨a2,_,_,rfl,_,_,_,_,p2⟩:=eD I hs hy ry
   exact⟨RcAt.tuple_list p1 p2 hu,RcNeAt.tuple_list p1 p2 hu,EqAt.tuple_list p1 p2 hu⟩
 |lst c=>
  cases y with
  |non=>
   cases e
   obtain⟨a1,_,_,rfl,_,_,_,_,p1⟩:=eD I hs hx rx
   cases (show _=_ from hy)
   cases ry
   exact⟨RcAt.list_none p1 hu,RcNeAt.list_none p1 hu,EqAt.list_none p1 hu⟩
  |bl d=>
   cases e
   obtain⟨a1,_,_,rfl,_,_,_,_,p1⟩:=eD I hs hx rx
   cases (show _=_ from hy)
   cases ry
   exact⟨RcAt.list_bool _ p1 hu,RcNeAt.list_bool _ p1 hu,EqAt.list_bool _ p1 hu⟩
  |int d=>
   cases e
   obtain⟨a1,_,_,rfl,_,_,_,_,p1⟩:=eD I hs hx rx
   cases (show _=_ from hy)
   obtain⟨t2,rfl⟩:=ry
   exact⟨RcAt.list_int _ _ p1 hu,RcNeAt.list_int _ _ p1 hu,EqAt.list_int _ _ p1 hu⟩
  |str d=>
   cases e
   obtain⟨a1,_,_,rfl,_,_,_,_,p1⟩:=eD I hs hx rx
   cases (show _=_ from hy.1)
   obtain⟨t2,rfl⟩:=ry
   exact⟨RcAt.list_str _ _ p1 hu,RcNeAt.list_str _ _ p1 hu,EqAt.list_str _ _ p1 hu⟩
  |raw d=>cases e
  |dct _ _=>cases e
  |dci _ _=>cases e
  |exc d=>cases e
  |scr d=>cases e
  |tup d=>
   cases e
   obtain⟨a1,_,_,rfl,_,_,_,_,p1⟩:=eD I hs hx rx
   obtain⟨a2,_,_,rfl,_,_,_,_,p2⟩:=e8 I hs hy ry
   exact⟨RcAt.list_tuple p1 p2 hu,RcNeAt.list_tuple p1 p2 hu,EqAt.list_tuple p1 p2 hu⟩
  |lst d=>cases e
end
def ev (f:D→D→Option Bool) (xs ys:List D) (j:Nat):Bool:=match xs[j]?,ys[j]? with
 |some x,some y=>(f x y).getD false
 |_,_=>false
theorem sx {f:D→D→Option Bool}:∀{xs ys:List D}{b:Bool},eqL f xs ys=some b→∀(j:Nat) (x y:D),xs[j]? =some x→ys[j]? =some y→∃c,f x y=some c
 |[],_,_,_,_,_,_,h,_=>by simp at h
 |_::_,[],_,_,_,_,_,_,h=>by simp at h
 |x::xs,y::ys,b,e,j,x',y',hx,hy=>by
  unfold eqL at e
  split at e
  ·rename_i b1 r1 e1 e2
   cases j with
   |zero=>simp at hx hy;subst hx hy;exact⟨_,e1⟩
   |succ j=>exact sx e2 j x' y' (by simpa using hx) (by simpa using hy)
  ·cases e
theorem qa {f:D→D→Option Bool}:∀{xs ys:List D}{b:Bool},eqL f xs ys=some b→b=((List.range (min xs.length ys.length)).all (ev f xs ys)&&xs.length==ys.length)
 |[],[],_,e=>by cases e;rfl
 |[],_::_,_,e=>by cases e;simp
 |_::_,[],_,e=>by cases e;simp
 |x::xs,y::ys,b,e=>by
  unfold eqL at e
  split at e
  ·rename_i b1 r1 e1 e2
   cases e
   have h:=qa e2
   rw[List.length_cons,List.length_cons,Nat.succ_min_succ,List.range_succ_eq_map,List.all_cons,List.all_map]
   have e0:ev f (x::xs) (y::ys) 0=b1:=by unfold ev;simp[e1]
   have e3:(ev f (x::xs) (y::ys)∘Nat.succ)=ev f xs ys:=by funext j;simp[ev,Function.comp]
   have e4:(xs.length+1==ys.length+1)=(xs.length==ys.length):=by simp
   rw[e0,e3,e4,h,Bool.and_assoc]
  ·cases e
section
variable {X : Cx} {pins : List (Addr × Obj)} {σ : St} {F H : Hp} {s : Shared}
theorem jO {f:D→D→Option Bool}(h:∀x y v b,Den X.K F x v→Den X.K F y v→f x y=some b→b=true):∀{xs ys:List D}{vs:List V}{b:Bool},DenL X.K F xs vs→DenL X.K F ys vs→eqL f xs ys=some b→b=true
 |[],[],_,_,_,_,e=>by cases e;rfl
 |[],_::_,_,_,h1,h2,_=>by
  cases (show _=_ from h1)
  obtain⟨v,r,z,_⟩:=h2
  cases z
 |_::_,[],_,_,h1,h2,_=>by
  cases (show _=_ from h2)
  obtain⟨v,r,z,_⟩:=h1
  cases z
 |x::xs,y::ys,_,b,⟨v,r,e1,q1,q2⟩,⟨v',r',e2,q3,q4⟩,e=>by
  subst e1
  cases e2
  unfold eqL at e
  split at e
  ·rename_i b1 r1 f1 f2
   cases e
   rw[h x y v b1 q1 q3 f1,jO h q2 q4 f2]
   rfl
  ·cases e
theorem o3 {x y:D}{v:V}{b:Bool}(hx:Den X.K F x v) (hy:Den X.K F y v) (e:uy x y=some b):b=true:=by
 cases x<;>cases y<;>first
  |(cases e;done)
  |(cases e;cases (show _=_ from hx);cases (show _=_ from hy);first | rfl | simp)
  |(cases e;cases (show _=_ from hx.1);cases (show _=_ from hy.1);simp)
  |(cases e;cases (show _=_ from hx);cases (show _=_ from hy.1))
  |(cases e;cases (show _=_ from hx.1);cases (show _=_ from hy))
  |(cases e;obtain⟨_,_,z,_⟩:=hx;subst z;cases (show _=_ from hy);done)
  |(cases e;obtain⟨_,_,z,_⟩:=hx;subst z;cases (show _=_ from hy.1);done)
  |(cases e;obtain⟨_,z,_⟩:=hx;subst z;cases (show _=_ from hy);done)
  |(cases e;obtain⟨_,z,_⟩:=hx;subst z;cases (show _=_ from hy.1);done)
  |(cases e;obtain⟨_,_,z,_⟩:=hy;subst z;cases (show _=_ from hx);done)
  |(cases e;obtain⟨_,_,z,_⟩:=hy;subst z;cases (show _=_ from hx.1);done)
  |(cases e;obtain⟨_,z,_⟩:=hy;subst z;cases (show _=_ from hx);done)
  |(cases e;obtain⟨_,z,_⟩:=hy;subst z;cases (show _=_ from hx.1);done)
  |(cases e;obtain⟨_,_,z,h2,_⟩:=hx;obtain⟨_,_,z',h2',_⟩:=hy;subst z;cases z';rw[h2] at h2';cases h2';done)
  |(cases e;cases (show _=_ from hx);cases (show _=_ from hy);done)
  |(cases e;cases (show _=_ from hx.1);cases (show _=_ from hy.1);done)
theorem jR (I:Inv X pins σ H s) (hs:Same F H):∀(n:Nat) (x y:D) (v:V) (b:Bool),Den X.K F x v→Den X.K F y v→eqF n x y=some b→b=true
 |0,x,y,v,b,hx,hy,e=>o3 hx hy (by unfold eqF at e;exact e)
 |n+1,x,y,v,b,hx,hy,e=>by
  unfold eqF at e
  split at e
  ·rename_i xs ys _
   obtain⟨a,vs,rfl,h2,h3,_⟩:=hx
   obtain⟨a',vs',z,k2,k3,_⟩:=hy
   cases z
   rw[h2] at k2
   cases k2
   exact jO (jR I hs _) h3 k3 (by simpa using e)
  ·rename_i xs ys _
   obtain⟨a,vs,rfl,h2,h3,_⟩:=hx
   obtain⟨a',vs',z,k2,k3,_⟩:=hy
   cases z
   rw[h2] at k2
   cases k2
   exact jO (jR I hs _) h3 k3 (by simpa using e)
  ·rename_i xs ys _
   obtain⟨a,rfl,h2,_⟩:=hx
   obtain⟨a',vs',z,k2,k3,_⟩:=hy
   cases z
   have hv:=I.list_inj (Same.seq hs h2) (SqL.of (hs _ _ k2))
   rw[←hv] at k3
   exact jO (jR I hs _) (DenL.ints xs) k3 (by simpa using e)
  ·exact o3 hx hy e
theorem Vals.at {vs:List V}{its:List Value}(r:Vals vs its) {j:Nat}(h:j<its.toArray.size):∃v,vs[j]? =some v∧RelV v its.toArray[j]:=by
 have hl:=r.length
 have hj:j<vs.length:=by rw[List.size_toArray] at h;omega
 obtain⟨u,e1,e2⟩:=r.get (List.getElem?_eq_getElem hj)
 refine⟨vs[j],List.getElem?_eq_getElem hj,?_⟩
 have:its.toArray[j]=u:=by
  have:=(List.getElem?_eq_some_iff.mp e1).2
  simpa using this
 rw[this]
 exact e2
theorem lH {f:D→D→Option Bool}{A:Around}{xs ys:List D}{vs ws:List V}{its its2:List Value}{b:Bool}(h1:DenL X.K F xs vs) (h2:DenL X.K F ys ws) (r1:Vals vs its) (r2:Vals ws its2) (e:eqL f xs ys=some b)
 (ih:∀x y v w u t c,Den X.K F x v→Den X.K F y w→RelV v u→RelV w t→f x y=some c→EqAt A s u t c):
 ∀j (k1:j<its.toArray.size) (k2:j<its2.toArray.size),EqAt A s its.toArray[j] its2.toArray[j] (ev f xs ys j):=fun j k1 k2=>by
 obtain⟨v,e1,q1⟩:=Vals.at r1 k1
 obtain⟨w,e2,q2⟩:=Vals.at r2 k2
 obtain⟨x,e3,q3⟩:=h1.at e1
 obtain⟨y,e4,q4⟩:=h2.at e2
 obtain⟨c,hc⟩:=sx e j x y e3 e4
 have:ev f xs ys j=c:=by unfold ev;rw[e3,e4];simp[hc]
 rw[this]
 exact ih x y v w _ _ c q3 q4 q1 q2 hc
theorem oi {f:D→D→Option Bool}{A:Around}(hu:A.units<cLine) {xs ys:List D}{vs ws:List V}{its its2:List Value}{b:Bool}{a a':Addr}(h1:DenL X.K F xs vs) (h2:DenL X.K F ys ws) (r1:Vals vs its) (r2:Vals ws its2)
 (p1:s.heap.IsList a its.toArray) (p2:s.heap.IsList a' its2.toArray) (e:eqL f xs ys=some b) (hr:a=a'→b=true)
 (ih:∀x y v w u t c,Den X.K F x v→Den X.K F y w→RelV v u→RelV w t→f x y=some c→EqAt A.in1 s u t c):EqAll A s (.ref a) (.ref a') b:=by
 have l1:=h1.len
 have l2:=h2.len
 have l3:=r1.length
 have l4:=r2.length
 have hv:=qa e
 have core:RcAt A s (.ref a) (.ref a') b∧RcNeAt A s (.ref a) (.ref a') (!b):=by
  by_cases hl:xs.length=ys.length
  ·have hsz:its.toArray.size=its2.toArray.size:=by rw[List.size_toArray,List.size_toArray];omega
   have hb:b=(List.range its.toArray.size).all (ev f xs ys):=by
    rw[hv,hl,Nat.min_self,beq_self_eq_true,Bool.and_true]
    congr 2
    rw[List.size_toArray];omega
   rw[hb]
   exact⟨RcAt.lists p1 p2 hsz hu (lH h1 h2 r1 r2 e ih),RcNeAt.lists p1 p2 hsz hu (lH h1 h2 r1 r2 e ih)⟩
  ·have hb:b=false:=by rw[hv,show (xs.length==ys.length)=false from by simpa using hl,Bool.and_false]
   have hsz:(its.toArray.size !=its2.toArray.size)=true:=by
    rw[List.size_toArray,List.size_toArray]
    simp
    omega
   rw[hb]
   exact⟨RcAt.lists_lengths p1 p2 hsz hu,RcNeAt.lists_lengths p1 p2 hsz hu⟩
 refine⟨core.1,core.2,?_⟩
 by_cases hq:a=a'
 ·rw[hr hq]
  subst hq
  exact EqAt.same _
 ·exact EqAt.of_refs hq core.1
theorem tT {f:D→D→Option Bool}{A:Around}(hu:A.units<cLine) {xs ys:List D}{vs ws:List V}{its its2:List Value}{b:Bool}{a a':Addr}(h1:DenL X.K F xs vs) (h2:DenL X.K F ys ws) (r1:Vals vs its) (r2:Vals ws its2)
 (p1:s.heap.IsTuple a its.toArray) (p2:s.heap.IsTuple a' its2.toArray) (e:eqL f xs ys=some b) (hr:a=a'→b=true)
 (ih:∀x y v w u t c,Den X.K F x v→Den X.K F y w→RelV v u→RelV w t→f x y=some c→EqAt A.in1 s u t c):EqAll A s (.ref a) (.ref a') b:=by
 have l1:=h1.len
 have l2:=h2.len
 have l3:=r1.length
 have l4:=r2.length
 have hb:b=((List.range (min its.toArray.size its2.toArray.size)).all (ev f xs ys)&&its.toArray.size==its2.toArray.size):=by
  rw[qa e,List.size_toArray,List.size_toArray,←l3,←l4,←l1,←l2]
 have core:RcAt A s (.ref a) (.ref a') b∧RcNeAt A s (.ref a) (.ref a') (!b):=by
  rw[hb]
  exact⟨RcAt.tuples p1 p2 hu (lH h1 h2 r1 r2 e ih),RcNeAt.tuples p1 p2 hu (lH h1 h2 r1 r2 e ih)⟩
 refine⟨core.1,core.2,?_⟩
 by_cases hq:a=a'
 ·rw[hr hq]
  subst hq
  exact EqAt.same _
 ·exact EqAt.of_refs hq core.1
theorem qM (I:Inv X pins σ H s) (hs:Same F H):∀(n:Nat) (A:Around) (x y:D) (v w:V) (u t:Value) (b:Bool),A.units+n<cLine→Den X.K F x v→Den X.K F y w→RelV v u→RelV w t→eqF n x y=some b→EqAll A s u t b
 |0,A,x,y,v,w,u,t,b,hu,hx,hy,rx,ry,e=>rA I hs (by omega) hx hy rx ry (by unfold eqF at e;exact e)
 |n+1,A,x,y,v,w,u,t,b,hu,hx,hy,rx,ry,e=>by
  have hu0:A.units<cLine:=by omega
  have hu1:A.in1.units+n<cLine:=by show A.units+1+n<cLine;omega
  have hrefl:=jR (F:=F) I hs (n+1) x y
  have ih:∀x y v w u t c,Den X.K F x v→Den X.K F y w→RelV v u→RelV w t→eqF n x y=some c→EqAt A.in1 s u t c:=fun x y v w u t c q1 q2 q3 q4 q5=>(qM I hs n A.in1 x y v w u t c hu1 q1 q2 q3 q4 q5).eq
  have e0:=e
  unfold eqF at e
  split at e
  ·rename_i xs ys heq
   cases heq
   obtain⟨a,vs,its,rfl,ev1,h2,h3,r1,p1⟩:=e8 I hs hx rx
   obtain⟨a',vs',its',rfl,ev2,k2,k3,r1',p1'⟩:=e8 I hs hy ry
   exact tT hu0 h3 k3 r1 r1' p1 p1' e (fun z=>by subst z;exact hrefl v b hx (by rw[ev1,←ev2];exact hy) e0) ih
  ·rename_i xs ys heq
   cases heq
   obtain⟨a,vs,its,rfl,ev1,h2,h3,r1,p1⟩:=eD I hs hx rx
   obtain⟨a',vs',its',rfl,ev2,k2,k3,r1',p1'⟩:=eD I hs hy ry
   exact oi hu0 h3 k3 r1 r1' p1 p1' e (fun z=>by subst z;exact hrefl v b hx (by rw[ev1,←ev2];exact hy) e0) ih
  ·rename_i xs ys heq
   cases heq
   obtain⟨a,its,rfl,ev1,h2,r1,p1⟩:=CP I hs hx rx
   obtain⟨a',vs',its',rfl,ev2,k2,k3,r1',p1'⟩:=eD I hs hy ry
   exact oi hu0 (DenL.ints _) k3 r1 r1' p1 p1' e (fun z=>by subst z;exact hrefl v b hx (by rw[ev1,←ev2];exact hy) e0) ih
  ·exact rA I hs hu0 hx hy rx ry e
end
def gEq (x y:D):M D:=match eqF 6 x y with | some b=>M.ret (.bl b) | none=>M.stuck
def gNe (x y:D):M D:=match eqF 6 x y with | some b=>M.ret (.bl (!b)) | none=>M.stuck
def CQ (K:PySem.W.Frag):R2:=fun x y H Q=>∃F dx dy b,Same F H∧Den K F dx x∧Den K F dy y∧eqF 6 dx dy=some b∧Q (.bl b) H
def DV (K:PySem.W.Frag):R2:=fun x y H Q=>∃F dx dy b,Same F H∧Den K F dx x∧Den K F dy y∧eqF 6 dx dy=some b∧Q (.bl (!b)) H
section
variable {X : Cx} {Xw : Nat → Hp → Prop} {a b : Expr} {δa δb : DE} {pos : Pos}
theorem zC (hu:X.A.units+64<cLine):OpR X (compareOp .Eq) (CQ X.K):=by
 intro pins s σ H x y v u Q I rx ry h
 obtain⟨F,dx,dy,b,hs,hx,hy,e,q⟩:=h
 exact(qM I hs 6 X.A dx dy x y v u b (by omega) hx hy rx ry e).rc _ _ _ _ ⟨.bl b,H,I,rfl,q⟩
theorem B2 (hu:X.A.units+64<cLine):OpR X (compareOp .NotEq) (DV X.K):=by
 intro pins s σ H x y v u Q I rx ry h
 obtain⟨F,dx,dy,b,hs,hx,hy,e,q⟩:=h
 exact(qM I hs 6 X.A dx dy x y v u b (by omega) hx hy rx ry e).ne _ _ _ _ ⟨.bl (!b),H,I,rfl,q⟩
theorem zb {K:PySem.W.Frag}:OpD K (CQ K) gEq:=fun Xw F H x y dx dy Q s hx hy w=>by
 unfold gEq at w
 split at w
 ·rename_i b e
  exact⟨F,dx,dy,b,s,hx,hy,e,WP.now w s rfl⟩
 ·exact w.elim
theorem B4 {K:PySem.W.Frag}:OpD K (DV K) gNe:=fun Xw F H x y dx dy Q s hx hy w=>by
 unfold gNe at w
 split at w
 ·rename_i b e
  exact⟨F,dx,dy,b,s,hx,hy,e,WP.now w s rfl⟩
 ·exact w.elim
theorem mP (hu:X.A.units+64<cLine) (ha:PD X Xw a δa) (hb:PD X Xw b δb):PDT X Xw (.Compare a [.Eq] [b] pos) (tB' (d2 gEq δa δb)):=gw (zC hu) zb ha hb
theorem gQ (hu:X.A.units+64<cLine) (ha:PD X Xw a δa) (hb:PD X Xw b δb):PDT X Xw (.Compare a [.NotEq] [b] pos) (tB' (d2 gNe δa δb)):=gw (B2 hu) B4 ha hb
theorem s_ (hu:X.A.units+64<cLine) (ha:PD X Xw a δa) (hb:PD X Xw b δb):PD X Xw (.Compare a [.Eq] [b] pos) (d2 gEq δa δb):=yG (zC hu) zb ha hb
end
end L3
namespace L3
open PySem PySem.Spec L2 SeqAt
open PyProof.Rows hiding St
def PDW (X:Cx) (Xw:Nat→Hp→Prop) (e:Expr) (δ:DT):Prop:=PW X e (tDT X.K Xw δ)
theorem PW.weak {X:Cx}{e:Expr}{t t':TT}(h:PW X e t) (k:∀σ H Q,t' σ H Q→t σ H Q):PW X e t':=fun wh pins s σ H Q I w=>h wh pins s σ H Q I (k σ H Q w)
section
variable {X : Cx} {Xw : Nat → Hp → Prop} {a b c : Expr} {rest : List Expr} {δa δb δc : DE} {τa τb : DT} {pos : Pos}
theorem s9 (ha:PDT X Xw a τa):PDW X Xw (.BoolOp .And [a] pos) τa:=Aw ha
theorem ft (ha:PDT X Xw a τa):PDW X Xw (.BoolOp .Or [a] pos) τa:=CG ha
theorem qk (ha:PDT X Xw a τa) (hb:PDW X Xw (.BoolOp .And (b::rest) pos) τb):PDW X Xw (.BoolOp .And (a::b::rest) pos) (jH τa τb):=PW.weak (BD ha hb) fun σ H Q ⟨F,ρ,s,w⟩=>by
 refine⟨F,ρ,s,WPB.mono (WPB.bindB w) fun v H1 ⟨F1,e1,w1⟩=>?_⟩
 cases v with
 |true=>exact⟨F1,ρ,s.ext e1,w1⟩
 |false=>exact w1 _ _ (Ext.refl e1.fh)
theorem gJ (ha:PDT X Xw a τa) (hb:PDW X Xw (.BoolOp .Or (b::rest) pos) τb):PDW X Xw (.BoolOp .Or (a::b::rest) pos) (dOr τa τb):=PW.weak (Dc ha hb) fun σ H Q ⟨F,ρ,s,w⟩=>by
 refine⟨F,ρ,s,WPB.mono (WPB.bindB w) fun v H1 ⟨F1,e1,w1⟩=>?_⟩
 cases v with
 |false=>exact⟨F1,ρ,s.ext e1,w1⟩
 |true=>exact w1 _ _ (Ext.refl e1.fh)
theorem PDW.t (h:PDW X Xw a τa):PDT X Xw a τa:=PW.pt h
theorem dr (ha:PDT X Xw a τa):PDT X Xw (.UnaryOp .Not a pos) (cz τa):=PT.weak (CJ ha) fun σ H Q ⟨F,ρ,s,w⟩=>
 ⟨F,ρ,s,WPB.mono (WPB.bindB w) fun v H1 ⟨F1,e1,w1⟩=>w1 _ _ (Ext.refl e1.fh)⟩
def sY:D→M Bool
 | .non=>M.ret false
 | .bl b=>M.ret b
 | .lst ds=>M.ret (!ds.isEmpty)
 | .tup ds=>M.ret (!ds.isEmpty)
 |_=>M.stuck
def bU (δ:DE):DT:=fun ρ=>δ ρ>>=sY
theorem DenL.isEmpty {K:PySem.W.Frag}{F:Hp}{ds:List D}{vs:List V}(h:DenL K F ds vs):ds.isEmpty=vs.isEmpty:=by
 have:=h.len
 cases ds<;>cases vs<;>simp_all
theorem cH (ha:PD X Xw a δa) (he:∀whole,isTrue a X.env whole=(do let v←whole;standAt a.pos;holding [v] (truthy v)):=by intro _;rfl):PDT X Xw a (bU δa):=PT.weak (zg ha he) fun σ H Q ⟨F,ρ,s,w⟩=>by
 refine⟨F,ρ,s,WP.mono (WPB.bind (K:=X.K) w) fun v H1 ⟨F1,d,e1,q1,w1⟩=>?_⟩
 cases d with
 |non=>cases (show _=_ from q1);exact⟨false,rfl,w1 _ _ (Ext.refl e1.fh)⟩
 |bl b=>cases (show _=_ from q1);exact⟨b,rfl,w1 _ _ (Ext.refl e1.fh)⟩
 |lst ds=>
  obtain⟨a,vs,rfl,h2,h3,_⟩:=q1
  exact⟨!ds.isEmpty, .inl ⟨vs,SqL.of (e1.fh _ _ h2),by rw[h3.isEmpty]⟩,w1 _ _ (Ext.refl e1.fh)⟩
 |tup ds=>
  obtain⟨a,vs,rfl,h2,h3,_⟩:=q1
  exact⟨!ds.isEmpty, .inr (.inl ⟨vs,SqT.of (e1.fh _ _ h2),by rw[h3.isEmpty]⟩),w1 _ _ (Ext.refl e1.fh)⟩
 |_=>exact w1.elim
theorem qO {op} (h:PD X Xw a δa):PD X Xw (.BoolOp op [a] pos) δa:=Cf h
theorem mv (ha:PD X Xw a δa) (hb:PD X Xw (.BoolOp .And (b::rest) pos) δb):PD X Xw (.BoolOp .And (a::b::rest) pos) (dI δa δb):=PE.weak (CA ha hb) fun σ H Q ⟨F,ρ,s,w⟩=>by
 refine⟨F,ρ,s,WP.mono (WP.bind w) fun v H1 ⟨F1,d,e1,q1,w1⟩=>?_⟩
 cases d with
 |bl k=>
  refine⟨k,q1,?_⟩
  cases k with
  |true=>exact⟨F1,ρ,s.ext e1,w1⟩
  |false=>exact WP.now w1 e1.fh rfl
 |_=>exact w1.elim
theorem Bv (ha:PD X Xw a δa):PD X Xw (.UnaryOp .Not a pos) (A8 δa):=PE.weak (BA ha) fun σ H Q ⟨F,ρ,s,w⟩=>by
 refine⟨F,ρ,s,WP.mono (WP.bind w) fun v H1 ⟨F1,d,e1,q1,w1⟩=>?_⟩
 cases d with
 |bl k=>exact⟨k,q1,WP.now w1 e1.fh rfl⟩
 |_=>exact w1.elim
def chI (p q:Int→Int→Bool) (a b c:DE):DE:=fun ρ=>a ρ>>=fun x=>b ρ>>=fun y=>match x,y with
 | .int i, .int j=>if p i j then c ρ>>=fun z=>gI (fun i j=> .bl (q i j)) y z else M.ret (.bl false)
 |_,_=>M.stuck
theorem oF {p q:Int→Int→Bool}:∀σ H Q,tD X.K Xw (chI p q δa δb δc) σ H Q→uC (rI0 fun i j=> .bl (p i j)) (rI0 fun i j=> .bl (q i j)) (tD X.K Xw δa) (tD X.K Xw δb) (tD X.K Xw δc) σ H Q:=fun σ H Q ⟨F,ρ,s,w⟩=>by
 refine⟨F,ρ,s,WP.mono (WP.bind w) fun v H1 ⟨F1,d,e1,q1,w1⟩=>?_⟩
 refine⟨F1,ρ,s.ext e1,WP.mono (WP.bind w1) fun u H2 ⟨F2,d',e2,q2,w2⟩=>?_⟩
 cases d with
 |int i=>
  cases d' with
  |int j=>
   refine⟨i,j,q1,q2,p i j,rfl,?_⟩
   have w2:WP X.K Xw F2 H2 (if p i j then δc ρ>>=fun z=>gI (fun i j=> .bl (q i j)) (.int j) z else M.ret (.bl false)) Q:=w2
   cases hp:p i j with
   |false=>
    rw[hp] at w2
    exact WP.now w2 e2.fh rfl
   |true=>
    rw[hp] at w2
    refine⟨F2,ρ,(s.ext e1).ext e2,WP.mono (WP.bind w2) fun u' H3 ⟨F3,d'',e3,q3,w3⟩=>?_⟩
    exact yf (K:=X.K) (gv:=fun i j=> .bl (q i j)) (gd:=fun i j=> .bl (q i j)) (fun _ _ _=>rfl) Xw F3 H3 u u' (.int j) d'' Q e3.fh q2 q3 w3
  |_=>exact w2.elim
 |_=>exact w2.elim
theorem pG {op op':CmpOp}{p q:Int→Int→Bool}(ho:OpR X (compareOp op) (rI0 fun i j=> .bl (p i j))) (ho':OpR X (compareOp op') (rI0 fun i j=> .bl (q i j))) (ha:PD X Xw a δa) (hb:PD X Xw b δb) (hc:PD X Xw c δc)
 (hm:lastMarks [op,op'] [b,c]=false:=by with_unfolding_all rfl):PD X Xw (.Compare a [op,op'] [b,c] pos) (chI p q δa δb δc):=PE.weak (yl ho ho' ha hb hc hm) oF
theorem yk {op op':CmpOp}{p q:Int→Int→Bool}(ho:OpR X (compareOp op) (rI0 fun i j=> .bl (p i j))) (ho':OpR X (compareOp op') (rI0 fun i j=> .bl (q i j))) (ha:PD X Xw a δa) (hb:PD X Xw b δb) (hc:PD X Xw c δc)
 (hm:lastMarks [op,op'] [b,c]=false:=by with_unfolding_all rfl):PDT X Xw (.Compare a [op,op'] [b,c] pos) (tB' (chI p q δa δb δc)):=PT.weak (xS ho ho' ha hb hc hm) fun σ H Q ⟨F,ρ,s,w⟩=>by
 refine oF σ H _ ⟨F,ρ,s,WP.mono (WPB.bind w) fun v H1 ⟨F1,d,e1,q1,w1⟩=>?_⟩
 cases d with
 |bl k=>exact⟨k,q1,w1 _ _ (Ext.refl e1.fh)⟩
 |_=>exact w1.elim
def rP (K:PySem.W.Frag) (r:List V→Hp→VK→Prop) (g:List D→M D):Prop:=∀(Xw:Nat→Hp→Prop) (F H:Hp) (vs:List V) (ds:List D) (Q:VK),Same F H→DenL K F ds vs→WP K Xw F H (g ds) Q→r vs H Q
variable {x : Str} {p : Pos} {e : Expr} {es : List Expr} {δs : DA} {id T : String} {r : List V → Hp → VK → Prop} {g : List D → M D}
theorem y7 (h:rP X.K r g):∀σ H Q,tD X.K Xw (dA g δs) σ H Q→tCB r (tDA X.K Xw δs) σ H Q:=fun σ H Q ⟨F,ρ,s,w⟩=>
 ⟨F,ρ,s,WPL.mono (WP.bindL w) fun vs H1 ⟨F1,ds,e1,q1,w1⟩=>h Xw F1 H1 vs ds Q e1.fh q1 w1⟩
theorem eh (hc:CallR X (.builtin id) r) (hd:rP X.K r g) (hg:Gl X x) (hm:X.mg x=none) (hv:bootBuiltins x=some (.builtin id)) (ha:PDA X Xw (e::es) δs) (hn:x≠"__name__":=by decide) (hdb:(x==("__debug__":Str))=false:=by decide)
 (he:starEach (e::es) X.env=(false,eval e X.env)::starEach es X.env:=by rfl) (hpl:(backTo pos (starEach es X.env)).any (·.1)=false:=by rfl):PD X Xw (.Call (.Name x p) (e::es) [] pos) (dA g δs):=
 PE.weak (xp hc hg hm hv ha hn hdb he hpl) (y7 hd)
theorem vZ (hc:CallR X (.type T) r) (hd:rP X.K r g) (hg:Gl X x) (hm:X.mg x=none) (hv:bootBuiltins x=some (.type T)) (ha:PDA X Xw (e::es) δs) (hn:x≠"__name__":=by decide) (hdb:(x==("__debug__":Str))=false:=by decide)
 (he:starEach (e::es) X.env=(false,eval e X.env)::starEach es X.env:=by rfl) (hpl:(backTo pos (starEach es X.env)).any (·.1)=false:=by rfl):PD X Xw (.Call (.Name x p) (e::es) [] pos) (dA g δs):=
 PE.weak (n_ hc hg hm hv ha hn hdb he hpl) (y7 hd)
def aS:List D→M D
 |[.lst ds]=>M.ret (.int ds.length)
 |[.tup ds]=>M.ret (.int ds.length)
 |[.str x]=>M.ret (.int x.length)
 |[.scr ns]=>M.ret (.int ns.length)
 |_=>M.stuck
theorem v7:rP X.K (fun xs H Q=>(∃p ys,xs=[.ref p]∧(SqL X.K H p ys∨SqT X.K H p ys)∧Q (.int ys.length) H)∨∃z,xs=[.str z]∧z.length≤sizeLine∧Q (.int z.length) H) aS:=fun Xw F H vs ds Q s h w=>by
 unfold aS at w
 split at w
 ·obtain⟨v,rfl,h1⟩:=h.one
  obtain⟨a,vs,rfl,h2,h3,_⟩:=h1
  exact .inl ⟨a,vs,rfl, .inl (SqL.of (s _ _ h2)),by rw[←h3.len];exact WP.now w s rfl⟩
 ·obtain⟨v,rfl,h1⟩:=h.one
  obtain⟨a,vs,rfl,h2,h3,_⟩:=h1
  exact .inl ⟨a,vs,rfl, .inr (SqT.of (s _ _ h2)),by rw[←h3.len];exact WP.now w s rfl⟩
 ·obtain⟨v,rfl,h1⟩:=h.one
  cases (show _=_ from h1.1)
  exact .inr ⟨_,rfl,by have:=h1.2;have:=dD;omega,WP.now w s rfl⟩
 ·obtain⟨v,rfl,h1⟩:=h.one
  obtain⟨a,rfl,h2,_⟩:=h1
  exact .inl ⟨a,_,rfl, .inl (Same.seq s h2),by rw[List.length_map];exact WP.now w s rfl⟩
 ·exact w.elim
theorem bt (hg:Gl X "len") (hm:X.mg "len"=none) (ha:PDA X Xw [e] δs) (he:starEach [e] X.env=[(false,eval e X.env)]:=by rfl):PD X Xw (.Call (.Name "len" p) [e] [] pos) (dA aS δs):=
 eh (qw.or qy) v7 hg hm PySem.boot_len ha (by decide) (by decide) he rfl
def xY:List D→M D
 |[.int i]=>M.ret (.int (if i<0 then -i else i))
 |_=>M.stuck
def tQ:List D→M D
 |[.int i, .int j]=>M.ret (.int (if j>i then j else i))
 |_=>M.stuck
def w6:List D→M D
 |[.int i, .int j]=>M.ret (.int (if j<i then j else i))
 |_=>M.stuck
theorem yN (hg:Gl X "abs") (hm:X.mg "abs"=none) (ha:PDA X Xw [e] δs) (hb:bootBuiltins "abs"=some (.builtin "abs")) (he:starEach [e] X.env=[(false,eval e X.env)]:=by rfl):PD X Xw (.Call (.Name "abs" p) [e] [] pos) (dA xY δs):=
 eh zw (fun Xw F H vs ds Q s h w=>by
  unfold xY at w
  split at w
  ·obtain⟨v,rfl,h1⟩:=h.one
   cases (show _=_ from h1)
   exact⟨_,rfl,WP.now w s rfl⟩
  ·exact w.elim) hg hm hb ha (by decide) (by decide) he rfl
end
end L3
namespace L3
open PySem PySem.Spec L2 SeqAt
open PyProof.Rows hiding St
theorem WP.xw {K:PySem.W.Frag}{Xw Xw':Nat→Hp→Prop}{F H:Hp}{m:M D}{Q:VK}(h:WP K Xw F H m Q) (k:∀n H,Xw n H→Xw' n H):WP K Xw' F H m Q:=by
 match m,h with
 |none,h=>exact h
 |some (.ok d),h=>exact h
 |some (.ex n),h=>exact fun F' H' e=>k n H' (h F' H' e)
theorem cJ {X:Cx}{Xw:Nat→Hp→Prop}{st:Stmt}{τ:DS}(h:PSD X.nox (fun _ _=>False) st τ):PSD X Xw st (fun ρ=>noex (τ ρ)):=fun F₀ H₀ pins s σ H D I ⟨F,ρ,S,w⟩=>by
 have w:WPS X.K Xw F₀ H₀ (noex (τ ρ)) D:=w
 have w':tS X.K (fun _ _=>False) F₀ H₀ τ D σ H:=by
  refine⟨F,ρ,S,?_⟩
  rcases(τ ρ).cs with e | ⟨n,e⟩ | ⟨o,e⟩
  ·rw[e] at w;exact w.elim
  ·rw[e] at w;exact w.elim
  ·rw[e] at w⊢
   cases o with
   |nx ρ'=>exact w
   |rt d=>exact w
 refine wpAny_mono (h F₀ H₀ pins s σ H D (I.wish _) w') (fun f s' q=>SP.unwish q) fun _ _ z=>z.elim
def EX (cv:Nat→Value) (Xw:Nat→Hp→Prop):XK:=fun c _ H=>∃n,c=cv n∧Xw n H
def spD (K:PySem.W.Frag) (cv:Nat→Value) (k:Nat) (f:List D→M D):Sp:=fun vs H Q E=>∃F ds,Same F H∧DenL K F ds vs∧vs.length=k∧WP K (fun n H'=>E (cv n) none H') F H (f ds) Q
def bY (n:Nat) (τ:DS):List D→M D:=fun ds=>τ (ds.map (fun d=>some (Sl.fz d))++List.replicate (n - ds.length) none)>>=fun o=>match o with
 | .nx _=>M.ret .non
 | .rt d=>M.ret d
section
variable {P : Program} {w : World} {K : PySem.W.Frag} {mg : Str → Option Value} {base : Heap} {CX : CXT} {cv : Nat → Value}
theorem Dj {x qual:Str}{st:Stmt}{f:Addr}{fd:FuncData}{N ps:List Str}{k:Nat}{τ:DS}(Fn:Fun K x qual st f fd) (S:FnScope N ps (ag st))
 (hbody:∀(cdv:Value) (A:Around) (outer:List Env) (s:Shared) (H:Hp) (E:XK),Room k (A.deeper (envOfC qual (ag st) s.heap.objs.size f cdv))→
  PSDs (aZ CX P w K mg base N qual (ag st) f cdv A outer s H E) (fun n H'=>E (cv n) none H') (az st) τ):FnOk P w K mg base CX (k+1) f fd ps (spD K cv ps.length (bY N.length τ)):=by
 obtain⟨oc,od,kV,doc,pm,an,cdv,ct,osl,rfl,lk,hcd⟩:=Fn.ex
 refine A4 lk hcd S (fun vs H Q E ⟨_,_,_,_,hl,_⟩=>hl) fun A outer s H vs Q E hr hsp=>?_
 obtain⟨F,ds,fh,hd,hl,hw⟩:=hsp
 refine⟨_,hbody cdv A outer s H E hr F H,F,ds.map (fun d=>some (Sl.fz d))++List.replicate (N.length - ds.length) none,⟨Ext.refl fh,⟨fh,fun i sl e=>?_⟩,?_,fun i c a e=>?_,fun i j c c' a e=>?_⟩,?_⟩
 ·have hlen:=hd.len
  by_cases hi:i<ds.length
  ·rw[List.getElem?_append_left (by simpa using hi),List.getElem?_map] at e
   cases q:ds[i]? with
   |none=>rw[q] at e;cases e
   |some d=>
    rw[q] at e
    cases e
    obtain⟨v,e1,e2⟩:=hd.get q
    refine⟨v,?_,e2⟩
    unfold L2.start
    rw[List.getElem?_append_left (by simp;omega),List.getElem?_map,e1]
    rfl
  ·rw[List.getElem?_append_right (by simpa using hi),List.getElem?_replicate] at e
   split at e<;>cases e
 ·have hlen:=hd.len
  unfold L2.start
  simp[hlen]
 ·exfalso
  by_cases hi:i<ds.length
  ·rw[List.getElem?_append_left (by simpa using hi),List.getElem?_map] at e
   cases q:ds[i]? with
   |none=>rw[q] at e;cases e
   |some d=>rw[q] at e;cases e
  ·rw[List.getElem?_append_right (by simpa using hi),List.getElem?_replicate] at e
   split at e<;>cases e
 ·exfalso
  by_cases hi:i<ds.length
  ·rw[List.getElem?_append_left (by simpa using hi),List.getElem?_map] at e
   cases q:ds[i]? with
   |none=>rw[q] at e;cases e
   |some d=>rw[q] at e;cases e
  ·rw[List.getElem?_append_right (by simpa using hi),List.getElem?_replicate] at e
   split at e<;>cases e
 ·have hw:WP K (fun n H'=>E (cv n) none H') F H (τ (ds.map (fun d=>some (Sl.fz d))++List.replicate (N.length - ds.length) none)>>=fun o=>match o with | .nx _=>M.ret .non | .rt d=>M.ret d) Q:=hw
  rcases(τ (ds.map (fun d=>some (Sl.fz d))++List.replicate (N.length - ds.length) none)).cs with e | ⟨n,e⟩ | ⟨o,e⟩
  ·rw[e] at hw;exact hw.elim
  ·rw[e] at hw⊢;exact hw
  ·rw[e] at hw⊢
   cases o with
   |nx ρ'=>exact fun σ' F' H' s'=>hw .non H' F' s'.ext rfl
   |rt d=>exact fun v F' H' e' q=>hw v H' F' e' q
end
section
variable {X : Cx} {Xw : Nat → Hp → Prop} {CX : CXT} {cv : Nat → Value} {k m : Nat} {f : Addr} {fd : FuncData} {ps : List Str} {g : List D → M D} {x : Str} {p pos : Pos} {e : Expr} {es : List Expr} {δs : DA}
theorem AN (F:FnOk X.prog X.w X.K X.mg X.base CX k f fd ps (spD X.K cv m g)) (hr:Room k X.A) (hg:Gl X x) (hm:X.mg x=some (.ref f)) (hk:PySem.W.keepIn X.K (.ref f)=true) (hb:Binds X.K fd ps []) (hx:gL CX X (EX cv Xw))
 (ha:PDA X Xw (e::es) δs) (hl:(e::es).length=m) (hdb:(x==("__debug__":Str))=false:=by decide) (he:starEach (e::es) X.env=(false,eval e X.env)::starEach es X.env:=by rfl) (hpl:(backTo pos (starEach es X.env)).any (·.1)=false:=by rfl):
 PD X Xw (.Call (.Name x p) (e::es) [] pos) (fun ρ=>δs ρ>>=fun ds=>if ds.length=m then g ds else M.stuck):=PE.weak (zY F hr hg hm hk hb .nil hx ha hdb he hpl) fun σ H Q ⟨F,ρ,s,w⟩=>by
 refine⟨F,ρ,s,WPL.mono (WP.bindL w) fun vs H1 ⟨F1,ds,e1,q1,w1⟩=>?_⟩
 split at w1
 ·rename_i hl1
  refine⟨F1,ds,e1.fh,by simpa using q1,by rw[List.append_nil,←q1.len];exact hl1,WP.xw w1 fun n H h=>⟨n,rfl,h⟩⟩
 ·exact w1.elim
theorem pE {x:Str}{d:D}{v:V}{u:Value}(hg:Gl X x) (hm:X.mg x=some u) (r:RelV v u) (hd:∀F,Den X.K F d v) (hdb:(x==("__debug__":Str))=false:=by decide):PD X Xw (.Name x pos) (dC d):=
 gn (lA hg hm r hdb) hd
end
end L3
namespace L3
open PySem PySem.Spec L2 SeqAt
open PyProof.Rows hiding St
theorem obj_some {P:Program}{w:World}{H:Hp}{h:Heap}{a:Addr}{o:HO}(x:ObjOk P w H h a o):∃ob,h.get? a=some ob:=by
 cases o with
 |lst xs=>obtain⟨_,_,_,_,e⟩:=x;exact⟨_,e⟩
 |tup xs=>obtain⟨_,_,_,ob,e,_⟩:=x;exact⟨_,e⟩
 |dK kvs=>obtain⟨_,_,_,_,o,_,_,e,_⟩:=x;exact⟨_,e⟩
 |dT kvs=>obtain⟨_,_,_,_,o,_,_,e,_⟩:=x;exact⟨_,e⟩
 |set S n=>obtain⟨o,_,_,_,e,_⟩:=x;exact⟨_,e⟩
 |ins C dx fs=>obtain⟨_,_,_,e,_⟩:=x;exact⟨_,e⟩
 |own y=>obtain⟨_,e⟩:=x;exact⟨_,e⟩
 |xd fs=>obtain⟨_,⟨_,_,_,e,_⟩,_⟩:=x;exact⟨_,e⟩
 |rng lo hi=>obtain⟨_,_,_,e⟩:=x;exact⟨_,e⟩
 |frz ob u=>obtain⟨e,_⟩:=x;exact⟨_,e⟩
 |tbl ps=>exact⟨_,(show h.get? a=some _ from x)⟩
 |met f y=>exact⟨_,(show h.get? a=some _ from x)⟩
 |ext φ=>obtain⟨_,⟨_,e⟩,_⟩:=x;exact⟨_,e⟩
def CX1 (P:Program) (w:World) (cv:Nat→Value):CXT:=fun outer H s E e s'=>∃(ea:Addr) (n:Nat) (a0:Value) (B:Heap) (H':Hp),e= .ref ea∧s'.os=s.os∧AllBare s'.gens∧HOk P w H' s'.heap∧Un (frs outer) [] H H' s.heap s'.heap∧
 Heap.FlyingW B outer ea (cv n) a0 s'.heap∧(∀b o,s'.heap.get? b=some o→(H' b≠none∨(s.heap.get? b).isSome=true)→b∉frs outer→B.get? b=some o)∧E (cv n) none H'
section
variable {P : Program} {w : World} {fs : List Addr} {H₀ H : Hp} {h₀ h h' : Heap}
theorem qg (u:Un fs [] H₀ H h₀ h) (ka:∀b o,h.get? b=some o→b∉fs→(H b≠none∨(h₀.get? b).isSome=true)→h'.get? b=some o) (kb:∀b o,h.get? b=some o→b∈fs→∃sl,h'.get? b=some {o with slots:=sl}):Un fs [] H₀ H h₀ h' where
 keep:=fun b o e n hb hx=>ka b o (u.keep b o e n hb hx) hb (.inr (by rw[e];rfl))
 slot:=fun b o e n hb hx=>by
  obtain⟨sl,q⟩:=u.slot b o e n hb hx
  obtain⟨sl',q'⟩:=kb b _ q hb
  exact⟨sl',q'⟩
 free:=u.free
 there:=fun b o e hx=>by
  obtain⟨o',q⟩:=u.there b o e hx
  by_cases hb:b∈fs
  ·obtain⟨sl,q'⟩:=kb b _ q hb
   exact⟨_,q'⟩
  ·exact⟨o',ka b o' q hb (.inr (by rw[e];rfl))⟩
 tups:=u.tups
 frzs:=u.frzs
 tbls:=u.tbls
theorem mh (x:HOk P w H h) (hf:∀b∈fs,H b=none) (ka:∀b o,h.get? b=some o→b∉fs→H b≠none→h'.get? b=some o):HOk P w H h':=fun a o e=>by
 refine(x a o e).stay (fun b u hb q=>ka b u q (fun z=>?_) ?_) (fun _ q=>q) fun _ _ q=>q
 ·have hz:=hf b z
  rcases hb with rfl | hb
  ·rw[hz] at e;cases e
  ·rw[hz] at hb;cases hb
 ·rcases hb with rfl | hb
  ·rw[e];exact fun z=>nomatch z
  ·rw[hb];exact fun z=>nomatch z
end
section
variable {P : Program} {w : World} {K : PySem.W.Frag} {mg : Str → Option Value} {base : Heap} {N : List Str} {qual : Str} {scope : Scope} {f : Addr} {cd : Value} {A : Around} {outer : List Env} {s₀ : Shared} {H₀ : Hp} {E : XK} {cv : Nat → Value}
theorem bJ:gL (CX1 P w cv) (aZ (CX1 P w cv) P w K mg base N qual scope f cd A outer s₀ H₀ E) (EX cv fun n H'=>E (cv n) none H'):=by
 intro pins σ H s e s' I ⟨ea,n,a0,B,H',he,hos,hg,hok,un,fly,hB,m,hm,hE⟩
 subst he
 have hloc:((aZ (CX1 P w cv) P w K mg base N qual scope f cd A outer s₀ H₀ E)).env.locals=s₀.heap.objs.size:=rfl
 have hstk:frs ((aZ (CX1 P w cv) P w K mg base N qual scope f cd A outer s₀ H₀ E)).stack=s₀.heap.objs.size::frs outer:=rfl
 show wpAny (model P w) (A.deeper (envOfC qual scope s₀.heap.objs.size f cd)) (leaving (envOfC qual scope s₀.heap.objs.size f cd) (.ref ea)) _ _ s'
 refine wpAny_leaves_onW (base:=B) (outer:=outer) (L:=s₀.heap.objs.size) I.ok.frames rfl fly fun h' fly' ups=>?_
 have hfr:∀b∈frs ((aZ (CX1 P w cv) P w K mg base N qual scope f cd A outer s₀ H₀ E)).stack,H' b=none:=fun b hb=>by
  obtain⟨o,ho⟩:∃o,s.heap.get? b=some o:=by
   obtain⟨_,o,ho,_⟩:=I.stack.mem hb
   exact⟨o,ho⟩
  exact un.free b o ho (I.stkFree b hb) (by simp)
 have keepB:∀b o,s'.heap.get? b=some o→b∉frs ((aZ (CX1 P w cv) P w K mg base N qual scope f cd A outer s₀ H₀ E)).stack→(H' b≠none∨(s.heap.get? b).isSome=true)→h'.get? b=some o:=fun b o e hb hc=>fly'.1 b o (hB b o e hc hb)
 have unA:Un (frs outer) [] H₀ H' s₀.heap s'.heap:=by
  have u1:Un (frs outer) [] H₀ H s₀.heap s.heap:=I.base
  refine⟨fun b o e nn hb hx=>?_,fun b o e nn hb hx=>?_,fun b o e nn hx=>?_,fun b o e hx=>?_,fun b xs q=>un.tups b xs (u1.tups b xs q),fun b o u q=>un.frzs b o u (u1.frzs b o u q),fun b ps q=>?_⟩
  ·refine un.keep b o (u1.keep b o e nn hb hx) (u1.free b o e nn hx) (fun z=>?_) (by simp)
   rw[hstk] at z
   rcases List.mem_cons.mp z with z | z
   ·exact absurd (Heap.lt_size e) (by rw[z];exact Nat.lt_irrefl _)
   ·exact hb z
  ·obtain⟨sl,q⟩:=u1.slot b o e nn hb hx
   obtain⟨sl',q'⟩:=un.slot b _ q (u1.free b o e nn hx) (by rw[hstk];exact List.mem_cons_of_mem _ hb) (by simp)
   exact⟨sl',q'⟩
  ·obtain⟨o',q⟩:=u1.there b o e hx
   exact un.free b o' q (u1.free b o e nn hx) (by simp)
  ·obtain⟨o',q⟩:=u1.there b o e hx
   exact un.there b o' q (by simp)
  ·obtain⟨m1,q1⟩:=u1.tbls b ps q
   obtain⟨m2,q2⟩:=un.tbls b _ q1
   exact⟨m1++m2,by rw[q2,Array.append_assoc]⟩
 have inS:∀b,(s₀.heap.get? b).isSome=true→(s.heap.get? b).isSome=true:=fun b hb=>by
  obtain⟨o,ho⟩:=Option.isSome_iff_exists.mp hb
  obtain⟨o',q⟩:=(show Un (frs outer) [] H₀ H s₀.heap s.heap from I.base).there b o ho (by simp)
  rw[q];rfl
 have nloc:∀b,(s₀.heap.get? b).isSome=true→b≠s₀.heap.objs.size:=fun b hb z=>by
  obtain⟨o,ho⟩:=Option.isSome_iff_exists.mp hb
  exact absurd (Heap.lt_size ho) (by rw[z];exact Nat.lt_irrefl _)
 have nstk:∀b,b∉frs outer→(H' b≠none∨(s₀.heap.get? b).isSome=true)→b∉frs ((aZ (CX1 P w cv) P w K mg base N qual scope f cd A outer s₀ H₀ E)).stack:=fun b hb hc z=>by
  rcases hc with hc | hc
  ·exact hc (hfr b z)
  ·rw[hstk] at z
   rcases List.mem_cons.mp z with z | z
   ·exact nloc b hc z
   ·exact hb z
 refine⟨ea,n,a0,B,H',rfl,hos.trans I.os,hg,mh hok hfr (fun b o e hb hc=>keepB b o e hb (.inl hc)),qg unA (fun b o e hb hc=>keepB b o e (nstk b hb hc) (hc.imp id (inS b))) (fun b o e hb=>?_),fly',fun b o e hc hb=>?_,?_⟩
 ·obtain⟨_,o',ho',hd⟩:=fly.2.2.1.mem (show b∈frs ((aZ (CX1 P w cv) P w K mg base N qual scope f cd A outer s₀ H₀ E)).stack by rw[hstk];exact List.mem_cons_of_mem _ hb)
  rw[e] at ho'
  cases ho'
  exact ups b o e hd
 ·have hb':=nstk b hb hc
  obtain⟨o',ho'⟩:∃o',s'.heap.get? b=some o':=by
   rcases hc with hc | hc
   ·cases q:H' b with
    |none=>exact absurd q hc
    |some u=>
     exact obj_some (hok b u q)
   ·obtain⟨o1,h1⟩:=Option.isSome_iff_exists.mp hc
    exact unA.there b o1 h1 (by simp)
  have:=hB b o' ho' (hc.imp id (inS b)) hb'
  rw[fly'.1 b o' this] at e
  cases e
  exact this
 ·rw[hm];exact hE
def Bb (X:Cx) (cv:Nat→Value) (Xw:Nat→Hp→Prop):Prop:=∀(n:Nat) (pins:List (Addr×Obj)) (σ:St) (H:Hp) (s:Shared) (h':Heap) (ea:Addr) (args:List Value),Inv X pins σ H s→Heap.MadeExcOf s.heap h' ea (cv n) args→Xw n H→X.xe (.ref ea) {s with heap:=h'}
theorem xZ:Bb (aZ (CX1 P w cv) P w K mg base N qual scope f cd A outer s₀ H₀ E) cv (fun n H'=>E (cv n) none H'):=by
 intro n pins σ H s hh ea args I hx hE
 have hstk:frs ((aZ (CX1 P w cv) P w K mg base N qual scope f cd A outer s₀ H₀ E)).stack=s₀.heap.objs.size::frs outer:=rfl
 have hin:∀env∈((aZ (CX1 P w cv) P w K mg base N qual scope f cd A outer s₀ H₀ E)).stack,∀b,env.frame=some b→b∈frs ((aZ (CX1 P w cv) P w K mg base N qual scope f cd A outer s₀ H₀ E)).stack:=fun env he b hb=>List.mem_filterMap.mpr ⟨env,he,hb⟩
 have stays:(PySem.W.hideAll s.heap (frs ((aZ (CX1 P w cv) P w K mg base N qual scope f cd A outer s₀ H₀ E)).stack)).StaysIn s.heap:=fun b o q=>PySem.W.of_hideAll _ q
 show wpAny (model P w) (A.deeper (envOfC qual scope s₀.heap.objs.size f cd)) (leaving (envOfC qual scope s₀.heap.objs.size f cd) (.ref ea)) _ _ _
 refine wpAny_leaves_madeW (base:=PySem.W.hideAll s.heap (frs ((aZ (CX1 P w cv) P w K mg base N qual scope f cd A outer s₀ H₀ E)).stack)) (h:=s.heap) (outer:=outer) (L:=s₀.heap.objs.size) I.ok.frames rfl stays (PySem.W.funFrames_hide I.stack hin) hx fun h' t fly _ _ ups=>?_
 have hB:∀b o,s.heap.get? b=some o→b∉frs ((aZ (CX1 P w cv) P w K mg base N qual scope f cd A outer s₀ H₀ E)).stack→(PySem.W.hideAll s.heap (frs ((aZ (CX1 P w cv) P w K mg base N qual scope f cd A outer s₀ H₀ E)).stack)).get? b=some o:=fun b o e hb=>PySem.W.hideAll_get _ e hb
 have keepB:∀b o,s.heap.get? b=some o→b∉frs ((aZ (CX1 P w cv) P w K mg base N qual scope f cd A outer s₀ H₀ E)).stack→h'.get? b=some o:=fun b o e hb=>fly.1 b o (hB b o e hb)
 have u1:Un (frs outer) [] H₀ H s₀.heap s.heap:=I.base
 have nloc:∀b,(s₀.heap.get? b).isSome=true→b≠s₀.heap.objs.size:=fun b hb z=>by
  obtain⟨o,ho⟩:=Option.isSome_iff_exists.mp hb
  exact absurd (Heap.lt_size ho) (by rw[z];exact Nat.lt_irrefl _)
 have nstk:∀b,b∉frs outer→(H b≠none∨(s₀.heap.get? b).isSome=true)→b∉frs ((aZ (CX1 P w cv) P w K mg base N qual scope f cd A outer s₀ H₀ E)).stack:=fun b hb hc z=>by
  rcases hc with hc | hc
  ·exact hc (I.stkFree b z)
  ·rw[hstk] at z
   rcases List.mem_cons.mp z with z | z
   ·exact nloc b hc z
   ·exact hb z
 refine⟨ea,n, .ref t,PySem.W.hideAll s.heap (frs ((aZ (CX1 P w cv) P w K mg base N qual scope f cd A outer s₀ H₀ E)).stack),H,rfl,I.os,I.bare,mh I.hok I.stkFree (fun b o e hb hc=>keepB b o e hb),qg u1 (fun b o e hb hc=>keepB b o e (nstk b hb hc)) (fun b o e hb=>?_),fly,fun b o e hc hb=>?_,hE⟩
 ·obtain⟨_,o',ho',hd⟩:=I.stack.mem (show b∈frs ((aZ (CX1 P w cv) P w K mg base N qual scope f cd A outer s₀ H₀ E)).stack by rw[hstk];exact List.mem_cons_of_mem _ hb)
  rw[e] at ho'
  cases ho'
  exact ups b o (hx.keeps b o e) hd
 ·obtain⟨o',ho'⟩:∃o',s.heap.get? b=some o':=by
   rcases hc with hc | hc
   ·cases q:H b with
    |none=>exact absurd q hc
    |some u=>exact obj_some (I.hok b u q)
   ·obtain⟨o1,h1⟩:=Option.isSome_iff_exists.mp hc
    exact u1.there b o1 h1 (by simp)
  have hb':=nstk b hb hc
  rw[keepB b o' ho' hb'] at e
  cases e
  exact hB b o ho' hb'
end
section
variable {X : Cx} {Xw : Nat → Hp → Prop} {cv : Nat → Value} {n : Nat} {C : Addr} {x : Str} {np cpos pos : Pos} {e : Expr} {es : List Expr} {δs : DA} {bm : List Value} {B newId initId : String}
theorem kl (O:OwnCls x C bm newId X.mg X.base) (FB:ExcBaseFacts B newId initId bm) (hg:Gl X x) (hc:X.calm=true) (hcv:cv n= .ref C) (hx:Bb X cv Xw) (ha:PDA X Xw (e::es) δs) (hdb:(x==("__debug__":Str))=false:=by decide)
 (he:starEach (e::es) X.env=(false,eval e X.env)::starEach es X.env:=by rfl) (hpl:(backTo cpos (starEach es X.env)).any (·.1)=false:=by rfl):
 PSD X Xw (.Raise (some (.Call (.Name x np) (e::es) [] cpos)) none pos) (fun ρ=>δs ρ>>=fun ds=>if ds.length≤lim then M.raise n else M.stuck):=fun F₀ H₀ pins s σ H D I ⟨F,ρ,S,w⟩=>by
 obtain⟨tl,Nn,nm,q,bs,hdct,sn,sub,ab,col,dd,k0,k1,k2,k3,k5,mN,hC,hN,hni,T⟩:=O.obj
 refine wpAny_Raise_call_subT (C:=C) (nm:=nm) (q:=q) (N:=Nn) (bs:=bs) (bm:=tl) (hdct:=hdct) (sn:=sn) (sub:=sub) (ab:=ab) (col:=col) (dd:=dd) (k0:=k0) (k1:=k1) (k2:=k2) (k3:=k3) (k5:=k5)
  FB (mN:=mN) (T.hasType FB.hasBase) (I.ok.hd hc) (by rw[he];show (false||(backTo cpos (starEach es X.env)).any (·.1))=false;rw[hpl];rfl) hni (jC I hg O.bound ⟨rfl,?_⟩ hdb)
 have w:WPS X.K Xw F₀ H₀ (δs ρ>>=fun ds=>if ds.length≤lim then M.raise n else M.stuck) D:=w
 have hA:=ha cpos pins s σ H (fun vs H1=>vs.length≤lim∧Xw n H1) I ⟨F,ρ,S.st,by
  rcases(δs ρ).cs with q | ⟨m,q⟩ | ⟨ds,q⟩
  ·rw[q] at w;exact w.elim
  ·rw[q] at w⊢;exact fun F' H' e'=>w F' H' (S.ext.trans e')
  ·rw[q] at w⊢
   intro vs H' F' e' hd
   have w:WPS X.K Xw F₀ H₀ (if ds.length≤lim then M.raise n else M.stuck) D:=w
   split at w
   ·rename_i hl
    exact⟨by rw[←hd.len];exact hl,w F' H' (S.ext.trans e')⟩
   ·exact w.elim⟩
 rw[he] at hA⊢
 refine Calls.evalArgs_plain (thn hA fun us s₂ ⟨vs,H1,I1,r,hl,hX⟩=>⟨rfl,by rw[←r.length];have:=dD;omega,I1.bk _ _ hC,hN.keeps I1.bk,T.keeps I1.bk,fun h' ea hm=>hx n pins σ H1 s₂ h' ea us I1 (by rw[hcv];exact hm) hX⟩)
end
end L3
namespace L3
open PySem PySem.Spec L2 SeqAt
open PyProof.Rows hiding St
def A9:D→Option String
 | .non=>some "NoneType"
 | .bl _=>some "bool"
 | .int _=>some "int"
 | .str _=>some "str"
 | .tup _=>some "tuple"
 | .lst _=>some "list"
 |_=>none
def B7 (k T:String):Option Bool:=if T="str"∨T="int"∨T="bool"∨T="tuple"∨T="list" then some (decide (k=T)||(decide (k="bool")&&decide (T="int"))) else none
def gS:List D→M D
 |[d, .raw (.ty T)]=>match A9 d with
  |some k=>match B7 k T with
   |some b=>M.ret (.bl b)
   |none=>M.stuck
  |none=>M.stuck
 |_=>M.stuck
theorem Cg {K:PySem.W.Frag}{k T:String}{b:Bool}(hk:k="NoneType"∨k="bool"∨k="int"∨k="str"∨k="tuple"∨k="list") (h:B7 k T=some b):PySem.W.kitOne K (.type k) (.type T)=some b:=by
 unfold B7 at h
 split at h
 ·rename_i hT
  cases h
  rcases hk with rfl | rfl | rfl | rfl | rfl | rfl<;>rcases hT with rfl | rfl | rfl | rfl | rfl<;>with_unfolding_all rfl
 ·cases h
section
variable {X : Cx} {Xw : Nat → Hp → Prop} {a b e e2 : Expr} {es : List Expr} {δa δb : DE} {δs : DA} {pos p : Pos}
def DO (K:PySem.W.Frag):List V→Hp→VK→Prop:=fun xs H Q=>∃x T t b,xs=[x, .ty T]∧TyOf K H x t∧PySem.W.kitOne K t (.type T)=some b∧Q (.bl b) H
theorem xW:CallR X (.builtin "isinstance") (DO X.K):=by
 intro pins s σ H xs us Q I r h
 obtain⟨x,T,t,b,rfl,ty,e,q⟩:=h
 obtain⟨u,w',rfl,r1,r2⟩:=vals2 r
 cases (show w'=_ from r2)
 exact wM I r1 ty e fun tk=>⟨.bl b,H,I.tok tk,rfl,q⟩
theorem zk {K:PySem.W.Frag}{F H:Hp}{d:D}{v:V}{k:String}(s:Same F H) (h:Den K F d v) (hk:A9 d=some k):TyOf K H v (.type k)∧(k="NoneType"∨k="bool"∨k="int"∨k="str"∨k="tuple"∨k="list"):=by
 cases d with
 |non=>cases hk;cases (show _=_ from h);exact⟨.non, .inl rfl⟩
 |bl x=>cases hk;cases (show _=_ from h);exact⟨.bl x, .inr (.inl rfl)⟩
 |int x=>cases hk;cases (show _=_ from h);exact⟨.int x, .inr (.inr (.inl rfl))⟩
 |str x=>cases hk;cases (show _=_ from h.1);exact⟨.str x, .inr (.inr (.inr (.inl rfl)))⟩
 |tup x=>cases hk;obtain⟨a,vs,rfl,h2,_⟩:=h;exact⟨.tup (s _ _ h2), .inr (.inr (.inr (.inr (.inl rfl))))⟩
 |lst x=>cases hk;obtain⟨a,vs,rfl,h2,_⟩:=h;exact⟨.lst (s _ _ h2), .inr (.inr (.inr (.inr (.inr rfl))))⟩
 |_=>cases hk
theorem wJ {K:PySem.W.Frag}:rP K (DO K) gS:=fun Xw F H vs ds Q s h w=>by
 unfold gS at w
 split at w
 ·rename_i d T
  obtain⟨v,v',rfl,h1,h2⟩:=h.two
  cases (show _=_ from h2)
  split at w
  ·rename_i k hk
   split at w
   ·rename_i b hb
    obtain⟨ty,hk'⟩:=zk s h1 hk
    exact⟨v,T, .type k,b,rfl,ty,Cg hk' hb,WP.now w s rfl⟩
   ·exact w.elim
  ·exact w.elim
 ·exact w.elim
theorem jY (hg:Gl X "isinstance") (hm:X.mg "isinstance"=none) (hb:bootBuiltins "isinstance"=some (.builtin "isinstance")) (ha:PDA X Xw [e,e2] δs) (he:starEach [e,e2] X.env=(false,eval e X.env)::starEach [e2] X.env:=by rfl)
 (hpl:(backTo pos (starEach [e2] X.env)).any (·.1)=false:=by rfl):PD X Xw (.Call (.Name "isinstance" p) [e,e2] [] pos) (dA gS δs):=
 eh xW wJ hg hm hb ha (by decide) (by decide) he hpl
theorem nh {x:Str}{T:String}(hg:Gl X x) (hm:X.mg x=none) (hv:bootBuiltins x=some (.type T)) (hn:x≠"__name__":=by decide) (hd:(x==("__debug__":Str))=false:=by decide):PD X Xw (.Name x pos) (dC (.raw (.ty T))):=
 gn (v:= .ty T) (zS hg hm hv (show RelV (.ty T) (.type T) from rfl) hn hd) fun _=>rfl
def bools:List D→Option (List Bool)
 |[]=>some []
 | .bl b::r=>(bools r).map (b:: ·)
 |_=>none
def allM:List D→M D
 |[.lst ds]=>match bools ds with
  |some bs=>M.ret (.bl (bs.all id))
  |none=>M.stuck
 |_=>M.stuck
theorem iC {K:PySem.W.Frag}{F:Hp}:∀{ds:List D}{vs:List V}{bs:List Bool},bools ds=some bs→DenL K F ds vs→vs=bs.map V.bl
 |[],_,_,e,h=>by cases e;exact h
 | .bl b::r,_,_,e,⟨v,r',h1,h2,h3⟩=>by
   unfold bools at e
   cases q:bools r with
   |none=>rw[q] at e;cases e
   |some bs=>rw[q] at e;cases e;subst h1;rw[iC q h3,show v= .bl b from h2];rfl
 | .non::_,_,_,e,_=>by cases e
 | .int _::_,_,_,e,_=>by cases e
 | .str _::_,_,_,e,_=>by cases e
 | .raw _::_,_,_,e,_=>by cases e
 | .exc _::_,_,_,e,_=>by cases e
 | .scr _::_,_,_,e,_=>by cases e
 | .tup _::_,_,_,e,_=>by cases e
 | .lst _::_,_,_,e,_=>by cases e
theorem lC:∀{bs:List Bool}{its:List Value},Vals (bs.map V.bl) its→its=bs.map Value.bool
 |[],_,r=>by cases r;rfl
 |b::bs,_,r=>by
  cases r with
  |cons r1 r2=>cases (show _=_ from r1);rw[lC r2];rfl
def Eg:List V→Hp→VK→Prop:=fun xs H Q=>∃(a:Addr) (bs:List Bool),xs=[.ref a]∧H a=some (.lst (bs.map V.bl))∧Q (.bl (bs.all id)) H
theorem all_range {bs:List Bool}:(List.range bs.length).all (fun i=>bs.getD i false)=bs.all id:=by
 induction bs with
 |nil=>rfl
 |cons b bs ih=>
  rw[List.length_cons,List.range_succ_eq_map,List.all_cons,List.all_map,List.all_cons]
  congr 1
theorem wx (hc:X.calm=true):CallR X (.builtin "all") Eg:=by
 intro pins s σ H xs us Q I r h
 obtain⟨a,bs,rfl,hH,q⟩:=h
 obtain⟨u,rfl,r1⟩:=vals1 r
 cases (show u=_ from r1)
 obtain⟨its,r2,pl,hz⟩:=I.list (SqL.of (K:=X.K) hH)
 obtain rfl:=lC r2
 have hne:a≠s.heap.objs.size:=Nat.ne_of_lt (I.hok.lt hH)
 refine call_all_walk (wpAny_pyIter_list pl.isList ?_)
 refine⟨s.heap.objs.size,_,_,_,_,_,fun i=>bs.getD i false,rfl,Walks.list (A:=X.A.in1) (show X.A.in1.handled=none from I.ok.hd hc) s.heap.objs.size a hne (bs.map Value.bool).toArray,⟨⟨_,Heap.get?_push_size _ rfl,rfl,rfl⟩,Heap.IsList.at pl.isList fun o e=>Heap.get?_push_of_some _ e⟩,?_,fun h' tk k=>?_⟩
 ·intro i v s' Q' E' hv hq
  have hv:(bs.map Value.bool).toArray[i]? =some v:=hv
  rw[List.getElem?_toArray,List.getElem?_map] at hv
  cases q':bs[i]? with
  |none=>rw[q'] at hv;cases hv
  |some b=>
   rw[q'] at hv
   cases hv
   have:bs.getD i false=b:=by rw[List.getD_eq_getElem?_getD,q'];rfl
   have hq:Q' (bs.getD i false) s':=hq
   rw[this] at hq
   exact wpAny_truthy_bool hq
 ·have e:(List.range (bs.map Value.bool).toArray.size).all (fun i=>bs.getD i false)=bs.all id:=by
   rw[List.size_toArray,List.length_map];exact all_range
  rw[e]
  refine⟨.bl (bs.all id),H,I.kept (h':=h') (t':=tk) fun b o e'=>k b o (fun z=>?_) (Heap.get?_push_of_some _ e'),rfl,q⟩
  have z:b=s.heap.objs.size:=by simpa using z
  exact absurd (Heap.lt_size e') (by rw[z];exact Nat.lt_irrefl _)
theorem t6 (hc:X.calm=true) (hg:Gl X "all") (hm:X.mg "all"=none) (hb:bootBuiltins "all"=some (.builtin "all")) (ha:PDA X Xw [e] δs) (he:starEach [e] X.env=[(false,eval e X.env)]:=by rfl):PD X Xw (.Call (.Name "all" p) [e] [] pos) (dA allM δs):=
 eh (wx hc) (fun Xw F H vs ds Q s h w=>by
  unfold allM at w
  split at w
  ·rename_i ds
   obtain⟨v,rfl,h1⟩:=h.one
   obtain⟨a,ws,rfl,h2,h3,_⟩:=h1
   split at w
   ·rename_i bs hb
    exact⟨a,bs,rfl,by rw[←iC hb h3];exact s _ _ h2,WP.now w s rfl⟩
   ·exact w.elim
  ·exact w.elim) hg hm hb ha (by decide) (by decide) he rfl
end
end L3
namespace L3
open PySem PySem.Spec L2 SeqAt
open PyProof.Rows hiding St
section
variable {X : Cx} {Xw : Nat → Hp → Prop} {a b e e2 : Expr} {es : List Expr} {δ δa δb : DE} {δs : DA} {pos p apos cpos : Pos}
theorem AX {i:Nat}:∀F₀ H₀ D σ H,tS X.K Xw F₀ H₀ (gY i δ) D σ H→ze (tBM X.K "list" vj (m9 i) (xN (tD X.K Xw δ) BZ)) D σ H:=fun F₀ H₀ D σ H ⟨F,ρ,s,w⟩=>by
 unfold gY at w
 cases ho:wI ρ i with
 |none=>rw[ho] at w;exact w.elim
 |some ds=>
  rw[ho] at w
  have hi:=oD ho
  obtain⟨v,hv,a,o,rfl,hH,hF,vs,rfl,hd,hl⟩:=s.st.den i _ hi
  have w:WPS X.K Xw F₀ H₀ (δ ρ>>=fun d=>if ds.length<lim then M.ret (.nx (ρ.set i (some (.ow (.lst (ds++[d])))))) else M.stuck) D:=w
  refine⟨.ref a,hv, .inl ⟨rfl,vs,SqL.of hH⟩,F,ρ,s.st,?_⟩
  rcases(δ ρ).cs with q | ⟨n,q⟩ | ⟨d,q⟩
  ·rw[q] at w;exact w.elim
  ·rw[q] at w⊢;exact fun F' H' e'=>w F' H' (s.ext.trans e')
  ·rw[q] at w⊢
   intro u H1 F1 e1 hq
   have w:WPS X.K Xw F₀ H₀ (if ds.length<lim then M.ret (.nx (ρ.set i (some (.ow (.lst (ds++[d])))))) else M.stuck) D:=w
   split at w
   ·rename_i hlt
    have hlen:=hd.len
    refine⟨a,vs,u,rfl,rfl,e1.hh _ _ hH,by have:=dD;omega,?_⟩
    exact w σ F1 _ ((s.ext' e1).chg (c₀:= .lst (ds++[d])) hi hv ⟨_,rfl,DenL.append (DenL.mono e1.ff hd) (.cons hq .nil),by rw[List.length_append];exact hlt⟩)
   ·exact w.elim
theorem As {i:Nat}:∀F₀ H₀ D σ H,tS X.K Xw F₀ H₀ (y0 i δ) D σ H→ze (tBM X.K "list" uY (m9 i) (xN (tD X.K Xw δ) BZ)) D σ H:=fun F₀ H₀ D σ H ⟨F,ρ,s,w⟩=>by
 unfold y0 at w
 cases ho:wI ρ i with
 |none=>rw[ho] at w;exact w.elim
 |some ds=>
  rw[ho] at w
  have hi:=oD ho
  obtain⟨v,hv,a,o,rfl,hH,hF,vs,rfl,hd,hl⟩:=s.st.den i _ hi
  have w:WPS X.K Xw F₀ H₀ (δ ρ>>=fun d=>lstM d>>=fun es=>if ds.length+es.length≤lim then M.ret (.nx (ρ.set i (some (.ow (.lst (ds++es)))))) else M.stuck) D:=w
  refine⟨.ref a,hv, .inl ⟨rfl,vs,SqL.of hH⟩,F,ρ,s.st,?_⟩
  rcases(δ ρ).cs with q | ⟨n,q⟩ | ⟨d,q⟩
  ·rw[q] at w;exact w.elim
  ·rw[q] at w⊢;exact fun F' H' e'=>w F' H' (s.ext.trans e')
  ·rw[q] at w⊢
   intro u H1 F1 e1 hq
   cases d with
   |lst es=>
    obtain⟨b,ws,rfl,k2,k3,k4⟩:=hq
    have w:WPS X.K Xw F₀ H₀ (if ds.length+es.length≤lim then M.ret (.nx (ρ.set i (some (.ow (.lst (ds++es)))))) else M.stuck) D:=w
    split at w
    ·rename_i hlt
     have hlen:=hd.len
     have hlen':=k3.len
     refine⟨a,b,vs,ws,rfl,rfl,e1.hh _ _ hH,e1.fh _ _ k2,by have:=dD;omega,?_⟩
     exact w σ F1 _ ((s.ext' e1).chg (c₀:= .lst (ds++es)) hi hv ⟨_,rfl,DenL.append (DenL.mono e1.ff hd) k3,by rw[List.length_append];exact hlt⟩)
    ·exact w.elim
   |_=>exact w.elim
theorem iA {i:Nat}{x:Str}(hv:PE X (.Name x p) (m9 i)) (he:PD X Xw e δ) (hs:swapsWith (.Call (.Attribute (.Name x p) "append" apos) [e] [] cpos) none pos.line X.env=pure false:=by rfl)
 (hbase:attributeBase (.Name x p) "append" X.env (eval (.Name x p) X.env)=eval (.Name x p) X.env:=by rfl)
 (hfew:((backTo cpos (starEach [e] X.env)).all (fun x=>!x.1)&&(backToKw cpos (keywordEach [] X.env)).all (fun x=>x.1.isSome)&&decide ([e].length+([]:List Keyword).length+(if ([]:List Keyword).isEmpty then 0 else 1)<30))=true:=by rfl)
 (hline:(apos.endLine==cpos.line)=true:=by rfl) (hst:starEach [e] X.env=[(false,eval e X.env)]:=by rfl):PSD X Xw (.Expr (.Call (.Attribute (.Name x p) "append" apos) [e] [] cpos) pos) (gY i δ):=fun F₀ H₀=>
 PS.weak (lz (zo PySem.F.plainAttrs_list PySem.F.slot_list_append PySem.F.type_list_append oY hv (iB he me hst) hbase hfew hline hst rfl) hs) fun D σ H w=>AX F₀ H₀ D σ H w
theorem AH {i:Nat}{x:Str}(hv:PE X (.Name x p) (m9 i)) (he:PD X Xw e δ) (hs:swapsWith (.Call (.Attribute (.Name x p) "extend" apos) [e] [] cpos) none pos.line X.env=pure false:=by rfl)
 (hbase:attributeBase (.Name x p) "extend" X.env (eval (.Name x p) X.env)=eval (.Name x p) X.env:=by rfl)
 (hfew:((backTo cpos (starEach [e] X.env)).all (fun x=>!x.1)&&(backToKw cpos (keywordEach [] X.env)).all (fun x=>x.1.isSome)&&decide ([e].length+([]:List Keyword).length+(if ([]:List Keyword).isEmpty then 0 else 1)<30))=true:=by rfl)
 (hline:(apos.endLine==cpos.line)=true:=by rfl) (hst:starEach [e] X.env=[(false,eval e X.env)]:=by rfl):PSD X Xw (.Expr (.Call (.Attribute (.Name x p) "extend" apos) [e] [] cpos) pos) (y0 i δ):=fun F₀ H₀=>
 PS.weak (lz (zo PySem.F.plainAttrs_list PySem.F.slot_list_extend PySem.F.type_list_extend wA hv (iB he me hst) hbase hfew hline hst rfl) hs) fun D σ H w=>As F₀ H₀ D σ H w
theorem xu:OpR X (binaryOp .Add) (fun x y H Q=>∃a b ys,x= .ref a∧y= .ref b∧SqT X.K H a []∧SqT X.K H b ys∧Q (.ref b) H):=by
 intro pins s σ H x y v u Q I rx ry h
 obtain⟨a,b,ys,rfl,rfl,ha,hb,q⟩:=h
 cases rx
 cases ry
 obtain⟨its,r1,p1,_⟩:=I.tuple ha
 obtain⟨its2,r2,p2,_⟩:=I.tuple hb
 cases r1
 obtain⟨⟨cls,dd,data,sl⟩,ho,hc,n,hd⟩:=id p1
 obtain⟨⟨cls2,dd2,data2,sl2⟩,ho2,hc2,n2,hd2⟩:=id p2
 simp only at hc hd hc2 hd2
 subst hc hd hc2 hd2
 exact concat_meets ⟨_,ho,rfl⟩ ⟨_,ho2,rfl⟩ noFill_tuple_add seq_tuple_add PySem.F.slot_tuple_add PySem.F.entry_tuple_add (PySem.F.args_tuple_add_2 _ _)
  (tuple_addW0 a b _ _ n n2 dd dd2 sl sl2 (by simp)) ⟨ho,ho2,⟨.ref b,H,I,rfl,q⟩⟩
def sE:D→D→M D
 | .tup x, .tup y=>if x.length+y.length≤lim then M.ret (.tup (x++y)) else M.stuck
 |_,_=>M.stuck
theorem z3 (ha:PD X Xw a δa) (hb:PD X Xw b δb):PD X Xw (.BinOp a .Add b pos) (d2 sE δa δb):=kr (xu.or AY) (fun Xw F H x y dx dy Q s hx hy w=>by
 unfold sE at w
 split at w
 ·rename_i i j
  obtain⟨a,vs,h1,h2,h3,h4⟩:=hx
  obtain⟨a',vs',k1,k2,k3,k4⟩:=hy
  split at w
  ·rename_i hl
   have e1:=h3.len
   have e2:=k3.len
   have:=dD
   by_cases hv:vs=[]
   ·subst hv
    have:i=[]:=by cases i with | nil=>rfl | cons _ _=>simp at e1
    subst this
    exact .inl ⟨a,a',vs',h1,k1,SqT.of (s _ _ h2),SqT.of (s _ _ k2),WP.now w s ⟨a',vs',k1▸rfl,k2,k3,k4⟩⟩
   ·refine .inr ⟨a,a',vs,vs',h1,k1,SqT.of (s _ _ h2),SqT.of (s _ _ k2),hv,by omega,fun z=>?_,fun z p hp=>?_⟩
    ·subst z
     have:j=[]:=by cases j with | nil=>rfl | cons _ _=>simp at e2
     subst this
     rw[List.append_nil] at w
     exact WP.now w s ⟨a,vs,rfl,h2,h3,h4⟩
    ·exact WP.fin w (Ext.lay s hp) ⟨p,_,rfl,aF,DenL.mono (Ext.lay s hp).ff (h3.append k3),by rw[List.length_append];exact hl⟩
  ·exact w.elim
 ·exact w.elim) ha hb
end
end L3
namespace L3
open PySem PySem.Spec L2 SeqAt
open PyProof.Rows hiding St
section
variable {X : Cx} {Xw : Nat → Hp → Prop} {a b e e2 o : Expr} {es : List Expr} {δ δa δb δo : DE} {δs : DA} {pos p apos cpos : Pos}
def dM (kd:D→Bool) (g:D→List D→M D) (o:DE) (s:DA):DE:=fun ρ=>o ρ>>=fun d=>if kd d then s ρ>>=fun ds=>g d ds else M.stuck
theorem xo {T:String}{name:Str}{id:String}{r:V→List V→Hp→VK→Prop}{kd:D→Bool}{g:D→List D→M D}(pa:PlainAttrs T) (slot:Slot T name id) (hty:typeOf (.builtin id)=pure (.type "method_descriptor")) (hm:MtR X id r)
 (hk:∀(F H:Hp) (x:V) (d:D),kd d=true→Same F H→Den X.K F d x→tyV X.K T x H)
 (hd:∀(Xw:Nat→Hp→Prop) (F H:Hp) (x:V) (vs:List V) (d:D) (ds:List D) (Q:VK),Same F H→Den X.K F d x→DenL X.K F ds vs→WP X.K Xw F H (g d ds) Q→r x vs H Q)
 (ho:PD X Xw o δo) (ha:PDA X Xw (e::es) δs)
 (hbase:attributeBase o name X.env (eval o X.env)=eval o X.env:=by rfl)
 (hfew:((backTo cpos (starEach (e::es) X.env)).all (fun x=>!x.1)&&(backToKw cpos (keywordEach [] X.env)).all (fun x=>x.1.isSome)
  &&decide ((e::es).length+([]:List Keyword).length+(if ([]:List Keyword).isEmpty then 0 else 1)<30))=true:=by rfl)
 (hline:(apos.endLine==cpos.line)=true:=by rfl) (hs:starEach (e::es) X.env=(false,eval e X.env)::starEach es X.env:=by rfl) (hplain:(backTo cpos (starEach es X.env)).any (·.1)=false:=by rfl):
 PD X Xw (.Call (.Attribute o name apos) (e::es) [] cpos) (dM kd g δo δs):=PE.weak (zo pa slot hty hm ho ha hbase hfew hline hs hplain) fun σ H Q ⟨F,ρ,s,w⟩=>by
 refine⟨F,ρ,s,WP.mono (WP.bind w) fun v H1 ⟨F1,d,e1,q1,w1⟩=>?_⟩
 split at w1
 ·rename_i hkd
  refine⟨hk F1 H1 v d hkd e1.fh q1,F1,ρ,s.ext e1,WPL.mono (WP.bindL w1) fun vs H2 ⟨F2,ds,e2,q2,w2⟩=>?_⟩
  exact hd Xw F2 H2 v vs d ds Q e2.fh (Den.mono e2.ff q1) q2 w2
 ·exact w1.elim
def isS:D→Bool
 | .str _=>true
 |_=>false
def kq:D→Bool
 | .lst _=>true
 |_=>false
theorem CM {K:PySem.W.Frag}(F H:Hp) (x:V) (d:D) (h:isS d=true) (s:Same F H) (q:Den K F d x):tyV K "str" x H:=by
 cases d with
 |str z=>cases (show _=_ from q.1);exact rfl
 |_=>cases h
theorem sJ {K:PySem.W.Frag}(F H:Hp) (x:V) (d:D) (h:kq d=true) (s:Same F H) (q:Den K F d x):tyV K "list" x H:=by
 cases d with
 |lst z=>obtain⟨a,vs,rfl,h2,_⟩:=q;exact .inl ⟨rfl,vs,SqL.of (s _ _ h2)⟩
 |_=>cases h
def qE:List D→Option (List Str)
 |[]=>some []
 | .str x::r=>(qE r).map (x:: ·)
 |_=>none
theorem mO {K:PySem.W.Frag}{F:Hp}:∀{ds:List D}{vs:List V}{xs:List Str},qE ds=some xs→DenL K F ds vs→vs=xs.map V.str
 |[],_,_,e,h=>by cases e;exact h
 | .str b::r,_,_,e,⟨v,r',h1,h2,h3⟩=>by
   unfold qE at e
   cases q:qE r with
   |none=>rw[q] at e;cases e
   |some bs=>rw[q] at e;cases e;subst h1;rw[mO q h3,show v= .str b from h2.1];rfl
 | .non::_,_,_,e,_=>by cases e
 | .int _::_,_,_,e,_=>by cases e
 | .bl _::_,_,_,e,_=>by cases e
 | .raw _::_,_,_,e,_=>by cases e
 | .exc _::_,_,_,e,_=>by cases e
 | .scr _::_,_,_,e,_=>by cases e
 | .tup _::_,_,_,e,_=>by cases e
 | .lst _::_,_,_,e,_=>by cases e
theorem lL:∀{xs:List Str}{its:List Value},Vals (xs.map V.str) its→StrsAre its xs
 |[],_,r=>by cases r;exact .nil
 |b::bs,_,r=>by
  cases r with
  |cons r1 r2=>obtain⟨t,rfl⟩:=r1;exact .cons b t (lL r2)
def fo:List Str→Str
 |[]=>⟨#[]⟩
 |x::r=>x++fo r
def joinM:D→List D→M D
 | .str sep,[.lst ds]=>match qE ds with
   |some xs=>if sep.length=0∧(xs.map (·.length)).sum≤lim then M.ret (.str (fo xs)) else M.stuck
   |none=>M.stuck
 | .str sep,[.tup ds]=>match qE ds with
   |some xs=>if sep.length=0∧(xs.map (·.length)).sum≤lim then M.ret (.str (fo xs)) else M.stuck
   |none=>M.stuck
 |_,_=>M.stuck
theorem mE:∀xs:List Str,(fo xs).length=(xs.map (·.length)).sum
 |[]=>rfl
 |x::r=>by
  show (x++fo r).length=_
  rw[gZ,mE r,List.map_cons,List.sum_cons]
theorem Ah {x:Str}(h:x.length=0):x=⟨#[]⟩:=by
 obtain⟨⟨l⟩⟩:=x
 have:l.length=0:=h
 cases l with
 |nil=>rfl
 |cons _ _=>simp at this
theorem kJ (x:Str):x++(⟨#[]⟩:Str)=x:=by
 obtain⟨c⟩:=x
 show (⟨c++ #[]⟩:Str)=⟨c⟩
 simp
theorem kK (sep:Str) (h:sep.length=0):∀xs:List Str,Txt.join sep xs=fo xs:=by
 have e:=Ah h
 subst e
 intro xs
 show Builtin.Str.glued _ xs=_
 rw[StrLaws.glued_eq_join]
 induction xs with
 |nil=>rfl
 |cons x r ih=>
  cases r with
  |nil=>show x=x++(⟨#[]⟩:Str);rw[kJ]
  |cons y r=>show x++(⟨#[]⟩:Str)++Str.join _ (y::r)=x++fo (y::r);rw[kJ,ih]
def rJoin (K:PySem.W.Frag):V→List V→Hp→VK→Prop:=fun x vs H Q=>∃(sep:Str) (a:Addr) (xs:List Str),x= .str sep∧vs=[.ref a]∧(H a=some (.lst (xs.map V.str))∨H a=some (.tup (xs.map V.str)))∧sep.length=0∧(xs.map (·.length)).sum≤lim∧Q (.str (fo xs)) H
theorem zE:MtR X "str.join" (rJoin X.K):=by
 intro pins s σ H x vs v us Q I rx rv h
 obtain⟨sep,a,xs,rfl,rfl,hH,hs,hl,q⟩:=h
 obtain⟨t,rfl⟩:=rx
 obtain⟨u,rfl,r1⟩:=rv.one
 cases (show u=_ from r1)
 have hok:(xs.map (·.length)).sum+xs.length*sep.length≤16777216:=by
  rw[hs,Nat.mul_zero]
  unfold lim at hl
  omega
 rcases hH with hH | hH
 ·obtain⟨its,r2,pl,hz⟩:=I.list (SqL.of (K:=X.K) hH)
  refine join_list pl.isList (by simpa using lL r2) hok fun t' k=>⟨.str (fo xs),H,I.tok k,⟨t',by rw[kK sep hs]⟩,q⟩
 ·obtain⟨its,r2,pl,hz⟩:=I.tuple (SqT.of (K:=X.K) hH)
  refine join_tuple pl (by simpa using lL r2) hok fun t' k=>⟨.str (fo xs),H,I.tok k,⟨t',by rw[kK sep hs]⟩,q⟩
theorem Ag (ho:PD X Xw o δo) (ha:PDA X Xw [e] δs) (hbase:attributeBase o "join" X.env (eval o X.env)=eval o X.env:=by rfl)
 (hfew:((backTo cpos (starEach [e] X.env)).all (fun x=>!x.1)&&(backToKw cpos (keywordEach [] X.env)).all (fun x=>x.1.isSome)&&decide ([e].length+([]:List Keyword).length+(if ([]:List Keyword).isEmpty then 0 else 1)<30))=true:=by rfl)
 (hline:(apos.endLine==cpos.line)=true:=by rfl) (hst:starEach [e] X.env=[(false,eval e X.env)]:=by rfl):PD X Xw (.Call (.Attribute o "join" apos) [e] [] cpos) (dM isS joinM δo δs):=
 xo PySem.F.plainAttrs_str PySem.F.slot_str_join PySem.F.type_str_join zE CM (fun Xw F H x vs d ds Q s hx hv w=>by
  unfold joinM at w
  split at w
  ·rename_i sep ds
   obtain⟨v,rfl,h1⟩:=hv.one
   obtain⟨a,ws,rfl,h2,h3,_⟩:=h1
   split at w
   ·rename_i xs hxs
    split at w
    ·rename_i hc
     exact⟨sep,a,xs,hx.1,rfl, .inl (by rw[←mO hxs h3];exact s _ _ h2),hc.1,hc.2,WP.now w s ⟨rfl,by rw[mE];exact hc.2⟩⟩
    ·exact w.elim
   ·exact w.elim
  ·rename_i sep ds
   obtain⟨v,rfl,h1⟩:=hv.one
   obtain⟨a,ws,rfl,h2,h3,_⟩:=h1
   split at w
   ·rename_i xs hxs
    split at w
    ·rename_i hc
     exact⟨sep,a,xs,hx.1,rfl, .inr (by rw[←mO hxs h3];exact s _ _ h2),hc.1,hc.2,WP.now w s ⟨rfl,by rw[mE];exact hc.2⟩⟩
    ·exact w.elim
   ·exact w.elim
  ·exact w.elim) ho ha hbase hfew hline hst rfl
def Es:List D→M D
 |[.lst ds]=>M.ret (.tup ds)
 |[.tup ds]=>M.ret (.tup ds)
 |_=>M.stuck
def xB:List D→M D
 |[.lst ds]=>M.ret (.lst ds)
 |[.tup ds]=>M.ret (.lst ds)
 |_=>M.stuck
theorem zQ (hg:Gl X "list") (hm:X.mg "list"=none) (hb:bootBuiltins "list"=some (.type "list")) (ha:PDA X Xw [e] δs) (he:starEach [e] X.env=[(false,eval e X.env)]:=by rfl):PD X Xw (.Call (.Name "list" p) [e] [] pos) (dA xB δs):=
 vZ pT (fun Xw F H vs ds Q s h w=>by
  unfold xB at w
  split at w
  ·rename_i ds
   obtain⟨v,rfl,h1⟩:=h.one
   obtain⟨a,ws,rfl,h2,h3,h4⟩:=h1
   exact⟨a,ws,rfl, .inl (SqL.of (s _ _ h2)),fun l hl=>WP.fin w (Ext.lay s hl) ⟨l,ws,rfl,aF,DenL.mono (Ext.lay s hl).ff h3,h4⟩⟩
  ·rename_i ds
   obtain⟨v,rfl,h1⟩:=h.one
   obtain⟨a,ws,rfl,h2,h3,h4⟩:=h1
   exact⟨a,ws,rfl, .inr (SqT.of (s _ _ h2)),fun l hl=>WP.fin w (Ext.lay s hl) ⟨l,ws,rfl,aF,DenL.mono (Ext.lay s hl).ff h3,h4⟩⟩
  ·exact w.elim) hg hm hb ha (by decide) (by decide) he rfl
theorem uA (hc:X.calm=true) (hg:Gl X "max") (hm:X.mg "max"=none) (hb:bootBuiltins "max"=some (.builtin "max")) (ha:PDA X Xw [e,e2] δs) (he:starEach [e,e2] X.env=(false,eval e X.env)::starEach [e2] X.env:=by rfl)
 (hpl:(backTo pos (starEach [e2] X.env)).any (·.1)=false:=by rfl):PD X Xw (.Call (.Name "max" p) [e,e2] [] pos) (dA tQ δs):=
 eh (xb hc) (fun Xw F H vs ds Q s h w=>by
  unfold tQ at w
  split at w
  ·obtain⟨v,v',rfl,h1,h2⟩:=h.two
   cases (show _=_ from h1)
   cases (show _=_ from h2)
   exact⟨_,_,rfl,WP.now w s rfl⟩
  ·exact w.elim) hg hm hb ha (by decide) (by decide) he hpl
theorem xh (hc:X.calm=true) (hg:Gl X "min") (hm:X.mg "min"=none) (hb:bootBuiltins "min"=some (.builtin "min")) (ha:PDA X Xw [e,e2] δs) (he:starEach [e,e2] X.env=(false,eval e X.env)::starEach [e2] X.env:=by rfl)
 (hpl:(backTo pos (starEach [e2] X.env)).any (·.1)=false:=by rfl):PD X Xw (.Call (.Name "min" p) [e,e2] [] pos) (dA w6 δs):=
 eh (wZ hc) (fun Xw F H vs ds Q s h w=>by
  unfold w6 at w
  split at w
  ·obtain⟨v,v',rfl,h1,h2⟩:=h.two
   cases (show _=_ from h1)
   cases (show _=_ from h2)
   exact⟨_,_,rfl,WP.now w s rfl⟩
  ·exact w.elim) hg hm hb ha (by decide) (by decide) he hpl
def nums:List D→Option (List Int)
 |[]=>some []
 | .int x::r=>(nums r).map (x:: ·)
 |_=>none
theorem jE {K:PySem.W.Frag}{F:Hp}:∀{ds:List D}{vs:List V}{xs:List Int},nums ds=some xs→DenL K F ds vs→vs=xs.map V.int
 |[],_,_,e,h=>by cases e;exact h
 | .int b::r,_,_,e,⟨v,r',h1,h2,h3⟩=>by
   unfold nums at e
   cases q:nums r with
   |none=>rw[q] at e;cases e
   |some bs=>rw[q] at e;cases e;subst h1;rw[jE q h3,show v= .int b from h2];rfl
 | .non::_,_,_,e,_=>by cases e
 | .str _::_,_,_,e,_=>by cases e
 | .bl _::_,_,_,e,_=>by cases e
 | .raw _::_,_,_,e,_=>by cases e
 | .exc _::_,_,_,e,_=>by cases e
 | .scr _::_,_,_,e,_=>by cases e
 | .tup _::_,_,_,e,_=>by cases e
 | .lst _::_,_,_,e,_=>by cases e
def zI (neg:Bool):D→D→M D
 | .int i, .tup ds=>match nums ds with | some ns=>M.ret (.bl (if neg then !ns.contains i else ns.contains i)) | none=>M.stuck
 |_,_=>M.stuck
theorem xC (i:Int) (ns:List Int):inV (.int i) (ns.map V.int)=ns.contains i:=by
 unfold inV
 rw[List.any_map]
 induction ns with
 |nil=>rfl
 |cons n ns ih=>
  rw[List.any_cons,List.contains_cons,ih]
  congr 1
  show eqV (.int n) (.int i)=(i==n)
  unfold eqV
  exact Bool.beq_comm
theorem Ca {neg:Bool}{K:PySem.W.Frag}:OpD K (rIn K neg) (zI neg):=fun Xw F H x y dx dy Q s hx hy w=>by
 unfold zI at w
 split at w
 ·rename_i i ds
  obtain⟨a,vs,h1,h2,h3,h4⟩:=hy
  split at w
  ·rename_i ns hn
   have hv:=jE hn h3
   subst hv
   cases (show _=_ from hx)
   refine⟨a,ns.map V.int,h1, .inr (SqT.of (s _ _ h2)),rfl,?_,?_⟩
   ·rw[List.all_map]
    exact List.all_eq_true.mpr fun _ _=>rfl
   ·rw[xC]
    exact WP.now w s rfl
  ·exact w.elim
 ·exact w.elim
theorem wy (ha:PD X Xw a δa) (hb:PD X Xw b δb) (hm:behindInMarks .NotIn b=false:=by rfl):PDT X Xw (.Compare a [.NotIn] [b] pos) (tB' (d2 (zI true) δa δb)):=gw pK Ca ha hb hm
def yY (neg:Bool):D→D→M D
 | .str x, .str y=>M.ret (.bl (if neg then !(!(Builtin.Str.occurrences y x 0 y.length 1).isEmpty) else !(Builtin.Str.occurrences y x 0 y.length 1).isEmpty))
 |_,_=>M.stuck
theorem BG (ha:PD X Xw a δa) (hb:PD X Xw b δb) (hm:behindInMarks .In b=false:=by rfl):PD X Xw (.Compare a [.In] [b] pos) (d2 (yY false) δa δb):=yG xf (fun Xw F H x y dx dy Q s hx hy w=>by
 unfold yY at w
 split at w
 ·exact⟨_,_,hx.1,hy.1,WP.now w s rfl⟩
 ·exact w.elim) ha hb hm
end
end L3
namespace L3
open PySem PySem.Spec L2 SeqAt HT
open PyProof.Rows hiding St
section
variable {prog : Program} {w : World} {A : Around} {E : Value → Shared → Prop} {s : Shared}
end
section
variable {X : Cx} {Xw : Nat → Hp → Prop} {a b e : Expr} {lo hi : Option Expr} {δ δa δb : DE} {pos p p2 : Pos}
def WPO (Xw:Nat→Hp→Prop) (F H:Hp) (m:M (Option Int)) (Q:Option Int→Hp→Prop):Prop:=
 match m with
 |none=>False
 |some (.ok b)=>∀H' F',Ext F H F' H'→Q b H'
 |some (.ex n)=>∀F' H',Ext F H F' H'→Xw n H'
theorem WPO.mono {Xw:Nat→Hp→Prop}{F H:Hp}{m:M (Option Int)}{Q Q':Option Int→Hp→Prop}(h:WPO Xw F H m Q) (k:∀v H',Q v H'→Q' v H'):WPO Xw F H m Q':=by
 match m,h with
 |none,h=>exact h
 |some (.ok d),h=>exact fun H2 F2 e2=>k _ _ (h H2 F2 e2)
 |some (.ex n),h=>exact h
end
end L3
namespace L3
open PySem PySem.Spec L2 SeqAt HT
open PyProof.Rows hiding St
section
variable {prog : Program} {w : World} {A : Around} {E : Value → Shared → Prop} {s : Shared}
end
section
variable {X : Cx} {Xw : Nat → Hp → Prop} {a b e : Expr} {δ δa δb : DE} {pos p p2 : Pos}
end
end L3
namespace L3
open PySem PySem.Spec L2 SeqAt HT
open PyProof.Rows hiding St
def Itz (x:Str):It:=⟨fun i _=>i<x.cps.size,fun i H v H'=>H'=H∧∃c,x.cps[i]? =some c∧v= .str ⟨#[c]⟩,fun i _=>x.cps.size≤i⟩
theorem w4 {P:Program}{w:World}{K:PySem.W.Frag}{tg:Expr}(it:Addr) (x:Str) (t:Tok):Turn P w K tg (Itz x) [it] it (fun i h=>i≤x.cps.size∧h.IsStrIter it "str_ascii_iterator" x t i) where
 mem:=by simp
 obj:=fun i h st b hb=>by
  have e:b=it:=by simpa using hb
  subst e
  obtain⟨_,o,e,c,d⟩:=st
  exact⟨o,e,fun v z=>by rw[d] at z;cases z⟩
 keep:=fun i h h' st k=>⟨st.1,let ⟨o,e,r⟩:=st.2;⟨o,k it (by simp) o e,r⟩⟩
 item:=by
  intro X hP hw hK hc i pins s σ H E I hf st hg
  subst hP hw hK
  obtain⟨f0,f1,f2,f3,f4,f5⟩:=hf it (by simp)
  have hi:i<x.cps.size:=hg
  refine(Walks.strAscii (prog:=X.prog) (w:=X.w) (I.ok.hd hc) it x t).item i s _ _ hi st.2 fun v h' tk hv st' kk=>?_
  obtain⟨c,u,hcx,rfl⟩:=hv
  have I1:Inv X pins σ H {s with heap:=h',toks:=tk}:=I.turned (fun b o hb e=>kk b o (by simpa using hb) e) f0 f1 f3 f4 f5
  obtain⟨o,e,cc,dd⟩:=id st'
  exact⟨_,rfl,oH (s:={s with heap:=h',toks:=tk}) e cc dd (by decide) ⟨.str ⟨#[c]⟩,H,I1,⟨u,rfl⟩,⟨rfl,c,hcx,rfl⟩,⟨hi,st'⟩,fun b hb=>(hf b hb).1⟩⟩
 done:=by
  intro X hP hw hK hc i pins s σ H E I hf st hg
  subst hP hw hK
  obtain⟨f0,f1,f2,f3,f4,f5⟩:=hf it (by simp)
  have hi:i=x.cps.size:=Nat.le_antisymm st.1 hg
  subst hi
  exact(Walks.strAscii (prog:=X.prog) (w:=X.w) (I.ok.hd hc) it x t).done s _ _ st.2 fun h' tk kk=>⟨rfl,I.turned (fun b o hb e=>kk b o (by simpa using hb) e) f0 f1 f3 f4 f5⟩
 self:=fun _ _ _ _ _ st h=>wpAny_pyIter_striter_ascii st.2 h
theorem wW {P:Program}{w:World}{K:PySem.W.Frag}{tg:Expr}(it:Addr) (x:Str) (t:Tok):Turn P w K tg (Itz x) [it] it (fun i h=>i≤x.cps.size∧h.IsStrIter it "str_iterator" x t i) where
 mem:=by simp
 obj:=fun i h st b hb=>by
  have e:b=it:=by simpa using hb
  subst e
  obtain⟨_,o,e,c,d⟩:=st
  exact⟨o,e,fun v z=>by rw[d] at z;cases z⟩
 keep:=fun i h h' st k=>⟨st.1,let ⟨o,e,r⟩:=st.2;⟨o,k it (by simp) o e,r⟩⟩
 item:=by
  intro X hP hw hK hc i pins s σ H E I hf st hg
  subst hP hw hK
  obtain⟨f0,f1,f2,f3,f4,f5⟩:=hf it (by simp)
  have hi:i<x.cps.size:=hg
  refine(Walks.strWide (prog:=X.prog) (w:=X.w) (I.ok.hd hc) it x t).item i s _ _ hi st.2 fun v h' tk hv st' kk=>?_
  obtain⟨c,u,hcx,rfl⟩:=hv
  have I1:Inv X pins σ H {s with heap:=h',toks:=tk}:=I.turned (fun b o hb e=>kk b o (by simpa using hb) e) f0 f1 f3 f4 f5
  obtain⟨o,e,cc,dd⟩:=id st'
  exact⟨_,rfl,oH (s:={s with heap:=h',toks:=tk}) e cc dd (by decide) ⟨.str ⟨#[c]⟩,H,I1,⟨u,rfl⟩,⟨rfl,c,hcx,rfl⟩,⟨hi,st'⟩,fun b hb=>(hf b hb).1⟩⟩
 done:=by
  intro X hP hw hK hc i pins s σ H E I hf st hg
  subst hP hw hK
  obtain⟨f0,f1,f2,f3,f4,f5⟩:=hf it (by simp)
  have hi:i=x.cps.size:=Nat.le_antisymm st.1 hg
  subst hi
  exact(Walks.strWide (prog:=X.prog) (w:=X.w) (I.ok.hd hc) it x t).done s _ _ st.2 fun h' tk kk=>⟨rfl,I.turned (fun b o hb e=>kk b o (by simpa using hb) e) f0 f1 f3 f4 f5⟩
 self:=fun _ _ _ _ _ st h=>wpAny_pyIter_striter_wide st.2 h
section
variable {X : Cx} {Xw : Nat → Hp → Prop} {tg a b e l o : Expr} {δ δa δb δo : DE} {δs : DA} {pos p p2 apos cpos : Pos}
def Ej (tl:TE):TI:=fun σ H R=>tl σ H fun x H1=>∃z,x= .str z∧R (Itz z) H1
theorem BN {tl:TE}(hl:PE X l tl):PI X tg l (Ej tl):=by
 intro pins s σ H R I h
 refine thn (hl pins s σ H _ I h) fun v s1 ⟨x,H1,I1,r1,q1⟩=>?_
 obtain⟨z,e,q⟩:=q1
 subst e
 obtain⟨t,rfl⟩:=r1
 have fp:∀b∈[s1.heap.objs.size],nY X pins H1 b:=fun b hb=>by
  have e:b=s1.heap.objs.size:=by simpa using hb
  subst e
  exact I1.fpOk (Nat.le_refl _) (I1.hok.fresh (Nat.le_refl _))
 cases ha:z.cps.all (· <128)
 ·exact wpAny_pyIter_wide ha ⟨s1.heap.objs.size,[s1.heap.objs.size],_,_,H1,rfl,I1.kept (t':=s1.toks) fun b o e=>Heap.get?_push_of_some _ e,wW _ z t,⟨Nat.zero_le _,_,Heap.get?_push_size _ rfl,rfl,rfl⟩,fp,q⟩
 ·exact wpAny_pyIter_ascii ha ⟨s1.heap.objs.size,[s1.heap.objs.size],_,_,H1,rfl,I1.kept (t':=s1.toks) fun b o e=>Heap.get?_push_of_some _ e,w4 _ z t,⟨Nat.zero_le _,_,Heap.get?_push_size _ rfl,rfl,rfl⟩,fp,q⟩
def signs (x:Str):List D:=x.cps.toList.map fun c=>D.str ⟨#[c]⟩
def BF:D→M (List D)
 | .str x=>M.ret (signs x)
 |_=>M.stuck
theorem zV {K:PySem.W.Frag}{F:Hp}(x:Str):ItD K F (Itz x) (signs x):=fun F' H' i s1 s2=>by
 refine⟨fun d e=>?_,fun hl=>show x.cps.size≤i by simpa[signs] using hl⟩
 unfold signs at e
 rw[List.getElem?_map] at e
 cases q:x.cps.toList[i]? with
 |none=>rw[q] at e;cases e
 |some c=>
  rw[q] at e
  cases e
  have hi:i<x.cps.size:=by
   have:=(List.getElem?_eq_some_iff.mp q).1
   simpa using this
  refine⟨hi,fun v H'' y=>?_⟩
  obtain⟨e2,c',hc',rfl⟩:=y
  subst e2
  have:c'=c:=by
   have q':x.cps[i]? =some c:=by simpa using q
   rw[q'] at hc'
   exact(Option.some.inj hc').symm
  subst this
  exact⟨F',Ext.refl s2,rfl,by show 1≤lim;decide⟩
theorem Aq (h:PD X Xw l δ):PDI X Xw tg l (fun ρ=>δ ρ>>=BF):=PI.weak (BN h) fun σ H R ⟨F,ρ,s,w⟩=>by
 refine⟨F,ρ,s,WP.mono (WPI.bind w) fun v H1 ⟨F1,d,e1,q1,w1⟩=>?_⟩
 cases d with
 |str z=>exact⟨z,q1.1,w1 _ _ _ (Ext.refl e1.fh) (zV z)⟩
 |_=>exact w1.elim
def isT:Value→Bool
 | .bool b=>b
 |_=>false
theorem zt {A:Around}{s:Shared}{bs:List Bool}:∀y,y∈(bs.map Value.bool).toArray→EqAt A s y (.bool true) (isT y):=fun y hy=>by
 have hy:y∈bs.map Value.bool:=by simpa using hy
 obtain⟨b,_,rfl⟩:=List.mem_map.mp hy
 have:=EqAt.bool_bool (A:=A) (s:=s) b true
 cases b<;>exact this
def vK:D→List D→M D
 | .lst ds,[.bl true]=>match bools ds with | some bs=>M.ret (.int (bs.count true)) | none=>M.stuck
 |_,_=>M.stuck
def BY:D→List D→M D
 | .lst ds,[.bl true]=>match bools ds with
   |some bs=>if bs.contains true then M.ret (.int (bs.idxOf true)) else M.stuck
   |none=>M.stuck
 |_,_=>M.stuck
theorem ra:∀bs:List Bool,(bs.map Value.bool).countP isT=bs.count true
 |[]=>rfl
 |b::bs=>by
  rw[List.map_cons,List.countP_cons,ra bs,List.count_cons]
  cases b<;>rfl
def Ek:V→List V→Hp→VK→Prop:=fun x vs H Q=>∃(a:Addr) (bs:List Bool),x= .ref a∧vs=[.bl true]∧H a=some (.lst (bs.map V.bl))∧Q (.int (bs.count true)) H
def Ee:V→List V→Hp→VK→Prop:=fun x vs H Q=>∃(a:Addr) (bs:List Bool),x= .ref a∧vs=[.bl true]∧H a=some (.lst (bs.map V.bl))∧bs.contains true=true∧Q (.int (bs.idxOf true)) H
theorem Cb:MtR X "list.count" Ek:=by
 intro pins s σ H x vs v us Q I rx rv h
 obtain⟨a,bs,rfl,rfl,hH,q⟩:=h
 cases rx
 obtain⟨u,rfl,r1⟩:=rv.one
 cases (show u=_ from r1)
 obtain⟨z,its,n,r,hl,e⟩:=I.lstM hH
 obtain rfl:=lC r
 refine call_meets F.slot_list_count ⟨_,e,rfl⟩ F.entry_list_count (F.args_list_count_2 _ _) (list_countAt a _ n none #[] (.bool true) isT) ⟨e,zt,?_⟩
 have ec:((bs.map Value.bool).toArray.toList.countP isT)=bs.count true:=ra bs
 rw[ec]
 exact⟨.int (bs.count true),H,I.tok _,⟨_,rfl⟩,q⟩
theorem Bq:MtR X "list.index" Ee:=by
 intro pins s σ H x vs v us Q I rx rv h
 obtain⟨a,bs,rfl,rfl,hH,hc,q⟩:=h
 cases rx
 obtain⟨u,rfl,r1⟩:=rv.one
 cases (show u=_ from r1)
 obtain⟨z,its,n,r,hl,e⟩:=I.lstM hH
 obtain rfl:=lC r
 have hm:true∈bs:=by simpa using hc
 have hlt:bs.idxOf true<bs.length:=List.idxOf_lt_length_iff.mpr hm
 have hz:bs.length≤sizeLine:=by simpa using z
 have hs:sizeLine=16777216:=sizeLine_eq
 refine call_meets F.slot_list_index ⟨_,e,rfl⟩ F.entry_list_index (F.args_list_index_2 _ _) (list_indexAt a _ n none #[] (.bool true) isT (bs.idxOf true) (by simpa using hlt) (by omega) ?_ ?_) ⟨e,zt,?_⟩
 ·have:bs[bs.idxOf true]=true:=List.getElem_idxOf hlt
  simp[isT,this]
 ·intro m hm' hlt'
  have hm2:m<bs.length:=by simpa using hm'
  have:bs[m]≠true:=fun z=>by
   have:=List.not_of_lt_findIdx (p:=(· ==true)) (xs:=bs) (i:=m) hlt'
   rw[z] at this
   simp at this
  simp[isT]
  simpa using this
 ·exact⟨.int (bs.idxOf true),H,I.tok _,⟨_,rfl⟩,q⟩
theorem BB (ho:PD X Xw o δo) (ha:PDA X Xw [e] δs) (hbase:attributeBase o "count" X.env (eval o X.env)=eval o X.env:=by rfl)
 (hfew:((backTo cpos (starEach [e] X.env)).all (fun x=>!x.1)&&(backToKw cpos (keywordEach [] X.env)).all (fun x=>x.1.isSome)&&decide ([e].length+([]:List Keyword).length+(if ([]:List Keyword).isEmpty then 0 else 1)<30))=true:=by rfl)
 (hline:(apos.endLine==cpos.line)=true:=by rfl) (hst:starEach [e] X.env=[(false,eval e X.env)]:=by rfl):PD X Xw (.Call (.Attribute o "count" apos) [e] [] cpos) (dM kq vK δo δs):=
 xo PySem.F.plainAttrs_list PySem.F.slot_list_count PySem.F.type_list_count Cb sJ (fun Xw F H x vs d ds Q s hx hv w=>by
  unfold vK at w
  split at w
  ·rename_i ds
   obtain⟨v,rfl,h1⟩:=hv.one
   cases (show _=_ from h1)
   obtain⟨a,ws,rfl,h2,h3,_⟩:=hx
   split at w
   ·rename_i bs hb
    exact⟨a,bs,rfl,rfl,by rw[←iC hb h3];exact s _ _ h2,WP.now w s rfl⟩
   ·exact w.elim
  ·exact w.elim) ho ha hbase hfew hline hst rfl
theorem Bn (ho:PD X Xw o δo) (ha:PDA X Xw [e] δs) (hbase:attributeBase o "index" X.env (eval o X.env)=eval o X.env:=by rfl)
 (hfew:((backTo cpos (starEach [e] X.env)).all (fun x=>!x.1)&&(backToKw cpos (keywordEach [] X.env)).all (fun x=>x.1.isSome)&&decide ([e].length+([]:List Keyword).length+(if ([]:List Keyword).isEmpty then 0 else 1)<30))=true:=by rfl)
 (hline:(apos.endLine==cpos.line)=true:=by rfl) (hst:starEach [e] X.env=[(false,eval e X.env)]:=by rfl):PD X Xw (.Call (.Attribute o "index" apos) [e] [] cpos) (dM kq BY δo δs):=
 xo PySem.F.plainAttrs_list PySem.F.slot_list_index PySem.F.type_list_index Bq sJ (fun Xw F H x vs d ds Q s hx hv w=>by
  unfold BY at w
  split at w
  ·rename_i ds
   obtain⟨v,rfl,h1⟩:=hv.one
   cases (show _=_ from h1)
   obtain⟨a,ws,rfl,h2,h3,_⟩:=hx
   split at w
   ·rename_i bs hb
    split at w
    ·rename_i hc
     exact⟨a,bs,rfl,rfl,by rw[←iC hb h3];exact s _ _ h2,hc,WP.now w s rfl⟩
    ·exact w.elim
   ·exact w.elim
  ·exact w.elim) ho ha hbase hfew hline hst rfl
end
end L3
namespace L3
open PySem PySem.Spec L2 SeqAt HT
open PyProof.Rows hiding St
open PySem.W (Frag Looks InstAt findIn mroIn)
open PySem.Builtin PySem.Builtin.ObjectAttr PySem.Builtin.Getset_descriptor
section
variable {prog : Program} {w : World} {A : Around} {E : Value → Shared → Prop} {h : Heap} {g : Array GenState} {d : Drawn} {t : Nat} {os : OsState} {x D : Addr} {ox : Obj} {K : Frag}
theorem uf {tp:Value}{R:Result→Shared→Prop}(X:K.In h) (hx:h.get? x=some ox) (hc:ox.cls= .ref D) (hm:mroIn K D (.type "object")=some true)
 (hq:R (.ok (.ret (.ref D))) ⟨h,g,d,t,os⟩):codeAny (model prog w) A (.call (.builtin "getset_descriptor.__get__") ⟨[.builtin "object.__class__", .ref x,tp],[]⟩) R ⟨h,g,d,t,os⟩:=by
 have L0:Looks (model prog w) h (typeOf (.ref x)) (.ref D):=hc▸(Looks.ld hx).andThen .now
 have L1:=PySem.W.looks_mroIn (M:=model prog w) X hm
 refine codeAny_call_builtin PySem.W.KF.slot_gs.plain PySem.W.KF.entry_gs (PySem.W.KF.slot_gs.check _ _ _ _ _ _ _ _ PySem.W.KF.type_class (PySem.W.KF.args_gs _ _ _) ?_)
 unfold Builtin.«getset_descriptor.__get__» descrGet
 rw[PySem.W.dga_obj]
 refine wpAny_bind (wpAny_pure ?_)
 unfold descrGetter descrCheckInstance descrNameAndClass isInstance
 simp only[PySem.W.KF.owner_class]
 repeat lk
 refine⟨Code.quiet_builtin _ (by decide+kernel),codeAny_builtin PySem.W.KF.entry_class ?_⟩
 unfold Builtin.«object.__class__» shownTypeOf
 repeat lk
 exact hq
theorem lu {tk:Tok}{Q:PySem.Fin→Shared→Prop}(X:K.In h) (hx:h.get? x=some ox) (hc:ox.cls= .ref D) (ha:findIn K (.ref D) "__class__"=some (some (.builtin "object.__class__"))) (hm:mroIn K D (.type "object")=some true)
 (hq:Q (.done (.ret (.ref D))) ⟨h,g,d,t,os⟩):wpAny (model prog w) A (Builtin.«object.__getattribute__» ⟨[.ref x, .str "__class__" tk],[]⟩) Q E ⟨h,g,d,t,os⟩:=by
 have hT5:(⟨h,g,d,t,os⟩:Shared).TypeIs (.builtin "object.__class__") "getset_descriptor":=F.typeOf_object_class
 have f5:=F.typeOf_object_class
 have f6:=F.slot_gs_get.lookup
 have f7:=F.slot_gs_set.lookup
 have LC:Looks (model prog w) h (typeLookup (.ref D) "__class__") (some (.builtin "object.__class__")):=PySem.W.looks_findIn X ha
 repeat (any_goals (first | assumption | (with_reducible refine wpAny_loadPart_at hx ?_;rw[hc]) | with_reducible refine LC.at ?_ | wp_step))
 exact uf X hx hc hm (wpAny_pure hq)
theorem qD {M:Model}{nameV:Value}{Q:Unit→Shared→Prop}(X:K.In h) (hx:h.get? x=some ox) (hc:ox.cls= .ref D) (hb:mroIn K D (.type "BaseException")=some true) (hq:Q () ⟨h,g,d,t,os⟩):
 wpAny M A (checkBuiltinCall "BaseException.__getattribute__" ⟨[.ref x,nameV],[]⟩) Q E ⟨h,g,d,t,os⟩:=by
 have hk:builtinKind "BaseException.__getattribute__"=some .slot:=by decide+kernel
 have hsplit:splitId "BaseException.__getattribute__"=some ("BaseException","__getattribute__"):=by decide+kernel
 have LB:Looks M h (isSubtype (.ref D) (.type "BaseException")) true:=PySem.W.looks_mroIn X hb
 have ha:=F.args_bexc_ga (.ref x) nameV
 simp only[checkBuiltinCall,hk,hsplit]
 refine wpAny_bind ?_
 ·unfold isInstance
  repeat (first | (with_reducible refine wpAny_loadPart_at hx ?_;rw[hc]) | with_reducible refine LB.at ?_ | wp_step)
  exact hq
theorem md {tk:Tok}{R:Result→Shared→Prop}(X:K.In h) (hx:h.get? x=some ox) (hc:ox.cls= .ref D) (ha:findIn K (.ref D) "__class__"=some (some (.builtin "object.__class__"))) (hm:mroIn K D (.type "object")=some true) (hb:mroIn K D (.type "BaseException")=some true)
 (hq:R (.ok (.ret (.ref D))) ⟨h,g,d,t,os⟩):codeAny (model prog w) A (.call (.builtin "BaseException.__getattribute__") ⟨[.ref x, .str "__class__" tk],[]⟩) R ⟨h,g,d,t,os⟩:=
 codeAny_call_builtin (by decide+kernel) F.entry_bexc_ga (qD X hx hc hb (lu X hx hc ha hm hq))
theorem mU {Q:Option Value→Shared→Prop}(X:K.In h) (hx:h.get? x=some ox) (hc:ox.cls= .ref D) (hga:findIn K (.ref D) "__getattribute__"=some (some (.builtin "BaseException.__getattribute__"))) (hgt:findIn K (.ref D) "__getattr__"=some none)
 (ha:findIn K (.ref D) "__class__"=some (some (.builtin "object.__class__"))) (hm:mroIn K D (.type "object")=some true) (hb:mroIn K D (.type "BaseException")=some true)
 (hq:Q (some (.ref D)) ⟨h,g,d,t+1,os⟩):wpAny (model prog w) A (getAttr? (.ref x) "__class__") Q E ⟨h,g,d,t,os⟩:=by
 have LG:Looks (model prog w) h (typeLookup (.ref D) "__getattribute__") (some (.builtin "BaseException.__getattribute__")):=PySem.W.looks_findIn X hga
 have LH:Looks (model prog w) h (typeLookup (.ref D) "__getattr__") none:=PySem.W.looks_findIn X hgt
 have hx2:(Value.builtin "BaseException.__getattribute__"==Value.builtin "object.__getattribute__")=false:=by decide+kernel
 have hx1:(onTheHeap (Value.ref D)&&Value.builtin "BaseException.__getattribute__"==Value.builtin "object.__getattribute__")=false:=by rw[hx2];rfl
 have f3:=PySem.F.excAttr_ValueError.ga.bind (.ref x)
 unfold getAttr? getAttrBy?
 repeat (any_goals (first | assumption | (with_reducible refine wpAny_loadPart_at hx ?_;rw[hc]) | with_reducible refine LG.at ?_ | with_reducible refine LH.at ?_ | wp_step))
 refine md X hx hc ha hm hb ?_
 repeat (any_goals (first | assumption | wp_step))
structure ExcC (K:Frag) (D:Addr):Prop where
 ga:findIn K (.ref D) "__getattribute__"=some (some (.builtin "BaseException.__getattribute__"))
 gt:findIn K (.ref D) "__getattr__"=some none
 ca:findIn K (.ref D) "__class__"=some (some (.builtin "object.__class__"))
 mo:mroIn K D (.type "object")=some true
 mb:mroIn K D (.type "BaseException")=some true
 cl:(PySem.W.clsIn K D).isSome=true
theorem rJ (c:ExcC K D):PySem.W.KitX K (.ref x) (.ref D) (fun h=>∃ox,h.get? x=some ox∧ox.cls= .ref D) where
 ty:=fun _ _ _ ⟨_,hx,hc⟩=>hc▸(Looks.ld hx).andThen .now
 it:=fun _ _ X _=>by
  obtain⟨cdD,hcD⟩:=Option.isSome_iff_exists.mp c.cl
  unfold PySem.W.clsIn at hcD
  split at hcD
  ·rename_i c' d' cd' sl' ho
   intro A' Q' E' s' k q
   unfold isType loadHead
   exact wpAny_bind (wpAny_loadPart (k _ _ (X _ _ ho)) (wpAny_pure q))
  ·cases hcD
 ne:=fun h tp dd its n sl X htp=>by
  obtain⟨cdD,hcD⟩:=Option.isSome_iff_exists.mp c.cl
  refine Bool.eq_false_iff.mpr fun q=>?_
  have e:D=tp:=Value.ref.inj (beq_iff_eq.mp q)
  subst e
  unfold PySem.W.clsIn at hcD
  split at hcD
  ·rename_i c' d' cd' sl' ho
   have z:=(X _ _ ho).symm.trans htp
   cases z
  ·cases hcD
 ca:=fun {_ _ _ _ _ s} X ⟨_,hx,hc⟩ k=>by
  obtain⟨hh,g,d,t,os⟩:=s
  exact mU X hx hc c.ga c.gt c.ca c.mo c.mb k
end
section
variable {X : Cx} {Xw : Nat → Hp → Prop} {e e2 : Expr} {δs : DA} {pos p : Pos}
def D9 (K:Frag):List V→Hp→VK→Prop:=fun xs H Q=>∃ea C D b,xs=[.ref ea, .ref D]∧H ea=some (ExO ea C)∧ExcC K C∧PySem.W.kitOne K (.ref C) (.ref D)=some b∧Q (.bl b) H
def Du (K:Frag):List V→Hp→VK→Prop:=fun xs H Q=>∃ea C T b,xs=[.ref ea, .ty T]∧H ea=some (ExO ea C)∧ExcC K C∧PySem.W.kitOne K (.ref C) (.type T)=some b∧Q (.bl b) H
theorem yM:CallR X (.builtin "isinstance") (D9 X.K):=by
 intro pins s σ H xs us Q I r h
 obtain⟨ea,C,D,b,rfl,hH,hc,e,q⟩:=h
 obtain⟨u,w',rfl,r1,r2⟩:=vals2 r
 cases (show u=_ from r1)
 cases (show w'=_ from r2)
 obtain⟨hx,_,_⟩:=I.hok ea _ hH
 exact PySem.W.kia_one (rJ hc) I.kIn hx e (fun z=>nomatch z) fun tk=>⟨.bl b,H,I.tok tk,rfl,q⟩
theorem vN:CallR X (.builtin "isinstance") (Du X.K):=by
 intro pins s σ H xs us Q I r h
 obtain⟨ea,C,D,b,rfl,hH,hc,e,q⟩:=h
 obtain⟨u,w',rfl,r1,r2⟩:=vals2 r
 cases (show u=_ from r1)
 cases (show w'=_ from r2)
 obtain⟨hx,_,_⟩:=I.hok ea _ hH
 exact PySem.W.kia_one (rJ hc) I.kIn hx e (fun z=>nomatch z) fun tk=>⟨.bl b,H,I.tok tk,rfl,q⟩
def jZ (K:Frag) (cs:List Addr):List D→M D
 |[.exc C, .raw (.ref D)]=>if C∈cs then(match PySem.W.kitOne K (.ref C) (.ref D) with | some b=>M.ret (.bl b) | none=>M.stuck) else M.stuck
 |[.exc C, .raw (.ty T)]=>if C∈cs then(match PySem.W.kitOne K (.ref C) (.type T) with | some b=>M.ret (.bl b) | none=>M.stuck) else M.stuck
 |_=>M.stuck
theorem h7 {cs:List Addr}(hcs:∀C∈cs,ExcC X.K C) (hg:Gl X "isinstance") (hm:X.mg "isinstance"=none) (hb:bootBuiltins "isinstance"=some (.builtin "isinstance")) (ha:PDA X Xw [e,e2] δs) (he:starEach [e,e2] X.env=(false,eval e X.env)::starEach [e2] X.env:=by rfl)
 (hpl:(backTo pos (starEach [e2] X.env)).any (·.1)=false:=by rfl):PD X Xw (.Call (.Name "isinstance" p) [e,e2] [] pos) (dA (jZ X.K cs) δs):=
 eh (yM.or vN) (fun Xw F H vs ds Q s h w=>by
  unfold jZ at w
  split at w
  ·rename_i C D
   obtain⟨v,v',rfl,h1,h2⟩:=h.two
   cases (show _=_ from h2)
   obtain⟨ea,rfl,h3⟩:=h1
   split at w
   ·rename_i hC
    split at w
    ·rename_i b hb
     exact .inl ⟨ea,C,D,b,rfl,s _ _ h3,hcs C hC,hb,WP.now w s rfl⟩
    ·exact w.elim
   ·exact w.elim
  ·rename_i C T
   obtain⟨v,v',rfl,h1,h2⟩:=h.two
   cases (show _=_ from h2)
   obtain⟨ea,rfl,h3⟩:=h1
   split at w
   ·rename_i hC
    split at w
    ·rename_i b hb
     exact .inr ⟨ea,C,T,b,rfl,s _ _ h3,hcs C hC,hb,WP.now w s rfl⟩
    ·exact w.elim
   ·exact w.elim
  ·exact w.elim) hg hm hb ha (by decide) (by decide) he hpl
end
end L3
namespace L3
open PySem PySem.Spec L2 SeqAt HT
open PyProof.Rows hiding St
open PySem.W (Frag Looks findIn mroIn)
theorem p9 {ea C:Addr}{h1 h2:Heap}(x:u3 h1 ea C) (k:∀o,h1.get? ea=some o→h2.get? ea=some o):u3 h2 ea C:=
 let ⟨ox,a,b⟩:=x
 ⟨ox,k ox a,b⟩
def BE (τ:DS) (hd:Nat→M D):DS:=fun ρ=>match τ ρ with
 |some (.ex n)=>hd n>>=fun d=>M.ret (.rt d)
 |r=>r
abbrev lM (X:Cx) (pn:List (Addr×Obj)) (E:Value→Shared→Prop):Cx:={X with pn:=pn,xe:=E}
abbrev iu (X:Cx) (ea:Addr) (E:Value→Shared→Prop):Cx:={X with A:=X.A.mark (some (.ref ea)),calm:=false,xe:=E}
section
variable {X : Cx} {pins pn : List (Addr × Obj)} {σ : St} {H : Hp} {s : Shared} {E : Value → Shared → Prop} {ea : Addr}
theorem yR (ok:X.Ok):(lM X pn E).Ok:=⟨ok.mod,ok.kind,ok.glob,ok.blt,ok.above,ok.inj,ok.has,ok.cab,ok.hd,ok.frames,ok.stk,ok.exf,ok.bs,ok.bsz,ok.noex,ok.exfs,ok.funs,ok.frf⟩
theorem vS (I:Inv X pins σ H s) (hp:X.pn=[]):Inv (lM X pins E) [] σ H s:=
 ⟨yR I.ok,I.os,I.bare,I.base,I.loc,I.cell,I.free,I.freeC,fun p q=>I.pin p (by rw[hp];rw[List.append_nil] at q;exact q),I.hok,I.len⟩
theorem vW (ok:(lM X pn E).Ok):X.Ok:=⟨ok.mod,ok.kind,ok.glob,ok.blt,ok.above,ok.inj,ok.has,ok.cab,ok.hd,ok.frames,ok.stk,ok.exf,ok.bs,ok.bsz,ok.noex,ok.exfs,ok.funs,ok.frf⟩
theorem fH {pins':List (Addr×Obj)}(I:Inv (lM X pins E) pins' σ H s) (hp:X.pn=[]):Inv X pins σ H s:=
 ⟨vW I.ok,I.os,I.bare,I.base,I.loc,I.cell,I.free,I.freeC,fun p q=>I.pin p (by rw[hp] at q;exact List.mem_append_left _ q),I.hok,I.len⟩
theorem il (I:Inv X pins σ H s):Inv (iu X ea E) pins σ H s:=
 ⟨⟨I.ok.mod,I.ok.kind,I.ok.glob,I.ok.blt,I.ok.above,I.ok.inj,I.ok.has,I.ok.cab,fun z=>(by cases z),I.ok.frames,I.ok.stk,I.ok.exf,I.ok.bs,I.ok.bsz,I.ok.noex,I.ok.exfs,I.ok.funs,I.ok.frf⟩,I.os,I.bare,I.base,I.loc,I.cell,I.free,I.freeC,I.pin,I.hok,I.len⟩
theorem qY (I:Inv (iu X ea E) pins σ H s) (hd:X.calm=true→X.A.handled=none) (hfr:X.A.frames=some X.stack):Inv X pins σ H s:=
 ⟨⟨I.ok.mod,I.ok.kind,I.ok.glob,I.ok.blt,I.ok.above,I.ok.inj,I.ok.has,I.ok.cab,hd,hfr,I.ok.stk,I.ok.exf,I.ok.bs,I.ok.bsz,I.ok.noex,I.ok.exfs,I.ok.funs,I.ok.frf⟩,I.os,I.bare,I.base,I.loc,I.cell,I.free,I.freeC,I.pin,I.hok,I.len⟩
theorem ud {h':Heap}{m':Str→Option Value}{tk:Nat}(I:Inv X pins σ H s) (hsb:Heap.SameBut X.env.locals s.heap h') (hn:h'.Ns X.env.locals m'):Inv X pins (σ.map fun _=>none) H {s with heap:=h',toks:=tk}:=by
 have neL:∀b o,X.s₀.heap.get? b=some o→b≠X.env.locals:=fun b o e=>Nat.ne_of_lt (Nat.lt_of_lt_of_le (Heap.lt_size e) I.ok.above)
 refine⟨I.ok,I.os,I.bare,⟨fun b o e n hb hx=>?_,fun b o e n hb hx=>?_,I.base.free,fun b o e hx=>?_,I.base.tups,I.base.frzs,I.base.tbls⟩,⟨m',hn,fun i x v h1 h2 h3=>?_⟩,fun x c e=>?_,I.free,I.freeC,fun p hp=>?_,rD I.hok hsb I.free,by rw[List.length_map];exact I.len⟩
 ·exact(hsb.2 b (neL b o e)).trans (I.base.keep b o e n hb hx)
 ·obtain⟨sl,q⟩:=I.base.slot b o e n hb hx
  exact⟨sl,(hsb.2 b (neL b o e)).trans q⟩
 ·obtain⟨o',q⟩:=I.base.there b o e hx
  exact⟨o',(hsb.2 b (neL b o e)).trans q⟩
 ·rw[List.getElem?_map] at h2
  cases q:σ[i]? with
  |none=>rw[q] at h2;cases h2
  |some z=>rw[q] at h2;cases h2
 ·obtain⟨v,q⟩:=I.cell x c e
  exact⟨v,q.sameBut hsb (I.cne x c e)⟩
 ·obtain⟨e,n,ne,nf,d⟩:=I.pin p hp
  exact⟨(hsb.2 p.1 ne).trans e,n,ne,nf,d⟩
theorem vX {a:Addr}{o:HO}(I:Inv X pins σ H s) (hn:H a=none) (h0:X.s₀.heap.get? a=none) (hl:a≠X.env.locals) (hc:∀x c,X.env.cells.lookup x=some c→c≠a) (hp:∀p∈X.pn++pins,p.1≠a) (ho:ObjOk X.prog X.w (upd H a o) s.heap a o):
 Inv X pins σ (upd H a o) s:=by
 have ne:∀b u,H b=some u→b≠a:=fun b u e=>bb e hn
 have ne0:∀b u,X.s₀.heap.get? b=some u→b≠a:=fun b u e z=>by rw[z,h0] at e;cases e
 refine⟨I.ok,I.os,I.bare,⟨I.base.keep,I.base.slot,fun b u e n hx=>?_,I.base.there,fun b xs e=>?_,fun b u xs e=>?_,fun b ps e=>?_⟩,I.loc,I.cell,?_,fun x c e=>?_,fun p q=>?_,fun b u e=>?_,I.len⟩
 ·rw[av (ne0 b u e)];exact I.base.free b u e n hx
 ·have q:=I.base.tups b xs e
  rw[av (ne b _ q)];exact q
 ·have q:=I.base.frzs b u xs e
  rw[av (ne b _ q)];exact q
 ·obtain⟨more,q⟩:=I.base.tbls b ps e
  exact⟨more,by rw[av (ne b _ q)];exact q⟩
 ·rw[av (Ne.symm hl)];exact I.free
 ·rw[av (hc x c e)];exact I.freeC x c e
 ·obtain⟨e,n,r1,r2,d⟩:=I.pin p q
  exact⟨e,by rw[av (hp p q)];exact n,r1,r2,d⟩
 ·by_cases hb:b=a
  ·subst hb;rw[aF] at e;cases e;exact ho
  ·rw[av hb] at e
   exact(I.hok b u e).stay (fun _ _ _ q=>q) (fun c q=>by rw[av (ne c _ q)];exact q) fun c xs q=>by rw[av (ne c _ q)];exact q
end
section
variable {P : Program} {w : World} {K : PySem.W.Frag} {mg : Str → Option Value} {base : Heap} {N : List Str} {qual : Str} {scope : Scope} {f : Addr} {cd : Value} {A : Around} {outer : List Env} {s₀ : Shared} {H₀ : Hp} {E : XK} {cv : Nat → Value}
theorem Aj {Xw:Nat→Hp→Prop}{body suite:List Stmt}{b₀:Stmt}{x n:Str}{np hpos pos:Pos}{i:Nat}{Cp:Addr}{τb τh:DS}{hd:Nat→M D}{cA:Nat→Addr}
 (hcv:∀k,cv k= .ref (cA k)) (hN:(aZ (CX1 P w cv) P w K mg base N qual scope f cd A outer s₀ H₀ E).N.Nodup) (hi:(aZ (CX1 P w cv) P w K mg base N qual scope f cd A outer s₀ H₀ E).N[i]? =some n) (hloc:(aZ (CX1 P w cv) P w K mg base N qual scope f cd A outer s₀ H₀ E).env.scope.names.lookup n=some .local) (hg:Gl (aZ (CX1 P w cv) P w K mg base N qual scope f cd A outer s₀ H₀ E) x) (hm:mg x=some (.ref Cp)) (hex:∀k,PySem.W.exmOne K (cv k) (.ref Cp)=some true)
 (hb:∀(pn:List (Addr×Obj)) (Ec:Value→Shared→Prop) (Xw':Nat→Hp→Prop),gL (CX1 P w cv) (lM (aZ (CX1 P w cv) P w K mg base N qual scope f cd A outer s₀ H₀ E) pn Ec) (EX cv Xw')→PSDs (lM (aZ (CX1 P w cv) P w K mg base N qual scope f cd A outer s₀ H₀ E) pn Ec) Xw' body τb)
 (hs:∀ea,PSDs (iu (aZ (CX1 P w cv) P w K mg base N qual scope f cd A outer s₀ H₀ E) ea fun _ _=>False) (fun _ _=>False) (b₀::suite) τh) (hh:∀(k:Nat) (ρ:Rho),ρ[i]? =some (some (.fz (.exc (cA k))))→τh ρ=(hd k>>=fun d=>M.ret (.rt d)))
 (hdb:(x==("__debug__":Str))=false:=by decide):
 PSD (aZ (CX1 P w cv) P w K mg base N qual scope f cd A outer s₀ H₀ E) Xw (.Try body [.ExceptHandler (some (.Name x np)) (some n) (b₀::suite) hpos] [] [] pos) (BE τb fun k=>noex (hd k)):=fun G₀ J₀ pins s σ H D I ⟨F,ρ,S,wq⟩=>by
 have hstk:frs (aZ (CX1 P w cv) P w K mg base N qual scope f cd A outer s₀ H₀ E).stack=s₀.heap.objs.size::frs outer:=rfl
 have pass:gL (CX1 P w cv) (lM (aZ (CX1 P w cv) P w K mg base N qual scope f cd A outer s₀ H₀ E) pins fun e s₁=>wpAny (model P w) (aZ (CX1 P w cv) P w K mg base N qual scope f cd A outer s₀ H₀ E).A (noteFrame e (aZ (CX1 P w cv) P w K mg base N qual scope f cd A outer s₀ H₀ E).env) (fun _ s₂=>wpAny (model P w) (aZ (CX1 P w cv) P w K mg base N qual scope f cd A outer s₀ H₀ E).A (setFlight e none) (fun _ s₃=>wpAny (model P w) (aZ (CX1 P w cv) P w K mg base N qual scope f cd A outer s₀ H₀ E).A (handleBy e (aZ (CX1 P w cv) P w K mg base N qual scope f cd A outer s₀ H₀ E).env [.ExceptHandler (some (.Name x np)) (some n) (b₀::suite) hpos]) (SP (aZ (CX1 P w cv) P w K mg base N qual scope f cd A outer s₀ H₀ E) pins D) (aZ (CX1 P w cv) P w K mg base N qual scope f cd A outer s₀ H₀ E).xe s₃) (aZ (CX1 P w cv) P w K mg base N qual scope f cd A outer s₀ H₀ E).xe s₂) (aZ (CX1 P w cv) P w K mg base N qual scope f cd A outer s₀ H₀ E).xe s₁)
  (EX cv fun k H'=>∃F',Ext G₀ J₀ F' H'∧WPS K Xw G₀ J₀ (noex (hd k)>>=fun d=>M.ret (.rt d)) D):=by
  intro pins' σ' H1 s1 e s' I1 ⟨ea,nn,a0,B,H',he,hos,hgn,hok,un,fly,hB,m,hmn,F',ext',w'⟩
  subst he
  have hfr:∀b∈frs (aZ (CX1 P w cv) P w K mg base N qual scope f cd A outer s₀ H₀ E).stack,H' b=none:=fun b hb=>by
   obtain⟨_,o,ho,_⟩:=I1.stack.mem hb
   exact un.free b o ho (I1.stkFree b hb) (by simp)
  have enf:ea∉frs (aZ (CX1 P w cv) P w K mg base N qual scope f cd A outer s₀ H₀ E).stack:=fun hb=>by
   obtain⟨_,o,ho,hd'⟩:=fly.2.2.1.mem hb
   obtain⟨oe,vs,q1,_,q2,_⟩:=fly.first
   rw[q1] at ho
   cases ho
   exact hd' vs q2
  have hBe:B.get? ea=none:=fly.2.1
  have hnew:s1.heap.get? ea=none:=by
   cases q:s1.heap.get? ea with
   |none=>rfl
   |some o=>
    obtain⟨ob,h1,_⟩:=fly.there
    have:=hB ea ob h1 (.inr (by rw[q];rfl)) enf
    rw[hBe] at this
    cases this
  have hHe:H' ea=none:=by
   cases q:H' ea with
   |none=>rfl
   |some u=>
    obtain⟨ob,h1,_⟩:=fly.there
    have:=hB ea ob h1 (.inl (by rw[q];exact fun z=>nomatch z)) enf
    rw[hBe] at this
    cases this
  have invAt:∀h₅,B.StaysIn h₅→s'.heap.UpToSlots h₅→Inv (aZ (CX1 P w cv) P w K mg base N qual scope f cd A outer s₀ H₀ E) pins σ' H' {s' with heap:=h₅}:=fun h₅ st ups=>by
   have keepB:∀b o,s'.heap.get? b=some o→b∉frs (aZ (CX1 P w cv) P w K mg base N qual scope f cd A outer s₀ H₀ E).stack→(H' b≠none∨(s1.heap.get? b).isSome=true)→h₅.get? b=some o:=fun b o e hb hc=>st b o (hB b o e hc hb)
   have un5:Un (frs (aZ (CX1 P w cv) P w K mg base N qual scope f cd A outer s₀ H₀ E).stack) [] H1 H' s1.heap h₅:=qg un (fun b o e hb hc=>keepB b o e hb hc) (fun b o e hb=>by
    obtain⟨_,o',ho',hd'⟩:=fly.2.2.1.mem hb
    rw[e] at ho'
    cases ho'
    exact ups b o e hd')
   have hok5:HOk P w H' h₅:=mh hok hfr fun b o e hb hc=>keepB b o e hb (.inl hc)
   exact fH (I1.call' (s':={s' with heap:=h₅}) (ch:=[]) hos un5 hok5 hgn (fun b hb=>absurd hb (by simp))) rfl
  show wpAny (model P w) (aZ (CX1 P w cv) P w K mg base N qual scope f cd A outer s₀ H₀ E).A (noteFrame (.ref ea) (aZ (CX1 P w cv) P w K mg base N qual scope f cd A outer s₀ H₀ E).env) _ _ s'
  refine wpAny_looks_onW (base:=B) (outer:=outer) (L:=s₀.heap.objs.size) I1.ok.frames rfl fly fun h₄ held₄ ups₄=>?_
  refine wpAny_landsW held₄ fun h₅ fly₅ ups₅=>?_
  have J5:=invAt h₅ fly₅.1 (ups₄.trans ups₅)
  have M5:Inv (iu (aZ (CX1 P w cv) P w K mg base N qual scope f cd A outer s₀ H₀ E) ea fun _ _=>False) pins σ' H' {s' with heap:=h₅}:=il J5
  refine wpAny_handleBy_cons (codeAny_handlers_test (jC M5 hg hm ?_ hdb)) (by intro q;cases q)
  have LT:Looks (model P w) h₅ (typeOf (.ref ea)) (cv nn):=by
   obtain⟨ob,h1,h2⟩:=fly₅.there
   exact h2▸(Looks.ld h1).andThen .now
  refine(PySem.W.exm_one M5.kIn LT (hex nn)).here ?_
  refine codeAny_handlers_suite_as ?_
  refine lands_againW fly₅ fun h₆ fly₆ ups₆=>?_
  have J6:=invAt h₆ fly₆.1 ((ups₄.trans ups₅).trans ups₆)
  have M6:Inv (iu (aZ (CX1 P w cv) P w K mg base N qual scope f cd A outer s₀ H₀ E) ea fun _ _=>False) pins σ' H' {s' with heap:=h₆}:=il J6
  have nloc:ea≠(aZ (CX1 P w cv) P w K mg base N qual scope f cd A outer s₀ H₀ E).env.locals:=fun z=>enf (by rw[hstk,z];exact List.mem_cons_self)
  have ncell:∀y c,(aZ (CX1 P w cv) P w K mg base N qual scope f cd A outer s₀ H₀ E).env.cells.lookup y=some c→c≠ea:=fun y c q z=>by
   obtain⟨v,o,ho,_⟩:=I1.cell y c q
   rw[z,hnew] at ho
   cases ho
  refine jX J6 hN hi (.inl hloc) (v:= .ref ea) rfl (fun s7 I7 ⟨a,sb,ha⟩=>?_) (.inr hloc)
  have hea7:u3 s7.heap ea (cA nn):=by
   obtain⟨ob,h1,h2⟩:=fly₆.there
   refine⟨ob,(sb.2 ea ?_).trans h1,by rw[h2,hcv]⟩
   rcases ha with z | z
   ·rw[z];exact nloc
   ·exact Ne.symm (ncell n a z)
  have h0:s₀.heap.get? ea=none:=by
   cases q:s₀.heap.get? ea with
   |none=>rfl
   |some o=>
    obtain⟨o',q'⟩:=I1.base.there ea o q (fun z=>absurd (show ea∈([]:List Addr) from z) (by simp))
    rw[hnew] at q'
    cases q'
  have I8:Inv (iu (aZ (CX1 P w cv) P w K mg base N qual scope f cd A outer s₀ H₀ E) ea fun _ _=>False) pins (σ'.set i (some (.ref ea))) (upd H' ea (ExO ea (cA nn))) s7:=
   vX (il I7) hHe h0 nloc ncell (fun p q z=>by
    have hp:=I1.pin p (List.mem_append_left _ (show p∈pins from q))
    rw[z,hnew] at hp
    cases hp.1) ⟨hea7,(by obtain⟨ox,h1,_⟩:=hea7;exact⟨ox,h1⟩),fun h1 h2 hx k=>p9 hx k⟩
  have hlen:σ'.length=N.length:=I1.len
  have hil:i<σ'.length:=by rw[hlen];exact(List.getElem?_eq_some_iff.mp hi).1
  have eL:=Ext.lay (o:=ExO ea (cA nn)) ext'.fh hHe
  have hρ:((List.replicate σ'.length none).set i (some (Sl.fz (.exc (cA nn)))))[i]? =some (some (.fz (.exc (cA nn)))):=List.getElem?_set_self (by simpa using hil)
  have only:∀(j:Nat) (sl:Sl),((List.replicate σ'.length (none:Option Sl)).set i (some (Sl.fz (.exc (cA nn)))))[j]? =some (some sl)→j=i∧sl= .fz (.exc (cA nn)):=fun j sl e=>by
   by_cases hj:j=i
   ·subst hj
    rw[hρ] at e
    cases e
    exact⟨rfl,rfl⟩
   ·rw[List.getElem?_set_ne (Ne.symm hj),List.getElem?_replicate] at e
    split at e<;>cases e
  have S8:StOk K G₀ J₀ (upd F' ea (ExO ea (cA nn))) (upd H' ea (ExO ea (cA nn))) (σ'.set i (some (.ref ea))) ((List.replicate σ'.length none).set i (some (.fz (.exc (cA nn))))):=by
   refine⟨ext'.trans eL,⟨eL.fh,fun j sl e=>?_⟩,by simp,fun j c a e=>?_,fun j k c c' a e=>?_⟩
   ·obtain⟨rfl,rfl⟩:=only j sl e
    exact⟨.ref ea,List.getElem?_set_self hil,ea,rfl,aF⟩
   ·obtain⟨_,z⟩:=only j _ e
    cases z
   ·obtain⟨_,z⟩:=only j _ e
    cases z
  have hcm:cA m=cA nn:=by
   have:=hmn
   rw[hcv,hcv] at this
   exact(Value.ref.inj this).symm
  have w8:WPS K (fun _ _=>False) G₀ J₀ (τh ((List.replicate σ'.length none).set i (some (.fz (.exc (cA nn)))))) {nx:=fun _ _=>False,rt:=D.rt}:=by
   rw[hh m _ (by rw[hcm];exact hρ)]
   rcases(hd m).cs with q | ⟨k,q⟩ | ⟨d,q⟩
   ·rw[q] at w';exact w'.elim
   ·rw[q] at w';exact w'.elim
   ·rw[q] at w'⊢;exact w'
  refine wpAny_mono (hs ea G₀ J₀ pins s7 _ _ {nx:=fun _ _=>False,rt:=D.rt} I8 ⟨_,_,S8,w8⟩) (fun fl s8 q8=>?_) fun _ _ z=>z.elim
  cases fl with
  |next=>obtain⟨_,_,_,z⟩:=q8;exact z.elim
  |brk=>obtain⟨_,_,_,z⟩:=q8;exact z.elim
  |cont=>obtain⟨_,_,_,z⟩:=q8;exact z.elim
  |ret u=>
   obtain⟨v,σ9,H9,I9,rv,q9⟩:=q8
   have I10:Inv (aZ (CX1 P w cv) P w K mg base N qual scope f cd A outer s₀ H₀ E) pins σ9 H9 s8:=qY I9 J5.ok.hd J5.ok.frames
   obtain⟨mm,hns,_⟩:=I10.loc
   exact wpAny_nameGoes hloc hns (by rw[show (aZ (CX1 P w cv) P w K mg base N qual scope f cd A outer s₀ H₀ E).env.scope.kind= .function from I10.ok.kind];rfl) fun h' m' hn' hsb=>⟨v,_,H9,ud I10 hsb hn',rv,q9⟩
 have wb:WPS K (fun k H'=>∃F',Ext G₀ J₀ F' H'∧WPS K Xw G₀ J₀ (noex (hd k)>>=fun d=>M.ret (.rt d)) D) G₀ J₀ (τb ρ) D:=by
  unfold BE at wq
  match τb ρ,wq with
  |none,wq=>exact wq
  |some (.ok (.nx ρ')),wq=>exact wq
  |some (.ok (.rt d)),wq=>exact wq
  |some (.ex k),wq=>exact fun F' H' e=>⟨F',e,wq⟩
 refine wpAny_Try_except (wpAny_mono (hb pins _ _ pass G₀ J₀ [] s σ H D (vS I rfl) ⟨F,ρ,S,wb⟩) (fun fl s1 q1=>?_) fun _ _ z=>z)
 cases fl with
 |next=>obtain⟨σ1,H1,I1,q⟩:=q1;exact wpAny_execs_nil ⟨σ1,H1,fH I1 rfl,q⟩
 |brk=>obtain⟨σ1,H1,I1,q⟩:=q1;exact⟨σ1,H1,fH I1 rfl,q⟩
 |cont=>obtain⟨σ1,H1,I1,q⟩:=q1;exact⟨σ1,H1,fH I1 rfl,q⟩
 |ret u=>obtain⟨v,σ1,H1,I1,r,q⟩:=q1;exact⟨v,σ1,H1,fH I1 rfl,r,q⟩
end
end L3
namespace L3
open PySem PySem.Spec L2 SeqAt HT
open PyProof.Rows hiding St
structure RoomH (k:Nat) (A:Around):Prop where
 dp:A.depth+3*k+5<recursionLimit
 un:A.units+16*k+200<cLine
theorem RoomH.deeper {k:Nat}{A:Around}(r:RoomH (k+1) A) (env:Env):RoomH k (A.deeper env):=
 ⟨by have:=r.dp;show A.depth+1+3*k+5<_;omega,by have:=r.un;show A.units+3+16*k+200<_;omega⟩
theorem RoomH.of {k:Nat}{A:Around}(r:Room k A) (v:Option Value):RoomH k (A.mark v):=⟨r.dp,r.un⟩
theorem RoomH.units {k:Nat}{A:Around}(r:RoomH k A):A.units+64<cLine:=by have:=r.un;omega
structure FnOkH (P:Program) (w:World) (K:PySem.W.Frag) (mg:Str→Option Value) (base:Heap) (k:Nat) (f:Addr) (fd:FuncData) (ps:List Str) (sp:Sp):Prop where
 len:∀vs H Q E,sp vs H Q E→vs.length=ps.length
 run:∀(A:Around) (outer:List Env) (s:Shared) (H:Hp) (args:Args) (us:List Value) (vs:List V) (Q:VK) (E:XK),RoomH k A→Env0 P w K mg base A outer s H→BindsTo s fd args (ps.zip us)→Vals vs us→sp vs H Q E→
  codeAny (model P w) A (.call (.ref f) args) (CR CX0 outer P w H s Q E) s
abbrev pj (P:Program) (w:World) (K:PySem.W.Frag) (mg:Str→Option Value) (base:Heap) (N:List Str) (qual:Str) (scope:Scope) (f:Addr) (cd:Value) (A:Around) (outer:List Env) (s:Shared) (H:Hp):Cx:=
 {aZ CX0 P w K mg base N qual scope f cd A outer s H E0 with calm:=false,xe:=fun _ _=>False}
theorem t8 {P:Program}{w:World}{K:PySem.W.Frag}{mg:Str→Option Value}{base:Heap}{N ps:List Str}{qual:Str}{scope:Scope}{f:Addr}{cd:Value}{A:Around}{outer:List Env}{s s1:Shared}{H:Hp}{us:List Value}{vs:List V}
 (S:FnScope N ps scope) (e0:Env0 P w K mg base A outer s H) (hl:vs.length=ps.length) (r:Vals vs us)
 (x:InCallC s s.heap.objs.size (bindL (envOfC qual scope s.heap.objs.size f cd).kindOf (ps.zip us) fun _=>none) (cellsFrom (s.heap.objs.size+1) scope.names []) (bindC (envOfC qual scope s.heap.objs.size f cd).kindOf (ps.zip us) fun _=>none) s1):
 Inv (pj P w K mg base N qual scope f cd A outer s H) [] (L2.start N vs) H s1:=by
 have e1:Env0 P w K mg base {A with handled:=none} outer s H:=⟨e0.frames,e0.mod,e0.bs,e0.bsz,e0.funs,e0.frf,e0.hok,e0.bare⟩
 have J:=o9 (CX:=CX0) (E:=E0) (A:={A with handled:=none}) S rfl e1 hl r x
 exact⟨⟨J.ok.mod,J.ok.kind,J.ok.glob,J.ok.blt,J.ok.above,J.ok.inj,J.ok.has,J.ok.cab,fun z=>(by cases z),Around.frames_deeper e0.frames,J.ok.stk,J.ok.exf,J.ok.bs,J.ok.bsz,J.ok.noex,J.ok.exfs,J.ok.funs,J.ok.frf⟩,J.os,J.bare,J.base,J.loc,J.cell,J.free,J.freeC,J.pin,J.hok,J.len⟩
theorem BK {P:Program}{w:World}{K:PySem.W.Frag}{mg:Str→Option Value}{base:Heap}{k:Nat}{f:Addr}{name qual:Str}{params:Arguments}{body:List Stmt}{scope:Scope}{dV kV doc pm cdv ct oc:Value}{an od:Option Addr}
 {osl:Array (Option Value)}{N ps:List Str}{sp:Sp}(lk:K.lookup f=some ⟨oc,od, .func (PySem.W.fnOf name qual params body scope dV kV doc pm an cdv ct),osl⟩) (hcd:PySem.W.codeIn K cdv qual=true) (S:FnScope N ps scope)
 (len:∀vs H Q E,sp vs H Q E→vs.length=ps.length)
 (hbody:∀(A:Around) (outer:List Env) (s:Shared) (H:Hp) (vs:List V) (Q:VK) (E:XK),RoomH k (A.deeper (envOfC qual scope s.heap.objs.size f cdv))→sp vs H Q E→
  ∃t,PSs (pj P w K mg base N qual scope f cdv A outer s H) body t∧t {nx:=fun _ H'=>Q .non H',rt:=Q} (L2.start N vs) H):
 FnOkH P w K mg base (k+1) f (PySem.W.fnOf name qual params body scope dV kV doc pm an cdv ct) ps sp:=by
 refine⟨len,fun A outer s H args us vs Q E hr e0 hb r hsp=>?_⟩
 have hl:=len _ _ _ _ hsp
 have KX:K.In s.heap:=e0.mod.kin.keeps fun b o e=>(e0.bs b o e).1
 have lim:s.heap.NoLimit:=e0.mod.nolimit.keeps fun b o e=>(e0.bs b o e).1
 have hkind:∀y∈ps.zip us,scope.names.lookup y.1=some .local∨(scope.names.lookup y.1=some .cell∧((cellsFrom (s.heap.objs.size+1) scope.names []).lookup y.1).isSome=true):=fun⟨n,v⟩ hy=>by
  rcases S.par n (List.of_mem_zip hy).1 with q | q
  ·exact .inl q
  ·exact .inr ⟨q,PySem.W.cellsFrom_some _ _ _ (.inl q)⟩
 have hdep:A.depth<recursionLimit:=by have:=hr.dp;omega
 refine codeAny_call_function hdep (KX _ _ lk) rfl S.co S.gen rfl (PySem.W.codeRec_of KX hcd) (hb _ _ _ _ ?_)
 refine wpAny_newFunctionEnv_cells S.kind hkind fun env he s1 x=>?_
 subst he
 refine⟨lim.keeps x.toInCall.keep,codeAny_func ?_⟩
 obtain⟨t,ht,hq⟩:=hbody A outer s H vs Q E (hr.deeper _) hsp
 have I:Inv (pj P w K mg base N qual scope f cdv A outer s H) [] (L2.start N vs) H s1:=t8 S e0 hl r x
 refine wpAny_mono (ht [] s1 (L2.start N vs) H _ I hq) (fun fl s' hs=>?_) fun e s' hs=>hs.elim
 have fin:∀{σ':St}{H':Hp}{v:V}{u:Value},Inv (pj P w K mg base N qual scope f cdv A outer s H) [] σ' H' s'→RelV v u→Q v H'→CE outer P w H s Q u s':=
  fun {σ' H' v u} J rv q=>⟨v,H',J.os,J.bare,J.base,J.hok,rv,q⟩
 cases fl with
 |ret u=>
  obtain⟨v,σ',H',J,rv,q⟩:=hs
  exact fin J rv q
 |next=>
  obtain⟨σ',H',J,q⟩:=hs
  exact fin (v:=V.non) (u:=Value.none) J rfl q
 |brk=>
  obtain⟨_,_,_,q⟩:=hs
  exact False.elim q
 |cont=>
  obtain⟨_,_,_,q⟩:=hs
  exact False.elim q
theorem zl {K:PySem.W.Frag}{F H:Hp}{N:List Str}{ds:List D}{vs:List V}(fh:Same F H) (hd:DenL K F ds vs):StOk K F H F H (L2.start N vs) (ds.map (fun d=>some (Sl.fz d))++List.replicate (N.length - ds.length) none):=by
 have hlen:=hd.len
 have get:∀(i:Nat) (sl:Sl),(ds.map (fun d=>some (Sl.fz d))++List.replicate (N.length - ds.length) none)[i]? =some (some sl)→∃d,ds[i]? =some d∧sl= .fz d:=fun i sl e=>by
  by_cases hi:i<ds.length
  ·rw[List.getElem?_append_left (by simpa using hi),List.getElem?_map] at e
   cases q:ds[i]? with
   |none=>rw[q] at e;cases e
   |some d=>rw[q] at e;cases e;exact⟨d,rfl,rfl⟩
  ·rw[List.getElem?_append_right (by simpa using hi),List.getElem?_replicate] at e
   split at e<;>cases e
 refine⟨Ext.refl fh,⟨fh,fun i sl e=>?_⟩,?_,fun i c a e=>?_,fun i j c c' a e=>?_⟩
 ·obtain⟨d,q,rfl⟩:=get i sl e
  obtain⟨v,e1,e2⟩:=hd.get q
  have hi:=(List.getElem?_eq_some_iff.mp q).1
  refine⟨v,?_,e2⟩
  unfold L2.start
  rw[List.getElem?_append_left (by simp;omega),List.getElem?_map,e1]
  rfl
 ·unfold L2.start
  simp[hlen]
 ·obtain⟨d,_,z⟩:=get i _ e
  cases z
 ·obtain⟨d,_,z⟩:=get i _ e
  cases z
section
variable {P : Program} {w : World} {K : PySem.W.Frag} {mg : Str → Option Value} {base : Heap} {cv : Nat → Value}
theorem DR {x qual:Str}{st:Stmt}{f:Addr}{fd:FuncData}{N ps:List Str}{k:Nat}{τ:DS}(Fn:Fun K x qual st f fd) (S:FnScope N ps (ag st))
 (hbody:∀(cdv:Value) (A:Around) (outer:List Env) (s:Shared) (H:Hp),RoomH k (A.deeper (envOfC qual (ag st) s.heap.objs.size f cdv))→
  PSDs (pj P w K mg base N qual (ag st) f cdv A outer s H) (fun _ _=>False) (az st) τ):FnOkH P w K mg base (k+1) f fd ps (spD K cv ps.length fun ds=>noex (bY N.length τ ds)):=by
 obtain⟨oc,od,kV,doc,pm,an,cdv,ct,osl,rfl,lk,hcd⟩:=Fn.ex
 refine BK lk hcd S (fun vs H Q E ⟨_,_,_,_,hl,_⟩=>hl) fun A outer s H vs Q E hr hsp=>?_
 obtain⟨F,ds,fh,hd,hl,hw⟩:=hsp
 refine⟨_,hbody cdv A outer s H hr F H,F,_,zl fh hd,?_⟩
 have hw:WP K (fun n H'=>E (cv n) none H') F H (noex (τ (ds.map (fun d=>some (Sl.fz d))++List.replicate (N.length - ds.length) none)>>=fun o=>match o with | .nx _=>M.ret .non | .rt d=>M.ret d)) Q:=hw
 rcases(τ (ds.map (fun d=>some (Sl.fz d))++List.replicate (N.length - ds.length) none)).cs with e | ⟨n,e⟩ | ⟨o,e⟩
 ·rw[e] at hw;exact hw.elim
 ·rw[e] at hw;exact hw.elim
 ·rw[e] at hw⊢
  cases o with
  |nx ρ'=>exact fun σ' F' H' s'=>hw .non H' F' s'.ext rfl
  |rt d=>exact fun v F' H' e' q=>hw v H' F' e' q
end
section
variable {X : Cx} {Xw : Nat → Hp → Prop} {cv : Nat → Value} {k m : Nat} {f : Addr} {fd : FuncData} {ps : List Str} {g : List D → M D} {x : Str} {p pos : Pos} {e : Expr} {es : List Expr} {δs : DA}
theorem xI (F:FnOkH X.prog X.w X.K X.mg X.base k f fd ps (spD X.K cv m g)) (hr:RoomH k X.A) (hg:Gl X x) (hm:X.mg x=some (.ref f)) (hk:PySem.W.keepIn X.K (.ref f)=true) (hb:Binds X.K fd ps [])
 (ha:PDA X Xw (e::es) δs) (hdb:(x==("__debug__":Str))=false:=by decide) (he:starEach (e::es) X.env=(false,eval e X.env)::starEach es X.env:=by rfl) (hpl:(backTo pos (starEach es X.env)).any (·.1)=false:=by rfl):
 PD X Xw (.Call (.Name x p) (e::es) [] pos) (fun ρ=>δs ρ>>=fun ds=>if ds.length=m then noex (g ds) else M.stuck):=by
 intro pins s σ H Q I ⟨Fz,ρ,S,wq⟩
 refine wpAny_Call_Name_kw (jC I hg hm ?_ hdb)
 refine PySem.W.callWith_K (h₀:=X.base) I.ok.mod.kin hk (thn (ha pos pins s σ H _ I ⟨Fz,ρ,S,WP.bindL wq⟩) fun us s1 ⟨vs,H1,I1,r,q⟩=>⟨I1.kIn,?_⟩) he hpl
 obtain⟨F1,ds,e1,q1,w1⟩:=q
 split at w1
 ·rename_i hl1
  have hsp:spD X.K cv m g vs H1 Q E0:=⟨F1,ds,e1.fh,q1,by rw[←q1.len];exact hl1,by
   rcases(g ds).cs with q | ⟨n,q⟩ | ⟨d,q⟩
   ·rw[q] at w1;exact w1.elim
   ·rw[q] at w1;exact w1.elim
   ·rw[q] at w1⊢;exact w1⟩
  have hlu:us.length=ps.length:=by rw[←r.length];exact F.len _ _ _ _ hsp
  refine wpAny_call (codeAny_mono (F.run X.A X.stack s1 H1 ⟨us,[]⟩ us vs Q E0 hr I1.env0 (by have:=hb s1 us I1.kIn (by rw[List.append_nil];exact hlu);rwa [List.append_nil] at this) r hsp) fun res s' hq=>?_)
  cases res with
  |error e=>exact hq.elim
  |ok fl=>
   cases fl with
   |ret u=>exact I1.after hq
   |next=>exact False.elim hq
   |brk=>exact False.elim hq
   |cont=>exact False.elim hq
 ·exact w1.elim
end
end L3
namespace L3
open PySem PySem.Spec L2 SeqAt HT
open PyProof.Rows hiding St
def u4 (N:List Str) (osc scope:Scope) (tn:List Str):Bool:=
 decide (scope.kind= .function)&&scope.names.all (fun y=>decide (y.2≠ .cell))&&scope.names.all (fun y=>decide (y.2= .local→scope.names.lookup y.1=some .local))&&
 scope.names.all (fun y=>decide (y.2= .free→(osc.names.lookup y.1=some .cell∨osc.names.lookup y.1=some .free)))&&
 ((cM tn N).zip N).all (fun p=>decide (scope.names.lookup p.1=none∨(p.1=p.2∧scope.names.lookup p.1=some .free)))
theorem bG {X:Cx}{N:List Str}{osc scope:Scope}{tn:List Str}(hN:X.N=N) (ho:X.env.scope=osc) (h:u4 N osc scope tn=true):CompSc X scope tn:=by
 unfold u4 at h
 simp only[Bool.and_eq_true,List.all_eq_true,decide_eq_true_eq] at h
 obtain⟨⟨⟨⟨h1,h2⟩,h3⟩,h4⟩,h5⟩:=h
 refine⟨h1,h2,h3,fun y hy hf=>?_,?_⟩
 ·have:=h4 y hy hf
  rw[←ho] at this
  exact this
 ·rw[hN]
  exact h5
theorem cI {X:Cx}{x:Str}{px:Pos}{σ:St}(hN:X.N.Nodup) (h0:X.N[0]? =some x) (hloc:X.env.scope.names.lookup x=some .local):zd X (.Name x px) 0 σ:=fun pins s σ' F H d ts v u I fh hd rv q e=>by
 have e:M.ret [d]=M.ret ts:=e
 have e:=fS e
 subst e
 refine wpAny_assign_Name (r_ I hN h0 (.inl hloc) rv (fun s' I'=>⟨[v],?_, .cons q .nil⟩) (.inr hloc))
 have hl:0<σ'.length:=by rw[I.len];exact(List.getElem?_eq_some_iff.mp h0).1
 have:σ'.set 0 (some v)=[v].map some++σ:=by
  cases σ' with
  |nil=>simp at hl
  |cons a r=>
   have hd:r=σ:=by simpa using hd
   subst hd
   rfl
 rw[←this]
 exact I'
theorem di {P:Program}{w:World}{cv:Nat→Value}{X:Cx}:gL (CX1 P w cv) X (EX cv fun _ _=>False):=fun _ _ _ _ _ _ _ ⟨_,_,_,_,_,_,_,_,_,_,_,_,_,_,z⟩=>z.elim
def bL (K:PySem.W.Frag) (mg:Str→Option Value) (x:Str) (st:Stmt) (f:Addr):Prop:=mg x=some (.ref f)∧∃fd,Fun K x x st f fd
def au (P:Program) (w:World) (K:PySem.W.Frag) (mg:Str→Option Value) (base:Heap) (cv:Nat→Value) (k:Nat) (x:Str) (m:Nat) (g:List D→M D):Prop:=
 ∃f fd ps,mg x=some (.ref f)∧PySem.W.keepIn K (.ref f)=true∧Binds K fd ps []∧FnOk P w K mg base (CX1 P w cv) k f fd ps (spD K cv m g)
section
variable {X : Cx} {Xw : Nat → Hp → Prop} {cv : Nat → Value} {k m : Nat} {g : List D → M D} {x : Str} {p pos : Pos} {e : Expr} {es : List Expr} {δs : DA}
def ax (m:Nat) (g:List D→M D) (δs:DA):DE:=fun ρ=>δs ρ>>=fun ds=>if ds.length=m then g ds else M.stuck
theorem bx (F:au X.prog X.w X.K X.mg X.base cv k x m g) (hr:Room k X.A) (hg:Gl X x) (hx:gL (CX1 X.prog X.w cv) X (EX cv Xw))
 (ha:PDA X Xw (e::es) δs) (hl:(e::es).length=m) (hdb:(x==("__debug__":Str))=false:=by decide) (he:starEach (e::es) X.env=(false,eval e X.env)::starEach es X.env:=by rfl) (hpl:(backTo pos (starEach es X.env)).any (·.1)=false:=by rfl):
 PD X Xw (.Call (.Name x p) (e::es) [] pos) (ax m g δs):=by
 obtain⟨f,fd,ps,h1,h2,h3,h4⟩:=F
 exact AN h4 hr hg h1 h2 h3 hx ha hl hdb he hpl
end
theorem aE {P:Program}{w:World}{K:PySem.W.Frag}{mg:Str→Option Value}{base:Heap}{cv:Nat→Value}{k:Nat}{x:Str}{st:Stmt}{f:Addr}{N ps:List Str}{τ:DS}(T:bL K mg x st f) (S:FnScope N ps (ag st))
 (hbi:∀(kV doc pm:Value) (an:Option Addr) (cdv ct:Value) (us:List Value),us.length=ps.length→bindArgs (PySem.W.fnOf x x (aH st) (az st) (ag st) .none kV doc pm an cdv ct) ⟨us,[]⟩=pure (ps.zip us))
 (hbody:∀(cdv:Value) (A:Around) (outer:List Env) (s:Shared) (H:Hp) (E:XK),Room k (A.deeper (envOfC x (ag st) s.heap.objs.size f cdv))→
  PSDs (aZ (CX1 P w cv) P w K mg base N x (ag st) f cdv A outer s H E) (fun n H'=>E (cv n) none H') (az st) τ):au P w K mg base cv (k+1) x ps.length (bY N.length τ):=by
 obtain⟨h1,fd,Fn⟩:=T
 exact⟨f,fd,ps,h1,Fn.kp,Fn.binds hbi,Dj Fn S hbody⟩
end L3
namespace L3
open PySem PySem.Spec L2 SeqAt HT
open PyProof.Rows hiding St
section
variable {X : Cx} {Xw : Nat → Hp → Prop} {a e : Expr} {δ : DE} {pos : Pos}
def ur:D→M D
 | .int i=>M.ret (.int (-i))
 |_=>M.stuck
theorem pW (ha:PD X Xw a δ):PD X Xw (.UnaryOp .USub a pos) (d1 ur δ):=PE.weak (Dm BL ha) fun σ H Q ⟨F,ρ,s,w⟩=>by
 refine⟨F,ρ,s,WP.mono (WP.bind w) fun v H1 ⟨F1,d,e1,q,w1⟩=>?_⟩
 cases d with
 |int i=>
  have q:v= .int i:=q
  subst q
  exact⟨i,rfl,WP.now w1 e1.fh rfl⟩
 |_=>exact w1.elim
end
end L3
namespace L3
open PySem PySem.Spec L2 SeqAt HT
open PyProof.Rows hiding St
section
variable {X : Cx} {Xw : Nat → Hp → Prop} {pos : Pos}
theorem A2 {x z:Str}(hg:Gl X x) (h:∃t,X.mg x=some (.str z t)) (hz:z.length≤lim) (hdb:(x==("__debug__":Str))=false:=by decide):PD X Xw (.Name x pos) (dC (.str z)):=by
 obtain⟨t,h⟩:=h
 exact pE (v:= .str z) hg h ⟨t,rfl⟩ (fun _=>⟨rfl,hz⟩) hdb
theorem vv {x:Str}{i:Int}(hg:Gl X x) (h:∃t,X.mg x=some (.int i t)) (hdb:(x==("__debug__":Str))=false:=by decide):PD X Xw (.Name x pos) (dC (.int i)):=by
 obtain⟨t,h⟩:=h
 exact pE (v:= .int i) hg h ⟨t,rfl⟩ (fun _=>rfl) hdb
theorem gD {x:Str}{a:Addr}(hg:Gl X x) (h:X.mg x=some (.ref a)) (hdb:(x==("__debug__":Str))=false:=by decide):PD X Xw (.Name x pos) (dC (.raw (.ref a))):=
 pE (v:= .ref a) hg h rfl (fun _=>rfl) hdb
end
def zR (sc osc:Scope):Scope:={sc with names:=sc.names.map fun(n,k)=>if (k== .free&&osc.kind== .function&&osc.names.lookup n==some .cell) then(n, .cell) else(n,k)}
def ly (P:Program) (w:World) (K:PySem.W.Frag) (mg:Str→Option Value) (base:Heap) (cv:Nat→Value) (k:Nat) (x:Str) (m:Nat) (g:List D→M D):Prop:=
 ∃f fd ps,mg x=some (.ref f)∧PySem.W.keepIn K (.ref f)=true∧Binds K fd ps []∧FnOkH P w K mg base k f fd ps (spD K cv m fun ds=>noex (g ds))
def yE (m:Nat) (g:List D→M D) (δs:DA):DE:=fun ρ=>δs ρ>>=fun ds=>if ds.length=m then noex (noex (g ds)) else M.stuck
theorem Au {X:Cx}{Xw:Nat→Hp→Prop}{cv:Nat→Value}{k m:Nat}{g:List D→M D}{x:Str}{p pos:Pos}{e:Expr}{es:List Expr}{δs:DA}(F:ly X.prog X.w X.K X.mg X.base cv k x m g) (hr:RoomH k X.A) (hg:Gl X x)
 (ha:PDA X Xw (e::es) δs) (hdb:(x==("__debug__":Str))=false:=by decide) (he:starEach (e::es) X.env=(false,eval e X.env)::starEach es X.env:=by rfl) (hpl:(backTo pos (starEach es X.env)).any (·.1)=false:=by rfl):
 PD X Xw (.Call (.Name x p) (e::es) [] pos) (yE m g δs):=by
 obtain⟨f,fd,ps,h1,h2,h3,h4⟩:=F
 exact xI h4 hr hg h1 h2 h3 ha hdb he hpl
theorem uE {P:Program}{w:World}{K:PySem.W.Frag}{mg:Str→Option Value}{base:Heap}{cv:Nat→Value}{k:Nat}{x:Str}{st:Stmt}{f:Addr}{N ps:List Str}{τ:DS}(T:bL K mg x st f) (S:FnScope N ps (ag st))
 (hbi:∀(kV doc pm:Value) (an:Option Addr) (cdv ct:Value) (us:List Value),us.length=ps.length→bindArgs (PySem.W.fnOf x x (aH st) (az st) (ag st) .none kV doc pm an cdv ct) ⟨us,[]⟩=pure (ps.zip us))
 (hbody:∀(cdv:Value) (A:Around) (outer:List Env) (s:Shared) (H:Hp),RoomH k (A.deeper (envOfC x (ag st) s.heap.objs.size f cdv))→
  PSDs (pj P w K mg base N x (ag st) f cdv A outer s H) (fun _ _=>False) (az st) τ):ly P w K mg base cv (k+1) x ps.length (bY N.length τ):=by
 obtain⟨h1,fd,Fn⟩:=T
 exact⟨f,fd,ps,h1,Fn.kp,Fn.binds hbi,DR Fn S hbody⟩
structure Box (p:Prop):Prop where
 out:p
section
variable {X : Cx} {Xw : Nat → Hp → Prop} {a : Expr} {δa : DE} {pos : Pos}
theorem ik {st:Stmt}{rest:List Stmt}{τ τ':DS}(h1:Box (PSD X Xw st τ)) (h2:Box (PSDs X Xw rest τ')):Box (PSDs X Xw (st::rest) (aB τ τ')):=⟨ah h1.out h2.out⟩
theorem Co {st:Stmt}{τ:DS}(h1:Box (PSD X Xw st τ)):Box (PSDs X Xw [st] τ):=⟨aq h1.out⟩
end
end L3
namespace L3
open PySem PySem.Spec L2 SeqAt HT
open PyProof.Rows hiding St
theorem DH {l:PySem.W.OpenLaw}{n k:Nat}{q:Program}{loose:List Str}{XP:(Str→Option Value)→Heap→Prop}{YP:World→Heap→Prop}{d:DefRec}{K:Params→PySem.W.Frag}{x:Str}{g:List D→M D}
 (hn:l.most=some n) (hn2:n≤lim) (hdf:d.params.defaults=[]) (hr:Room k callerA)
 (hY:∀(w:World) (h:Heap),YP w h→(K w.params).In h) (hg:∀ns:List Int,ns.length≤n→g [.scr ns]=M.ret (.bl true))
 (F:∀(w:World) (mg:Str→Option Value) (fa:Addr) (h:Heap),(K w.params).In h→h.Ns mainGlobals mg→mg d.name=some (.ref fa)→
  ∃(cv:Nat→Value) (fd:FuncData),(∀(s:Shared) (u:Value),BindsTo s fd ⟨[u],[]⟩ [(x,u)])∧
   ∀base:Heap,(K w.params).In base→base.Ns mainGlobals mg→FnOk l.prog w (K w.params) mg base (CX1 l.prog w cv) k fa fd [x] (spD (K w.params) cv 1 g)):
 PySem.W.WalkO q loose XP YP l.row.toRowW d [] (fun f vs=>PySem.call f vs):=by
 refine Att.attach_call hn hdf fun w s₀ s₁ mg mb fa o pm cd doc a vs ns G Y ho hd hcd hmg hobj hints hlen hgs=>?_
 have KX:=hY w _ Y
 obtain⟨cv,fd,hb,hF⟩:=F w mg fa _ KX G.T.g hmg
 refine sf KX G.T.g G.T.b G.T.builtins G.T.nolimit hgs hobj hints (Nat.le_trans hlen (Nat.le_trans hn2 (Nat.le_of_lt dD))) hr hF hb (fun H hO hS=>?_) fun H e s' z=>?_
 ·refine⟨H,[.scr ns],fun _ _ e=>e,⟨_,_,rfl,⟨a,rfl,hS,Nat.le_trans hlen hn2⟩,rfl⟩,rfl,?_⟩
  rw[hg ns hlen]
  exact fun v H' F' e q=>q
 ·obtain⟨_,_,_,_,_,_,_,_,_,_,_,_,_,_,y⟩:=z
theorem ua {K:PySem.W.Frag}{h:Heap}{mg:Str→Option Value}{x:Str}{C:Addr}{ms:List Value}{id:String}(hK:K.In h) (hG:h.Ns mainGlobals mg) (at':PySem.W.nsIn K mainGlobals x=some (some (.ref C)))
 (qq:PySem.W.excIn K C ms id=true):OwnCls x C ms id mg h:=OwnCls.mk (PySem.W.mg_of hK hG at')<|by
 revert qq
 unfold PySem.W.excIn
 split<;>intro qq
 rotate_left
 ·exact Bool.noConfusion qq
 rename_i dict₁ rec₁ sl₁ found₁
 split at qq
 rotate_left
 ·exact Bool.noConfusion qq
 rename_i C₁ mro₁ v0 v1 v2 v3 id₁ v5 em es
 rw[Bool.and_eq_true,Bool.and_eq_true,Bool.and_eq_true,Bool.and_eq_true,Bool.and_eq_true] at qq
 rcases qq with⟨⟨⟨⟨⟨q1,q2⟩,q3⟩,q4⟩,q5⟩,q6⟩
 have q1:=eq_of_beq q1
 have q2:=eq_of_beq q2
 have q6:=eq_of_beq q6
 have q3:rec₁.hasDel=false:=by
  cases z:rec₁.hasDel
  ·rfl
  ·rw[z] at q3;cases q3
 subst q1 q2
 rcases rec₁ with⟨r1,r2,r3,r4,r5,r6,r7,r8,r9,r10,r11⟩
 have em:r3=_:=em
 have q3:r11=false:=q3
 subst em q3
 have sl₂:sl₁= #[v0,v1,v2,v3,some (.builtin id₁),v5]:=by
  rcases sl₁ with⟨y⟩
  exact congrArg Array.mk es
 subst sl₂
 have n5:=Heap.Ns.of_isNs (PySem.W.isNs_of_in hK q5)
 have n6:=PySem.W.nsMap_none_of_in hK q5 q6
 exact⟨mro₁,r4,r1,r5,r2,r6,r7,r8,r9,r10,dict₁,v0,v1,v2,v3,v5,_,hK _ _ found₁,n5,n6,PySem.W.tail_of_in hK q4⟩
theorem uj {K:PySem.W.Frag}{t c:Value}(h1:PySem.W.subIn K c (.type "BaseException")=some true) (h2:PySem.W.kitOne K t c=some true) (hne:(t==c)=false):PySem.W.exmOne K t c=some true:=by
 unfold PySem.W.exmOne
 unfold PySem.W.kitOne at h2
 rw[hne] at h2
 rw[h1]
 exact h2
end L3
namespace L3
open PySem PySem.Spec L2 SeqAt HT
open PyProof.Rows hiding St
section
variable {prog : Program} {w : World} {A : Around} {E : Value → Shared → Prop} {s : Shared}
end
section
variable {X : Cx} {Xw : Nat → Hp → Prop} {e est : Expr} {te ts : TE} {δ δs : DE} {pos p2 : Pos}
variable {o : Expr} {δo : DE} {δl : DA} {apos cpos : Pos}
end
end L3
namespace L3
open PySem PySem.Spec L2 SeqAt HT
open PyProof.Rows hiding St
namespace RV
end RV
def IsTupRev (h:Heap) (it t:Addr) (i:Int):Prop:=∃o,h.get? it=some o∧o.cls= .type "reversed"∧o.data= .fields #[.ref t,rawInt i]
section
variable {prog : Program} {w : World} {A : Around} {E : Value → Shared → Prop} {s : Shared}
theorem IsTupRev.typeIs {it t:Addr}{i:Int}(x:IsTupRev s.heap it t i):s.TypeIs (.ref it) "reversed":=let ⟨o,ho,hc,_⟩:=x;⟨o,ho,hc⟩
end
section
variable {X : Cx} {Xw : Nat → Hp → Prop} {tg e : Expr} {es : List Expr} {δ δi : DE} {δs : DA} {pos p : Pos}
def C7 (gs:List (List D→M D)) (m:Nat) (i:D) (ds:List D):M D:=match i with
 | .int k=>match L2.atI gs k with
   |some g=>if ds.length=m then g ds else M.stuck
   |none=>M.stuck
 |_=>M.stuck
def xj (gs:List (List D→M D)):D→Bool
 | .int k=>(L2.atI gs k).isSome
 |_=>false
def A_ (gs:List (List D→M D)) (m:Nat) (δi:DE) (δs:DA):DE:=fun ρ=>δi ρ>>=fun i=>if xj gs i then δs ρ>>=fun ds=>C7 gs m i ds else M.stuck
theorem xt {cv:Nat→Value}{k0 k1 k2 m:Nat}{x0 x1 x2:Str}{g0 g1 g2:List D→M D}{ie:Expr}{p0 p1 p2 pl ps:Pos}
 (F0:au X.prog X.w X.K X.mg X.base cv k0 x0 m g0) (F1:au X.prog X.w X.K X.mg X.base cv k1 x1 m g1) (F2:au X.prog X.w X.K X.mg X.base cv k2 x2 m g2)
 (r0:Room k0 X.A) (r1:Room k1 X.A) (r2:Room k2 X.A) (hg0:Gl X x0) (hg1:Gl X x1) (hg2:Gl X x2) (hx:gL (CX1 X.prog X.w cv) X (EX cv Xw)) (hi:PD X Xw ie δi)
 (ha:PDA X Xw (e::es) δs) (hl:(e::es).length=m) (hd0:(x0==("__debug__":Str))=false:=by decide) (hd1:(x1==("__debug__":Str))=false:=by decide) (hd2:(x2==("__debug__":Str))=false:=by decide)
 (he:starEach (e::es) X.env=(false,eval e X.env)::starEach es X.env:=by rfl) (hpl:(backTo pos (starEach es X.env)).any (·.1)=false:=by rfl) (hs:gN ie:=by intro _ _;rfl)
 (hse:eval (.Call (.Subscript (.List [.Name x0 p0, .Name x1 p1, .Name x2 p2] pl) ie ps) (e::es) [] pos) X.env=(do callWith pos (←eval (.Subscript (.List [.Name x0 p0, .Name x1 p1, .Name x2 p2] pl) ie ps) X.env) [] (backTo pos (starEach (e::es) X.env)) (backToKw pos (keywordEach [] X.env))):=by rfl):
 PD X Xw (.Call (.Subscript (.List [.Name x0 p0, .Name x1 p1, .Name x2 p2] pl) ie ps) (e::es) [] pos) (A_ [g0,g1,g2] m δi δs):=by
 obtain⟨f0,fd0,ps0,a0,b0,c0,d0⟩:=F0
 obtain⟨f1,fd1,ps1,a1,b1,c1,d1⟩:=F1
 obtain⟨f2,fd2,ps2,a2,b2,c2,d2⟩:=F2
 have hf:=Bf (X:=X) (pos:=ps) qT (uP (pos:=pl) (iB (lA (pos:=p0) hg0 a0 (v:= .ref f0) rfl hd0) (iB (lA (pos:=p1) hg1 a1 (v:= .ref f1) rfl hd1) (iB (lA (pos:=p2) hg2 a2 (v:= .ref f2) rfl hd2) me)))) hi hs
 intro pins s σ H Q I ⟨F,ρ,S,w⟩
 refine Call_ (thn (hf pins s σ H (fun v H1=>∃F1 kk gg f fd ps,Ext F H F1 H1∧v= .ref f∧PySem.W.keepIn X.K (.ref f)=true∧Binds X.K fd ps []∧FnOk X.prog X.w X.K X.mg X.base (CX1 X.prog X.w cv) kk f fd ps (spD X.K cv m gg)∧Room kk X.A∧
  WP X.K Xw F1 H1 (δs ρ>>=fun ds=>if ds.length=m then gg ds else M.stuck) Q) I ?_) fun v s1 ⟨x,H1,I1,r,F1,kk,gg,f,fd,ps,e1,hv,hk,hb,hF,hr,w1⟩=>?_) hse
 ·refine⟨by show 3≤sizeLine;rw[sizeLine_eq];decide,fun q hq=>?_⟩
  have E0:Ext F H F (upd H q (.lst [.ref f0, .ref f1, .ref f2])):=Ext.free S.fh hq
  refine⟨F,ρ,S.ext E0,WP.mono (WP.bind (WP.ext E0 w)) fun v H1 ⟨F1,d,e1,q1,w1⟩=>?_⟩
  split at w1
  ·rename_i hok
   unfold xj at hok
   split at hok
   ·rename_i k
    cases (show v=_ from q1)
    have hq1:H1 q=some (.lst [.ref f0, .ref f1, .ref f2]):=e1.hh _ _ aF
    have w1:WP X.K Xw F1 H1 (δs ρ>>=fun ds=>match L2.atI [g0,g1,g2] k with | some g=>if ds.length=m then g ds else M.stuck | none=>M.stuck) Q:=w1
    obtain⟨g,hg⟩:=Option.isSome_iff_exists.mp hok
    rw[hg] at w1
    unfold L2.atI at hg
    cases hj:ixN 3 k with
    |none=>
     have hg:(ixN 3 k).bind (fun j=>[g0,g1,g2][j]?)=some g:=hg
     rw[hj] at hg
     cases hg
    |some j=>
     have hg:(ixN 3 k).bind (fun j=>[g0,g1,g2][j]?)=some g:=hg
     rw[hj] at hg
     have at0:∀v,[V.ref f0, .ref f1, .ref f2][j]? =some v→L2.atI [V.ref f0, .ref f1, .ref f2] k=some v:=fun v hv=>by
      show (ixN 3 k).bind (fun j=>[V.ref f0, .ref f1, .ref f2][j]?)=some v
      rw[hj]
      exact hv
     have hg:[g0,g1,g2][j]? =some g:=hg
     match j,hg with
     |0,hg=>cases hg;exact⟨q,_,k, .ref f0,rfl,rfl,SqL.of hq1,at0 _ rfl,F1,k0,g0,f0,fd0,ps0,E0.trans e1,rfl,b0,c0,d0,r0,w1⟩
     |1,hg=>cases hg;exact⟨q,_,k, .ref f1,rfl,rfl,SqL.of hq1,at0 _ rfl,F1,k1,g1,f1,fd1,ps1,E0.trans e1,rfl,b1,c1,d1,r1,w1⟩
     |2,hg=>cases hg;exact⟨q,_,k, .ref f2,rfl,rfl,SqL.of hq1,at0 _ rfl,F1,k2,g2,f2,fd2,ps2,E0.trans e1,rfl,b2,c2,d2,r2,w1⟩
     |n+3,hg=>cases hg
   ·cases hok
  ·exact w1.elim
 ·subst hv
  cases (show v=_ from r)
  refine PySem.W.callWith_K (h₀:=X.base) I1.ok.mod.kin hk (thn (ha pos pins s1 σ H1 (fun vs H2=>spD X.K cv m gg (vs++[]) H2 Q (EX cv Xw)) I1 ⟨F1,ρ,S.ext e1,WPL.mono (WP.bindL w1) fun vs H2 ⟨F2,ds,e2,q2,w2⟩=>?_⟩) fun us s2 ⟨vs,H2,I2,rr,q⟩=>⟨I2.kIn,?_⟩) he hpl
  ·split at w2
   ·rename_i hl1
    exact⟨F2,ds,e2.fh,by simpa using q2,by rw[List.append_nil,←q2.len];exact hl1,WP.xw w2 fun n H h=>⟨n,rfl,h⟩⟩
   ·exact w2.elim
  ·exact ye hF hr hb .nil hx I2 rr q
end
end L3
namespace L3
open PySem PySem.Spec L2 SeqAt HT
open PyProof.Rows hiding St
def tY:D→Option Key
 | .int i=>some (.inl i)
 | .str x=>some (.inr x)
 |_=>none
def qc:List D→Option (List Key)
 |[]=>some []
 |d::ds=>match tY d,qc ds with
  |some k,some ks=>some (k::ks)
  |_,_=>none
def dX:D→Option (List Key)
 | .tup ds=>qc ds
 |_=>none
theorem ny {K:PySem.W.Frag}{F:Hp}{d:D}{v:V}{k:Key}(e:tY d=some k) (h:Den K F d v):v=kV k:=by
 cases d<;>first | cases e | skip
 ·exact h
 ·exact h.1
theorem gc {K:PySem.W.Frag}{F:Hp}:∀{ds:List D}{vs:List V}{ks:List Key},qc ds=some ks→DenL K F ds vs→vs=ks.map kV
 |[],_,_,e,h=>by cases e;exact h
 |d::ds,_,_,e,⟨v,r,h1,h2,h3⟩=>by
  unfold qc at e
  split at e
  ·rename_i k ks e1 e2
   cases e
   subst h1
   rw[List.map_cons,ny e1 h2,gc e2 h3]
  ·cases e
section
variable {κ : Type} [DecidableEq κ]
def eU:List κ→List D→κ→Option D
 |k'::ks,d::ds,k=>if k'=k then some d else eU ks ds k
 |_,_,_=>none
def km:List κ→List D→κ→D→List D
 |k'::ks,d'::ds,k,d=>(if k'=k then d else d')::km ks ds k d
 |_,_,_,_=>[]
theorem jv {K:PySem.W.Frag}{F:Hp}:∀{ks:List κ}{ds:List D}{vs:List V}(k:κ),DenL K F ds vs→ks.length=ds.length→
 (match eU ks ds k with | some d=>∃v,jl (ks.zip vs) k=some v∧Den K F d v | none=>jl (ks.zip vs) k=none)
 |[],[],_,_,_,_=>rfl
 |k'::ks,d::ds,_,k,⟨v,r,h1,h2,h3⟩,hl=>by
  subst h1
  unfold eU
  rw[List.zip_cons_cons]
  by_cases e:k'=k
  ·rw[if_pos e,ji (p:=(k',v)) e]
   exact⟨v,rfl,h2⟩
  ·rw[if_neg e,jB (p:=(k',v)) e]
   exact jv k h3 (by simpa using hl)
 |[],_::_,_,_,_,hl=>by simp at hl
 |_::_,[],_,_,_,hl=>by simp at hl
theorem h9 {K:PySem.W.Frag}{F:Hp}{ks:List κ}{ds:List D}{vs:List V}(k:κ) (h:DenL K F ds vs) (hl:ks.length=ds.length):(jl (ks.zip vs) k).isSome=(eU ks ds k).isSome:=by
 have:=jv k h hl
 split at this
 ·rename_i d e
  obtain⟨v,e1,_⟩:=this
  rw[e1,e];rfl
 ·rename_i e
  rw[this,e]
  rfl
theorem sH {K:PySem.W.Frag}{F:Hp}{d:D}{v:V}(hd:Den K F d v):∀{ks:List κ}{ds:List D}{vs:List V}(k:κ),DenL K F ds vs→ks.length=ds.length→
 ∃ws,(ks.zip vs).map (fun kv=>if kv.1=k then(kv.1,v) else kv)=ks.zip ws∧DenL K F (km ks ds k d) ws
 |[],[],_,_,h,_=>⟨[],rfl,rfl⟩
 |k'::ks,d'::ds,_,k,⟨v',r,h1,h2,h3⟩,hl=>by
  subst h1
  obtain⟨ws,e1,e2⟩:=sH hd k h3 (by simpa using hl)
  by_cases e:k'=k
  ·refine⟨v::ws,?_,?_⟩
   ·rw[List.zip_cons_cons,List.map_cons,e1,if_pos e];rfl
   ·unfold km;rw[if_pos e];exact .cons hd e2
  ·refine⟨v'::ws,?_,?_⟩
   ·rw[List.zip_cons_cons,List.map_cons,e1,if_neg e];rfl
   ·unfold km;rw[if_neg e];exact .cons h2 e2
 |[],_::_,_,_,_,hl=>by simp at hl
 |_::_,[],_,_,_,hl=>by simp at hl
theorem g9:∀(ks:List κ) (ds:List D) (k:κ) (d:D),ks.length=ds.length→(km ks ds k d).length=ds.length
 |[],[],_,_,_=>rfl
 |_::ks,_::ds,k,d,h=>by unfold km;rw[List.length_cons,List.length_cons,g9 ks ds k d (by simpa using h)]
 |[],_::_,_,_,h=>by simp at h
 |_::_,[],_,_,h=>by simp at h
def dg (ks:List κ) (ds:List D) (k:κ):List κ:=if (eU ks ds k).isSome then ks else ks++[k]
def cg (ks:List κ) (ds:List D) (k:κ) (d:D):List D:=if (eU ks ds k).isSome then km ks ds k d else ds++[d]
theorem qt {K:PySem.W.Frag}{F:Hp}{d:D}{v:V}(hd:Den K F d v) {ks:List κ}{ds:List D}{vs:List V}(k:κ) (h:DenL K F ds vs) (hl:ks.length=ds.length):
 ∃ws,putK (ks.zip vs) k v=(dg ks ds k).zip ws∧DenL K F (cg ks ds k d) ws∧(dg ks ds k).length=(cg ks ds k d).length:=by
 have hs:=h9 (K:=K) (F:=F) k h hl
 unfold putK dg cg
 have ha:((ks.zip vs).any fun kv=>decide (kv.1=k))=(jl (ks.zip vs) k).isSome:=mS ..
 rw[ha,hs]
 cases e:(eU ks ds k).isSome with
 |true=>
  rw[if_pos rfl,if_pos rfl,if_pos rfl]
  obtain⟨ws,e1,e2⟩:=sH hd k h hl
  exact⟨ws,e1,e2,by rw[g9 ks ds k d hl];exact hl⟩
 |false=>
  rw[if_neg Bool.false_ne_true,if_neg Bool.false_ne_true,if_neg Bool.false_ne_true]
  refine⟨vs++[v],?_,h.append (.cons hd .nil),by simp[hl]⟩
  rw[List.zip_append (by rw[hl];exact h.len)]
  rfl
end
theorem vD {κ:Type}{K:PySem.W.Frag}{F:Hp}{ks:List κ}{ds:List D}{vs:List V}(h:DenL K F ds vs) (hl:ks.length=ds.length):(ks.zip vs).length=ds.length:=by
 rw[List.length_zip,hl,←h.len];omega
def mq (ρ:Rho) (i:Nat):Option D:=match ρ[i]? with
 |some (some (.fz d))=>some d
 |some (some (.ow c))=>some c.d
 |_=>none
theorem xO {K:PySem.W.Frag}{F H:Hp}{σ:St}{ρ:Rho}{i:Nat}{ks:List (List Key)}{ds:List D}(s:StE K F H σ ρ) (e:mq ρ i=some (.dct ks ds)):
 ∃a vs,σ[i]? =some (some (.ref a))∧Rd H a (.dT (ks.zip vs))∧DenL K F ds vs∧ks.length=ds.length∧ds.length≤lim:=by
 unfold mq at e
 split at e
 ·rename_i d e1
  cases e
  obtain⟨v,h1,a,ob,vs,rfl,h2,h3,h4,h5⟩:=s.den i _ e1
  exact⟨a,vs,h1, .inr ⟨ob,s.fh _ _ h2⟩,h3,h4,h5⟩
 ·rename_i c e1
  cases c<;>cases e
  obtain⟨v,h1,a,o,rfl,h2,_,vs,rfl,h3,h4,h5⟩:=s.den i _ e1
  exact⟨a,vs,h1, .inl h2,h3,h4,h5⟩
 ·cases e
theorem yr {K:PySem.W.Frag}{F H:Hp}{σ:St}{ρ:Rho}{i:Nat}{ks:List Key}{ds:List D}(s:StE K F H σ ρ) (e:mq ρ i=some (.dci ks ds)):
 ∃a vs,σ[i]? =some (some (.ref a))∧Rd H a (.dK (ks.zip vs))∧DenL K F ds vs∧ks.length=ds.length∧ds.length≤lim:=by
 unfold mq at e
 split at e
 ·rename_i d e1
  cases e
  obtain⟨v,h1,a,ob,vs,rfl,h2,h3,h4,h5⟩:=s.den i _ e1
  exact⟨a,vs,h1, .inr ⟨ob,s.fh _ _ h2⟩,h3,h4,h5⟩
 ·rename_i c e1
  cases c<;>cases e
  obtain⟨v,h1,a,o,rfl,h2,_,vs,rfl,h3,h4,h5⟩:=s.den i _ e1
  exact⟨a,vs,h1, .inl h2,h3,h4,h5⟩
 ·cases e
def atD:D→D→Option (Option D)
 | .dct ks ds,k=>(dX k).map (eU ks ds)
 | .dci ks ds,k=>(tY k).map (eU ks ds)
 |_,_=>none
theorem vc {K:PySem.W.Frag}{F H:Hp}{σ:St}{ρ:Rho}{i:Nat}{d k:D}{y:V}{o:Option D}(s:StE K F H σ ρ) (hi:mq ρ i=some d) (hk:Den K F k y) (e:atD d k=some o):
 ∃a ov,σ[i]? =some (some (.ref a))∧iY H a y ov∧ov.isSome=o.isSome∧∀d',o=some d'→∃v,ov=some v∧Den K F d' v:=by
 unfold atD at e
 split at e
 ·rename_i ks ds
  cases q:dX k with
  |none=>rw[q] at e;cases e
  |some kk=>
   rw[q] at e
   cases e
   obtain⟨a,vs,h1,h2,h3,h4,h5⟩:=xO s hi
   unfold dX at q
   split at q
   ·rename_i es
    obtain⟨b,ws,rfl,k2,k3,_⟩:=hk
    have e1:=gc q k3
    subst e1
    refine⟨a,_,h1, .inr ⟨_,kk,b,h2,rfl,s.fh _ _ k2,rfl⟩,h9 kk h3 h4,fun d' hd'=>?_⟩
    have:=jv (K:=K) (F:=F) kk h3 h4
    rw[hd'] at this
    exact this
   ·cases q
 ·rename_i ks ds
  cases q:tY k with
  |none=>rw[q] at e;cases e
  |some kk=>
   rw[q] at e
   cases e
   obtain⟨a,vs,h1,h2,h3,h4,h5⟩:=yr s hi
   have e1:=ny q hk
   subst e1
   refine⟨a,_,h1, .inl ⟨_,kk,h2,rfl,rfl⟩,h9 kk h3 h4,fun d' hd'=>?_⟩
   have:=jv (K:=K) (F:=F) kk h3 h4
   rw[hd'] at this
   exact this
 ·cases e
section
variable {X : Cx} {Xw : Nat → Hp → Prop} {a b : Expr} {δa δb : DE} {pos : Pos}
end
section
variable {X : Cx} {Xw : Nat → Hp → Prop} {a e : Expr} {δ δk δv : DE} {pos p pos' pos2 apos cpos : Pos} {x : Str} {i : Nat}
def DL (neg:Bool) (i:Nat) (δ:DE):DE:=fun ρ=>δ ρ>>=fun k=>match mq ρ i with
 |some d=>match atD d k with
  |some o=>M.ret (.bl (if neg then !o.isSome else o.isSome))
  |none=>M.stuck
 |none=>M.stuck
theorem BV {neg:Bool}{σ:St}{H:Hp}{Q:VK}(h:tD X.K Xw (DL neg i δ) σ H Q):(fun σ H Q=>tD X.K Xw δ σ H fun y H1=>m9 i σ H1 fun x H2=>∃a o,x= .ref a∧iY H2 a y o∧Q (.bl (if neg then !o.isSome else o.isSome)) H2) σ H Q:=by
 obtain⟨F,ρ,s,w⟩:=h
 refine⟨F,ρ,s,WP.mono (WP.bind w) fun y H1 ⟨F1,k,e1,q1,w1⟩=>?_⟩
 have s1:=s.ext e1
 cases hi:mq ρ i with
 |none=>rw[hi] at w1;exact w1.elim
 |some d=>
  rw[hi] at w1
  have w1:WP X.K Xw F1 H1 (match atD d k with | some o=>M.ret (.bl (if neg then !o.isSome else o.isSome)) | none=>M.stuck) Q:=w1
  cases he:atD d k with
  |none=>rw[he] at w1;exact w1.elim
  |some o=>
   rw[he] at w1
   obtain⟨a,ov,h1,h2,h3,_⟩:=vc s1 hi q1 he
   refine⟨.ref a,h1,a,ov,rfl,h2,?_⟩
   rw[h3]
   exact WP.now w1 e1.fh rfl
theorem Eh (hu:X.A.units+64<cLine) (ha:PD X Xw a δ) (hv:PE X (.Name x p) (m9 i)) (hm:behindInMarks .In (.Name x p)=false:=by rfl):PD X Xw (.Compare a [.In] [.Name x p] pos) (DL false i δ):=
 PE.weak (BQ (Ck (by omega) ha hv) hm) fun σ H Q h=>BV (neg:=false) h
def tI (i:Nat):DS:=fun ρ=>M.ret (.nx (ρ.set i (some (.ow (.dct [] [])))))
theorem je (hN:X.N.Nodup) (hi:X.N[i]? =some x) (hx:Loc X.env.scope x) (hf:X.fn x=true∨X.env.scope.names.lookup x=some .local:=by first | exact .inl rfl | exact .inr rfl):
 PSD X Xw (.Assign [.Name x pos'] (.Dict [] [] pos2) pos) (tI i):=fun F₀ H₀=>PS.weak (qF y9 (a9 hN hi hx hf) rfl) fun D σ H ⟨F,ρ,s,w⟩=>fun q hq=>
 w _ F _ (s.setNew (c₀:= .dct [] []) hq ⟨[],rfl,rfl,rfl,Nat.zero_le _⟩)
def kh:C→D→D→Option C
 | .dct ks ds,k,d=>match dX k with
   |some kk=>if ds.length<lim then some (.dct (dg ks ds kk) (cg ks ds kk d)) else none
   |none=>none
 | .dci ks ds,k,d=>match tY k with
   |some kk=>if ds.length<lim then some (.dci (dg ks ds kk) (cg ks ds kk d)) else none
   |none=>none
 |_,_,_=>none
def tP (ρ:Rho) (i:Nat):Option C:=match ρ[i]? with
 |some (some (.ow c))=>some c
 |_=>none
theorem nZ {ρ:Rho}{i:Nat}{c:C}(h:tP ρ i=some c):ρ[i]? =some (some (.ow c)):=by
 unfold tP at h
 split at h
 ·rename_i c' e
  cases h
  exact e
 ·cases h
def fb (i:Nat) (δk δv:DE):DS:=fun ρ=>match tP ρ i with
 |some c=>δv ρ>>=fun v=>δk ρ>>=fun k=>match kh c k v with
  |some c'=>M.ret (.nx (ρ.set i (some (.ow c'))))
  |none=>M.stuck
 |none=>M.stuck
theorem og {κ:Type} [DecidableEq κ] {ks:List κ}{ds:List D}{k:κ}{d:D}(hl:ks.length=ds.length) (h:ds.length<lim):(cg ks ds k d).length≤lim:=by
 unfold cg
 split
 ·rw[g9 ks ds k d hl];omega
 ·rw[List.length_append];exact h
theorem zh {K:PySem.W.Frag}{F H:Hp}{c c':C}{k d:D}{y v:V}{o:HO}{b:Addr}(hs:Same F H) (hb:H b=some o) (hc:DenC K F c o) (hk:Den K F k y) (hd:Den K F d v) (e:kh c k d=some c'):∃o',DPut H b y v (upd H b o')∧DenC K F c' o':=by
 have hlim:=dD
 unfold kh at e
 split at e
 ·rename_i ks ds k d
  obtain⟨vs,rfl,h3,h4,h5⟩:=hc
  split at e
  ·rename_i kk q
   split at e
   ·rename_i hlt
    cases e
    unfold dX at q
    split at q
    ·rename_i es
     obtain⟨b2,ws,rfl,k2,k3,_⟩:=hk
     have e1:=gc q k3
     subst e1
     obtain⟨us,e2,e3,e4⟩:=qt hd kk h3 h4
     refine⟨_,DPut.t hb (hs _ _ k2) (by rw[vD h3 h4];omega),us,?_,e3,e4,og h4 hlt⟩
     rw[e2]
    ·cases q
   ·cases e
  ·cases e
 ·rename_i ks ds k d
  obtain⟨vs,rfl,h3,h4,h5⟩:=hc
  split at e
  ·rename_i kk q
   split at e
   ·rename_i hlt
    cases e
    have e1:=ny q hk
    subst e1
    obtain⟨us,e2,e3,e4⟩:=qt hd kk h3 h4
    refine⟨_,DPut.k hb (by rw[vD h3 h4];omega),us,?_,e3,e4,og h4 hlt⟩
    rw[e2]
   ·cases e
  ·cases e
 ·cases e
theorem gu (hu:X.A.units+64<cLine) (hv:PE X (.Name x p) (m9 i)) (hk:PD X Xw a δk) (he:PD X Xw e δv) (hs:swapsWith e (some (.Subscript (.Name x p) a pos')) pos.line X.env=pure false:=by rfl):
 PSD X Xw (.Assign [.Subscript (.Name x p) a pos'] e pos) (fb i δk δv):=fun F₀ H₀=>PS.weak (AD (by omega) hv hk he hs) fun D σ H ⟨F,ρ,s,w⟩=>by
 unfold fb at w
 cases ho:tP ρ i with
 |none=>rw[ho] at w;exact w.elim
 |some c=>
  rw[ho] at w
  have hi:=nZ ho
  have w:WPS X.K Xw F₀ H₀ (δv ρ>>=fun v=>δk ρ>>=fun k=>match kh c k v with | some c'=>M.ret (.nx (ρ.set i (some (.ow c')))) | none=>M.stuck) D:=w
  refine⟨F,ρ,s.st,?_⟩
  rcases(δv ρ).cs with q | ⟨n,q⟩ | ⟨dv,q⟩
  ·rw[q] at w;exact w.elim
  ·rw[q] at w⊢;exact fun F' H' e'=>w F' H' (s.ext.trans e')
  ·rw[q] at w⊢
   intro v H1 F1 e1 hq
   have s1:=s.ext' e1
   obtain⟨u,h1,b,o,rfl,h2,h3,h4⟩:=s1.st.den i _ hi
   have w:WPS X.K Xw F₀ H₀ (δk ρ>>=fun k=>match kh c k dv with | some c'=>M.ret (.nx (ρ.set i (some (.ow c')))) | none=>M.stuck) D:=w
   refine⟨.ref b,h1,F1,ρ,s1.st,?_⟩
   rcases(δk ρ).cs with q2 | ⟨n,q2⟩ | ⟨dk,q2⟩
   ·rw[q2] at w;exact w.elim
   ·rw[q2] at w⊢;exact fun F' H' e'=>w F' H' (s1.ext.trans e')
   ·rw[q2] at w⊢
    intro y H2 F2 e2 hy
    have w:WPS X.K Xw F₀ H₀ (match kh c dk dv with | some c'=>M.ret (.nx (ρ.set i (some (.ow c')))) | none=>M.stuck) D:=w
    cases hp:kh c dk dv with
    |none=>rw[hp] at w;exact w.elim
    |some c'=>
     rw[hp] at w
     have s2:=s1.ext' e2
     obtain⟨u2,k1,b2,o2,hb2,k2,k3,k4⟩:=s2.st.den i _ hi
     rw[h1] at k1
     cases k1
     cases hb2
     obtain⟨o',g,hc⟩:=zh s2.st.fh k2 k4 hy (Den.mono e2.ff hq) hp
     exact⟨b,_,rfl,g,w σ F2 _ (s2.chg hi h1 hc)⟩
end
end L3
namespace L3
open PySem PySem.Spec L2 SeqAt HT
open PyProof.Rows hiding St
def eK (c:DT) (body:DS):Nat→DS
 |0,_=>M.stuck
 |n+1,ρ=>c ρ>>=fun b=>if b then body ρ>>=fun o=>match o with | .nx ρ'=>eK c body n ρ' | .rt d=>M.ret (.rt d) else M.ret (.nx ρ)
def uw (c:DT) (body:DS):DS:=fun ρ=>eK c body lim ρ
section
variable {X : Cx} {Xw : Nat → Hp → Prop} {τ : DS} {tc : DT} {pos : Pos}
theorem oQ {c:Expr}{body:List Stmt}(hp:PassesOwn (model X.prog X.w) X.A X.env X.xe) (hc:PDT X Xw c tc) (hb:PSDs X Xw body τ):PSD X Xw (.While c body [] pos) (uw tc τ):=fun F₀ H₀=>PS.weak (zi hp hc hb.ex) fun D σ H ⟨F,ρ,s,w⟩=>by
 refine⟨fun m σ H=>∃F ρ,StOk X.K F₀ H₀ F H σ ρ∧WPS X.K Xw F₀ H₀ (eK tc τ m ρ) D,⟨lim,F,ρ,s,w⟩,?_⟩
 rintro m σ H ⟨F,ρ,s,w⟩
 cases m with
 |zero=>exact w.elim
 |succ m=>
  refine⟨F,ρ,s.st,?_⟩
  unfold eK at w
  match tc ρ,w with
  |none,w=>exact w
  |some (.ex n),w=>exact fun F' H' e'=>w F' H' (s.ext.trans e')
  |some (.ok false),w=>exact fun H' F' e'=>w σ F' H' (s.ext' e')
  |some (.ok true),w=>
   intro H' F' e'
   have w:WPS X.K Xw F₀ H₀ (τ ρ>>=fun o=>match o with | .nx ρ'=>eK tc τ m ρ' | .rt d=>M.ret (.rt d)) D:=w
   refine⟨fun σ' H'=>∃F' ρ',StOk X.K F₀ H₀ F' H' σ' ρ'∧WPS X.K Xw F₀ H₀ (eK tc τ m ρ') D,fun σ' H' h=>⟨m,Nat.lt_succ_self m,h⟩,F₀,H₀,F',ρ,s.ext' e',?_⟩
   match τ ρ,w with
   |none,w=>exact w
   |some (.ok (.nx ρ')),w=>exact fun σ' F' H' s'=>⟨F',ρ',s',w⟩
   |some (.ok (.rt d)),w=>exact w
   |some (.ex n),w=>exact w
end
def jr:List D→Option (List (List Key))
 |[]=>some []
 |d::ds=>match dX d,jr ds with
  |some k,some ks=>some (k::ks)
  |_,_=>none
theorem B6:∀{x y:D}{k k':Key}{n:Nat},tY x=some k→tY y=some k'→eqF n x y=some (decide (k=k'))
 | .int i, .int j,_,_,n,e1,e2=>by
   cases e1;cases e2
   have:eqF n (.int i) (.int j)=some (i==j):=by cases n<;>rfl
   rw[this]
   congr 1
   by_cases h:i=j
   ·subst h;simp
   ·simp[h]
 | .str x, .str y,_,_,n,e1,e2=>by
   cases e1;cases e2
   have:eqF n (.str x) (.str y)=some (x==y):=by cases n<;>rfl
   rw[this]
   congr 1
   by_cases h:x=y
   ·subst h;simp
   ·simp[h]
 | .int i, .str y,_,_,n,e1,e2=>by
   cases e1;cases e2
   have:eqF n (.int i) (.str y)=some false:=by cases n<;>rfl
   rw[this]
   simp
 | .str x, .int j,_,_,n,e1,e2=>by
   cases e1;cases e2
   have:eqF n (.str x) (.int j)=some false:=by cases n<;>rfl
   rw[this]
   simp
 | .non,_,_,_,_,e1,_=>by cases e1
 | .bl _,_,_,_,_,e1,_=>by cases e1
 | .raw _,_,_,_,_,e1,_=>by cases e1
 | .exc _,_,_,_,_,e1,_=>by cases e1
 | .scr _,_,_,_,_,e1,_=>by cases e1
 | .tup _,_,_,_,_,e1,_=>by cases e1
 | .lst _,_,_,_,_,e1,_=>by cases e1
 | .dct _ _,_,_,_,_,e1,_=>by cases e1
 | .dci _ _,_,_,_,_,e1,_=>by cases e1
 |_, .non,_,_,_,_,e2=>by cases e2
 |_, .bl _,_,_,_,_,e2=>by cases e2
 |_, .raw _,_,_,_,_,e2=>by cases e2
 |_, .exc _,_,_,_,_,e2=>by cases e2
 |_, .scr _,_,_,_,_,e2=>by cases e2
 |_, .tup _,_,_,_,_,e2=>by cases e2
 |_, .lst _,_,_,_,_,e2=>by cases e2
 |_, .dct _ _,_,_,_,_,e2=>by cases e2
 |_, .dci _ _,_,_,_,_,e2=>by cases e2
theorem vp {n:Nat}:∀{xs ys:List D}{k k':List Key},qc xs=some k→qc ys=some k'→eqL (eqF n) xs ys=some (decide (k=k'))
 |[],[],_,_,e1,e2=>by cases e1;cases e2;rfl
 |x::xs,[],_,_,e1,e2=>by
  cases e2
  unfold qc at e1
  split at e1
  ·cases e1;simp[eqL]
  ·cases e1
 |[],y::ys,_,_,e1,e2=>by
  cases e1
  unfold qc at e2
  split at e2
  ·cases e2;simp[eqL]
  ·cases e2
 |x::xs,y::ys,_,_,e1,e2=>by
  unfold qc at e1 e2
  split at e1
  ·rename_i k ks q1 q2
   cases e1
   split at e2
   ·rename_i k' ks' q3 q4
    cases e2
    unfold eqL
    rw[B6 q1 q3,vp q2 q4]
    simp
   ·cases e2
  ·cases e1
theorem AL {x y:D}{k k':List Key}{n:Nat}(e1:dX x=some k) (e2:dX y=some k'):eqF (n+1) x y=some (decide (k=k')):=by
 cases x with
 |tup xs=>
  cases y with
  |tup ys=>exact vp (n:=n) e1 e2
  |_=>cases e2
 |_=>cases e1
theorem yx {K:PySem.W.Frag}{F:Hp}{d:D}{v:V}{k:List Key}(e:dX d=some k) (h:Den K F d v):∃a,v= .ref a∧F a=some (.tup (k.map kV)):=by
 cases d with
 |tup ds=>
  obtain⟨a,vs,rfl,h2,h3,_⟩:=h
  have:=gc e h3
  subst this
  exact⟨a,rfl,h2⟩
 |_=>cases e
def j8 (k:List Key) (ks:List (List Key)):Bool:=ks.any fun k'=>decide (k'=k)
open Classical in
noncomputable def isKey (H:Hp) (k:List Key) (u:Value):Bool:=decide (∃a,u= .ref a∧H a=some (.tup (k.map kV)))
theorem vI {K:PySem.W.Frag}{F H:Hp}{d:D}{v:V}{u:Value}{k k':List Key}(hs:Same F H) (e:dX d=some k') (h:Den K F d v) (r:RelV v u):isKey H k u=decide (k'=k):=by
 obtain⟨a,rfl,h2⟩:=yx e h
 cases (show u=_ from r)
 unfold isKey
 by_cases hk:k'=k
 ·subst hk
  rw[decide_eq_true rfl]
  exact @decide_eq_true _ (Classical.propDecidable _) ⟨a,rfl,hs _ _ h2⟩
 ·rw[decide_eq_false hk]
  refine @decide_eq_false _ (Classical.propDecidable _) fun⟨b,e1,e2⟩=>hk ?_
  cases e1
  rw[hs _ _ h2] at e2
  injection e2 with e2
  injection e2 with e2
  exact vh e2
theorem gk {X:Cx}{pins:List (Addr×Obj)}{σ:St}{F H:Hp}{s:Shared}{A:Around}{x:D}{v:V}{u:Value}{k:List Key}(I:Inv X pins σ H s) (hs:Same F H) (hu:A.units+6<cLine) (ex:dX x=some k) (hx:Den X.K F x v) (rx:RelV v u):
 ∀{ys:List D}{vs:List V}{its:List Value}{ks:List (List Key)},jr ys=some ks→DenL X.K F ys vs→Vals vs its→its.any (isKey H k)=j8 k ks∧∀t∈its,EqAt A s t u (isKey H k t)
 |[],_,_,_,e,h,r=>by
  cases e
  cases (show _=_ from h)
  cases r
  exact⟨rfl,fun t ht=>by cases ht⟩
 |y::ys,_,_,_,e,⟨w,ws,h1,h2,h3⟩,r=>by
  subst h1
  unfold jr at e
  split at e
  ·rename_i k' ks e1 e2
   cases e
   cases r with
   |cons r1 r2=>
    obtain⟨ih1,ih2⟩:=gk I hs hu ex hx rx e2 h3 r2
    have hk:=vI (k:=k) hs e1 h2 r1
    refine⟨?_,fun t ht=>?_⟩
    ·rw[List.any_cons,ih1,hk]
     rfl
    ·rcases List.mem_cons.mp ht with rfl | ht
     ·rw[hk]
      exact(qM I hs 6 A y x w v t u _ hu h2 hx r1 rx (AL e1 ex)).eq
     ·exact ih2 t ht
  ·cases e
def nR (neg:Bool):D→D→M D
 |x, .lst ys=>match dX x,jr ys with
  |some k,some ks=>M.ret (.bl (if neg then !j8 k ks else j8 k ks))
  |_,_=>M.stuck
 |x, .tup ys=>match dX x,jr ys with
  |some k,some ks=>M.ret (.bl (if neg then !j8 k ks else j8 k ks))
  |_,_=>M.stuck
 |_,_=>M.stuck
def By (K:PySem.W.Frag) (neg:Bool):R2:=fun x y H Q=>∃F dx ys vs p k ks,Same F H∧Den K F dx x∧dX dx=some k∧jr ys=some ks∧DenL K F ys vs∧y= .ref p∧(SqL K H p vs∨SqT K H p vs)∧Q (.bl (if neg then !j8 k ks else j8 k ks)) H
section
variable {X : Cx} {Xw : Nat → Hp → Prop} {a b : Expr} {δa δb : DE} {pos : Pos}
theorem Bi (hu:X.A.units+64<cLine):OpR X (compareOp .In) (By X.K false):=by
 intro pins s σ H x y v u Q I rx ry h
 obtain⟨F,dx,ys,vs,p,k,ks,hs,hx,ex,ek,hd,rfl,hq,q⟩:=h
 cases (show u=_ from ry)
 have hu':X.A.in1.units+6<cLine:=by show X.A.units+1+6<cLine;omega
 rcases hq with hq | hq
 ·obtain⟨its,r,pl,hz⟩:=I.list hq
  obtain⟨e1,e2⟩:=gk (A:=X.A.in1) I hs hu' ex hx rx ek hd r
  refine SeqAt.in_listAt (isKey H k) pl.isList (fun w hw=>e2 w (by simpa using hw)) ⟨.bl _,H,I,rfl,?_⟩
  rw[show its.toArray.any (isKey H k)=its.any (isKey H k) by simp,e1]
  exact q
 ·obtain⟨its,r,pl,hz⟩:=I.tuple hq
  obtain⟨e1,e2⟩:=gk (A:=X.A.in1) I hs hu' ex hx rx ek hd r
  refine SeqAt.in_tupleAt (isKey H k) pl (fun w hw=>e2 w (by simpa using hw)) ⟨.bl _,H,I,rfl,?_⟩
  rw[show its.toArray.any (isKey H k)=its.any (isKey H k) by simp,e1]
  exact q
theorem wF (hu:X.A.units+64<cLine):OpR X (compareOp .NotIn) (By X.K true):=by
 intro pins s σ H x y v u Q I rx ry h
 obtain⟨F,dx,ys,vs,p,k,ks,hs,hx,ex,ek,hd,rfl,hq,q⟩:=h
 cases (show u=_ from ry)
 have hu':X.A.in1.units+6<cLine:=by show X.A.units+1+6<cLine;omega
 rcases hq with hq | hq
 ·obtain⟨its,r,pl,hz⟩:=I.list hq
  obtain⟨e1,e2⟩:=gk (A:=X.A.in1) I hs hu' ex hx rx ek hd r
  refine SeqAt.notIn_listAt (isKey H k) pl.isList (fun w hw=>e2 w (by simpa using hw)) ⟨.bl _,H,I,rfl,?_⟩
  rw[show its.toArray.any (isKey H k)=its.any (isKey H k) by simp,e1]
  exact q
 ·obtain⟨its,r,pl,hz⟩:=I.tuple hq
  obtain⟨e1,e2⟩:=gk (A:=X.A.in1) I hs hu' ex hx rx ek hd r
  refine SeqAt.notIn_tupleAt (isKey H k) pl (fun w hw=>e2 w (by simpa using hw)) ⟨.bl _,H,I,rfl,?_⟩
  rw[show its.toArray.any (isKey H k)=its.any (isKey H k) by simp,e1]
  exact q
theorem y8 {neg:Bool}{K:PySem.W.Frag}:OpD K (By K neg) (nR neg):=fun Xw F H x y dx dy Q s hx hy w=>by
 unfold nR at w
 split at w
 ·rename_i ys
  split at w
  ·rename_i k ks e1 e2
   obtain⟨p,vs,h1,h2,h3,_⟩:=hy
   exact⟨F,dx,ys,vs,p,k,ks,s,hx,e1,e2,h3,h1, .inl (SqL.of (s _ _ h2)),WP.now w s rfl⟩
  ·exact w.elim
 ·rename_i ys
  split at w
  ·rename_i k ks e1 e2
   obtain⟨p,vs,h1,h2,h3,_⟩:=hy
   exact⟨F,dx,ys,vs,p,k,ks,s,hx,e1,e2,h3,h1, .inr (SqT.of (s _ _ h2)),WP.now w s rfl⟩
  ·exact w.elim
 ·exact w.elim
theorem Bz (hu:X.A.units+64<cLine) (ha:PD X Xw a δa) (hb:PD X Xw b δb) (hm:behindInMarks .In b=false:=by rfl):PDT X Xw (.Compare a [.In] [b] pos) (tB' (d2 (nR false) δa δb)):=gw (Bi hu) y8 ha hb hm
theorem vU (hu:X.A.units+64<cLine) (ha:PD X Xw a δa) (hb:PD X Xw b δb) (hm:behindInMarks .NotIn b=false:=by rfl):PDT X Xw (.Compare a [.NotIn] [b] pos) (tB' (d2 (nR true) δa δb)):=gw (wF hu) y8 ha hb hm
end
end L3
namespace L3
open PySem PySem.W PyProof.Rows
def dm {α:Type}(b:Nat→Nat→Bool):KasT α→α
 | .ret a=>a
 | .ask i j k=>dm b (k (b i j))
theorem fC {α β:Type}(b:Nat→Nat→Bool) (f:α→KasT β):∀t:KasT α,dm b (t.bind f)=dm b (f (dm b t))
 | .ret _=>rfl
 | .ask i j k=>fC b f (k (b i j))
structure Lt (n:Nat) (b:Nat→Nat→Bool):Prop where
 tr:∀i j k,b i j=true→b j k=true→b i k=true
 asy:∀i j,b i j=true→b j i=false
 tot:∀i j,i<n→j<n→i≠j→b i j=true∨b j i=true
abbrev at' (p:Array Nat) (i:Nat):Nat:=p.getD i 0
def Ri (b:Nat→Nat→Bool) (p:Array Nat) (k:Nat):Prop:=∀i j,i<j→j<k→b (at' p i) (at' p j)=true
def Fa (b:Nat→Nat→Bool) (p:Array Nat) (k:Nat):Prop:=∀i j,i<j→j<k→b (at' p j) (at' p i)=true
structure PN (n:Nat) (p:Array Nat):Prop where
 sz:p.size=n
 lt:∀i,i<n→at' p i<n
 inj:∀i j,i<n→j<n→at' p i=at' p j→i=j
section
variable {n : Nat} {b : Nat → Nat → Bool} (L : Lt n b)
include L
theorem Ri.more {p:Array Nat}{k:Nat}(h:Ri b p k) (h1:1≤k) (e:b (at' p (k - 1)) (at' p k)=true):Ri b p (k+1):=fun i j hij hj=>by
 by_cases hk:j<k
 ·exact h i j hij hk
 ·have:j=k:=by omega
  subst this
  by_cases hi:i=j - 1
  ·subst hi;exact e
  ·exact L.tr _ _ _ (h i (j - 1) (by omega) (by omega)) e
theorem Fa.more {p:Array Nat}{k:Nat}(h:Fa b p k) (h1:1≤k) (e:b (at' p k) (at' p (k - 1))=true):Fa b p (k+1):=fun i j hij hj=>by
 by_cases hk:j<k
 ·exact h i j hij hk
 ·have:j=k:=by omega
  subst this
  by_cases hi:i=j - 1
  ·subst hi;exact e
  ·exact L.tr _ _ _ e (h i (j - 1) (by omega) (by omega))
theorem qB {p:Array Nat}(P:PN n p):∀(f k:Nat),1≤k→k+f≤n→Ri b p k→k≤dm b (kas_asc p f k)∧dm b (kas_asc p f k)≤k+f∧Ri b p (dm b (kas_asc p f k))∧(dm b (kas_asc p f k)<k+f→b (at' p (dm b (kas_asc p f k))) (at' p (dm b (kas_asc p f k) - 1))=true)
 |0,k,h1,hn,h=>⟨Nat.le_refl _,Nat.le_refl _,h,fun z=>absurd z (Nat.lt_irrefl _)⟩
 |f+1,k,h1,hn,h=>by
  have e:dm b (kas_asc p (f+1) k)=dm b (if b (at' p k) (at' p (k - 1))=true then KasT.ret k else kas_asc p f (k+1)):=rfl
  rw[e]
  by_cases hb:b (at' p k) (at' p (k - 1))=true
  ·rw[if_pos hb]
   exact⟨Nat.le_refl _,by show k≤_;omega,h,fun _=>hb⟩
  ·rw[if_neg hb]
   have hr:b (at' p (k - 1)) (at' p k)=true:=by
    rcases L.tot (at' p (k - 1)) (at' p k) (P.lt _ (by omega)) (P.lt _ (by omega)) (fun z=>by have:=P.inj _ _ (by omega) (by omega) z;omega) with q | q
    ·exact q
    ·exact absurd q hb
   obtain⟨a1,a2,a3,a4⟩:=qB P f (k+1) (by omega) (by omega) (Ri.more L h h1 hr)
   exact⟨by omega,by omega,a3,fun z=>a4 (by omega)⟩
theorem sq {p:Array Nat}(P:PN n p):∀(f k:Nat),1≤k→k+f≤n→Fa b p k→∃m,dm b (kas_desc f p k 0)=(p,m,0)∧k≤m∧m≤k+f∧Fa b p m
 |0,k,h1,hn,h=>⟨k,rfl,Nat.le_refl _,Nat.le_refl _,h⟩
 |f+1,k,h1,hn,h=>by
  have e:dm b (kas_desc (f+1) p k 0)=dm b (if b (at' p k) (at' p (k - 1))=true then(if 0>0 then kas_desc f (kas_rev p (k - (0+1)) k) (k+1) 0 else kas_desc f p (k+1) 0)
   else .ask (p.getD (k - 1) 0) (p.getD k 0) fun d=>if d=true then .ret (p,k,0) else kas_desc f p (k+1) (0+1)):=rfl
  rw[e]
  by_cases hb:b (at' p k) (at' p (k - 1))=true
  ·rw[if_pos hb,if_neg (by omega)]
   obtain⟨m,e1,e2,e3,e4⟩:=sq P f (k+1) (by omega) (by omega) (Fa.more L h h1 hb)
   exact⟨m,e1,by omega,by omega,e4⟩
  ·rw[if_neg hb]
   have hr:b (at' p (k - 1)) (at' p k)=true:=by
    rcases L.tot (at' p (k - 1)) (at' p k) (P.lt _ (by omega)) (P.lt _ (by omega)) (fun z=>by have:=P.inj _ _ (by omega) (by omega) z;omega) with q | q
    ·exact q
    ·exact absurd q hb
   refine⟨k,?_,Nat.le_refl _,by omega,h⟩
   show dm b (if b (at' p (k - 1)) (at' p k)=true then KasT.ret (p,k,0) else kas_desc f p (k+1) (0+1))=_
   rw[if_pos hr]
   rfl
end
theorem e_ (p:Array Nat) (k:Nat):at' p k=(p[k]?).getD 0:=by
 unfold at'
 rw[Array.getD_eq_getD_getElem?]
theorem xT {p:Array Nat}{m:Nat}(hm:m≤p.size) (k:Nat):at' (kas_rev p 0 m) k=if k<m then at' p (m - 1 - k) else at' p k:=by
 have e:=getElem?_mirror_all (xs:=p) (i:=0) hm k
 rw[e_]
 show (((mirror p 0 m ((m - 0) / 2))[k]?).getD 0)=_
 rw[e]
 by_cases h:k<m
 ·rw[if_pos ⟨Nat.zero_le _,h⟩,if_pos h,e_,Nat.zero_add]
 ·rw[if_neg (fun z=>h z.2),if_neg h,e_]
theorem yD {p:Array Nat}{k l:Nat}(hk:k<p.size) (hl:l≤k) (j:Nat):at' (bubble p k (k - l)) j=if j=l then at' p k else if l<j∧j≤k then at' p (j - 1) else at' p j:=by
 have e:=getElem?_bubble hk (k - l) (by omega) j
 have e2:k - (k - l)=l:=by omega
 rw[e2] at e
 rw[e_ (bubble p k (k - l)),e,e_ p k,e_ p (j - 1),e_ p j]
 by_cases c1:j=l
 ·rw[if_pos c1,if_pos c1]
 ·rw[if_neg c1,if_neg c1]
  by_cases c2:l<j∧j≤k
  ·rw[if_pos c2,if_pos c2]
  ·rw[if_neg c2,if_neg c2]
section
variable {n : Nat} {b : Nat → Nat → Bool}
theorem PN.rev {p:Array Nat}(P:PN n p) {m:Nat}(hm:m≤n):PN n (kas_rev p 0 m):=by
 have ha:=xT (p:=p) (m:=m) (by rw[P.sz];exact hm)
 refine⟨(mirror_size ..).trans P.sz,fun i hi=>?_,fun i j hi hj e=>?_⟩
 ·rw[ha]
  split
  ·exact P.lt _ (by omega)
  ·exact P.lt _ hi
 ·rw[ha,ha] at e
  split at e<;>split at e
  ·have:=P.inj _ _ (by omega) (by omega) e;omega
  ·have:=P.inj _ _ (by omega) hj e;omega
  ·have:=P.inj _ _ hi (by omega) e;omega
  ·exact P.inj _ _ hi hj e
theorem PN.bub {p:Array Nat}(P:PN n p) {k l:Nat}(hk:k<n) (hl:l≤k):PN n (bubble p k (k - l)):=by
 have ha:=yD (p:=p) (k:=k) (l:=l) (by rw[P.sz];exact hk) hl
 refine⟨(bubble_size ..).trans P.sz,fun i hi=>?_,fun i j hi hj e=>?_⟩
 ·rw[ha]
  split
  ·exact P.lt _ hk
  ·split
   ·exact P.lt _ (by omega)
   ·exact P.lt _ hi
 ·rw[ha,ha] at e
  split at e
  ·split at e
   ·omega
   ·split at e
    ·have:=P.inj _ _ hk (by omega) e;omega
    ·have:=P.inj _ _ hk hj e;omega
  ·split at e
   ·split at e
    ·have:=P.inj _ _ (by omega) hk e;omega
    ·split at e
     ·have:=P.inj _ _ (by omega) (by omega) e;omega
     ·have:=P.inj _ _ (by omega) hj e;omega
   ·split at e
    ·have:=P.inj _ _ hi hk e;omega
    ·split at e
     ·have:=P.inj _ _ hi (by omega) e;omega
     ·exact P.inj _ _ hi hj e
theorem Fa.rev {p:Array Nat}(P:PN n p) {m:Nat}(hm:m≤n) (h:Fa b p m):Ri b (kas_rev p 0 m) m:=fun i j hij hj=>by
 have ha:=xT (p:=p) (m:=m) (by rw[P.sz];exact hm)
 rw[ha,ha,if_pos (by omega),if_pos hj]
 exact h _ _ (by omega) (by omega)
variable (L : Lt n b)
include L
theorem yU {p:Array Nat}(P:PN n p) {m:Nat}(h1:1≤m) (hm:m≤n) (h:Fa b p m):∃k q,dm b (kas_tail3 m n p)=(k,q)∧PN n q∧1≤k∧k≤n∧Ri b q k:=by
 unfold kas_tail3
 rw[fC]
 obtain⟨a1,a2,a3,_⟩:=qB L (P.rev hm) (n - m) m h1 (by omega) (Fa.rev P hm h)
 exact⟨_,_,rfl,P.rev hm,by omega,by omega,a3⟩
theorem wN {p:Array Nat}(P:PN n p) (h2:2≤n):∃k q,dm b (kas_count n p)=(k,q)∧PN n q∧1≤k∧k≤n∧Ri b q k:=by
 unfold kas_count
 rw[fC]
 obtain⟨a1,a2,a3,a4⟩:=qB L P (n - 1) 1 (Nat.le_refl _) (by omega) (fun i j hij hj=>by omega)
 generalize dm b (kas_asc p (n - 1) 1)=m at a1 a2 a3 a4
 by_cases he:m=n
 ·subst he
  rw[if_pos (by simp)]
  exact⟨m,p,rfl,P,by omega,Nat.le_refl _,a3⟩
 ·rw[if_neg (by simpa using he)]
  by_cases hg:m>1
  ·rw[if_pos hg]
   have hb:b (p.getD 0 0) (p.getD (m - 1) 0)=true:=a3 0 (m - 1) (by omega) (by omega)
   show∃k q,dm b (if b (p.getD 0 0) (p.getD (m - 1) 0)=true then KasT.ret (m,p) else kas_descPart m n (kas_rev p 0 m))=(k,q)∧_
   rw[if_pos hb]
   exact⟨m,p,rfl,P,by omega,by omega,a3⟩
  ·rw[if_neg hg]
   have hm:m=1:=by omega
   subst hm
   have hb:=a4 (by omega)
   unfold kas_descPart
   rw[fC]
   obtain⟨m,e1,e2,e3,e4⟩:=sq L P (n - (1+1)) (1+1) (by omega) (by omega) (fun i j hij hj=>by
    have hi:i=0:=by omega
    have hj:j=1:=by omega
    subst hi hj
    exact hb)
   rw[e1]
   dsimp only
   rw[if_neg (by omega)]
   exact yU L P (by omega) (by omega) e4
theorem kf {p:Array Nat}(P:PN n p) {k:Nat}(hk:k<n) (h:Ri b p k):∀(f l r:Nat),l≤r→r≤k→r - l≤f→(∀i,i<l→b (at' p i) (at' p k)=true)→(∀i,r≤i→i<k→b (at' p k) (at' p i)=true)→
 dm b (kas_place p k f l r)≤k∧(∀i,i<dm b (kas_place p k f l r)→b (at' p i) (at' p k)=true)∧∀i,dm b (kas_place p k f l r)≤i→i<k→b (at' p k) (at' p i)=true
 |0,l,r,h1,h2,h3,h4,h5=>by
  have:r=l:=by omega
  subst this
  exact⟨h2,h4,h5⟩
 |f+1,l,r,h1,h2,h3,h4,h5=>by
  unfold kas_place
  by_cases hlr:l≥r
  ·rw[if_pos hlr]
   have:r=l:=by omega
   subst this
   exact⟨h2,h4,h5⟩
  ·rw[if_neg hlr]
   have hm:(l+r) / 2<r:=by omega
   have hm2:l≤(l+r) / 2:=by omega
   show dm b (if b (at' p k) (at' p ((l+r) / 2))=true then kas_place p k f l ((l+r) / 2) else kas_place p k f ((l+r) / 2+1) r)≤k∧(∀i,i<dm b (if b (at' p k) (at' p ((l+r) / 2))=true then kas_place p k f l ((l+r) / 2) else kas_place p k f ((l+r) / 2+1) r)→_)∧∀i,dm b (if b (at' p k) (at' p ((l+r) / 2))=true then kas_place p k f l ((l+r) / 2) else kas_place p k f ((l+r) / 2+1) r)≤i→_
   by_cases hb:b (at' p k) (at' p ((l+r) / 2))=true
   ·rw[if_pos hb]
    refine kf P hk h f l ((l+r) / 2) hm2 (by omega) (by omega) h4 fun i hi hik=>?_
    by_cases e:i=(l+r) / 2
    ·rw[e];exact hb
    ·exact L.tr _ _ _ hb (h _ _ (by omega) hik)
   ·rw[if_neg hb]
    have hr:b (at' p ((l+r) / 2)) (at' p k)=true:=by
     rcases L.tot (at' p ((l+r) / 2)) (at' p k) (P.lt _ (by omega)) (P.lt _ hk) (fun z=>by have:=P.inj _ _ (by omega) hk z;omega) with q | q
     ·exact q
     ·exact absurd q hb
    refine kf P hk h f ((l+r) / 2+1) r (by omega) h2 (by omega) (fun i hi=>?_) h5
    by_cases e:i=(l+r) / 2
    ·rw[e];exact hr
    ·exact L.tr _ _ _ (h i ((l+r) / 2) (by omega) (by omega)) hr
theorem vo:∀(f:Nat) {p:Array Nat}{k:Nat},PN n p→k+f≤n→Ri b p k→PN n (dm b (kas_bin f p k))∧Ri b (dm b (kas_bin f p k)) (k+f)
 |0,p,k,P,_,h=>⟨P,h⟩
 |f+1,p,k,P,hn,h=>by
  have hk:k<n:=by omega
  unfold kas_bin
  rw[fC]
  obtain⟨a1,a2,a3⟩:=kf L P hk h k 0 k (Nat.zero_le _) (Nat.le_refl _) (by omega) (fun i hi=>by omega) (fun i h1 h2=>by omega)
  generalize dm b (kas_place p k k 0 k)=l at a1 a2 a3
  have ha:=yD (p:=p) (k:=k) (l:=l) (by rw[P.sz];exact hk) a1
  have hR:Ri b (bubble p k (k - l)) (k+1):=fun i j hij hj=>by
   rw[ha,ha]
   by_cases c1:i=l
   ·rw[if_pos c1,if_neg (by omega),if_pos ⟨by omega,by omega⟩]
    exact a3 _ (by omega) (by omega)
   ·rw[if_neg c1]
    by_cases c2:j=l
    ·rw[if_pos c2,if_neg (by omega)]
     exact a2 _ (by omega)
    ·rw[if_neg c2]
     by_cases c3:l<i∧i≤k
     ·rw[if_pos c3,if_pos ⟨by omega,by omega⟩]
      exact h _ _ (by omega) (by omega)
     ·rw[if_neg c3]
      by_cases c4:l<j∧j≤k
      ·rw[if_pos c4]
       exact h _ _ (by omega) (by omega)
      ·rw[if_neg c4]
       exact h _ _ hij (by omega)
  have:=vo f (P.bub hk a1) (by omega) hR
  rw[show k+(f+1)=k+1+f by omega]
  exact this
theorem ym (h2:2≤n):PN n (dm b (kas_sort n))∧Ri b (dm b (kas_sort n)) n:=by
 have P0:PN n (List.toArray (List.range n)):=by
  have e:∀i,i<n→at' (List.toArray (List.range n)) i=i:=fun i hi=>by rw[e_];simp[hi]
  exact⟨by simp,fun i hi=>by rw[e i hi];exact hi,fun i j hi hj z=>by rw[e i hi,e j hj] at z;exact z⟩
 unfold kas_sort
 rw[fC]
 obtain⟨k,q,e,P,k1,kn,hR⟩:=wN L P0 h2
 rw[e]
 dsimp only
 by_cases hlt:k<n
 ·rw[if_pos hlt]
  have:=vo L (n - max k 1) (k:=max k 1) P (by omega) (by rw[show max k 1=k by omega];exact hR)
  rw[show max k 1+(n - max k 1)=n by omega] at this
  exact this
 ·rw[if_neg hlt]
  have:k=n:=by omega
  subst this
  exact⟨P,hR⟩
end
end L3
namespace L3
open PySem PySem.W PyProof.Rows
def Asks {α:Type}(n:Nat) (P:α→Prop):KasT α→Prop
 | .ret a=>P a
 | .ask i j k=>i<n∧j<n∧∀c,Asks n P (k c)
theorem Asks.bind {α β:Type}{n:Nat}{P:α→Prop}{Q:β→Prop}{f:α→KasT β}:∀{t:KasT α},Asks n P t→(∀a,P a→Asks n Q (f a))→Asks n Q (t.bind f)
 | .ret a,h,hf=>hf a h
 | .ask i j k,h,hf=>⟨h.1,h.2.1,fun c=>Asks.bind (h.2.2 c) hf⟩
theorem wp_run {α:Type}{n:Nat}{P:α→Prop}{b:Nat→Nat→Bool}{cmp:Nat→Nat→(Bool→Shared→Prop)→Shared→Prop}{Q:α→Shared→Prop}{s:Shared}(hc:∀i j C,i<n→j<n→C (b i j) s→cmp i j C s):∀{t:KasT α},Asks n P t→Q (dm b t) s→t.kasWp cmp Q s
 | .ret a,_,h=>h
 | .ask i j k,ha,h=>hc i j _ ha.1 ha.2.1 (wp_run hc (ha.2.2 _) h)
def Below (n:Nat) (p:Array Nat):Prop:=∀x∈p,x<n
section
variable {n : Nat} (hn : 0 < n)
include hn
theorem Below.at {p:Array Nat}(h:Below n p) (i:Nat):at' p i<n:=by
 rw[e_]
 cases e:p[i]? with
 |none=>exact hn
 |some x=>exact h x (Array.mem_of_getElem? e)
theorem Below.rev {p:Array Nat}(h:Below n p) (i j:Nat):Below n (kas_rev p i j):=fun x hx=>h x ((mirror_perm p i j ((j - i) / 2)).mem_iff.mp hx)
theorem Below.bub {p:Array Nat}(h:Below n p) (k d:Nat):Below n (bubble p k d):=fun x hx=>h x ((bubble_perm p k d).mem_iff.mp hx)
theorem ma {p:Array Nat}(h:Below n p):∀f k,Asks n (fun _=>True) (kas_asc p f k)
 |0,k=>trivial
 |f+1,k=>⟨Below.at hn h _,Below.at hn h _,fun c=>by
  show Asks n _ (if c=true then KasT.ret k else kas_asc p f (k+1))
  cases c
  ·exact ma h f (k+1)
  ·exact trivial⟩
theorem iH:∀f {p:Array Nat} k q,Below n p→Asks n (fun r=>Below n r.1) (kas_desc f p k q)
 |0,p,k,q,h=>h
 |f+1,p,k,q,h=>⟨Below.at hn h _,Below.at hn h _,fun c=>by
  cases c
  ·refine⟨Below.at hn h _,Below.at hn h _,fun d=>?_⟩
   cases d
   ·exact iH f _ _ h
   ·exact h
  ·show Asks n _ (if q>0 then kas_desc f (kas_rev p (k - (q+1)) k) (k+1) 0 else kas_desc f p (k+1) 0)
   split
   ·exact iH f _ _ (Below.rev hn h _ _)
   ·exact iH f _ _ h⟩
theorem o_ {p:Array Nat}(h:Below n p) (m r:Nat):Asks n (fun x=>Below n x.2) (kas_tail3 m r p):=Asks.bind (ma hn (Below.rev hn h 0 m) _ _) fun _ _=>Below.rev hn h 0 m
theorem mL {p:Array Nat}(h:Below n p) (m r:Nat):Asks n (fun x=>Below n x.2) (kas_descPart m r p):=Asks.bind (iH hn _ _ _ h) fun x hx=>by
 split
 ·exact o_ hn (Below.rev hn hx _ _) _ _
 ·exact o_ hn hx _ _
theorem uz {p:Array Nat}(h:Below n p) (r:Nat):Asks n (fun x=>Below n x.2) (kas_count r p):=Asks.bind (ma hn h _ _) fun m _=>by
 split
 ·exact h
 ·split
  ·refine⟨Below.at hn h _,Below.at hn h _,fun c=>?_⟩
   cases c
   ·exact mL hn (Below.rev hn h _ _) _ _
   ·exact h
  ·exact mL hn h _ _
theorem ja {p:Array Nat}(h:Below n p) (k:Nat):∀f l r,Asks n (fun _=>True) (kas_place p k f l r)
 |0,l,r=>trivial
 |f+1,l,r=>by
  unfold kas_place
  split
  ·exact trivial
  ·refine⟨Below.at hn h _,Below.at hn h _,fun c=>?_⟩
   cases c
   ·exact ja h k f _ _
   ·exact ja h k f _ _
theorem sU:∀f {p:Array Nat} k,Below n p→Asks n (fun _=>True) (kas_bin f p k)
 |0,p,k,h=>trivial
 |f+1,p,k,h=>Asks.bind (ja hn h k _ _ _) fun l _=>sU f _ (Below.bub hn h _ _)
theorem wt:Asks n (fun _=>True) (kas_sort n):=by
 have h0:Below n (List.toArray (List.range n)):=fun x hx=>by simpa using hx
 refine Asks.bind (uz hn h0 n) fun x hx=>?_
 split
 ·exact sU hn _ _ hx
 ·exact trivial
end
def eC:List Int→List Int→Bool
 |[],[]=>false
 |[],_::_=>true
 |_::_,[]=>false
 |x::xs,y::ys=>if x=y then eC xs ys else decide (x<y)
theorem pV:∀a b c:List Int,eC a b=true→eC b c=true→eC a c=true
 |[],[],_,h,_=>by cases h
 |[],_::_,[],_,h=>by cases h
 |[],_::_,_::_,_,_=>rfl
 |_::_,[],_,h,_=>by cases h
 |_::_,_::_,[],_,h=>by cases h
 |x::a,y::b,z::c,h1,h2=>by
  unfold eC at h1 h2⊢
  by_cases e1:x=y
  ·subst e1
   rw[if_pos rfl] at h1
   by_cases e2:x=z
   ·subst e2
    rw[if_pos rfl] at h2⊢
    exact pV a b c h1 h2
   ·rw[if_neg e2] at h2⊢
    exact h2
  ·rw[if_neg e1] at h1
   have h1:=of_decide_eq_true h1
   by_cases e2:y=z
   ·subst e2
    rw[if_neg e1]
    exact decide_eq_true h1
   ·rw[if_neg e2] at h2
    have h2:=of_decide_eq_true h2
    rw[if_neg (by omega)]
    exact decide_eq_true (by omega)
theorem jx:∀a b:List Int,eC a b=true→eC b a=false
 |[],[],h=>by cases h
 |[],_::_,_=>rfl
 |_::_,[],h=>by cases h
 |x::a,y::b,h=>by
  unfold eC at h⊢
  by_cases e:x=y
  ·subst e
   rw[if_pos rfl] at h⊢
   exact jx a b h
  ·rw[if_neg e] at h
   have h:=of_decide_eq_true h
   rw[if_neg (fun z=>e z.symm)]
   exact decide_eq_false (by omega)
theorem m6:∀a b:List Int,a≠b→eC a b=true∨eC b a=true
 |[],[],h=>absurd rfl h
 |[],_::_,_=> .inl rfl
 |_::_,[],_=> .inr rfl
 |x::a,y::b,h=>by
  unfold eC
  by_cases e:x=y
  ·subst e
   rw[if_pos rfl,if_pos rfl]
   exact m6 a b fun z=>h (by rw[z])
  ·rw[if_neg e,if_neg (fun z=>e z.symm)]
   by_cases q:x<y
   ·exact .inl (decide_eq_true q)
   ·exact .inr (decide_eq_true (by omega))
section
variable {prog : Program} {w : World} {A : Around} {E : Value → Shared → Prop} {s : Shared}
theorem tB {Q:Bool→Shared→Prop}:∀{us vs:List Value}{xs ys:List Int}(i:Nat) {fin:Bool},IntsAre us xs→IntsAre vs ys→fin=decide (xs.length<ys.length)→Q (eC xs ys) s→KatLex prog w A true fin Q (us.zip vs) i s
 |_,_,_,_,i,_, .nil, .nil,e,h=>by subst e;exact kat_nil h
 |_,_,_,_,i,_, .nil, .cons y t r,e,h=>by subst e;exact kat_nil h
 |_,_,_,_,i,_, .cons x t r, .nil,e,h=>by subst e;exact kat_nil h
 |_,_,_,_,i,_, .cons (vs:=us) (ns:=xs) x t r, .cons (vs:=vs) (ns:=ys) y u r',e,h=>by
  refine kat_cons (wpAny_eqBool_int ?_)
  by_cases q:x=y
  ·subst q
   rw[show (x==x)=true by simp]
   refine kat_yes (tB (i+1) r r' (by rw[e];simp) ?_)
   unfold eC at h
   rw[if_pos rfl] at h
   exact h
  ·rw[show (x==y)=false by simpa using q]
   unfold eC at h
   rw[if_neg q] at h
   refine kat_no ?_
   by_cases hi:(i==0)=true
   ·rw[hi]
    exact oneLt_int h
   ·rw[show (i==0)=false by simpa using hi]
    exact kat_one _ _ (PyProof.Rows.lt_int h)
def TupsAt (h:Heap):List Value→List (List Int)→Prop
 |[],[]=>True
 |v::vs,k::ks=>(∃a o us m,v= .ref a∧h.get? a=some o∧o.cls= .type "tuple"∧o.data= .seq (List.toArray us) m∧IntsAre us k∧k≠[])∧TupsAt h vs ks
 |_,_=>False
theorem TupsAt.len {h:Heap}:∀{vs:List Value}{ks:List (List Int)},TupsAt h vs ks→vs.length=ks.length
 |[],[],_=>rfl
 |v::vs,k::ks,t=>by rw[List.length_cons,List.length_cons,TupsAt.len t.2]
 |[],_::_,t=>t.elim
 |_::_,[],t=>t.elim
theorem TupsAt.get {h:Heap}:∀{vs:List Value}{ks:List (List Int)}{i:Nat},TupsAt h vs ks→i<vs.length→∃a o us m,vs.getD i Value.none= .ref a∧h.get? a=some o∧o.cls= .type "tuple"∧o.data= .seq (List.toArray us) m∧IntsAre us (ks.getD i [])∧ks.getD i []≠[]
 |v::vs,k::ks,0,t,_=>t.1
 |v::vs,k::ks,i+1,t,hi=>TupsAt.get (i:=i) t.2 (by simpa using hi)
 |[],_,_,_,hi=>by simp at hi
 |_::_,[],_,t,_=>t.elim
theorem TupsAt.keep {h h':Heap}{a:Addr}(k:∀b o,b≠a→h.get? b=some o→h'.get? b=some o) (ha:∀o,h.get? a=some o→o.cls≠ .type "tuple"):∀{vs:List Value}{ks:List (List Int)},TupsAt h vs ks→TupsAt h' vs ks
 |[],[],_=>trivial
 |v::vs,x::ks,⟨⟨b,o,us,m,e1,e2,e3,e4⟩,t⟩=>⟨⟨b,o,us,m,e1,k b o (fun z=>ha o (by rw[←z];exact e2) e3) e2,e3,e4⟩,TupsAt.keep k ha t⟩
 |[],_::_,t=>t.elim
 |_::_,[],t=>t.elim
theorem lN:∀{us:List Value}{xs:List Int},IntsAre us xs→us.length=xs.length
 |_,_, .nil=>rfl
 |_,_, .cons x t r=>by rw[List.length_cons,List.length_cons,lN r]
theorem TupsAt.firsts {M:Model}{h:Heap}:∀{vs:List Value}{ks:List (List Int)},TupsAt h vs ks→∃fs,KatTups h vs fs∧fs.length=vs.length∧∀v∈fs,Looks M h (typeOf v) (.type "int")
 |[],[],_=>⟨[],KatTups.nil,rfl,fun _ z=>by cases z⟩
 |v::vs,k::ks,⟨⟨a,o,us,m,e1,e2,e3,e4,e5,e6⟩,t⟩=>by
  obtain⟨fs,q1,q2,q3⟩:=TupsAt.firsts (M:=M) t
  subst e1
  cases e5 with
  |nil=>exact absurd rfl e6
  |cons x t r=>
   refine⟨.int x t::fs,KatTups.cons e2 e3 e4 (by simp) q1,by simp[q2],fun v hv=>?_⟩
   rcases List.mem_cons.mp hv with rfl | hv
   ·exact show Looks M h (pure (Value.type "int")) (Value.type "int") from .now
   ·exact q3 v hv
 |[],_::_,t=>t.elim
 |_::_,[],t=>t.elim
theorem asked {vs:List Value}{ks:List (List Int)}(t:TupsAt s.heap vs ks) (i j:Nat) (C:Bool→Shared→Prop) (hi:i<vs.length) (hj:j<vs.length) (h:C (eC (ks.getD i []) (ks.getD j [])) s):kas_ask prog w A (tuples' true) vs i j C s:=by
 obtain⟨a,o,us,m,e1,e2,_,e4,e5,_⟩:=t.get hi
 obtain⟨a',o',us',m',e1',e2',_,e4',e5',_⟩:=t.get hj
 unfold kas_ask
 rw[e1,e1']
 refine kat_lt e2 e4 e2' e4' (tB 0 e5 e5' ?_ h)
 rw[List.size_toArray,List.size_toArray,lN e5,lN e5']
theorem xE {α:Type}{l:List α}(h:l.Nodup) {i j:Nat}(hi:i<l.length) (hj:j<l.length) (e:l[i]=l[j]):i=j:=by
 rcases Nat.lt_trichotomy i j with q | q | q
 ·exact absurd e (List.pairwise_iff_getElem.mp h i j hi hj q)
 ·exact q
 ·exact absurd e.symm (List.pairwise_iff_getElem.mp h j i hj hi q)
theorem wL {a:Addr}{c:Nat}{vs:List Value}{ks:List (List Int)}{P:PySem.Fin→Shared→Prop}(ho:s.heap.get? a=some (seqObj "list" vs.toArray c)) (ht:TupsAt s.heap vs ks) (hd:ks.Nodup) (h64:vs.length<64)
 (h:∀(p:Array Nat) (h':Heap) (c':Nat),PN vs.length p→Ri (fun i j=>eC (ks.getD i []) (ks.getD j [])) p vs.length→h'.get? a=some (seqObj "list" (List.toArray (p.toList.map fun i=>vs.getD i Value.none)) c')→
  (∀b o,b≠a→s.heap.get? b=some o→h'.get? b=some o)→P (.done (.ret .none)) {s with heap:=h'}):wpAny (model prog w) A (Builtin.«list.sort» ⟨[.ref a],[]⟩) P E s:=by
 have hsl:sizeLine=16777216:=sizeLine_eq
 have s1:=Heap.SameBut.update s.heap a (Obj.mapSeq fun _=>(#[]:Array Value))
 obtain⟨e1,ho1⟩:∃e1,(s.heap.update a (Obj.mapSeq fun _=>(#[]:Array Value))).get? a=some (seqObj "list" #[] e1):=⟨_,get?_update_seq ho fun _=> #[]⟩
 have k1:∀b o,b≠a→s.heap.get? b=some o→(((s.heap.update a (Obj.mapSeq fun _=>(#[]:Array Value))).push (seqObj "tuple" vs.toArray 0)).push (seqObj "list" #[] 0)).get? b=some o:=fun b o hb e=>
  Heap.get?_push_of_some _ (Heap.get?_push_of_some _ ((s1.2 b hb).trans e))
 have ho3:=Heap.get?_push_of_some (seqObj "list" #[] 0) (Heap.get?_push_of_some (seqObj "tuple" vs.toArray 0) ho1)
 have t3:=ht.keep k1 (fun o e z=>by rw[ho] at e;cases e;exact absurd (Value.type.inj z) (by decide))
 have fin:∀(st:SortSt) (p:Array Nat),PN vs.length p→Ri (fun i j=>eC (ks.getD i []) (ks.getD j [])) p vs.length→(arrOf st).map (·.2)=List.toArray (p.toList.map fun i=>vs.getD i Value.none)→failedOf st=none→
  wpAny (model prog w) A (do
   let touched:=(←seqEpoch a) !=e1
   Builtin.List.listUpdate (.ref a) fun _=>(arrOf st).map (·.2)
   if let some e:=failedOf st then rule "list.sort.comparison-raised";throw e
   if touched then rule "list.sort.modified";raiseError "ValueError" "list modified during sort"
   ret .none) P E {s with heap:=((s.heap.update a (Obj.mapSeq fun _=>(#[]:Array Value))).push (seqObj "tuple" vs.toArray 0)).push (seqObj "list" #[] 0)}:=fun st p hp hr he hf=>by
  have hz:(List.toArray (p.toList.map fun i=>vs.getD i Value.none)).size=vs.length:=by rw[List.size_toArray,List.length_map,Array.length_toList,hp.sz]
  rw[he,hf]
  refine wpAny_bind (seqEpoch_at ho3 rfl (wpAny_bind (listUpdate_at ho3 rfl ?_ (Nat.zero_le _) (by rw[hz,hsl];omega))))
  simp only[bne_self_eq_false,Bool.false_eq_true,if_false]
  have s2:=Heap.SameBut.update (((s.heap.update a (Obj.mapSeq fun _=>(#[]:Array Value))).push (seqObj "tuple" vs.toArray 0)).push (seqObj "list" #[] 0)) a (Obj.mapSeq fun _=>List.toArray (p.toList.map fun i=>vs.getD i Value.none))
  exact wpAny_pure (h p _ _ hp hr (get?_update_seq ho3 fun _=>List.toArray (p.toList.map fun i=>vs.getD i Value.none)) fun b o hb e=>(s2.2 b hb).trans (k1 b o hb e))
 rw[list_sort_plain]
 refine wpAny_bind (listItems_at ho rfl (wpAny_bind (listUpdate_at ho rfl (wpAny_bind (seqEpoch_at ho1 rfl ?_)) (by rw[List.size_toArray,hsl];omega) (Nat.zero_le _))))
 refine wpAny_bind (wpAny_newTuple (wpAny_bind (wpAny_newList (wpAny_holding ?_) (Nat.zero_le _))) (by show vs.length≤_;rw[hsl];omega))
 show wpAny (model prog w) A _ P E {s with heap:=((s.heap.update a (Obj.mapSeq fun _=>(#[]:Array Value))).push (seqObj "tuple" vs.toArray 0)).push (seqObj "list" #[] 0)}
 dsimp only
 by_cases hs:vs.toArray.size<2
 ·rw[if_pos hs,if_pos hs]
  have hl2:vs.length<2:=by simpa using hs
  refine wpAny_bind (wpAny_pure (wpAny_bind (wpAny_pure ?_)))
  refine fin (SortSt.mk' general' (vs.toArray.zip vs.toArray) #[] 7 none) (List.toArray (List.range vs.length)) ⟨by simp,fun i hi=>?_,fun i j hi hj _=>by omega⟩ (fun i j hij hj=>by omega) ?_ rfl
  ·rw[e_];simp[hi]
  ·show (vs.toArray.zip vs.toArray).map (·.2)=_
   apply Array.toList_inj.mp
   refine List.ext_getElem (by simp) fun i a1 a2=>?_
   simp at a1
   simp[a1]
 ·rw[if_neg hs,if_neg hs]
  have hl2:2≤vs.length:=by have:¬vs.length<2:=by simpa using hs
                           omega
  obtain⟨fs,q1,q2,q3⟩:=t3.firsts (M:=model prog w)
  refine wpAny_bind (kat_kind q1 (by omega) q3 rfl ?_)
  have hb:Lt vs.length (fun i j=>eC (ks.getD i []) (ks.getD j [])):=⟨fun i j k=>pV _ _ _,fun i j=>jx _ _,fun i j hi hj hij=>m6 _ _ fun z=>hij (by
   rw[ht.len] at hi hj
   rw[List.getD_eq_getElem?_getD,List.getD_eq_getElem?_getD,List.getElem?_eq_getElem hi,List.getElem?_eq_getElem hj] at z
   exact xE hd hi hj (by simpa using z))⟩
  obtain⟨r1,r2⟩:=ym hb hl2
  have run:=kat_run (prog:=prog) (w:=w) (A:=A) (E:=E) (ks:=vs) (vs:=vs) (κ:=tuples' true) (Q:=fun st s'=>s'={s with heap:=((s.heap.update a (Obj.mapSeq fun _=>(#[]:Array Value))).push (seqObj "tuple" vs.toArray 0)).push (seqObj "list" #[] 0)}∧∃p,PN vs.length p∧Ri (fun i j=>eC (ks.getD i []) (ks.getD j [])) p vs.length∧(arrOf st).map (·.2)=List.toArray (p.toList.map fun i=>vs.getD i Value.none)∧failedOf st=none)
   (G:=fun p s'=>s'={s with heap:=((s.heap.update a (Obj.mapSeq fun _=>(#[]:Array Value))).push (seqObj "tuple" vs.toArray 0)).push (seqObj "list" #[] 0)}∧PN vs.length p∧Ri (fun i j=>eC (ks.getD i []) (ks.getD j [])) p vs.length) rfl hl2 h64
   (fun p st' s' a1 a2 a3 a4=>⟨a4.1,p,a4.2.1,a4.2.2,kat_snds rfl a2,a3⟩)
   (wp_run (s:={s with heap:=((s.heap.update a (Obj.mapSeq fun _=>(#[]:Array Value))).push (seqObj "tuple" vs.toArray 0)).push (seqObj "list" #[] 0)}) (fun i j C hi hj hC=>asked t3 i j C hi hj hC) (wt (by omega)) ⟨rfl,r1,r2⟩)
  refine wpAny_bind (wpAny_mono run ?_ fun _ _ e=>e)
  rintro⟨⟨⟩,st'⟩ s' ⟨rfl,p,a1,a2,a3,a4⟩
  exact fin st' p a1 a2 a3 a4
end
end L3
namespace L3
open PySem PySem.W PyProof.Rows
section
variable {prog : Program} {w : World} {A : Around} {E : Value → Shared → Prop} {s : Shared}
theorem oJ {d:Addr}{od:Obj}{es:Array DictEntry}{ep:Nat}{Q:Value→Shared→Prop}(lo:(d==sysModules)=false) (ho:s.heap.get? d=some od) (hx:od.ExactDict) (hd:od.data= .dict es ep)
 (hQ:Q (.ref s.heap.objs.size) {s with heap:=s.heap.push {cls:= .type "dict_keyiterator",data:= .fields #[.ref d, .int 0 0, .int es.size 0, .int ep 0]} }):wpAny (model prog w) A (pyIter (.ref d)) Q E s:=by
 have hT:s.TypeIs (.ref d) "dict":=⟨od,ho,hx.1⟩
 refine wpAny_pyIter_slot hT F.slot_dict_iter (wpAny_call_entry F.slot_dict_iter hT F.entry_dict_iter ?_ (F.args_dict_iter_1 _))
 unfold Builtin.«dict.__iter__» Builtin.Dict.dictSlotNone
 refine wpAny_bind (wpAny_bind (wpAny_notOrdered_dict hT ?_))
 show wpAny _ _ (pure (Value.ref d)) _ _ s
 refine wpAny_pure ?_
 show wpAny _ _ (Builtin.Dict.showsAll d>>=_) _ _ s
 unfold Builtin.Dict.showsAll
 rw[if_neg (by rw[lo];exact Bool.false_ne_true)]
 refine wpAny_bind (wpAny_pure (wpAny_bind (wpAny_dictEntries ho hd (wpAny_bind (wpAny_dictEpoch ho hd ?_)))))
 refine wpAny_bind (wpAny_newObj_type (wpAny_pure ⟨_,rfl,"dict_keyiterator",_,⟨_,Heap.get?_push_size _ rfl,rfl⟩,F.slot_dict_keyiterator_next.lookup,?_⟩))
 simpa[rawInt] using hQ
theorem sQ {it d:Addr}{od:Obj}{es:Array DictEntry}{i ep:Nat}{e:DictEntry}{Q:Option Value→Shared→Prop}(hit:s.heap.IsKeyIter it d i es.size ep) (hod:s.heap.get? d=some od) (hdd:od.data= .dict es ep) (hx:es[i]? =some e)
 (hQ:∀h',h'.IsKeyIter it d (i+1) es.size ep→Heap.SameBut it s.heap h'→Q (some e.key) {s with heap:=h'}):wpAny (model prog w) A (pyNext (.ref it)) Q E s:=by
 obtain⟨o,ho,hc,hd⟩:=id hit
 have hlt:i<es.size:=(Array.getElem?_eq_some_iff.mp hx).1
 have hown:Builtin.Dict_items.ownsTuple "dict_keyiterator"=false:=by decide
 unfold pyNext
 refine wpAny_bind (wpAny_attempt (wpAny_callSpecial?_slot (name:=Str.ofString "__next__") hit.typeIs F.slot_dict_keyiterator_next
  (wpAny_call_entry F.slot_dict_keyiterator_next hit.typeIs F.entry_dict_keyiterator_next ?_ (F.args_dict_keyiterator_next_1 _))))
 refine wpAny_bind (wpAny_pure (wpAny_bind (wpAny_bind ?_)))
 first | refine wpAny_bind (wpAny_typeNameOfWhole_keyiter hit.typeIs (wpAny_pure ?_)) | refine wpAny_bind (wpAny_typeNameOf_keyiter hit.typeIs (wpAny_pure ?_))
 refine wpAny_bind (wpAny_fieldsOf ho hd ?_)
 simp only[hown,Bool.false_eq_true,if_false]
 show wpAny _ _ (if (Value.ref d==Value.none)=true then _ else _) _ _ s
 rw[if_neg (show¬((Value.ref d==Value.none)=true) from Bool.false_ne_true)]
 refine wpAny_bind (wpAny_pure (wpAny_bind (wpAny_dictEntries hod hdd ?_)))
 rw[if_neg (by simp)]
 refine wpAny_bind (wpAny_pure (wpAny_bind (wpAny_dictEpoch hod hdd ?_)))
 rw[if_neg (by simp)]
 refine wpAny_pure ?_
 simp only[show¬((i:Int)<0) from by omega,if_false,Int.toNat_natCast,hx]
 refine wpAny_bind ?_
 first | refine wpAny_bind (wpAny_typeNameOfWhole_keyiter hit.typeIs (wpAny_pure ?_)) | refine wpAny_bind (wpAny_typeNameOf_keyiter hit.typeIs (wpAny_pure ?_))
 refine wpAny_bind (wpAny_isOneOf_keyiter hit.typeIs ?_)
 show wpAny _ _ (setField (.ref it) 1 (rawInt ((i:Int)+1))>>=_) _ _ s
 refine wpAny_bind (wpAny_setField ho hd (by simp) ?_)
 have hit':(s.heap.update it (Obj.mapFields (·.setIfInBounds 1 (rawInt ((i:Int)+1))))).IsKeyIter it d (i+1) es.size ep:=
  ⟨_,Heap.get?_update_self _ ho (Obj.isFreed_of_fields (Obj.data_mapFields hd _)),(Obj.cls_mapFields ..).trans hc,by rw[Obj.data_mapFields hd];simp[rawInt]⟩
 refine wpAny_bind (wpAny_holding (wpAny_bind (wpAny_isOneOf_keyiter (s:={s with heap:=s.heap.update it (Obj.mapFields (·.setIfInBounds 1 (rawInt ((i:Int)+1))))}) hit'.typeIs ?_)))
 show wpAny _ _ (pure e.key) _ _ _
 exact wpAny_pure (wpAny_pure ⟨_,rfl,wpAny_pure (hQ _ hit' (Heap.SameBut.update ..))⟩)
theorem pq {it d:Addr}{od:Obj}{es:Array DictEntry}{ep i:Nat}{Q:Option Value→Shared→Prop}(hh:A.handled=none) (hit:s.heap.IsKeyIter it d i es.size ep) (hi:es.size≤i) (hod:s.heap.get? d=some od) (hdd:od.data= .dict es ep)
 (hQ:∀h',Heap.ExtBut it s.heap h'→Q none {s with heap:=h'}):wpAny (model prog w) A (pyNext (.ref it)) Q E s:=by
 obtain⟨o,ho,hc,hd⟩:=id hit
 have hown:Builtin.Dict_items.ownsTuple "dict_keyiterator"=false:=by decide
 unfold pyNext
 refine wpAny_bind (wpAny_attempt (wpAny_callSpecial?_slot (name:=Str.ofString "__next__") hit.typeIs F.slot_dict_keyiterator_next
  (wpAny_call_entry F.slot_dict_keyiterator_next hit.typeIs F.entry_dict_keyiterator_next ?_ (F.args_dict_keyiterator_next_1 _))))
 refine wpAny_bind (wpAny_pure (wpAny_bind (wpAny_bind ?_)))
 first | refine wpAny_bind (wpAny_typeNameOfWhole_keyiter hit.typeIs (wpAny_pure ?_)) | refine wpAny_bind (wpAny_typeNameOf_keyiter hit.typeIs (wpAny_pure ?_))
 refine wpAny_bind (wpAny_fieldsOf ho hd ?_)
 simp only[hown,Bool.false_eq_true,if_false]
 show wpAny _ _ (if (Value.ref d==Value.none)=true then _ else _) _ _ s
 rw[if_neg (show¬((Value.ref d==Value.none)=true) from Bool.false_ne_true)]
 refine wpAny_bind (wpAny_pure (wpAny_bind (wpAny_dictEntries hod hdd ?_)))
 rw[if_neg (by simp)]
 refine wpAny_bind (wpAny_pure (wpAny_bind (wpAny_dictEpoch hod hdd ?_)))
 rw[if_neg (by simp)]
 refine wpAny_pure ?_
 simp only[show¬((i:Int)<0) from by omega,if_false,Int.toNat_natCast,Array.getElem?_eq_none hi]
 refine wpAny_bind ?_
 first | refine wpAny_bind (wpAny_typeNameOfWhole_keyiter hit.typeIs (wpAny_pure ?_)) | refine wpAny_bind (wpAny_typeNameOf_keyiter hit.typeIs (wpAny_pure ?_))
 show wpAny _ _ (setField (.ref it) 0 .none>>=_) _ _ s
 refine wpAny_bind (wpAny_setField ho hd (by simp) ?_)
 show wpAny _ _ (newExc (.type "StopIteration") []>>=_) _ _ _
 refine wpAny_bind ?_
 simp only[newExc,newTuple]
 refine wpAny_bind (wpAny_newObj_type ?_ (by size_fits))
 refine wpAny_bind (m:=firstArgMember _ _) (wpAny_of_eq (a:=Value.none) (by first | rfl | (simp only[firstArgMember];rfl)) ?_)
 refine wpAny_newObj_type ?_ (by size_fits)
 simp only[raiseNew]
 refine wpAny_bind (wpAny_handled ?_)
 rw[show A.in1.handled=none from hh]
 refine wpAny_bind (wpAny_pure (wpAny_throw ?_))
 refine wpAny_bind (wpAny_isInstance (T:="StopIteration") (b:=true) ⟨_,Heap.get?_push_size _ rfl,rfl⟩ isSubtype_stop ?_)
 exact wpAny_pure (hQ _ (((Heap.SameBut.update ..).extBut.push _).push _))
theorem xV {it d:Addr}{od:Obj}{es:Array DictEntry}{ep:Nat}{Q:Option Value→Shared→Prop}(hh:A.handled=none) (hit:s.heap.IsKeyIter it d es.size es.size ep) (hod:s.heap.get? d=some od) (hdd:od.data= .dict es ep)
 (hQ:∀h',Heap.ExtBut it s.heap h'→Q none {s with heap:=h'}):wpAny (model prog w) A (pyNext (.ref it)) Q E s:=pq hh hit (Nat.le_refl _) hod hdd hQ
def Be (es:Array DictEntry):Nat→Value→Prop:=fun i v=>∃e,es[i]? =some e∧v=e.key
theorem ug (hh:A.handled=none) (I d:Addr) (hne:d≠I) {od:Obj}{es:Array DictEntry}{ep:Nat}(hdd:od.data= .dict es ep):
 Walks prog w A I [I,d] [I] es.size (Be es) (fun i h=>h.IsKeyIter I d i es.size ep∧h.get? d=some od) where
 sub:=fun b hb=>by simp at hb;simp[hb]
 frame:=fun _ _ _ st hk=>⟨st.1.at fun o e=>hk I (by simp) o e,hk d (by simp) _ st.2⟩
 item:=fun i s Q E hi st hQ=>by
  have hx:es[i]? =some es[i]:=Array.getElem?_eq_getElem hi
  exact sQ st.1 st.2 hdd hx fun h' hit' hs'=>hQ _ h' s.toks ⟨_,hx,rfl⟩ ⟨hit',(hs'.2 d hne).trans st.2⟩ fun b o hb e=>hs'.extBut b o (fun h=>hb (by simp[h])) e
 done:=fun s Q E st hQ=>xV hh st.1 st.2 hdd fun h' he'=>hQ h' s.toks fun b o hb e=>he' b o (fun h=>hb (by simp[h])) e
 self:=fun _ _ _ _ st hQ=>wpAny_pyIter_keyiter st.1 hQ
theorem yq {d:Addr}{od:Obj}{es:Array DictEntry}{ep:Nat}(lo:(d==sysModules)=false) (hx:od.ExactDict) (hdd:od.data= .dict es ep):KdlSrc prog w "dict" d d es.size (Be es) (fun h=>h.get? d=some od) where
 type:=fun _ hm=>⟨od,hm,hx.1⟩
 there:=fun _ hm=>⟨Heap.lt_size hm,Heap.lt_size hm⟩
 keep:=fun _ _ hm hk=>hk d (.inl rfl) od hm
 notList:=by decide
 notTuple:=by decide
 hint:=fun _ _ s _ hm hq=>kdl_hint_dict ⟨od,hm,hx.1⟩ hq
 iter:=fun _ _ hh hm=>⟨_,_,(fun _ _ hq=>oJ lo hm hx hdd hq),ug hh _ d (Nat.ne_of_lt (Heap.lt_size hm)) hdd,⟨⟨_,Heap.get?_push_size _ rfl,rfl,rfl⟩,Heap.get?_push_of_some _ hm⟩⟩
end
end L3
namespace L3
open PySem
def insI (k:List Int):List (List Int)→List (List Int)
 |[]=>[k]
 |x::r=>if eC k x then k::x::r else x::insI k r
def sortI:List (List Int)→List (List Int)
 |[]=>[]
 |k::r=>insI k (sortI r)
def uh (l:List (List Int)):Prop:=l.Pairwise fun a b=>eC a b=true
theorem m7 {k x:List Int}:∀{l:List (List Int)},x∈insI k l↔x=k∨x∈l
 |[]=>by simp[insI]
 |y::r=>by
  unfold insI
  split
  ·simp
  ·rw[List.mem_cons,m7,List.mem_cons]
   constructor
   ·rintro(h | h | h)<;>simp[h]
   ·rintro(h | h | h)<;>simp[h]
theorem oq {k:List Int}:∀{l:List (List Int)},uh l→k∉l→uh (insI k l)
 |[],_,_=>List.pairwise_singleton _ _
 |x::r,h,hk=>by
  have h:=List.pairwise_cons.mp h
  unfold insI
  split
  ·rename_i q
   refine List.pairwise_cons.mpr ⟨fun y hy=>?_,List.pairwise_cons.mpr h⟩
   rcases List.mem_cons.mp hy with rfl | hy
   ·exact q
   ·exact pV _ _ _ q (h.1 y hy)
  ·rename_i q
   have hx:eC x k=true:=by
    rcases m6 k x (fun z=>hk (by rw[z];exact List.mem_cons_self ..)) with z | z
    ·exact absurd z q
    ·exact z
   refine List.pairwise_cons.mpr ⟨fun y hy=>?_,oq h.2 fun z=>hk (List.mem_cons_of_mem _ z)⟩
   rcases m7.mp hy with rfl | hy
   ·exact hx
   ·exact h.1 y hy
theorem gp {x:List Int}:∀{l:List (List Int)},x∈sortI l↔x∈l
 |[]=>Iff.rfl
 |k::r=>by unfold sortI;rw[m7,gp,List.mem_cons]
theorem i7:∀{l:List (List Int)},l.Nodup→uh (sortI l)
 |[],_=>List.Pairwise.nil
 |k::r,h=>by
  have h:=List.nodup_cons.mp h
  exact oq (i7 h.2) fun z=>h.1 (gp.mp z)
theorem mI:∀{a b:List (List Int)},uh a→uh b→(∀x,x∈a↔x∈b)→a=b
 |[],[],_,_,_=>rfl
 |[],y::b,_,_,h=>by have:=(h y).mpr (List.mem_cons_self ..);cases this
 |x::a,[],_,_,h=>by have:=(h x).mp (List.mem_cons_self ..);cases this
 |x::a,y::b,ha,hb,h=>by
  have ha:=List.pairwise_cons.mp ha
  have hb:=List.pairwise_cons.mp hb
  have e:x=y:=by
   rcases List.mem_cons.mp ((h x).mp (List.mem_cons_self ..)) with q | q
   ·exact q
   ·rcases List.mem_cons.mp ((h y).mpr (List.mem_cons_self ..)) with p | p
    ·exact p.symm
    ·have z1:=hb.1 x q
     have z2:=ha.1 y p
     rw[jx _ _ z1] at z2
     cases z2
  subst e
  have irr:∀k,eC k k≠true:=fun k z=>by have:=jx _ _ z;rw[z] at this;cases this
  rw[mI ha.2 hb.2 fun z=>?_]
  constructor
  ·intro hz
   rcases List.mem_cons.mp ((h z).mp (List.mem_cons_of_mem _ hz)) with q | q
   ·subst q;exact absurd (ha.1 z hz) (irr z)
   ·exact q
  ·intro hz
   rcases List.mem_cons.mp ((h z).mpr (List.mem_cons_of_mem _ hz)) with q | q
   ·subst q;exact absurd (hb.1 z hz) (irr z)
   ·exact q
theorem uk:∀(n:Nat) (l:List Nat),l.Nodup→(∀x∈l,x<n)→l.length=n→∀k,k<n→k∈l
 |0,_,_,_,_,k,hk=>by omega
 |n+1,l,hd,hl,hn,k,hk=>by
  by_cases h:n∈l
  ·by_cases e:k=n
   ·subst e;exact h
   ·refine List.mem_of_mem_erase (uk n (l.erase n) (hd.erase n) (fun x hx=>?_) (by rw[List.length_erase_of_mem h,hn];rfl) k (by omega))
    have hx:=hd.mem_erase_iff.mp hx
    have:=hl x hx.2
    have:=hx.1
    omega
  ·cases l with
   |nil=>simp at hn
   |cons x r=>
    have hd:=List.nodup_cons.mp hd
    have lt:∀y∈x::r,y<n:=fun y hy=>by
     have:=hl y hy
     have:y≠n:=fun z=>h (by rw[←z];exact hy)
     omega
    exact absurd (uk n r hd.2 (fun y hy=>lt y (List.mem_cons_of_mem _ hy)) (by simpa using hn) x (lt x (List.mem_cons_self ..))) hd.1
theorem w_ {ks:List (List Int)}{p:Array Nat}(hd:ks.Nodup) (P:PN ks.length p) (R:Ri (fun i j=>eC (ks.getD i []) (ks.getD j [])) p ks.length):(p.toList.map fun i=>ks.getD i [])=sortI ks:=by
 have hsz:p.toList.length=ks.length:=by rw[Array.length_toList];exact P.sz
 have hat:∀i (h:i<p.toList.length),p.toList[i]=at' p i:=fun i h=>by
  have h':i<p.size:=by rw[Array.length_toList] at h;exact h
  rw[e_,Array.getElem?_eq_getElem h']
  simp
 refine mI ?_ (i7 hd) fun x=>?_
 ·refine List.pairwise_iff_getElem.mpr fun i j hi hj hij=>?_
  rw[List.length_map] at hi hj
  rw[List.getElem_map,List.getElem_map,hat i hi,hat j hj]
  exact R i j hij (by omega)
 ·rw[gp]
  constructor
  ·intro hx
   obtain⟨i,hi,rfl⟩:=List.mem_map.mp hx
   obtain⟨j,hj,rfl⟩:=List.mem_iff_getElem.mp hi
   have:=P.lt j (by omega)
   rw[hat j hj,List.getD_eq_getElem?_getD,List.getElem?_eq_getElem this]
   exact List.getElem_mem this
  ·intro hx
   obtain⟨k,hk,rfl⟩:=List.mem_iff_getElem.mp hx
   have hperm:k∈p.toList:=by
    have hn:p.toList.Nodup:=List.pairwise_iff_getElem.mpr fun i j hi hj hij z=>by
     rw[hat i hi,hat j hj] at z
     have:=P.inj i j (by omega) (by omega) z
     omega
    exact uk ks.length p.toList hn (fun x hx=>by
     obtain⟨j,hj,rfl⟩:=List.mem_iff_getElem.mp hx
     rw[hat j hj]
     exact P.lt j (by omega)) hsz k hk
   refine List.mem_map.mpr ⟨k,hperm,?_⟩
   rw[List.getD_eq_getElem?_getD,List.getElem?_eq_getElem hk]
   rfl
end L3
namespace L3
open PySem PySem.Spec L2 SeqAt HT
open PyProof.Rows hiding St
def tupI (k:List Int):D:= .tup (k.map D.int)
def ib (ks:List (List Int)):Bool:=decide ks.Nodup&&decide (ks.length<64)&&ks.all fun k=>!k.isEmpty
def e7 (H:Hp):List V→List (List Int)→Prop:=Paired fun v k=>∃a,v= .ref a∧H a=some (.tup (k.map V.int))
theorem sD {K:PySem.W.Frag}{F:Hp}:∀{ws:List V}{ks:List (List Int)},e7 F ws ks→(∀k∈ks,k.length≤lim)→DenL K F (ks.map tupI) ws
 |_,_, .nil,_=>rfl
 |_,_, .cons (b:=k) h t,hl=>by
  obtain⟨a,rfl,h⟩:=h
  exact .cons ⟨a,_,rfl,h,DenL.ints k,by rw[List.length_map];exact hl k (List.mem_cons_self ..)⟩ (sD t fun k hk=>hl k (List.mem_cons_of_mem _ hk))
theorem oT {X:Cx}{pins:List (Addr×Obj)}{σ:St}{H:Hp}{s:Shared}(I:Inv X pins σ H s):∀{vs:List V}{its:List Value}{ks:List (List Int)},e7 H vs ks→Vals vs its→(∀k∈ks,k≠[])→TupsAt s.heap its ks
 |_,_,_, .nil,r,_=>by cases r;exact trivial
 |_,_,_, .cons (b:=k) h t,r,hn=>by
  obtain⟨a,rfl,h⟩:=h
  cases r with
  |cons r1 r2=>
   cases (show _=_ from r1)
   obtain⟨us,ru,pt,_⟩:=I.tuple (SqT.of (K:=X.K) h)
   obtain⟨o,q1,q2,m,q3⟩:=pt
   exact⟨⟨a,o,us,m,rfl,q1,q2,q3,intsAre_of ru,hn k (List.mem_cons_self ..)⟩,oT I t r2 fun k hk=>hn k (List.mem_cons_of_mem _ hk)⟩
theorem su {H:Hp}:∀{vs:List V}{ks:List (List Int)}{i:Nat},e7 H vs ks→i<vs.length→∃a,vs.getD i .non= .ref a∧H a=some (.tup ((ks.getD i []).map V.int))
 |_,_,i, .nil,hi=>by simp at hi
 |_,_,0, .cons h t,_=>h
 |_,_,i+1, .cons h t,hi=>su (i:=i) t (by simpa using hi)
theorem rY {H:Hp}:∀{vs:List V}{ks:List (List Int)},e7 H vs ks→vs.length=ks.length
 |_,_, .nil=>rfl
 |_,_, .cons h t=>by rw[List.length_cons,List.length_cons,rY t]
theorem pf {H:Hp}{vs:List V}{ks:List (List Int)}(h:e7 H vs ks):∀{is:List Nat},(∀i∈is,i<vs.length)→e7 H (is.map fun i=>vs.getD i .non) (is.map fun i=>ks.getD i [])
 |[],_=> .nil
 |i::is,hi=> .cons (su h (hi i (List.mem_cons_self ..))) (pf h fun j hj=>hi j (List.mem_cons_of_mem _ hj))
theorem oU:∀{vs:List V}{us:List Value}(i:Nat),Vals vs us→i<vs.length→RelV (vs.getD i .non) (us.getD i Value.none)
 |_,_,i, .nil,hi=>by simp at hi
 |_,_,0, .cons h t,_=>h
 |_,_,i+1, .cons h t,hi=>oU i t (by simpa using hi)
theorem oV {vs:List V}{us:List Value}(h:Vals vs us):∀{is:List Nat},(∀i∈is,i<vs.length)→Vals (is.map fun i=>vs.getD i .non) (is.map fun i=>us.getD i Value.none)
 |[],_=> .nil
 |i::is,hi=> .cons (oU i h (hi i (List.mem_cons_self ..))) (oV h fun j hj=>hi j (List.mem_cons_of_mem _ hj))
section
variable {X : Cx} {Xw : Nat → Hp → Prop} {e : Expr} {δs : DA} {pos p : Pos}
theorem n8:∀l:List (List Int),(sortI l).length=l.length
 |[]=>rfl
 |k::r=>by
  have ins:∀(k:List Int) (l:List (List Int)),(insI k l).length=l.length+1:=by
   intro k l
   induction l with
   |nil=>rfl
   |cons x l ih=>
    unfold insI
    split
    ·rfl
    ·rw[List.length_cons,ih,List.length_cons]
  unfold sortI
  rw[ins,n8 r,List.length_cons]
end
end L3
namespace L3
open PySem PySem.Spec L2 SeqAt HT
open PyProof.Rows hiding St
def mD (k:List Int):List Key:=k.map Sum.inl
def De:List V→Hp→VK→Prop:=fun xs H Q=>∃p kvs ks,xs=[.ref p]∧Rd H p (.dT kvs)∧kvs.map (·.1)=ks.map mD∧ib ks=true∧∀(q:Addr) (ws:List V),H q=none→e7 H ws (sortI ks)→Q (.ref q) (upd H q (.lst ws))
theorem n9 {H:Hp}:∀{kvs:List (List Key×V)}{xs:List (List Key×Addr×Value)}{ks:List (List Int)},Paired (fun (p:List Key×V) (q:List Key×Addr×Value)=>p.1=q.1∧H q.2.1=some (.tup (p.1.map kV))∧RelV p.2 q.2.2) kvs xs→
 kvs.map (·.1)=ks.map mD→e7 H (xs.map fun x=>V.ref x.2.1) ks
 |_,_,[], .nil,_=> .nil
 |_,_,_::_, .nil,e=>by simp at e
 |_,_,[], .cons h t,e=>by simp at e
 |_,_,k::ks, .cons h t,e=>by
  rw[List.map_cons,List.map_cons] at e
  injection e with e1 e2
  refine .cons ⟨_,rfl,?_⟩ (n9 t e2)
  have hk:(mD k).map kV=k.map V.int:=by unfold mD;rw[List.map_map];rfl
  rw[h.2.1,e1,hk]
section
variable {X : Cx} {Xw : Nat → Hp → Prop} {e : Expr} {δs : DA} {pos p : Pos}
theorem vQ (hc:X.calm=true):CallR X (.builtin "sorted") De:=by
 intro pins s σ H xs us Q I r h
 obtain⟨a,kvs,ks,rfl,hH,hkk,hk,q⟩:=h
 obtain⟨u,rfl,r1⟩:=r.one
 cases (show u=_ from r1)
 obtain⟨z,lo,xs,rel,o,es,ep,g1,g2,g3,g4,g5⟩:=(show ObjOk X.prog X.w H s.heap a (.dT kvs) from hH.ok I.hok)
 unfold ib at hk
 rw[Bool.and_eq_true,Bool.and_eq_true] at hk
 have hd:ks.Nodup:=of_decide_eq_true hk.1.1
 have h64:ks.length<64:=of_decide_eq_true hk.1.2
 have hne:∀k∈ks,k≠[]:=fun k hk' z=>by have:=List.all_eq_true.mp hk.2 k hk';rw[z] at this;cases this
 have hr:=n9 rel hkk
 have hl1:=rY hr
 rw[List.length_map] at hl1
 have hes:es.size=xs.length:=by rw[←Array.length_toList,g4,List.length_map]
 have hsl:sizeLine=16777216:=sizeLine_eq
 refine Calls.call_function_entry kind_sorted plain_sorted entry_sorted (args_sorted1 _) ?_
 unfold Builtin.«sorted»
 refine wpAny_bind (m:=checkCount "sorted" 1 1 _) (wpAny_pure (wpAny_bind (PySem.W.kdu_collect (A:=X.A.in1) (yq lo g2 g3) (I.ok.hd hc) g1 (by rw[hes,hsl];omega) fun h1 tk acc keep1 hacc=>?_)))
 have hal:acc.toList.length=xs.length:=by rw[Array.length_toList,←hes];exact hacc.1
 have I1:Inv X pins σ H {s with heap:=h1,toks:=tk}:=I.kept (t':=tk) fun b ob e=>keep1 b ob e
 have rv:Vals (xs.map fun x=>V.ref x.2.1) acc.toList:=by
  have ext:∀{vs:List V}{us:List Value},vs.length=us.length→(∀(i:Nat) (v:V) (u:Value),vs[i]? =some v→us[i]? =some u→RelV v u)→Vals vs us:=by
   intro vs
   induction vs with
   |nil=>intro us h _;cases us with | nil=>exact .nil | cons _ _=>simp at h
   |cons v vs ih=>
    intro us h hh
    cases us with
    |nil=>simp at h
    |cons u us=>exact .cons (hh 0 v u rfl rfl) (ih (by simpa using h) fun i v u h1 h2=>hh (i+1) v u h1 h2)
  refine ext (by rw[List.length_map,hal]) fun i v u e1 e2=>?_
  rw[Array.getElem?_toList] at e2
  obtain⟨en,q1,q2⟩:=hacc.2 i u e2
  rw[←Array.getElem?_toList,g4,List.getElem?_map] at q1
  rw[List.getElem?_map] at e1
  cases w:xs[i]? with
  |none=>rw[w] at e1;cases e1
  |some x=>
   rw[w] at e1 q1
   cases e1
   cases q1
   exact q2
 have ht:=oT I1 hr rv hne
 refine wpAny_bind (wpAny_newList ?_ (by rw[hsl];omega))
 have hoL:(h1.push (seqObj "list" acc.toList.toArray 0)).get? h1.objs.size=some (seqObj "list" acc.toList.toArray 0):=Heap.get?_push_size _ rfl
 refine wpAny_bind (wpAny_holding (wpAny_call_entry slot_list_sort ⟨_,hoL,rfl⟩ entry_list_sort (wL (s:={s with heap:=h1.push (seqObj "list" acc.toList.toArray 0),toks:=tk}) hoL
  (ht.keep (a:=h1.objs.size) (fun b o _ e=>Heap.get?_push_of_some _ e) (fun o e=>absurd (Heap.lt_size e) (Nat.lt_irrefl _))) hd (by omega) fun P h' c' hP hR hget hkeep=>?_) (args_list_sort _)))
 have hPl:∀i∈P.toList,i<(xs.map fun x=>V.ref x.2.1).length:=fun i hi=>by
  obtain⟨j,hj,rfl⟩:=List.mem_iff_getElem.mp hi
  have h':j<P.size:=by rw[Array.length_toList] at hj;exact hj
  have:=hP.lt j (by rw[hP.sz] at h';exact h')
  rw[e_,Array.getElem?_eq_getElem h'] at this
  have e:P.toList[j]=P[j]:=by simp
  rw[e,List.length_map]
  have:P[j]<acc.toList.length:=this
  omega
 have hP':PN ks.length P:=by rw[←hl1,←hal];exact hP
 have hR':Ri (fun i j=>eC (ks.getD i []) (ks.getD j [])) P ks.length:=by rw[←hl1,←hal];exact hR
 have hso:=w_ hd hP' hR'
 have hws:=pf hr hPl
 rw[hso] at hws
 refine⟨_,rfl,wpAny_pure ⟨_,rfl,⟨.ref h1.objs.size,_,I1.laid (a:=h1.objs.size) (t':=tk) (o:= .lst (P.toList.map fun i=>(xs.map fun x=>V.ref x.2.1).getD i .non)) (fun b ob e=>hkeep b ob (Nat.ne_of_lt (Heap.lt_size e)) (Heap.get?_push_of_some _ e)) (Nat.le_refl _) ?_,rfl,q _ _ (I1.hok.fresh (Nat.le_refl _)) hws⟩⟩⟩
 exact⟨by rw[List.length_map,Array.length_toList,hP.sz,hsl];omega,_,c',oV rv hPl,hget⟩
theorem n4 {F F':Hp}(e:Same F F'):∀{ws:List V}{ks:List (List Int)},e7 F ws ks→e7 F' ws ks
 |_,_, .nil=> .nil
 |_,_, .cons ⟨b,q1,q2⟩ t=> .cons ⟨b,q1,e _ _ q2⟩ (n4 e t)
theorem tH {F H:Hp}(hs:Same F H):∀{ws:List V}{ks:List (List Int)},e7 H ws ks→∃F',Ext F H F' H∧e7 F' ws ks
 |_,_, .nil=>⟨F,Ext.refl hs, .nil⟩
 |_,_, .cons h t=>by
  obtain⟨a,rfl,h⟩:=h
  obtain⟨F1,e1,r1⟩:=tH hs t
  have e2:=Ext.tup (F:=F1) e1.fh h
  refine⟨_,e1.trans e2, .cons ⟨a,rfl,aF⟩ ?_⟩
  exact n4 e2.ff r1
def oX:List Key→Option (List Int)
 |[]=>some []
 | .inl i::r=>(oX r).map (i:: ·)
 |_=>none
def fJ:List (List Key)→Option (List (List Int))
 |[]=>some []
 |k::r=>match oX k,fJ r with
  |some x,some xs=>some (x::xs)
  |_,_=>none
theorem sW:∀{k:List Key}{x:List Int},oX k=some x→k=mD x
 |[],_,e=>by cases e;rfl
 | .inl i::r,_,e=>by
   unfold oX at e
   cases q:oX r with
   |none=>rw[q] at e;cases e
   |some y=>rw[q] at e;cases e;rw[sW q];rfl
 | .inr _::r,_,e=>by cases e
theorem j4:∀{kk:List (List Key)}{ks:List (List Int)},fJ kk=some ks→kk=ks.map mD
 |[],_,e=>by cases e;rfl
 |k::r,_,e=>by
  unfold fJ at e
  split at e
  ·rename_i x xs e1 e2
   cases e
   rw[List.map_cons,←sW e1,←j4 e2]
  ·cases e
def gR:List D→M D
 |[.dct kk ds]=>match fJ kk with
  |some ks=>if ib ks&&ks.all (fun k=>decide (k.length≤lim)) then M.ret (.lst ((sortI ks).map tupI)) else M.stuck
  |none=>M.stuck
 |_=>M.stuck
theorem iz {α β:Type}:∀{a:List α}{b:List β},a.length=b.length→(a.zip b).map (·.1)=a
 |[],[],_=>rfl
 |x::a,y::b,h=>by rw[List.zip_cons_cons,List.map_cons,iz (by simpa using h)]
 |[],_::_,h=>by simp at h
 |_::_,[],h=>by simp at h
theorem qf (hc:X.calm=true) (hg:Gl X "sorted") (hm:X.mg "sorted"=none) (hb:bootBuiltins "sorted"=some (.builtin "sorted")) (ha:PDA X Xw [e] δs) (he:starEach [e] X.env=[(false,eval e X.env)]:=by rfl):PD X Xw (.Call (.Name "sorted" p) [e] [] pos) (dA gR δs):=
 eh (vQ hc) (fun Xw F H vs ds Q s h w=>by
  unfold gR at w
  split at w
  ·rename_i kk ds
   obtain⟨v,rfl,h1⟩:=h.one
   obtain⟨a,ob,ws,rfl,h2,h3,h4,h5⟩:=h1
   split at w
   ·rename_i ks hks
    split at w
    ·rename_i hok
     rw[Bool.and_eq_true] at hok
     have hl:∀k∈ks,k.length≤lim:=fun k hk=>of_decide_eq_true (List.all_eq_true.mp hok.2 k hk)
     have h64:ks.length<64:=by
      have:=hok.1
      unfold ib at this
      rw[Bool.and_eq_true,Bool.and_eq_true] at this
      exact of_decide_eq_true this.1.2
     refine⟨a,_,ks,rfl, .inr ⟨ob,s _ _ h2⟩,by rw[iz (by rw[h4];exact h3.len),j4 hks],hok.1,fun q us hq hr=>?_⟩
     obtain⟨F1,e1,r1⟩:=tH s hr
     have e2:=Ext.lay (o:= .lst us) e1.fh hq
     exact WP.fin w (e1.trans e2) ⟨q,_,rfl,aF,DenL.mono e2.ff (sD r1 fun k hk=>hl k (gp.mp hk)),by rw[List.length_map,n8];unfold lim;omega⟩
    ·exact w.elim
   ·exact w.elim
  ·exact w.elim) hg hm hb ha (by decide) (by decide) he rfl
end
end L3
namespace L3
open PySem PySem.Spec L2
open PyProof.Rows hiding St
def orM {α:Type}(a b:M α):M α:=match a with
 |none=>b
 |some r=>some r
def Cu (a b:DA):DA:=fun ρ=>orM (a ρ) (b ρ)
section
variable {X : Cx} {Xw : Nat → Hp → Prop} {e tg : Expr} {es : List Expr} {δ δ' : DE} {δi δi' δs : DA} {τ : DT}
theorem Al (h:PDI X Xw tg e δi) (h':PDI X Xw tg e δi'):PDI X Xw tg e (Cu δi δi'):=fun pins s σ H Q I ⟨F,ρ,S,w⟩=>by
 unfold Cu orM at w
 cases q:δi ρ with
 |none=>rw[q] at w;exact h' pins s σ H Q I ⟨F,ρ,S,w⟩
 |some r=>rw[q] at w;exact h pins s σ H Q I ⟨F,ρ,S,by rw[q];exact w⟩
end
def fgt:List Nat→Rho→Rho
 |[],ρ=>ρ
 |i::is,ρ=>fgt is (ρ.set i none)
def Dx (f:Rho→Rho):Out→M Out
 | .nx ρ=>M.ret (.nx (f ρ))
 | .rt d=>M.ret (.rt d)
def bN (is:List Nat) (τ:DS):DS:=fun ρ=>τ ρ>>=Dx (fgt is)
theorem StOk.fgt1 {K:PySem.W.Frag}{F₀ H₀ F H:Hp}{σ:St}{ρ:Rho}(s:StOk K F₀ H₀ F H σ ρ) (i:Nat):StOk K F₀ H₀ F H σ (ρ.set i none):=by
 have get:∀(j:Nat) (sl:Sl),(ρ.set i none)[j]? =some (some sl)→ρ[j]? =some (some sl):=fun j sl e=>by
  by_cases hj:j=i
  ·subst hj
   by_cases hl:j<ρ.length
   ·rw[List.getElem?_set_self hl] at e;cases e
   ·rw[List.getElem?_eq_none (by simpa using hl)] at e;cases e
  ·rw[List.getElem?_set_ne (Ne.symm hj)] at e;exact e
 exact⟨s.ext,⟨s.st.fh,fun j sl e=>s.st.den j sl (get j sl e)⟩,by simp[s.len],fun j c a e e'=>s.own j c a (get j _ e) e',fun j k c c' a e1 e2 e3 e4=>s.sep j k c c' a (get j _ e1) (get k _ e2) e3 e4⟩
theorem StOk.fgt {K:PySem.W.Frag}{F₀ H₀ F H:Hp}{σ:St}:∀(is:List Nat) {ρ:Rho},StOk K F₀ H₀ F H σ ρ→StOk K F₀ H₀ F H σ (L3.fgt is ρ)
 |[],_,s=>s
 |i::is,_,s=>StOk.fgt is (s.fgt1 i)
theorem WPS.fgt {K:PySem.W.Frag}{Xw:Nat→Hp→Prop}{F₀ H₀:Hp}{is:List Nat}{m:M Out}{Dn:Ends}(w:WPS K Xw F₀ H₀ (m>>=Dx (L3.fgt is)) Dn):WPS K Xw F₀ H₀ m Dn:=by
 match m,w with
 |none,w=>exact w
 |some (.ok (.nx ρ)),w=>exact fun σ F H s=>w σ F H (s.fgt is)
 |some (.ok (.rt d)),w=>exact w
 |some (.ex n),w=>exact w
section
variable {X : Cx} {Xw : Nat → Hp → Prop} {st : Stmt} {sts : List Stmt} {τ : DS} {is : List Nat}
theorem ba (h:PSDs X Xw sts τ):PSDs X Xw sts (bN is τ):=fun F₀ H₀=>PSs.weak (h F₀ H₀) fun D σ H ⟨F,ρ,s,w⟩=>⟨F,ρ,s,WPS.fgt w⟩
end
def frS:Option Sl→Option Sl
 |some (.ow c)=>some (.fz c.d)
 |x=>x
def frA (ρ:Rho):Rho:=ρ.map frS
def refA (h:Heap) (P:Addr→Prop) [DecidablePred P] (H:Hp):Hp:=fun b=>if P b then(H b).map (ll ((h.get? b).getD {cls:= .none,data:= .fields #[]})) else H b
theorem uG (ob:Obj) (o:HO):ll ob o=o∨((∃k,o= .dT k)∨∃k,o= .dK k)∧ll ob o= .frz ob o:=by
 cases o<;>first | exact .inl rfl | exact .inr ⟨.inl ⟨_,rfl⟩,rfl⟩ | exact .inr ⟨.inr ⟨_,rfl⟩,rfl⟩
section
variable {X : Cx} {pins : List (Addr × Obj)} {σ : St} {H : Hp} {s : Shared} {P : Addr → Prop} [DecidablePred P]
theorem gf {h:Heap}{b:Addr}(e:H b=none):refA h P H b=none:=by
 unfold refA;split
 ·rw[e];rfl
 ·exact e
theorem oN {h:Heap}{b:Addr}{o:HO}(e:H b=some o):refA h P H b=some o∨((∃k,o= .dT k)∨∃k,o= .dK k)∧P b∧refA h P H b=some (.frz ((h.get? b).getD {cls:= .none,data:= .fields #[]}) o):=by
 unfold refA;split
 ·rename_i hp
  rw[e]
  rcases uG ((h.get? b).getD {cls:= .none,data:= .fields #[]}) o with q | ⟨q1,q2⟩
  ·exact .inl (by show some _=_;rw[q])
  ·exact .inr ⟨q1,hp,by show some _=_;rw[q2]⟩
 ·exact .inl e
theorem gi {h:Heap}{b:Addr}{o:HO}(e:H b=some o) (n1:∀k,o≠ .dT k) (n2:∀k,o≠ .dK k):refA h P H b=some o:=by
 rcases oN (P:=P) (h:=h) e with q | ⟨⟨k,q⟩ | ⟨k,q⟩,_⟩
 ·exact q
 ·exact absurd q (n1 k)
 ·exact absurd q (n2 k)
theorem Inv.refA (I:Inv X pins σ H s):Inv X pins σ (L3.refA s.heap P H) s:=by
 have obj:∀b o,H b=some o→((∃k,o=HO.dT k)∨∃k,o= .dK k)→∃ob,s.heap.get? b=some ob:=fun b o e hu=>by
  have hk:=I.hok b o e
  rcases hu with⟨k,h1⟩ | ⟨k,h1⟩
  ·subst h1;obtain⟨_,_,_,_,ob,_,_,q,_⟩:=hk;exact⟨ob,q⟩
  ·subst h1;obtain⟨_,_,_,_,ob,_,_,q,_⟩:=hk;exact⟨ob,q⟩
 refine⟨I.ok,I.os,I.bare,⟨I.base.keep,I.base.slot,fun b q h1 h2 h3=>gf (I.base.free b q h1 h2 h3),I.base.there,fun b xs q=>gi (I.base.tups b xs q) (fun _ z=>nomatch z) (fun _ z=>nomatch z),
  fun b q1 v q=>gi (I.base.frzs b q1 v q) (fun _ z=>nomatch z) (fun _ z=>nomatch z),fun b ps q=>?_⟩,I.loc,I.cell,gf I.free,fun x c q=>gf (I.freeC x c q),fun p hp=>?_,fun b v q=>?_,I.len⟩
 ·obtain⟨m,this⟩:=I.base.tbls b ps q
  exact⟨m,gi this (fun _ z=>nomatch z) (fun _ z=>nomatch z)⟩
 ·obtain⟨h1,h2,h3⟩:=I.pin p hp
  exact⟨h1,gf h2,h3⟩
 ·have st:∀{c:Addr}{v:HO},ObjOk X.prog X.w H s.heap c v→ObjOk X.prog X.w (L3.refA s.heap P H) s.heap c v:=fun {c v} k=>k.stay (fun _ _ _ q=>q)
   (fun c' q=>gi q (fun _ z=>nomatch z) (fun _ z=>nomatch z)) fun c' xs q=>gi q (fun _ z=>nomatch z) (fun _ z=>nomatch z)
  cases e:H b with
  |none=>rw[gf e] at q;cases q
  |some o=>
   rcases oN (P:=P) (h:=s.heap) e with z | ⟨hu,hp,z⟩
   ·rw[z] at q;cases q;exact st (I.hok b _ e)
   ·rw[z] at q
    cases q
    obtain⟨ob,hob⟩:=obj b o e hu
    rw[hob]
    exact⟨hob,st (I.hok b o e)⟩
def unA (P:Addr→Prop) [DecidablePred P] (H:Hp):Hp:=fun b=>if P b then(match H b with | some (.frz _ u)=>some u | x=>x) else H b
theorem Inv.unA (I:Inv X pins σ H s) (hP:∀b,P b→∀o u,X.H₀ b≠some (.frz o u)) (hQ:∀b,P b→∀o u,H b=some (.frz o u)→(∃k,u= .dT k)∨∃k,u= .dK k):Inv X pins σ (L3.unA P H) s:=by
 have non:∀b,H b=none→L3.unA P H b=none:=fun b e=>by unfold L3.unA;rw[e];split<;>rfl
 have keep:∀b o,H b=some o→(∀q u,o≠ .frz q u)→L3.unA P H b=some o:=fun b o e n=>by
  unfold L3.unA;split
  ·rw[e];cases o<;>first | rfl | exact absurd rfl (n _ _)
  ·exact e
 refine⟨I.ok,I.os,I.bare,⟨I.base.keep,I.base.slot,fun b q h1 h2 h3=>non b (I.base.free b q h1 h2 h3),I.base.there,fun b xs q=>keep b _ (I.base.tups b xs q) (fun _ _ z=>nomatch z),
  fun b q1 v q=>?_,fun b ps q=>?_⟩,I.loc,I.cell,non _ I.free,fun x c q=>non _ (I.freeC x c q),fun p hp=>?_,fun b v q=>?_,I.len⟩
 ·have:=I.base.frzs b q1 v q
  unfold L3.unA
  rw[if_neg (fun hp=>hP b hp q1 v q)]
  exact this
 ·obtain⟨m,this⟩:=I.base.tbls b ps q
  exact⟨m,keep b _ this (fun _ _ z=>nomatch z)⟩
 ·obtain⟨h1,h2,h3⟩:=I.pin p hp
  exact⟨h1,non _ h2,h3⟩
 ·have st:∀{c:Addr}{v:HO},ObjOk X.prog X.w H s.heap c v→ObjOk X.prog X.w (L3.unA P H) s.heap c v:=fun {c v} k=>k.stay (fun _ _ _ q=>q)
   (fun c' q=>keep c' _ q (fun _ _ z=>nomatch z)) fun c' xs q=>keep c' _ q (fun _ _ z=>nomatch z)
  cases e:H b with
  |none=>rw[non b e] at q;cases q
  |some o=>
   have ko:=I.hok b o e
   by_cases hf:∃ob u,o= .frz ob u
   ·obtain⟨ob,u,rfl⟩:=hf
    unfold L3.unA at q
    split at q
    ·rw[e] at q
     cases q
     obtain⟨_,k2⟩:=ko
     exact st k2
    ·rw[e] at q;cases q;exact st ko
   ·rw[keep b o e (fun q u z=>hf ⟨q,u,z⟩)] at q
    cases q
    exact st ko
end
mutual
def tK:D→Bool
 | .non=>true
 | .bl _=>true
 | .int _=>true
 | .str _=>true
 | .tup ds=>vB ds
 | .raw _=>false
 | .exc _=>false
 | .scr _=>false
 | .lst _=>false
 | .dct _ _=>false
 | .dci _ _=>false
def vB:List D→Bool
 |[]=>true
 |d::ds=>tK d&&vB ds
end
def mW (d:D):M D:=if tK d then M.ret d else M.stuck
end L3
namespace L3
open PySem PySem.Spec L2
open PyProof.Rows hiding St
def OwnAt (σ:St) (ρ:Rho) (b:Addr):Prop:=∃(i:Nat) (c:C),ρ[i]? =some (some (Sl.ow c))∧σ[i]? =some (some (V.ref b))
section
variable {K : PySem.W.Frag} {F H F' H' : Hp} {σ : St} {ρ : Rho} {h : Heap} {b : Addr}
theorem OwnAt.obj (S:StE K F H σ ρ) (p:OwnAt σ ρ b):F b=none∧∃o,H b=some o∧((∃x,o= .lst x)∨(∃x,o= .dT x)∨∃x,o= .dK x):=by
 obtain⟨i,c,h1,h2⟩:=p
 obtain⟨v,h3,a,o,rfl,h4,h5,h6⟩:=S.den i _ h1
 rw[h3] at h2
 cases h2
 refine⟨h5,o,h4,?_⟩
 cases c with
 |lst ds=>obtain⟨vs,rfl,_⟩:=h6;exact .inl ⟨_,rfl⟩
 |dct ks ds=>obtain⟨vs,rfl,_⟩:=h6;exact .inr (.inl ⟨_,rfl⟩)
 |dci ks ds=>obtain⟨vs,rfl,_⟩:=h6;exact .inr (.inr ⟨_,rfl⟩)
open Classical in
noncomputable def fA (σ:St) (ρ:Rho) (H1 F:Hp):Hp:=fun b=>if OwnAt σ ρ b then H1 b else F b
open Classical in
theorem vx (S:StE K F H σ ρ) {H1:Hp}:Same F (fA σ ρ H1 F):=fun b u e=>by
 unfold fA
 rw[if_neg (fun p=>by rw[(OwnAt.obj S p).1] at e;cases e)]
 exact e
open Classical in
theorem uL (S:StE K F H σ ρ):StE K (fA σ ρ (refA h (OwnAt σ ρ) H) F) (refA h (OwnAt σ ρ) H) σ (frA ρ):=by
 refine⟨fun b u e=>?_,fun j sl e=>?_⟩
 ·unfold fA at e
  split at e
  ·exact e
  ·rename_i hp
   unfold refA
   rw[if_neg hp]
   exact S.fh b u e
 ·unfold frA at e
  rw[List.getElem?_map] at e
  cases q:ρ[j]? with
  |none=>rw[q] at e;cases e
  |some x=>
   rw[q] at e
   cases x with
   |none=>cases e
   |some y=>
    cases y with
    |fz d=>
     cases e
     obtain⟨v,h1,h2⟩:=S.den j _ q
     exact⟨v,h1,Den.mono (vx S) h2⟩
    |ow c=>
     cases e
     obtain⟨v,h1,a,o,rfl,h4,h5,h6⟩:=S.den j _ q
     refine⟨_,h1,DenC.den (ob:=(h.get? a).getD {cls:= .none,data:= .fields #[]}) h6 (vx S) ?_⟩
     have hp:OwnAt σ ρ a:=⟨j,c,q,h1⟩
     unfold fA refA
     rw[if_pos hp,if_pos hp,h4]
     rfl
open Classical in
theorem mQ (S:StE K F H σ ρ) (E:Ext (fA σ ρ (refA h (OwnAt σ ρ) H) F) (refA h (OwnAt σ ρ) H) F' H'):
 Ext F H (fun b=>if OwnAt σ ρ b then none else F' b) (unA (OwnAt σ ρ) H')∧∀b,OwnAt σ ρ b→∀o u,H' b=some (.frz o u)→(∃k,u= .dT k)∨∃k,u= .dK k:=by
 have at1:∀b,OwnAt σ ρ b→∃o,H b=some o∧H' b=some (ll ((h.get? b).getD {cls:= .none,data:= .fields #[]}) o)∧((∃x,o= .lst x)∨(∃x,o= .dT x)∨∃x,o= .dK x):=fun b hp=>by
  obtain⟨_,o,h1,h2⟩:=OwnAt.obj S hp
  refine⟨o,h1,E.hh b _ ?_,h2⟩
  unfold refA
  rw[if_pos hp,h1]
  rfl
 refine⟨⟨fun b o e=>?_,fun b u e=>?_,fun b u e=>?_,fun b hb=>?_⟩,fun b hp o u e=>?_⟩
 ·unfold unA
  by_cases hp:OwnAt σ ρ b
  ·obtain⟨o',h1,h2,h3⟩:=at1 b hp
   rw[e] at h1
   cases h1
   rw[if_pos hp,h2]
   rcases h3 with⟨x,rfl⟩ | ⟨x,rfl⟩ | ⟨x,rfl⟩<;>rfl
  ·rw[if_neg hp]
   refine E.hh b o ?_
   unfold refA
   rw[if_neg hp]
   exact e
 ·have hp:¬OwnAt σ ρ b:=fun p=>by rw[(OwnAt.obj S p).1] at e;cases e
  show (if OwnAt σ ρ b then none else F' b)=_
  rw[if_neg hp]
  refine E.ff b u ?_
  unfold fA
  rw[if_neg hp]
  exact e
 ·have e:(if OwnAt σ ρ b then none else F' b)=some u:=e
  split at e
  ·cases e
  ·rename_i hp
   unfold unA
   rw[if_neg hp]
   exact E.fh b u e
 ·show (if OwnAt σ ρ b then none else F' b)=F b∨_
  by_cases hp:OwnAt σ ρ b
  ·rw[if_pos hp]
   exact .inl (OwnAt.obj S hp).1.symm
  ·rw[if_neg hp]
   have e1:refA h (OwnAt σ ρ) H b=H b:=by unfold refA;rw[if_neg hp]
   have e2:fA σ ρ (refA h (OwnAt σ ρ) H) F b=F b:=by unfold fA;rw[if_neg hp]
   rcases E.new b (by rw[e1];exact hb) with q | q
   ·exact .inl (q.trans e2)
   ·rw[e1] at q;exact .inr q
 ·obtain⟨o',h1,h2,h3⟩:=at1 b hp
  rw[e] at h2
  rcases h3 with⟨x,rfl⟩ | ⟨x,rfl⟩ | ⟨x,rfl⟩
  ·cases h2
  ·cases h2;exact .inl ⟨_,rfl⟩
  ·cases h2;exact .inr ⟨_,rfl⟩
open Classical in
mutual
theorem rp (S:StE K F H σ ρ) (E:Ext (fA σ ρ (refA h (OwnAt σ ρ) H) F) (refA h (OwnAt σ ρ) H) F' H'):∀{d:D}{v:V},tK d=true→Den K F' d v→Den K (fun b=>if OwnAt σ ρ b then none else F' b) d v
 | .non,_,_,q=>q
 | .bl _,_,_,q=>q
 | .int _,_,_,q=>q
 | .str _,_,_,q=>q
 | .tup ds,_,f,⟨a,vs,h1,h2,h3,h4⟩=>by
   refine⟨a,vs,h1,?_,ot S E ?_ h3,h4⟩
   ·show (if OwnAt σ ρ a then none else F' a)=_
    rw[if_neg,h2]
    intro hp
    obtain⟨_,o,k1,k2⟩:=OwnAt.obj S hp
    have k3:fA σ ρ (refA h (OwnAt σ ρ) H) F a=some (ll ((h.get? a).getD {cls:= .none,data:= .fields #[]}) o):=by
     unfold fA refA
     rw[if_pos hp,if_pos hp,k1]
     rfl
    have k4:=E.ff a _ k3
    rw[h2] at k4
    rcases k2 with⟨x,rfl⟩ | ⟨x,rfl⟩ | ⟨x,rfl⟩<;>cases k4
   ·exact f
 | .raw _,_,f,_=>by cases f
 | .exc _,_,f,_=>by cases f
 | .scr _,_,f,_=>by cases f
 | .lst _,_,f,_=>by cases f
 | .dct _ _,_,f,_=>by cases f
 | .dci _ _,_,f,_=>by cases f
theorem ot (S:StE K F H σ ρ) (E:Ext (fA σ ρ (refA h (OwnAt σ ρ) H) F) (refA h (OwnAt σ ρ) H) F' H'):∀{ds:List D}{vs:List V},vB ds=true→DenL K F' ds vs→DenL K (fun b=>if OwnAt σ ρ b then none else F' b) ds vs
 |[],_,_,q=>q
 |d::ds,_,f,⟨v,r,h1,h2,h3⟩=>by
  unfold vB at f
  rw[Bool.and_eq_true] at f
  exact⟨v,r,h1,rp S E f.1 h2,ot S E f.2 h3⟩
end
end
section
variable {X : Cx} {Xw : Nat → Hp → Prop} {e : Expr} {δ : DE} {τ : DT}
theorem ki {pins:List (Addr×Obj)}{s:Shared}{F H:Hp}{σ:St}{ρ:Rho}(I:Inv X pins σ H s) (S:StE X.K F H σ ρ) (b:Addr) (p:OwnAt σ ρ b) (o:Obj) (u:HO):X.H₀ b≠some (.frz o u):=fun z=>by
 obtain⟨_,o',k1,k2⟩:=OwnAt.obj S p
 have:=I.base.frzs b o u z
 rw[k1] at this
 rcases k2 with⟨x,rfl⟩ | ⟨x,rfl⟩ | ⟨x,rfl⟩<;>cases this
theorem iV {α:Type}(m:M α):noex m=M.stuck∨∃a,m=M.ret a∧noex m=M.ret a:=by
 rcases m.cs with h | ⟨n,h⟩ | ⟨a,h⟩
 ·subst h;exact .inl rfl
 ·subst h;exact .inl rfl
 ·subst h;exact .inr ⟨a,rfl,rfl⟩
theorem uI (h:PDT X Xw e τ):PDT X Xw e (fun ρ=>noex (τ (frA ρ))):=fun pins s σ H Q I ⟨F,ρ,S,w⟩=>by
 classical
 rcases iV (τ (frA ρ)) with q | ⟨b,q,q2⟩
 ·have w:WPB Xw F H (noex (τ (frA ρ))) Q:=w
  rw[q] at w
  exact w.elim
 ·have w:WPB Xw F H (noex (τ (frA ρ))) Q:=w
  rw[q2] at w
  refine thn (h pins s σ _ (fun b' H'=>Q b' (unA (OwnAt σ ρ) H')∧∀c,OwnAt σ ρ c→∀o u,H' c=some (.frz o u)→(∃k,u= .dT k)∨∃k,u= .dK k) (Inv.refA (P:=OwnAt σ ρ) I) ⟨_,_,uL (h:=s.heap) S,?_⟩) fun b' s' ⟨H',I',q1,q3⟩=>⟨_,Inv.unA I' (ki I S) q3,q1⟩
  rw[q]
  intro H' F' E
  obtain⟨E1,q3⟩:=mQ S E
  exact⟨w _ _ E1,q3⟩
theorem DP (h:PD X Xw e δ):PD X Xw e (fun ρ=>noex (δ (frA ρ))>>=mW):=fun pins s σ H Q I ⟨F,ρ,S,w⟩=>by
 classical
 rcases iV (δ (frA ρ)) with q | ⟨d,q,q2⟩
 ·have w:WP X.K Xw F H (noex (δ (frA ρ))>>=mW) Q:=w
  rw[q] at w
  exact w.elim
 ·have w:WP X.K Xw F H (noex (δ (frA ρ))>>=mW) Q:=w
  rw[q2,ar] at w
  unfold mW at w
  split at w
  ·rename_i hf
   refine thn (h pins s σ _ (fun v H'=>Q v (unA (OwnAt σ ρ) H')∧∀c,OwnAt σ ρ c→∀o u,H' c=some (.frz o u)→(∃k,u= .dT k)∨∃k,u= .dK k) (Inv.refA (P:=OwnAt σ ρ) I) ⟨_,_,uL (h:=s.heap) S,?_⟩) fun b' s' ⟨v,H',I',rv,q1,q3⟩=>⟨v,_,Inv.unA I' (ki I S) q3,rv,q1⟩
   rw[q]
   intro v H' F' E dn
   obtain⟨E1,q3⟩:=mQ S E
   exact⟨w _ _ _ E1 (rp S E hf dn),q3⟩
  ·exact w.elim
end
end L3
namespace L3
open PySem PySem.Spec L2
open PyProof.Rows hiding St
abbrev DF:=Rho→M C
def WPF (K:PySem.W.Frag) (Xw:Nat→Hp→Prop) (F H:Hp) (m:M C) (Q:VK):Prop:=
 match m with
 |none=>False
 |some (.ok c)=>∀a o H' F',Ext F H F' H'→H' a=some o→F' a=none→H a=none→DenC K F' c o→Q (.ref a) H'
 |some (.ex n)=>∀F' H',Ext F H F' H'→Xw n H'
def tDF (K:PySem.W.Frag) (Xw:Nat→Hp→Prop) (δ:DF):TE:=fun σ H Q=>∃F ρ,StE K F H σ ρ∧WPF K Xw F H (δ ρ) Q
def PDF (X:Cx) (Xw:Nat→Hp→Prop) (e:Expr) (δ:DF):Prop:=PE X e (tDF X.K Xw δ)
def ph (i:Nat) (δ:DF):DS:=fun ρ=>δ ρ>>=fun c=>M.ret (.nx (ρ.set i (some (.ow c))))
theorem StOk.setFresh {K:PySem.W.Frag}{F₀ H₀ F H F' H':Hp}{σ:St}{ρ:Rho}(s:StOk K F₀ H₀ F H σ ρ) {i:Nat}{a:Addr}{o:HO}{c₀:C}(E:Ext F H F' H') (ho:H' a=some o) (nF:F' a=none) (n:H a=none) (h:DenC K F' c₀ o):
 StOk K F₀ H₀ F' H' (σ.set i (some (.ref a))) (ρ.set i (some (.ow c₀))):=by
 have hle:=s.len
 have get:∀(j:Nat) (sl:Sl),(ρ.set i (some (.ow c₀)))[j]? =some (some sl)→(j=i∧i<ρ.length∧sl= .ow c₀)∨(j≠i∧ρ[j]? =some (some sl)):=fun j sl e=>by
  by_cases hj:j=i
  ·subst hj
   have hi:j<ρ.length:=by
    have:=(List.getElem?_eq_some_iff.mp e).1
    simpa using this
   rw[List.getElem?_set_self hi] at e
   cases e
   exact .inl ⟨rfl,hi,rfl⟩
  ·rw[List.getElem?_set_ne (Ne.symm hj)] at e
   exact .inr ⟨hj,e⟩
 have old:∀(j:Nat) (c:C) (b:Addr),ρ[j]? =some (some (.ow c))→σ[j]? =some (some (.ref b))→b≠a:=fun j c b e e' z=>by
  obtain⟨u,h1,b',o,h2,h3,_⟩:=s.st.den j _ e
  rw[h1] at e'
  cases e'
  cases h2
  rw[z,n] at h3
  cases h3
 refine⟨s.ext.trans E,⟨E.fh,fun j sl e=>?_⟩,by simp[hle],fun j c b e e'=>?_,fun j k c c' b e1 e2 e3 e4=>?_⟩
 ·rcases get j sl e with⟨rfl,hi,rfl⟩ | ⟨hj,e⟩
  ·exact⟨.ref a,by rw[List.getElem?_set_self (by omega)],a,_,rfl,ho,nF,h⟩
  ·obtain⟨u,h1,h2⟩:=s.st.den j sl e
   exact⟨u,by rw[List.getElem?_set_ne (Ne.symm hj)];exact h1,h2.ext E⟩
 ·rcases get j _ e with⟨rfl,hi,_⟩ | ⟨hj,e⟩
  ·rw[List.getElem?_set_self (by omega)] at e'
   cases e'
   exact Same.free s.ext.hh n
  ·rw[List.getElem?_set_ne (Ne.symm hj)] at e'
   exact s.own j c b e e'
 ·rcases get j _ e1 with⟨rfl,hi,_⟩ | ⟨hj,e1⟩
  ·rw[List.getElem?_set_self (by omega)] at e3
   cases e3
   rcases get k _ e2 with⟨rfl,_,_⟩ | ⟨hk,e2⟩
   ·rfl
   ·rw[List.getElem?_set_ne (Ne.symm hk)] at e4
    exact absurd rfl (old k c' a e2 e4)
  ·rcases get k _ e2 with⟨hki,hi,_⟩ | ⟨hk,e2⟩
   ·rw[hki,List.getElem?_set_self (by omega)] at e4
    cases e4
    rw[List.getElem?_set_ne (Ne.symm hj)] at e3
    exact absurd rfl (old j c a (by assumption) e3)
   ·rw[List.getElem?_set_ne (Ne.symm hj)] at e3
    rw[List.getElem?_set_ne (Ne.symm hk)] at e4
    exact s.sep j k c c' b e1 e2 e3 e4
theorem WPF.mono {K:PySem.W.Frag}{Xw:Nat→Hp→Prop}{F H:Hp}{m:M C}{Q Q':VK}(h:WPF K Xw F H m Q) (k:∀v H',Q v H'→Q' v H'):WPF K Xw F H m Q':=by
 match m,h with
 |none,h=>exact h
 |some (.ok d),h=>exact fun a o H' F' e h1 h2 h3 h4=>k _ _ (h a o H' F' e h1 h2 h3 h4)
 |some (.ex n),h=>exact h
theorem WPF.ext {K:PySem.W.Frag}{Xw:Nat→Hp→Prop}{F H F1 H1:Hp}{m:M C}{Q:VK}(e:Ext F H F1 H1) (h:WPF K Xw F H m Q):WPF K Xw F1 H1 m Q:=by
 match m,h with
 |none,h=>exact h
 |some (.ok d),h=>exact fun a o H' F' e' h1 h2 h3 h4=>h a o H' F' (e.trans e') h1 h2 (Same.free e.hh h3) h4
 |some (.ex n),h=>exact fun F2 H2 e2=>h F2 H2 (e.trans e2)
theorem WPF.bind {K:PySem.W.Frag}{Xw:Nat→Hp→Prop}{F H:Hp}{m:M D}{k:D→M C}{Q:VK}(h:WPF K Xw F H (m>>=k) Q):WP K Xw F H m fun v H1=>∃F1 d,Ext F H F1 H1∧Den K F1 d v∧WPF K Xw F1 H1 (k d) Q:=by
 match m,h with
 |none,h=>exact h
 |some (.ok d),h=>exact fun v H2 F2 e2 q=>⟨F2,d,e2,q,WPF.ext e2 (show WPF K Xw F H (k d) Q from h)⟩
 |some (.ex n),h=>exact h
theorem WPF.bindL {K:PySem.W.Frag}{Xw:Nat→Hp→Prop}{F H:Hp}{m:M (List D)}{k:List D→M C}{Q:VK}(h:WPF K Xw F H (m>>=k) Q):WPL K Xw F H m fun v H1=>∃F1 d,Ext F H F1 H1∧DenL K F1 d v∧WPF K Xw F1 H1 (k d) Q:=by
 match m,h with
 |none,h=>exact h
 |some (.ok d),h=>exact fun v H2 F2 e2 q=>⟨F2,d,e2,q,WPF.ext e2 (show WPF K Xw F H (k d) Q from h)⟩
 |some (.ex n),h=>exact h
section
variable {X : Cx} {Xw : Nat → Hp → Prop} {e k v a b : Expr} {es : List Expr} {δ δ' : DF} {δk δv δa δb : DE} {δs : DA} {pos pos' p : Pos} {x : Str} {i : Nat}
theorem sd (hN:X.N.Nodup) (hi:X.N[i]? =some x) (hx:Loc X.env.scope x) (he:PDF X Xw e δ) (hf:X.fn x=true∨X.env.scope.names.lookup x=some .local:=by first | exact .inl rfl | exact .inr rfl)
 (hs:swapsWithSole [.Name x pos'] e pos.line X.env=pure false:=by rfl):
 PSD X Xw (.Assign [.Name x pos'] e pos) (ph i δ):=fun F₀ H₀=>PS.weak (qF he (a9 hN hi hx hf) hs) fun D σ H ⟨F,ρ,s,w⟩=>by
 refine⟨F,ρ,s.st,?_⟩
 unfold ph at w
 match δ ρ,w with
 |none,w=>exact w
 |some (.ok c),w=>exact fun a o H' F' E h1 h2 h3 h4=>w _ F' H' (s.setFresh E h1 h2 h3 h4)
 |some (.ex n),w=>exact fun F' H' e'=>w F' H' (s.ext.trans e')
theorem Ext.fresh {F H:Hp}{p:Addr}{o:HO}(s:Same F H) (hp:H p=none):Ext F H F (upd H p o)∧F p=none:=⟨Ext.free s hp,Same.free s hp⟩
theorem Di {pins:List (Addr×Obj)}{σ:St}{H H':Hp}{s:Shared}{a:Addr}{y v:V}{u r:Value}{A:Around}{E:Value→Shared→Prop}{Q:Unit→Shared→Prop}(hu:A.units+1<cLine) (I:Inv X pins σ H s) (g:DPut H a y v H') (ry:RelV y u) (rv:RelV v r) (h:∀s',Inv X pins σ H' s'→Q () s'):
 wpAny (model X.prog X.w) A (dictSet a u r) Q E s:=by
 rcases g with⟨kvs,k,e,ey,l,eH⟩ | ⟨kvs,k,b,e,ey,eb,l,eH⟩
 ·subst ey eH
  obtain⟨z,hd,vs,rel,dd⟩:=Ba I.hok e
  have hz:vs.length≤sizeLine:=by rw[←rel.length];exact z
  have hl:(putK kvs k v).length≤sizeLine:=by have:=eW kvs k v;omega
  refine wpAny_dictSet_pairs (hsz:=hz) (kW ry) dd fun h' dd' hs=>h _ ?_
  have he:∃q,h'.get? a=some q:=let ⟨q,_,_,hq,_⟩:=dd';⟨q,hq⟩
  exact jA I (by rw[e];exact True.intro) hs he (zc hl hd (rel.put k rv) dd')
 ·subst ey eH
  cases (show u=Value.ref b from ry)
  obtain⟨z,hd,xs,rel,dd⟩:=xk I.hok e
  have hz:xs.length≤sizeLine:=by rw[←Paired.length rel];exact z
  have hl:(putK kvs k v).length≤sizeLine:=by have:=eW kvs k v;omega
  refine wpAny_dictSet_heap (knd:=tupleKind (aP X.prog X.w)) (hsz:=hz) (by exact(show A.units<cLine by omega)) (gx I.hok eb) dd fun h' dd' hs=>h _ ?_
  obtain⟨q,es,ep,hq,h2,h3,h4,_,h5⟩:=dd'
  refine jA I (by rw[e];exact True.intro) hs ⟨q,hq⟩ ⟨hl,hd,_,(rel.put k eb rv).keeps fun c ys ec=>?_,q,es,ep,hq,h2,h3,h4,h5⟩
  rw[av (yn ec e (fun z=>nomatch z))]
  exact ec
end
end L3
namespace L3
open PySem PySem.Spec L2
open PyProof.Rows hiding St
section
variable {X : Cx} {Xw : Nat → Hp → Prop} {e k v a b : Expr} {es : List Expr} {δk δv δa δb : DE} {δs : DA} {pos pos' p : Pos} {x : Str} {i : Nat}
theorem y_ {o0:HO}{put:Hp→Addr→V→V→Hp→Prop}(hu:X.A.units+1<cLine) (h0:∀(H:Hp) (h:Heap),sysModules<h.objs.size→ObjOk X.prog X.w H (h.push {cls:= .type "dict",data:= .dict #[]}) h.objs.size o0) {tk tv:TE}(hk:PE X k tk) (hv:PE X v tv):
 PE X (.Dict [some k] [v] pos) (fun σ H Q=>∀p,H p=none→tk σ (upd H p o0) fun y H1=>tv σ H1 fun z H2=>∃H3,DPut H2 p y z H3∧Q (.ref p) H3):=by
 intro pins s σ H Q I q
 have hn:=I.hok.fresh (Nat.le_refl s.heap.objs.size)
 have I1:=I.laid (a:=s.heap.objs.size) (o:=o0) (h':=s.heap.push {cls:= .type "dict",data:= .dict #[]}) (t':=s.toks) (fun _ _ q=>Heap.get?_push_of_some _ q) (Nat.le_refl _) (h0 _ s.heap I.big)
 refine wpAny_Dict_any rfl rfl (by simp) (by simp) (thn (xm hk hv AG pins _ σ _ (fun ps H2=>∃y z H3,ps=[(y,z)]∧DPut H2 s.heap.objs.size y z H3∧Q (.ref s.heap.objs.size) H3) I1 ?_) fun ws s2 ⟨ps,H2,I2,rel,y,z,H3,ep,g,q2⟩=>?_)
 ·refine ?_
  have:=q _ hn
  show tk σ _ fun y H1=>tv σ H1 fun z H2=>∃y' z' H3,[(y,z)]=[(y',z')]∧DPut H2 s.heap.objs.size y' z' H3∧Q (.ref s.heap.objs.size) H3
  have e:(fun (y:V) (H1:Hp)=>tv σ H1 fun z H2=>∃y' z' H3,[(y,z)]=[(y',z')]∧DPut H2 s.heap.objs.size y' z' H3∧Q (.ref s.heap.objs.size) H3)=(fun y H1=>tv σ H1 fun z H2=>∃H3,DPut H2 s.heap.objs.size y z H3∧Q (.ref s.heap.objs.size) H3):=by
   funext y H1
   congr 1
   funext z H2
   refine propext ⟨fun ⟨y',z',H3,ee,r⟩=>?_,fun⟨H3,r⟩=>⟨y,z,H3,rfl,r⟩⟩
   cases ee
   exact⟨H3,r⟩
  rw[e]
  exact this
 ·subst ep
  cases rel with
  | @cons a b as bs h t=>
    cases t
    obtain⟨r1,r2⟩:=h
    unfold storeAll
    rw[List.forIn_cons]
    refine wpAny_bind (wpAny_bind (Di hu I2 g r1 r2 fun s3 I3=>?_))
    refine wpAny_pure ?_
    show wpAny _ _ (forIn ([]:List (Value×Value)) PUnit.unit _) _ _ _
    rw[List.forIn_nil]
    exact wpAny_pure ⟨V.ref s.heap.objs.size,_,I3,rfl,q2⟩
def oS (k v:D):M C:=match dX k with
 |some kk=>M.ret (.dct [kk] [v])
 |none=>M.stuck
theorem xg (hu:X.A.units+64<cLine) (hk:PD X Xw k δk) (hv:PD X Xw v δv):PDF X Xw (.Dict [some k] [v] pos) (fun ρ=>δk ρ>>=fun x=>δv ρ>>=fun y=>oS x y):=
 PE.weak (y_ (o0:= .dT []) (put:=DPut) (by omega) (fun H h hb=>sV h hb) hk hv) fun σ H Q ⟨F,ρ,s,w⟩ q hq=>by
  have e0:=Ext.free (o:= .dT []) s.fh hq
  refine⟨F,ρ,s.ext e0,?_⟩
  have w:WPF X.K Xw F H (δk ρ>>=fun x=>δv ρ>>=fun y=>oS x y) Q:=w
  match hk':δk ρ,w with
  |none,w=>exact w
  |some (.ex n),w=>exact fun F' H' e'=>w F' H' (e0.trans e')
  |some (.ok kd),w=>
   intro y H1 F1 e1 q1
   refine⟨F1,ρ,(s.ext e0).ext e1,?_⟩
   have w:WPF X.K Xw F H (δv ρ>>=fun y=>oS kd y) Q:=w
   match hv':δv ρ,w with
   |none,w=>exact w
   |some (.ex n),w=>exact fun F' H' e'=>w F' H' (e0.trans (e1.trans e'))
   |some (.ok vd),w=>
    intro z H2 F2 e2 q2
    have w3:WPF X.K Xw F H (oS kd vd) Q:=w
    clear w
    unfold oS at w3
    cases hkk:dX kd with
    |none=>rw[hkk] at w3;exact w3.elim
    |some kk=>
     rw[hkk] at w3
     have E:=e1.trans e2
     have hp2:H2 q=some (.dT []):=E.hh _ _ aF
     have hF2:F2 q=none:=by
      have:=E.old (a:=q) (o:= .dT []) aF (fun _ z=>nomatch z)
      rw[this]
      exact Same.free s.fh hq
     unfold dX at hkk
     split at hkk
     ·rename_i es
      obtain⟨b,ws,rfl,k2,k3,_⟩:=Den.mono e2.ff q1
      have e5:=gc hkk k3
      subst e5
      refine⟨_,DPut.t (k:=kk) hp2 (e2.fh _ _ k2) (by rw[sizeLine_eq];decide),?_⟩
      refine w3 q (.dT (putK [] kk z)) _ F2 ⟨fun c u hc=>?_,(e0.trans E).ff,fun c u hc=>?_,(e0.trans E).new⟩ aF hF2 hq ⟨[z],rfl, .cons q2 .nil,rfl,show 1≤lim by decide⟩
      ·rw[av (fun zz=>by rw[zz,hq] at hc;cases hc)]
       exact(e0.trans E).hh c u hc
      ·rw[av (fun zz=>by rw[zz,hF2] at hc;cases hc)]
       exact e2.fh c u hc
     ·cases hkk
theorem qN {K:PySem.W.Frag}{F H:Hp}{d k:D}{x y:V}{o:Option D}(s:Same F H) (hd:Den K F d x) (hk:Den K F k y) (e:atD d k=some o):
 ∃a ov,x= .ref a∧iY H a y ov∧ov.isSome=o.isSome∧∀d',o=some d'→∃v,ov=some v∧Den K F d' v:=by
 obtain⟨a,ov,h1,h2,h3,h4⟩:=vc (σ:=[some x]) (ρ:=[some (.fz d)]) (i:=0) (H:=H) ⟨s,fun i sl q=>by
  match i,q with
  |0,q=>cases q;exact⟨x,rfl,hd⟩
  |i+1,q=>simp at q⟩ rfl hk e
 cases h1
 exact⟨a,ov,rfl,h2,h3,h4⟩
def nV (neg:Bool) (k d:D):M D:=match atD d k with
 |some o=>M.ret (.bl (if neg then !o.isSome else o.isSome))
 |none=>M.stuck
def DU (neg:Bool):R2:=fun y x H Q=>∃a o,x= .ref a∧iY H a y o∧Q (.bl (if neg then !o.isSome else o.isSome)) H
theorem wm (hu:X.A.units+64<cLine):OpR X (compareOp .NotIn) (DU true):=fun pins s σ H y x v u Q I ry rx ⟨a,o,ex,g,q⟩=>by
 subst ex
 obtain rfl:u=Value.ref a:=rx
 exact An (by omega) I g ry fun s' I'=>⟨.bl (!o.isSome),_,I',rfl,q⟩
theorem Ax {K:PySem.W.Frag}{neg:Bool}:OpD K (DU neg) (nV neg):=fun Xw F H y x dk dd Q s hk hd w=>by
 unfold nV at w
 cases he:atD dd dk with
 |none=>rw[he] at w;exact w.elim
 |some o=>
  rw[he] at w
  obtain⟨a,ov,h1,h2,h3,_⟩:=qN s hd hk he
  refine⟨a,ov,h1,h2,?_⟩
  rw[h3]
  exact WP.now w s rfl
theorem om (hu:X.A.units+64<cLine) (ha:PD X Xw a δa) (hb:PD X Xw b δb) (hm:behindInMarks .NotIn b=false:=by rfl):PDT X Xw (.Compare a [.NotIn] [b] pos) (tB' (d2 (nV true) δa δb)):=gw (wm hu) Ax ha hb hm
def dw (d k:D):M D:=match atD d k with
 |some (some v)=>M.ret v
 |_=>M.stuck
theorem g6 (hu:X.A.units+64<cLine) (ha:PD X Xw a δa) (hb:PD X Xw b δb) (hs:BU b:=by intro _ _;rfl):PD X Xw (.Subscript a b pos) (d2 dw δa δb):=
 PE.weak (z_ (by omega) ha hb hs) fun σ H Q ⟨F,ρ,s,w⟩=>by
  refine⟨F,ρ,s,WP.mono (WP.bind w) fun x H1 ⟨F1,d,e1,q1,w1⟩=>?_⟩
  refine⟨F1,ρ,s.ext e1,WP.mono (WP.bind w1) fun y H2 ⟨F2,k,e2,q2,w2⟩=>?_⟩
  unfold dw at w2
  cases he:atD d k with
  |none=>rw[he] at w2;exact w2.elim
  |some o=>
   cases o with
   |none=>rw[he] at w2;exact w2.elim
   |some d'=>
    rw[he] at w2
    obtain⟨a,ov,h1,h2,h3,h4⟩:=qN e2.fh (Den.mono e2.ff q1) q2 he
    obtain⟨v,rfl,hd⟩:=h4 d' rfl
    exact⟨a,v,h1,h2,WP.now w2 e2.fh hd⟩
end
end L3
namespace L3
open PySem PySem.Spec L2
open PyProof.Rows hiding St
section
variable {X : Cx} {pins : List (Addr × Obj)} {σ : St} {H : Hp} {s : Shared} {h' : Heap}
theorem Inv.turnedLaid {t':Nat}{ch:List Addr}{a:Addr}{o:HO}(I:Inv X pins σ H s) (k:∀b q,b∉ch→s.heap.get? b=some q→h'.get? b=some q) (hf:∀b∈ch,nY X pins H b) (hp:s.heap.objs.size≤a) (new:ObjOk X.prog X.w (upd H a o) h' a o):
 Inv X pins σ (upd H a o) {s with heap:=h',toks:=t'}:=by
 have hn:=I.hok.fresh hp
 have nit:∀b u,H b=some u→b∉ch:=fun b u e z=>by rw[(hf b z).1] at e;cases e
 refine I.step (g':=s.gens) (d':=s.drawn) (ch:=ch) (fun b hb=>?_) (fun b q _ _ hc e _=>k b q hc e) (fun b q _ _ hc e _=>⟨q.slots,k b q hc e⟩) (fun b q hc e n=>?_)
  (fun b q hc e=>⟨q,k b q hc e⟩) (fun b xs e=>?_) (fun b q u e=>?_) (fun b ps e=>⟨#[],?_⟩) (fun m hm=>?_) (fun b u e=>?_) I.bare
 ·obtain⟨f0,f1,f2,f3,f4,f5⟩:=hf b hb
  exact⟨f3,f1,f4,f5⟩
 ·rw[av (fun z=>by rw[z] at e;exact absurd (Heap.lt_size e) (Nat.not_lt.mpr hp))];exact n
 ·rw[av (bb e hn)];exact e
 ·rw[av (bb e hn)];exact e
 ·rw[av (bb e hn),e];simp
 ·obtain⟨q,es,ep,ho,r⟩:=hm
  exact⟨q,es,ep,k _ q (fun z=>(hf _ z).2.1 rfl) ho,r⟩
 ·by_cases hb:b=a
  ·subst hb;rw[aF] at e;cases e;exact new
  ·rw[av hb] at e
   refine(I.hok b u e).stay (fun c v hc q=>k c v ?_ q) (fun c q=>by rw[av (bb q hn)];exact q) fun c xs q=>by rw[av (bb q hn)];exact q
   rcases hc with z | z
   ·rw[z];exact nit b u e
   ·exact nit c _ z
theorem Inv.turnedL {t':Nat}{ch:List Addr}(I:Inv X pins σ H s) (k:∀b q,b∉ch→s.heap.get? b=some q→h'.get? b=some q) (hf:∀b∈ch,nY X pins H b):Inv X pins σ H {s with heap:=h',toks:=t'}:=by
 have nit:∀b u,H b=some u→b∉ch:=fun b u e z=>by rw[(hf b z).1] at e;cases e
 refine I.step (g':=s.gens) (d':=s.drawn) (ch:=ch) (fun b hb=>?_) (fun b q _ _ hc e _=>k b q hc e) (fun b q _ _ hc e _=>⟨q.slots,k b q hc e⟩) (fun b q hc e n=>n)
  (fun b q hc e=>⟨q,k b q hc e⟩) (fun b xs e=>e) (fun b q u e=>e) (fun b ps e=>⟨#[],by rw[e];simp⟩) (fun m hm=>?_) (fun b u e=>?_) I.bare
 ·obtain⟨f0,f1,f2,f3,f4,f5⟩:=hf b hb
  exact⟨f3,f1,f4,f5⟩
 ·obtain⟨q,es,ep,ho,r⟩:=hm
  exact⟨q,es,ep,k _ q (fun z=>(hf _ z).2.1 rfl) ho,r⟩
 ·refine(I.hok b u e).stay (fun c v hc q=>k c v ?_ q) (fun c q=>q) fun c xs q=>q
  rcases hc with z | z
  ·rw[z];exact nit b u e
  ·exact nit c _ z
end
def Ite (K:PySem.W.Frag) (a:Addr):It:=
 ⟨fun i H=>∃xs x,SqL K H a xs∧xs[i]? =some x,fun i H x H'=>∃p,x= .ref p∧H p=none∧∃v,(∀xs,SqL K H a xs→xs[i]? =some v)∧H'=upd H p (.tup [.int (i:Int),v]),fun i H=>∃xs,SqL K H a xs∧xs.length≤i⟩
theorem v9 {P:Program}{w:World}{K:PySem.W.Frag}{es:List Expr}{x1} {tp:Pos}(l e it:Addr) (hei:e≠it):
 Turn P w K (.Tuple es x1 tp) (Ite K l) [e,it] e (fun i h=>∃old,IsEnum h e it (i:Int) old∧h.IsListIter it l i) where
 mem:=by simp
 obj:=fun i h ⟨old,st1,st2⟩ b hb=>by
  rcases List.mem_cons.mp hb with z | z
  ·subst z;exact⟨_,st1,fun v z=>nomatch z⟩
  ·have z:b=it:=by simpa using z
   subst z
   obtain⟨o,e1,c,d⟩:=st2
   exact⟨o,e1,fun v z=>by rw[d] at z;cases z⟩
 keep:=fun i h h' ⟨old,st1,st2⟩ k=>⟨old,k e (by simp) _ st1,st2.at fun o q=>k it (by simp) o q⟩
 item:=by
  intro X hP hw hK hc i pins s σ H E I hf st hg
  subst hP hw hK
  obtain⟨old,st1,st2⟩:=st
  obtain⟨xs,x,hq,hx⟩:=hg
  obtain⟨its,rv,p,hz⟩:=I.list hq
  obtain⟨u,hu,ru⟩:=rv.get hx
  refine wpAny_pyNext_enum_item st1 st2 p.isList (x:=u) (by simpa using hu) hei fun h1 k1 k2 k3 k4 k5=>?_
  refine⟨_,rfl,wpAny_letOwnedTupleGo_enum k1 fun h2 m1 m2=>?_⟩
  have hne:s.heap.objs.size≠e:=Nat.ne_of_gt (Heap.lt_size st1)
  have tup2:h2.get? s.heap.objs.size=some {cls:= .type "tuple",data:= .seq #[.int i s.toks,u]}:=(m2.2 _ hne).trans k3
  have keep:∀b q,b∉[e,it]→s.heap.get? b=some q→h2.get? b=some q:=fun b q hb e1=>by
   have hb1:b≠e:=fun z=>hb (by simp[z])
   have hb2:b≠it:=fun z=>hb (by simp[z])
   exact(m2.2 b hb1).trans (k5 b q hb1 hb2 e1)
  have I2:Inv X pins σ (upd H s.heap.objs.size (.tup [.int (i:Int),x])) {s with heap:=h2,toks:=s.toks+1}:=by
   refine Inv.turnedLaid (s:=s) I keep hf (Nat.le_refl _) ⟨?_,[.int i s.toks,u], .cons ⟨_,rfl⟩ (.cons ru .nil),_,tup2,rfl,_,rfl⟩
   rw[sizeLine_eq];show 2≤_;decide
  refine⟨.ref s.heap.objs.size,_,I2,rfl,⟨_,rfl,I.hok.fresh (Nat.le_refl _),x,fun ys hy=>by rw[I.list_inj hy hq];exact hx,rfl⟩,⟨u,?_,?_⟩,fun b hb=>?_⟩
  ·have:((i+1:Nat):Int)=(i:Int)+1:=by push_cast;rfl
   rw[this];exact m1
  ·exact k2.at fun o q=>(m2.2 it (Ne.symm hei)).trans q
  ·rw[av (fun z=>by
    rcases List.mem_cons.mp hb with y | y
    ·exact absurd (Heap.lt_size st1) (by rw[←y,z];exact Nat.lt_irrefl _)
    ·have y:b=it:=by simpa using y
     obtain⟨o,q1,_⟩:=id st2
     exact absurd (Heap.lt_size q1) (by rw[←y,z];exact Nat.lt_irrefl _))]
   exact(hf b hb).1
 done:=by
  intro X hP hw hK hc i pins s σ H E I hf st hg
  subst hP hw hK
  obtain⟨old,st1,st2⟩:=st
  obtain⟨xs,hq,hx⟩:=hg
  obtain⟨its,rv,p,hz⟩:=I.list hq
  have hl:=rv.length
  exact wpAny_pyNext_enum_end (I.ok.hd hc) st1 st2 p.isList (by simp;omega) fun h' eb=>⟨rfl,Inv.turnedL (t':=s.toks) (ch:=[it]) I (fun b q hb e1=>eb b q (fun z=>hb (by simp[z])) e1) fun b hb=>hf b (List.mem_cons_of_mem _ hb)⟩
 self:=fun A i s Q E st h=>by
  obtain⟨old,st1,st2⟩:=st
  exact wpAny_pyIter_enum st1 h
theorem xq {K:PySem.W.Frag}{F:Hp}{a:Addr}{vs:List V}{ds:List D}(h:SqL K F a vs) (hd:DenL K F ds vs):ItD K F (Ite K a) (ds.mapIdx fun i d=> .tup [.int (i:Int),d]):=fun F' H' i s1 s2=>by
 have hs:=Same.seq s2 (Same.seq s1 h)
 refine⟨fun d e=>?_,fun hl=>⟨vs,hs,by rw[List.length_mapIdx,hd.len] at hl;exact hl⟩⟩
 rw[List.getElem?_mapIdx] at e
 cases q:ds[i]? with
 |none=>rw[q] at e;cases e
 |some d0=>
  rw[q] at e
  cases e
  obtain⟨v,e1,q1⟩:=hd.get q
  refine⟨⟨vs,v,hs,e1⟩,fun x H'' ⟨p,y1,y2,u,y3,y4⟩=>?_⟩
  subst y1 y4
  have:=y3 vs hs
  rw[e1] at this
  cases this
  have E:=Ext.lay (o:= .tup [.int (i:Int),v]) s2 y2
  exact⟨_,E,p,_,rfl,aF, .cons rfl (.cons (Den.mono E.ff (Den.mono s1 q1)) .nil),by show 2≤lim;decide⟩
section
variable {X : Cx} {Xw : Nat → Hp → Prop} {tg e : Expr} {es : List Expr} {δ δi : DE} {δs : DA} {pos p tp : Pos} {x1 : Nat}
def u6:List D→M (List D)
 |[.lst ds]=>M.ret (ds.mapIdx fun i d=> .tup [.int (i:Int),d])
 |_=>M.stuck
theorem zu (hg:Gl X "enumerate") (hm:X.mg "enumerate"=none) (ha:PDA X Xw [e] δs) (hs:starEach [e] X.env=[(false,eval e X.env)]:=by rfl):PDI X Xw (.Tuple es x1 tp) (.Call (.Name "enumerate" p) [e] [] pos) (fun ρ=>δs ρ>>=u6):=by
 intro pins s σ H R I ⟨F,ρ,S,w⟩
 refine Call_ (kj I hg hm (show bootBuiltins "enumerate"=some (.type "enumerate") from rfl) (PyProof.Rows.callWith_type1 (thn (ha pos pins s σ H (fun vs H1=>∃F1 ds,Ext F H F1 H1∧DenL X.K F1 ds vs∧WPI X.K Xw F1 H1 (u6 ds) R) I ⟨F,ρ,S,WPI.bindL w⟩) fun us s1 ⟨vs,H1,I1,r1,F1,ds,e1,q1,w1⟩=>?_) hs rfl))
 unfold u6 at w1
 split at w1
 ·rename_i ds
  obtain⟨v,rfl,h1⟩:=q1.one
  obtain⟨a,xs,rfl,h2,h3,h4⟩:=h1
  obtain⟨u,rfl,r2⟩:=r1.one
  cases (show u=_ from r2)
  obtain⟨its,rv,pl,hz⟩:=I1.list (SqL.of (K:=X.K) (e1.fh _ _ h2))
  refine call_enumerate_list pl.isList fun h' k1 k2 k3 k4=>?_
  refine wpAny_pyIter_enum k1 ?_
  refine⟨s1.heap.objs.size+1,[s1.heap.objs.size+1,s1.heap.objs.size],_,_,H1,rfl,I1.kept (t':=s1.toks) fun b o e=>k4 b o e,v9 a _ _ (Nat.ne_of_gt (Nat.lt_succ_self _)),⟨.none,k1,k2⟩,fun b hb=>?_,w1 _ _ _ (Ext.refl e1.fh) (xq (SqL.of h2) h3)⟩
  have e:s1.heap.objs.size≤b:=by
   rcases List.mem_cons.mp hb with z | z
   ·rw[z];exact Nat.le_succ _
   ·have z:b=s1.heap.objs.size:=by simpa using z
    rw[z];exact Nat.le_refl _
  exact I1.fpOk e (I1.hok.fresh e)
 ·exact w1.elim
end
end L3
namespace L3
open PySem PySem.Spec L2
open PyProof.Rows hiding St
def AK:Key→D
 | .inl i=> .int i
 | .inr x=> .str x
def A7 (H:Hp) (d:Addr) (od:Obj) (i:Nat) (x:V):Prop:=
 (∃kvs k b,H d=some (.frz od (.dT kvs))∧(kvs.map (·.1))[i]? =some k∧x= .ref b∧H b=some (.tup (k.map kV)))∨
 ∃kvs k,H d=some (.frz od (.dK kvs))∧(kvs.map (·.1))[i]? =some k∧x=kV k
def Itd (d:Addr) (od:Obj):It:=
 ⟨fun i H=>(∃kvs,H d=some (.frz od (.dT kvs))∧i<kvs.length)∨∃kvs,H d=some (.frz od (.dK kvs))∧i<kvs.length,fun i H x H'=>H'=H∧A7 H d od i x,
  fun i H=>(∃kvs,H d=some (.frz od (.dT kvs))∧kvs.length≤i)∨∃kvs,H d=some (.frz od (.dK kvs))∧kvs.length≤i⟩
theorem kx {α β γ:Type}{R:α→β→Prop}{f:α→γ}{g:β→γ}(h:∀a b,R a b→f a=g b):∀{l:List α}{m:List β},Paired R l m→l.map f=m.map g
 |_,_, .nil=>rfl
 |_,_, .cons r t=>by rw[List.map_cons,List.map_cons,h _ _ r,kx h t]
theorem i6 {α β:Type}{R:α→β→Prop}:∀{l:List α}{m:List β}{i:Nat}{a:α},Paired R l m→l[i]? =some a→∃b,m[i]? =some b∧R a b
 |_,_,i,_, .nil,e=>by simp at e
 |_,_,0,_, .cons r t,e=>by simp at e;subst e;exact⟨_,rfl,r⟩
 |_,_,i+1,_, .cons r t,e=>by
  obtain⟨b,e1,e2⟩:=i6 (i:=i) t (by simpa using e)
  exact⟨b,by simpa using e1,e2⟩
theorem wQ {prog:Program}{w:World}{κ:Type} [DecidableEq κ] {knd:KeyKind prog w κ}:∀{es:List DictEntry}{kvs:List (κ×Value)}{i:Nat}{kv:κ×Value},Pairs knd es kvs→kvs[i]? =some kv→∃e,es[i]? =some e∧knd.is kv.1 e.key=true:=by
 intro es kvs i kv h e
 induction h generalizing i with
 |nil=>simp at e
 | @cons en kv' es' kvs' h1 h2 h3 ih=>
   cases i with
   |zero=>simp at e;subst e;exact⟨en,rfl,h1⟩
   |succ i=>
    obtain⟨q,e1,e2⟩:=ih (i:=i) (by simpa using e)
    exact⟨q,by simpa using e1,e2⟩
theorem Cd {k:Key}{u:Value}(h:mi k u=true):RelV (kV k) u:=by
 rcases bQ h with⟨i,t,rfl,rfl⟩ | ⟨x,t,rfl,rfl⟩
 ·exact⟨t,rfl⟩
 ·exact⟨t,rfl⟩
theorem m_ {X:Cx}{pins:List (Addr×Obj)}{σ:St}{H:Hp}{s:Shared}{d:Addr}{od:Obj}{n:Nat}(I:Inv X pins σ H s)
 (h:(∃kvs,H d=some (.frz od (.dT kvs))∧n=kvs.length)∨∃kvs,H d=some (.frz od (.dK kvs))∧n=kvs.length):
 ∃es ep,(d==sysModules)=false∧s.heap.get? d=some od∧od.ExactDict∧od.data= .dict es ep∧es.size=n∧∀i,i<n→∃e x,es[i]? =some e∧RelV x e.key∧A7 H d od i x:=by
 rcases h with⟨kvs,e,rfl⟩ | ⟨kvs,e,rfl⟩
 ·obtain⟨ho,z,lo,xs,rel,o,es,ep,h1,h2,h3,h4,h5⟩:=(show ObjOk X.prog X.w H s.heap d (.frz od (.dT kvs)) from I.hok d _ e)
  rw[ho] at h1
  cases h1
  have hl:es.size=kvs.length:=by
   rw[←Array.length_toList,h4,List.length_map]
   exact(Paired.length rel).symm
  refine⟨es,ep,lo,ho,h2,h3,hl,fun i hi=>?_⟩
  obtain⟨q,e1,e2,e3,e4⟩:=i6 rel (List.getElem?_eq_getElem hi)
  refine⟨entryOfKey (tupleKind (aP X.prog X.w)) q, .ref q.2.1,?_,rfl, .inl ⟨kvs,kvs[i].1,q.2.1,e,?_,rfl,e3⟩⟩
  ·rw[←Array.getElem?_toList,h4,List.getElem?_map,e1]
   rfl
  ·rw[List.getElem?_map,List.getElem?_eq_getElem hi]
   rfl
 ·obtain⟨ho,z,lo,vs,rel,o,es,ep,h1,h2,h3,h4,h5,h6⟩:=(show ObjOk X.prog X.w H s.heap d (.frz od (.dK kvs)) from I.hok d _ e)
  rw[ho] at h1
  cases h1
  have hl:es.size=kvs.length:=by
   rw[←Array.length_toList,h5.length]
   exact(Paired.length rel).symm
  refine⟨es,ep,lo,ho,h2,h3,hl,fun i hi=>?_⟩
  obtain⟨q,e1,e2,e3⟩:=i6 rel (List.getElem?_eq_getElem hi)
  obtain⟨en,e4,e5⟩:=wQ h5 e1
  refine⟨en,kV kvs[i].1,by rw[←Array.getElem?_toList];exact e4,?_, .inr ⟨kvs,kvs[i].1,e,by rw[List.getElem?_map,List.getElem?_eq_getElem hi];rfl,rfl⟩⟩
  rw[e2]
  exact Cd e5
theorem wa {P:Program}{w:World}{K:PySem.W.Frag}{tg:Expr}(d it:Addr) (od:Obj) (es:Array DictEntry) (ep:Nat) (hdd:od.data= .dict es ep):
 Turn P w K tg (Itd d od) [it] it (fun i h=>h.IsKeyIter it d i es.size ep) where
 mem:=by simp
 obj:=fun i h st b hb=>by
  have e:b=it:=by simpa using hb
  subst e
  obtain⟨o,e,c,dd⟩:=st
  exact⟨o,e,fun v z=>by rw[dd] at z;cases z⟩
 keep:=fun i h h' st k=>st.at fun o e=>k it (by simp) o e
 item:=by
  intro X hP hw hK hc i pins s σ H E I hf st hg
  subst hP hw hK
  obtain⟨n,hn,hi⟩:∃n,((∃kvs,H d=some (.frz od (.dT kvs))∧n=kvs.length)∨∃kvs,H d=some (.frz od (.dK kvs))∧n=kvs.length)∧i<n:=by
   rcases hg with⟨kvs,e,hi⟩ | ⟨kvs,e,hi⟩
   ·exact⟨_, .inl ⟨kvs,e,rfl⟩,hi⟩
   ·exact⟨_, .inr ⟨kvs,e,rfl⟩,hi⟩
  obtain⟨es',ep',lo,ho,hx,hd',hsz,hk⟩:=m_ I hn
  rw[hdd] at hd'
  cases hd'
  obtain⟨en,x,e1,rx,ka⟩:=hk i hi
  obtain⟨f0,f1,f2,f3,f4,f5⟩:=hf it (by simp)
  refine sQ st ho hdd e1 fun h' st' sb=>?_
  have I1:Inv X pins σ H {s with heap:=h'}:=I.turned (t':=s.toks) (fun b o hb e=>(sb.2 b hb).trans e) f0 f1 f3 f4 f5
  obtain⟨o,e2,c,dd⟩:=id st'
  exact⟨_,rfl,oH (s:={s with heap:=h'}) e2 c dd (by decide) ⟨x,H,I1,rx,⟨rfl,ka⟩,st',fun b hb=>(hf b hb).1⟩⟩
 done:=by
  intro X hP hw hK hc i pins s σ H E I hf st hg
  subst hP hw hK
  obtain⟨n,hn,hi⟩:∃n,((∃kvs,H d=some (.frz od (.dT kvs))∧n=kvs.length)∨∃kvs,H d=some (.frz od (.dK kvs))∧n=kvs.length)∧n≤i:=by
   rcases hg with⟨kvs,e,hi⟩ | ⟨kvs,e,hi⟩
   ·exact⟨_, .inl ⟨kvs,e,rfl⟩,hi⟩
   ·exact⟨_, .inr ⟨kvs,e,rfl⟩,hi⟩
  obtain⟨es',ep',lo,ho,hx,hd',hsz,hk⟩:=m_ I hn
  rw[hdd] at hd'
  cases hd'
  obtain⟨f0,f1,f2,f3,f4,f5⟩:=hf it (by simp)
  exact pq (I.ok.hd hc) st (by omega) ho hdd fun h' eb=>⟨rfl,I.turned (t':=s.toks) (fun b o hb e=>eb b o hb e) f0 f1 f3 f4 f5⟩
 self:=fun _ _ _ _ _ st h=>wpAny_pyIter_keyiter st h
def tupK (k:List Key):D:= .tup (k.map AK)
def ve:Key→Bool
 | .inl _=>true
 | .inr x=>decide (x.length≤lim)
def kS:D→M (List D)
 | .dct ks _=>if ks.all (fun k=>decide (k.length≤lim)&&k.all ve) then M.ret (ks.map tupK) else M.stuck
 | .dci ks _=>if ks.all ve then M.ret (ks.map AK) else M.stuck
 |_=>M.stuck
theorem rG {K:PySem.W.Frag}{F:Hp}{k:Key}(h:ve k=true):Den K F (AK k) (kV k):=by
 cases k with
 |inl i=>exact rfl
 |inr x=>exact⟨rfl,of_decide_eq_true h⟩
theorem n0 {K:PySem.W.Frag}{F:Hp}:∀{k:List Key},k.all ve=true→DenL K F (k.map AK) (k.map kV)
 |[],_=>rfl
 |x::k,h=>by
  rw[List.all_cons,Bool.and_eq_true] at h
  exact .cons (rG h.1) (n0 h.2)
theorem zp {K:PySem.W.Frag}{F:Hp}{a:Addr}{ob:Obj}{d:D}{ds:List D}(hd:Den K F d (.ref a)) (hF:∃u,F a=some (.frz ob u)) (e:kS d=M.ret ds):ItD K F (Itd a ob) ds:=fun F' H' i s1 s2=>by
 unfold kS at e
 split at e
 ·rename_i ks es
  split at e
  ·rename_i hok
   obtain rfl:=fS e
   obtain⟨a',ob',vs,z,h2,h3,h4,h5⟩:=hd
   cases z
   obtain⟨u,hu⟩:=hF
   rw[h2] at hu
   cases hu
   have hh:=s2 _ _ (s1 _ _ h2)
   have hz:=iz (a:=ks) (b:=vs) (by rw[h4];exact h3.len)
   have hl:(ks.zip vs).length=ks.length:=by rw[←List.length_map (f:=(·.1)),hz]
   refine⟨fun d e=>?_,fun hle=> .inl ⟨_,hh,by rw[hl];simpa using hle⟩⟩
   rw[List.getElem?_map] at e
   cases q:ks[i]? with
   |none=>rw[q] at e;cases e
   |some k=>
    rw[q] at e
    cases e
    have hi:=(List.getElem?_eq_some_iff.mp q).1
    refine⟨.inl ⟨_,hh,by rw[hl];exact hi⟩,fun x H'' ⟨y1,y2⟩=>?_⟩
    subst y1
    have hk:=List.all_eq_true.mp hok k (List.mem_of_getElem? q)
    rw[Bool.and_eq_true] at hk
    rcases y2 with⟨kvs,k',b,q1,q2,rfl,q3⟩ | ⟨kvs,k',q1,q2,rfl⟩
    ·rw[hh] at q1
     cases q1
     rw[hz,q] at q2
     cases q2
     have E:=Ext.tup (F:=F') s2 q3
     exact⟨_,E,b,_,rfl,aF,n0 hk.2,by rw[List.length_map];exact of_decide_eq_true hk.1⟩
    ·rw[hh] at q1;cases q1
  ·exact(gT e).elim
 ·rename_i ks es
  split at e
  ·rename_i hok
   obtain rfl:=fS e
   obtain⟨a',ob',vs,z,h2,h3,h4,h5⟩:=hd
   cases z
   obtain⟨u,hu⟩:=hF
   rw[h2] at hu
   cases hu
   have hh:=s2 _ _ (s1 _ _ h2)
   have hz:=iz (a:=ks) (b:=vs) (by rw[h4];exact h3.len)
   have hl:(ks.zip vs).length=ks.length:=by rw[←List.length_map (f:=(·.1)),hz]
   refine⟨fun d e=>?_,fun hle=> .inr ⟨_,hh,by rw[hl];simpa using hle⟩⟩
   rw[List.getElem?_map] at e
   cases q:ks[i]? with
   |none=>rw[q] at e;cases e
   |some k=>
    rw[q] at e
    cases e
    have hi:=(List.getElem?_eq_some_iff.mp q).1
    refine⟨.inr ⟨_,hh,by rw[hl];exact hi⟩,fun x H'' ⟨y1,y2⟩=>?_⟩
    subst y1
    have hk:=List.all_eq_true.mp hok k (List.mem_of_getElem? q)
    rcases y2 with⟨kvs,k',b,q1,q2,rfl,q3⟩ | ⟨kvs,k',q1,q2,rfl⟩
    ·rw[hh] at q1;cases q1
    ·rw[hh] at q1
     cases q1
     rw[hz,q] at q2
     cases q2
     exact⟨F',Ext.refl s2,rG hk⟩
  ·exact(gT e).elim
 ·exact(gT e).elim
section
variable {X : Cx} {Xw : Nat → Hp → Prop} {tg l : Expr} {δ : DE}
theorem yC (h:PD X Xw l δ):PDI X Xw tg l (fun ρ=>δ ρ>>=kS):=by
 intro pins s σ H R I ⟨F,ρ,S,w⟩
 refine thn (h pins s σ H (fun v H1=>∃F1 d,Ext F H F1 H1∧Den X.K F1 d v∧WPI X.K Xw F1 H1 (kS d) R) I ⟨F,ρ,S,WPI.bind w⟩) fun u s1 ⟨v,H1,I1,r1,F1,d,e1,q1,w1⟩=>?_
 rcases(kS d).cs with z | ⟨n,z⟩ | ⟨ds,z⟩
 ·rw[z] at w1;exact w1.elim
 ·exfalso
  unfold kS at z
  split at z
  ·split at z<;>cases z
  ·split at z<;>cases z
  ·cases z
 ·rw[z] at w1
  obtain⟨a,ob,u',rfl,hF,hn⟩:∃a ob u',v= .ref a∧F1 a=some (.frz ob u')∧∃n,((∃kvs,H1 a=some (.frz ob (.dT kvs))∧n=kvs.length)∨∃kvs,H1 a=some (.frz ob (.dK kvs))∧n=kvs.length):=by
   unfold kS at z
   split at z
   ·obtain⟨a,ob,vs,e,h2,_⟩:=q1;exact⟨a,ob,_,e,h2,_, .inl ⟨_,e1.fh _ _ h2,rfl⟩⟩
   ·obtain⟨a,ob,vs,e,h2,_⟩:=q1;exact⟨a,ob,_,e,h2,_, .inr ⟨_,e1.fh _ _ h2,rfl⟩⟩
   ·exact(gT z).elim
  obtain⟨n,hn⟩:=hn
  cases (show u=_ from r1)
  obtain⟨es,ep,lo,ho,hx,hd,hsz,hk⟩:=m_ I1 hn
  refine oJ lo ho hx hd ?_
  refine⟨s1.heap.objs.size,[s1.heap.objs.size],_,_,H1,rfl,I1.kept (t':=s1.toks) fun b o e=>Heap.get?_push_of_some _ e,wa a _ ob es ep hd,⟨_,Heap.get?_push_size _ rfl,rfl,rfl⟩,fun b hb=>?_,w1 _ _ _ (Ext.refl e1.fh) (zp q1 ⟨_,hF⟩ z)⟩
  have e:b=s1.heap.objs.size:=by simpa using hb
  subst e
  exact I1.fpOk (Nat.le_refl _) (I1.hok.fresh (Nat.le_refl _))
end
end L3
namespace L3
open PySem
section
variable {prog : Program} {w : World} {K : Type} [DecidableEq K] {knd : HeapKind prog w K} {A : Around} {E : Value → Shared → Prop} {s : Shared}
theorem mr {d a:Addr}{xs:List (K×Addr×Value)}{k:K}{v:Value}{Q:Unit→Shared→Prop}(hu:knd.room A) (hkey:knd.is s.heap k a) (hm:s.heap.DictOfH knd d xs) (hsz:xs.length≤sizeLine)
 (hQ:∀h',h'.DictOfH knd d (storedH xs k a v)→Heap.SameBut d s.heap h'→Q () {s with heap:=h'}):wpAny (model prog w) A (dictSetHashed d (.ref a) (knd.hash k) v) Q E s:=by
 obtain⟨o,es,ep,ho,hc,hd,he,his,hn⟩:=hm
 unfold dictSetHashed
 refine wpAny_holding (wpAny_bind (wpAny_dictFind_heap hu hkey ho hd he his hn (fun hno=>?_) fun j p hj=>?_))
 ·have e0:=atKey_none_of_get hno
  have hz:es.size≤sizeLine:=by rw[size_of_entries he];exact hsz
  refine wpAny_bind (wpAny_rule (wpAny_updateDictKeys (hz:=hz) ho hd (hQ _ ?_ (Heap.SameBut.update ..))))
  rw[storedH_new e0]
  refine⟨_,_,ep+1,Heap.get?_update_self _ ho (Obj.isFreed_of_dict (Obj.data_mapDictKeys hd _)),hc.mapDictKeys _,Obj.data_mapDictKeys hd _,by simp[he,entryOfKey],fun x hx=>?_,?_⟩
  ·rcases List.mem_append.mp hx with hx | hx
   ·exact knd.keeps (his x hx) ho hd (Heap.SameBut.update ..)
   ·obtain rfl:x=(k,a,v):=by simpa using hx
    exact knd.keeps hkey ho hd (Heap.SameBut.update ..)
  ·rw[List.map_append]
   refine List.nodup_append.mpr ⟨hn,by simp,fun x hx y hy z=>?_⟩
   have hy:y=k:=by simpa using hy
   exact not_mem_keys_of_get hno (by rw[←hy,←z];exact hx)
 ·have e0:=atKey_of_get hn hj
  refine wpAny_bind (wpAny_rule (wpAny_bind (wpAny_updateDict ho hd (wpAny_point (hQ _ ?_ (Heap.SameBut.update ..))))))
  rw[storedH_old e0]
  refine⟨_,_,ep,Heap.get?_update_self _ ho (Obj.isFreed_of_dict (Obj.data_mapDict hd _)),hc.mapDict _,Obj.data_mapDict hd _,?_,fun x hx=>?_,by rw[keys_map_putAt];exact hn⟩
  ·have:=modify_map_putAt (entryOfKey knd) (fun e:DictEntry=>{e with val:=v}) k v (fun _ _=>rfl) hn hj
   rw[←he] at this
   obtain⟨l⟩:=es
   simpa using this
  ·obtain⟨y,hy,rfl⟩:=List.mem_map.mp hx
   unfold putAt
   split<;>exact knd.keeps (his y hy) ho hd (Heap.SameBut.update ..)
def bu (xs ys:List (K×Addr×Value)):List (K×Addr×Value):=ys.foldl (fun acc y=>storedH acc y.1 y.2.1 y.2.2) xs
theorem rZ (xs:List (K×Addr×Value)) (k:K) (a:Addr) (v:Value):(storedH xs k a v).length≤xs.length+1:=by
 unfold storedH;split<;>simp
theorem hZ:∀(ys xs:List (K×Addr×Value)),(bu xs ys).length≤xs.length+ys.length
 |[],xs=>Nat.le_refl _
 |y::ys,xs=>by
  have h1:=hZ ys (storedH xs y.1 y.2.1 y.2.2)
  have h2:=rZ xs y.1 y.2.1 y.2.2
  show (bu (storedH xs y.1 y.2.1 y.2.2) ys).length≤_
  rw[List.length_cons];omega
theorem jM {xs ys:List (K×Addr×Value)}{i:Nat}{y:K×Addr×Value}(h:ys[i]? =some y):bu xs (ys.take (i+1))=storedH (bu xs (ys.take i)) y.1 y.2.1 y.2.2:=by
 rw[List.take_add_one,h]
 unfold bu
 rw[List.foldl_append]
 rfl
theorem ij:∀(ys acc:List (K×Addr×Value)),((acc++ys).map (·.1)).Nodup→bu acc ys=acc++ys
 |[],acc,_=>by simp[bu]
 |y::ys,acc,hn=>by
  show bu (storedH acc y.1 y.2.1 y.2.2) ys=_
  have hnot:y.1∉acc.map (·.1):=fun h=>by
   rw[List.map_append] at hn
   exact(List.nodup_append.mp hn).2.2 _ h _ (by simp) rfl
  have e0:atKey acc y.1=none:=atKey_none_of_get fun j p hj=>hnot (List.mem_map.mpr ⟨_,List.mem_of_getElem? hj,rfl⟩)
  rw[storedH_new e0,ij ys (acc++[(y.1,y.2.1,y.2.2)]) (by simpa using hn)]
  simp
theorem qI {id:String}{o:Addr}{ob:Obj}{es:Array DictEntry}{ep:Nat}{Q:Array DictEntry→Shared→Prop}(ho:s.heap.get? o=some ob) (hd:ob.data= .dict es ep)
 (hq:∀e∈es.toList,∃a,e.key= .ref a∧s.TypeIs (.ref a) "tuple") (hh:∀e∈es.toList,(es.filter (·.hash==e.hash)).size≤1) (h:Q es s):wpAny (model prog w) A (Builtin.Dict.entriesForEmpty id o) Q E s:=by
 unfold Builtin.Dict.entriesForEmpty
 refine wpAny_bind (wpAny_dictEntries ho hd ?_)
 rw[←Array.forIn_toList]
 refine wpAny_bind (wpAny_forIn_list _ (fun rest _ s'=>s'=s∧∀e∈rest,e∈es.toList) _ ?_ ?_ _ _ ⟨rfl,fun _ h=>h⟩)
 ·rintro e rest b s' ⟨rfl,hr⟩
  obtain⟨a,ea,ta⟩:=hq e (hr e (List.mem_cons_self ..))
  have hf:=hh e (hr e (List.mem_cons_self ..))
  have hlt:¬((es.filter (·.hash==e.hash)).size>1):=by omega
  rw[ea]
  unfold Builtin.Dict.quietEq
  refine wpAny_bind (wpAny_bind (wpAny_specialOf ta F.slot_tuple_eq.lookup (wpAny_pure ?_)))
  simp only[hlt,if_false]
  have:(some (Value.builtin "tuple.__eq__")==some (Value.builtin "object.__eq__"))=false:=by decide
  simp only[this,Bool.not_false,if_true]
  exact wpAny_pure ⟨rfl,fun x hx=>hr x (List.mem_cons_of_mem _ hx)⟩
 ·rintro b s' ⟨rfl,_⟩
  exact wpAny_pure h
theorem l6 {nm:String}{d o:Addr}{xs ys:List (K×Addr×Value)}{Q:Unit→Shared→Prop}(hu:knd.room A) (hdo:d≠o) (hoS:(o==sysModules)=false) (hd:s.heap.DictOfH knd d xs) (ho:s.heap.DictOfH knd o ys)
 (hkt:∀{h:Heap}{k:K}{a:Addr},knd.is h k a→∃ob,h.get? a=some ob∧ob.cls= .type "tuple") (hh:xs=[]→(ys.map fun y=>knd.hash y.1).Nodup) (hsz:xs.length+ys.length≤sizeLine)
 (hQ:∀h',h'.DictOfH knd d (bu xs ys)→Heap.SameBut d s.heap h'→Q () {s with heap:=h'}):wpAny (model prog w) A (Builtin.Dict.mergeDict nm d o) Q E s:=by
 obtain⟨od,esd,epd,hod,hcd,hdd,hed,hid,hnd⟩:=id hd
 obtain⟨oo,eso,epo,hoo,hco,hdo',heo,hio,hno⟩:=id ho
 have hlen:=size_of_entries heo
 unfold Builtin.Dict.mergeDict
 rw[if_neg (by simpa using hdo)]
 unfold Builtin.Dict.showsAll
 rw[if_neg (by rw[hoS];exact Bool.false_ne_true)]
 refine wpAny_bind (wpAny_pure (wpAny_bind (wpAny_dictEntries hoo hdo' ?_)))
 have loop:∀(body:Nat→PUnit→Sem (ForInStep PUnit)),body=(fun i (_:PUnit)=>(do
       let l'←dictEntries o
       match l'[i]? with
        |some e=>do
         holding [e.key,e.val] (dictSetHashed d e.key e.hash e.val)
         let ep'←dictEpoch o
         if (ep' !=epo)=true then do (unsupported (toString nm++toString ":source-changed-during-callback"):Sem PUnit);pure (ForInStep.yield PUnit.unit) else pure (ForInStep.yield PUnit.unit)
        |_=>do
         (unsupported "internal:dict-merge":Sem PUnit)
         pure (ForInStep.yield PUnit.unit):Sem (ForInStep PUnit)))→wpAny (model prog w) A (forIn [:eso.size] PUnit.unit body) (fun _ s'=>Q () s') E s:=by
  rintro _ rfl
  rw[Std.Legacy.Range.forIn_eq_forIn_range']
  simp only[Std.Legacy.Range.size,Nat.sub_zero,Nat.add_sub_cancel,Nat.div_one]
  refine wpAny_forIn_list _ (fun rest _ s'=>∃h' i,s'={s with heap:=h'}∧rest=List.range' i (eso.size - i)∧i≤eso.size∧h'.DictOfH knd d (bu xs (ys.take i))∧h'.get? o=some oo∧Heap.SameBut d s.heap h') _ ?_ ?_ _ _
   ⟨s.heap,0,rfl,by simp,Nat.zero_le _,by simpa[bu] using hd,hoo,Heap.SameBut.refl _ _⟩
  ·rintro x rest b s' ⟨h',i,rfl,hr,hi,hd',hoo',hs'⟩
   have hlt:i<eso.size:=by
    by_cases h:i<eso.size
    ·exact h
    ·rw[show eso.size - i=0 by omega] at hr;simp at hr
   rw[show eso.size - i=(eso.size - (i+1))+1 by omega,List.range'_succ] at hr
   injection hr with h1 h2
   subst h1
   refine wpAny_bind (wpAny_dictEntries hoo' hdo' ?_)
   obtain⟨y,hy⟩:∃y,ys[x]? =some y:=⟨_,List.getElem?_eq_getElem (by omega)⟩
   rw[entry_at heo x,hy]
   have hmx:(bu xs (ys.take x)).length≤sizeLine:=by
    have e1:=hZ (ys.take x) xs
    rw[List.length_take] at e1
    omega
   have hky:knd.is h' y.1 y.2.1:=knd.keeps (hio y (List.mem_of_getElem? hy)) hod hdd hs'
   refine wpAny_bind (wpAny_holding (mr hu hky hd' hmx fun h'' hd'' hs''=>?_))
   have hoo'':h''.get? o=some oo:=(hs''.2 o (Ne.symm hdo)).trans hoo'
   refine wpAny_bind (wpAny_dictEpoch hoo'' hdo' ?_)
   rw[if_neg (by simp)]
   exact wpAny_pure ⟨h'',x+1,rfl,h2,hlt,by rw[jM hy];exact hd'',hoo'',hs'.trans hs''⟩
  ·rintro b s' ⟨h',i,rfl,hr,hi,hd',hoo',hs'⟩
   have hin:i=eso.size:=by
    by_cases h:i<eso.size
    ·rw[show eso.size - i=(eso.size - (i+1))+1 by omega,List.range'_succ] at hr;exact nomatch hr
    ·omega
   refine hQ h' ?_ hs'
   rw[hin,hlen,List.take_length] at hd';exact hd'
 have go:wpAny (model prog w) A (do
  let epoch←dictEpoch o
  let l←dictEntries o
  forIn [:l.size] PUnit.unit fun i (_:PUnit)=>(do
   let l'←dictEntries o
   match l'[i]? with
    |some e=>do
     holding [e.key,e.val] (dictSetHashed d e.key e.hash e.val)
     let ep'←dictEpoch o
     if (ep' !=epoch)=true then do (unsupported (toString nm++toString ":source-changed-during-callback"):Sem PUnit);pure (ForInStep.yield PUnit.unit) else pure (ForInStep.yield PUnit.unit)
    |_=>do
     (unsupported "internal:dict-merge":Sem PUnit)
     pure (ForInStep.yield PUnit.unit):Sem (ForInStep PUnit))
  pure ()) Q E s:=by
  refine wpAny_bind (wpAny_dictEpoch hoo hdo' (wpAny_bind (wpAny_dictEntries hoo hdo' (wpAny_bind ?_))))
  exact wpAny_mono (loop _ rfl) (fun _ _ h=>wpAny_pure h) fun _ _ h=>h
 dsimp only
 split
 ·refine wpAny_bind (wpAny_dictEntries hod hdd ?_)
  split
  ·rename_i hemp
   have hxs:xs=[]:=by
    have h0:esd= #[]:=Array.isEmpty_iff.mp hemp
    have:=size_of_entries hed
    rw[h0] at this
    exact List.length_eq_zero_iff.mp (by simpa using this.symm)
   subst hxs
   have hnh:=hh rfl
   refine wpAny_bind (qI hoo hdo' (fun e he=>?_) (fun e he=>?_) ?_)
   ·rw[heo] at he
    obtain⟨y,hy,rfl⟩:=List.mem_map.mp he
    obtain⟨ob,h1,h2⟩:=hkt (hio y hy)
    exact⟨y.2.1,rfl,ob,h1,h2⟩
   ·have:(eso.filter (·.hash==e.hash)).size=((ys.map fun y=>knd.hash y.1).filter (· ==e.hash)).length:=by
     rw[←Array.length_toList,Array.toList_filter,heo,List.filter_map,List.filter_map,List.length_map,List.length_map]
     rfl
    rw[this]
    have hc:=List.nodup_iff_count.mp hnh e.hash
    rw[List.count_eq_countP,List.countP_eq_length_filter] at hc
    exact hc
   ·have hm:bu ([]:List (K×Addr×Value)) ys=ys:=by
     rw[ij ys [] (by simpa using hno)];rfl
    rw[hm] at hQ
    split
    ·have hto:eso.size≤sizeLine+1:=by simp at hsz;omega
     refine wpAny_bind (wpAny_updateDictKeysTo hod hdd (wpAny_pure (hQ _ ⟨_,_,epd+1,Heap.get?_update_self _ hod (Obj.isFreed_of_dict (Obj.data_mapDictKeys hdd _)),hcd.mapDictKeys _,Obj.data_mapDictKeys hdd _,heo,fun x hx=>?_,hno⟩ (Heap.SameBut.update ..))) hto)
     exact knd.keeps (hio x hx) hod hdd (Heap.SameBut.update ..)
    ·rename_i hne
     have h0:eso= #[]:=Array.isEmpty_iff.mp (by simpa using hne)
     have hm0:ys=[]:=List.length_eq_zero_iff.mp (by rw[←hlen,h0];rfl)
     subst hm0
     exact wpAny_pure (hQ _ hd (Heap.SameBut.refl _ _))
  ·exact go
 ·exact go
end
end L3
namespace L3
open PySem PySem.Spec L2
open PyProof.Rows hiding St
theorem AM {P:Program}{w:World}{h:Heap}{k:List Key}{a:Addr}(h1:(tupleKind (aP P w)).is h k a):∃ob,h.get? a=some ob∧ob.cls= .type "tuple":=by
 obtain⟨ob,its,n,q1,q2,_⟩:=h1
 exact⟨ob,q1,q2⟩
def gW (kvs more:List (List Key×V)):List (List Key×V):=more.foldl (fun acc kv=>putK acc kv.1 kv.2) kvs
theorem u0 {H:Hp}:∀{more:List (List Key×V)}{ys:List (List Key×Addr×Value)},KT H more ys→∀{kvs:List (List Key×V)}{xs:List (List Key×Addr×Value)},KT H kvs xs→KT H (gW kvs more) (bu xs ys)
 |_,_, .nil,_,_,q=>q
 |_,_, .cons h t,kvs,xs,r=>by
  refine u0 t ?_
  have:=KT.put r _ h.2.1 h.2.2
  rw[h.1] at this
  show KT H (putK kvs _ _) (storedH xs _ _ _)
  rw[h.1]
  exact this
theorem ng:∀(more kvs:List (List Key×V)),(gW kvs more).length≤kvs.length+more.length
 |[],kvs=>Nat.le_refl _
 |p::r,kvs=>by
  have h1:=ng r (putK kvs p.1 p.2)
  have h2:=eW kvs p.1 p.2
  show (gW (putK kvs p.1 p.2) r).length≤_
  rw[List.length_cons];omega
def fU (k:List Int):Int:=reduceHash (Builtin.Tuple.tupleHashOf (k.map hashInt))
theorem yd {P:Program}{w:World}(k:List Int):(tupleKind (aP P w)).hash (mD k)=fU k:=by
 show reduceHash (Builtin.Tuple.tupleHashOf ((mD k).map (C9 w)))=_
 unfold fU mD
 rw[List.map_map]
 rfl
section
variable {X : Cx} {pins : List (Addr × Obj)} {σ : St} {H : Hp} {s : Shared} {a b : Addr} {A : Around} {E : Value → Shared → Prop}
theorem zA {kvs more:List (List Key×V)}{ks:List (List Int)}{Q:Value→Shared→Prop}(hu:A.units+2<cLine) (I:Inv X pins σ H s) (ha:H a=some (.dT kvs)) (hb:Rd H b (.dT more)) (hab:a≠b) (hk:more.map (·.1)=ks.map mD)
 (hh:kvs=[]→(ks.map fU).Nodup) (hz:kvs.length+more.length≤sizeLine) (h:∀s',Inv X pins σ (upd H a (.dT (gW kvs more))) s'→Q .none s'):
 wpAny (model X.prog X.w) A (call (.builtin "dict.update") [.ref a, .ref b]) Q E s:=by
 obtain⟨z1,lo1,xs,rel1,dd1⟩:=xk I.hok ha
 obtain⟨z2,lo2,ys,zR,dd2⟩:=jS I.hok hb
 have l1:=Paired.length rel1
 have l2:=Paired.length zR
 have hT:=dd1.typeIs
 refine wpAny_call_entry PySem.F.slot_dict_update hT PySem.F.entry_dict_update ?_ (PySem.F.args_dict_update_2 _ _)
 unfold Builtin.«dict.update»
 refine wpAny_bind ?_
 unfold Builtin.Dict.selfAndRest
 refine wpAny_bind (wpAny_notOrdered_dict hT ?_)
 show wpAny _ _ (pure (a,[Value.ref b])) _ _ s
 refine wpAny_pure ?_
 show wpAny _ _ (Builtin.Dict.updateFrom "dict.update" a (.ref b) [] .none) _ _ s
 unfold Builtin.Dict.updateFrom
 refine wpAny_bind (wpAny_typeOf dd2.typeIs ?_)
 rw[if_neg (by decide)]
 refine wpAny_bind ?_
 unfold Builtin.Dict.merge
 refine wpAny_bind ?_
 unfold Builtin.Dict.readDirectly
 refine wpAny_bind (wpAny_isInstance dd2.typeIs isSubtype_dict_dict ?_)
 simp only[Bool.not_true,Bool.false_eq_true,if_false]
 refine wpAny_bind (wpAny_specialOf dd2.typeIs PySem.F.slot_dict_iter.lookup (wpAny_pure ?_))
 simp only[beq_self_eq_true,if_true]
 refine wpAny_bind (wpAny_pure ?_)
 refine l6 (knd:=tupleKind (aP X.prog X.w)) (show A.in1.units<cLine by show A.units+1<cLine;omega) hab lo2 dd1 dd2 AM (fun e0=>?_) (by omega) fun h' dd' hs'=>?_
 ·have e1:kvs=[]:=List.length_eq_zero_iff.mp (by rw[l1,e0];rfl)
  have:=hh e1
  have e2:(ys.map fun y=>(tupleKind (aP X.prog X.w)).hash y.1)=ks.map fU:=by
   have e3:more.map (·.1)=ys.map (·.1):=kx (fun _ _ r=>r.1) zR
   rw[show (fun y:List Key×Addr×Value=>(tupleKind (aP X.prog X.w)).hash y.1)=(tupleKind (aP X.prog X.w)).hash∘(·.1) from rfl,←List.map_map,←e3,hk,List.map_map]
   exact List.map_congr_left fun k _=>yd k
  rw[e2];exact this
 ·show wpAny _ _ (Builtin.Dict.addKeywords a []>>=_) _ _ _
  refine wpAny_bind (wpAny_pure (wpAny_pure ⟨.none,rfl,h _ ?_⟩))
  obtain⟨q,es,ep,hq,h2,h3,h4,_,h5⟩:=dd'
  have hl:(gW kvs more).length≤sizeLine:=by have:=ng more kvs;omega
  refine jA I (t':=s.toks) (by rw[ha];exact True.intro) hs' ⟨q,hq⟩ ⟨hl,lo1,_,(u0 zR rel1).keeps fun c ys ec=>?_,q,es,ep,hq,h2,h3,h4,h5⟩
  rw[av (yn ec ha (fun z=>nomatch z))]
  exact ec
end
def b_ (ks:List (List Key)) (ds:List D):List (List Key)→List D→List (List Key)×List D
 |k::ks',d::ds'=>b_ (dg ks ds k) (cg ks ds k d) ks' ds'
 |_,_=>(ks,ds)
def zy (ks:List (List Key)) (ds:List D):D→Option C
 | .dct ks' ds'=>match fJ ks' with
   |some ns=>if ds.length+ds'.length≤lim∧(ks.isEmpty=true→(ns.map fU).Nodup) then some (.dct (b_ ks ds ks' ds').1 (b_ ks ds ks' ds').2) else none
   |none=>none
 |_=>none
theorem mZ {K:PySem.W.Frag}{F:Hp}:∀{ks':List (List Key)}{ds':List D}{vs':List V}{ks:List (List Key)}{ds:List D}{vs:List V},DenL K F ds' vs'→ks'.length=ds'.length→DenL K F ds vs→ks.length=ds.length→
 ∃ws,gW (ks.zip vs) (ks'.zip vs')=(b_ ks ds ks' ds').1.zip ws∧DenL K F (b_ ks ds ks' ds').2 ws∧(b_ ks ds ks' ds').1.length=(b_ ks ds ks' ds').2.length
 |[],[],vs',ks,ds,vs,h',_,h,hl=>⟨vs,rfl,h,hl⟩
 |k::ks',d::ds',vs',ks,ds,vs,⟨v,r,e,h1,h2⟩,hl',h,hl=>by
  subst e
  obtain⟨ws,e1,e2,e3⟩:=qt (K:=K) (F:=F) h1 k h hl
  obtain⟨us,q1,q2,q3⟩:=mZ (ks':=ks') (ds':=ds') (vs':=r) h2 (by simpa using hl') e2 e3
  refine⟨us,?_,q2,q3⟩
  show gW (putK (ks.zip vs) k v) (ks'.zip r)=_
  rw[e1]
  exact q1
 |[],_::_,_,_,_,_,_,hl',_,_=>by simp at hl'
 |_::_,[],_,_,_,_,_,hl',_,_=>by simp at hl'
theorem yW {κ:Type} [DecidableEq κ] {ks:List κ}{ds:List D}{k:κ}{d:D}(hl:ks.length=ds.length):(cg ks ds k d).length≤ds.length+1:=by
 unfold cg
 split
 ·rw[g9 ks ds k d hl];omega
 ·simp
theorem zj {κ:Type} [DecidableEq κ] {ks:List κ}{ds:List D}{k:κ}{d:D}(hl:ks.length=ds.length):(dg ks ds k).length=(cg ks ds k d).length:=by
 unfold cg dg
 split
 ·rw[g9 ks ds k d hl];exact hl
 ·simp[hl]
theorem mR:∀{ks':List (List Key)}{ds':List D}{ks:List (List Key)}{ds:List D},ks.length=ds.length→(b_ ks ds ks' ds').2.length≤ds.length+ds'.length
 |[],ds',ks,ds,_=>by show ds.length≤_;omega
 |_::_,[],ks,ds,_=>by show ds.length≤_;simp
 |k::ks',d::ds',ks,ds,hl=>by
  have h1:=mR (ks':=ks') (ds':=ds') (ks:=dg ks ds k) (ds:=cg ks ds k d) (zj hl)
  have h2:=yW (k:=k) (d:=d) hl
  show (b_ (dg ks ds k) (cg ks ds k d) ks' ds').2.length≤_
  rw[List.length_cons];omega
section
variable {X : Cx} {Xw : Nat → Hp → Prop} {o e f : Expr} {δ δo δe δf : DE} {pos p apos cpos : Pos} {x : Str} {i : Nat}
def w9 (i:Nat) (δ:DE):DS:=fun ρ=>match tP ρ i with
 |some (.dct ks ds)=>δ ρ>>=fun d=>match zy ks ds d with
  |some c'=>M.ret (.nx (ρ.set i (some (.ow c'))))
  |none=>M.stuck
 |_=>M.stuck
theorem Cy {td ty:TE}(hu:X.A.units+2<cLine) (ho:PE X o td) (he:PE X e ty) (m:M1 X o "update" apos e cpos):
 PE X (.Call (.Attribute o "update" apos) [e] [] cpos) (fun σ H Q=>td σ H fun x H1=>∃a,x= .ref a∧IsD H1 a∧ty σ H1 fun y H2=>∃(b:Addr) (kvs more:List (List Key×V)) (ks:List (List Int)),y= .ref b∧H2 a=some (.dT kvs)∧Rd H2 b (.dT more)∧a≠b∧more.map (·.1)=ks.map mD∧(kvs=[]→(ks.map fU).Nodup)∧kvs.length+more.length≤sizeLine∧Q .non (upd H2 a (.dT (gW kvs more)))):=by
 intro pins s σ H Q I h
 refine wpAny_Call_method m.base m.few m.line PySem.F.plainAttrs_dict PySem.F.slot_dict_update (by rfl) (thn (ho pins s σ H _ I h) fun u s1 ⟨x,H1,I1,rx,a,ex,d,q1⟩=>?_)
 subst ex
 obtain rfl:u=Value.ref a:=rx
 obtain⟨t1,t2,_⟩:=tU I1 d
 refine⟨t1,t2,?_⟩
 rw[m.trees]
 refine Calls.callWith_builtin rfl (Calls.evalArgs_plain (Calls.spliced_cons (thn (he pins s1 σ H1 _ I1 q1) fun iv s2 ⟨y,H2,I2,ry,b,kvs,more,ks,ey,k1,k2,k3,k4,k5,k6,q2⟩=>Calls.spliced_nil ?_)))
 subst ey
 obtain rfl:iv=Value.ref b:=ry
 exact zA hu I2 k1 k2 k3 k4 k5 k6 fun s3 I3=>⟨.non,_,I3,rfl,q2⟩
theorem Ae (hu:X.A.units+64<cLine) (hv:PE X (.Name x p) (m9 i)) (he:PD X Xw e δ) (m:M1 X (.Name x p) "update" apos e cpos) (hs:swapsWith (.Call (.Attribute (.Name x p) "update" apos) [e] [] cpos) none pos.line X.env=pure false:=by rfl):
 PSD X Xw (.Expr (.Call (.Attribute (.Name x p) "update" apos) [e] [] cpos) pos) (w9 i δ):=fun F₀ H₀=>PS.weak (lz (Cy (by omega) hv he m) hs) fun D σ H ⟨F,ρ,s,w⟩=>by
 unfold w9 at w
 split at w
 ·rename_i ks ds hoc
  have hi:=nZ hoc
  obtain⟨v,hv',a,oh,rfl,hH,hF,vs,rfl,hd,hl,hz⟩:=s.st.den i _ hi
  refine⟨.ref a,hv',a,rfl, .inr ⟨_, .inl hH⟩,F,ρ,s.st,?_⟩
  rcases(δ ρ).cs with q | ⟨n,q⟩ | ⟨d,q⟩
  ·rw[q] at w;exact w.elim
  ·rw[q] at w⊢;exact fun F' H' e'=>w F' H' (s.ext.trans e')
  ·rw[q] at w⊢
   intro u H1 F1 e1 hq
   have w:WPS X.K Xw F₀ H₀ (match zy ks ds d with | some c'=>M.ret (.nx (ρ.set i (some (.ow c')))) | none=>M.stuck) D:=w
   cases d with
   |dct ks' ds'=>
    obtain⟨b,ob,vs',rfl,k2,k3,k4,k5⟩:=hq
    cases hc:zy ks ds (.dct ks' ds') with
    |none=>rw[hc] at w;exact w.elim
    |some c'=>
     rw[hc] at w
     have hc:(match fJ ks' with | some ns=>if ds.length+ds'.length≤lim∧(ks.isEmpty=true→(ns.map fU).Nodup) then some (C.dct (b_ ks ds ks' ds').1 (b_ ks ds ks' ds').2) else none | none=>none)=some c':=hc
     cases hn:fJ ks' with
     |none=>rw[hn] at hc;cases hc
     |some ns=>
      rw[hn] at hc
      have hc:(if ds.length+ds'.length≤lim∧(ks.isEmpty=true→(ns.map fU).Nodup) then some (C.dct (b_ ks ds ks' ds').1 (b_ ks ds ks' ds').2) else none)=some c':=hc
      split at hc
      ·rename_i hcond
       cases hc
       have hd1:=DenL.mono e1.ff hd
       have l1:=hd1.len
       have l2:=k3.len
       have hab:a≠b:=fun z=>by
        have:=e1.old hH (fun _ z=>nomatch z)
        rw[hF,z,k2] at this
        cases this
       obtain⟨ws,m1,m2,m3⟩:=mZ k3 k4 hd1 hl
       refine⟨b,ks.zip vs,ks'.zip vs',ns,rfl,e1.hh _ _ hH, .inr ⟨ob,e1.fh _ _ k2⟩,hab,by rw[iz (by rw[k4];exact l2),j4 hn],fun z=>hcond.2 ?_,?_,?_⟩
       ·have:=iz (a:=ks) (b:=vs) (by rw[hl];exact l1)
        rw[z] at this
        rw[←this];rfl
       ·rw[List.length_zip,List.length_zip]
        have:=dD
        omega
       ·rw[m1]
        exact w σ F1 _ ((s.ext' e1).chg (c₀:= .dct (b_ ks ds ks' ds').1 (b_ ks ds ks' ds').2) hi hv' ⟨ws,rfl,m2,m3,by have:=mR (ks':=ks') (ds':=ds') hl;omega⟩)
      ·cases hc
   |_=>exact w.elim
 ·exact w.elim
end
end L3
namespace L3
open PySem PySem.Spec L2
open PyProof.Rows hiding St
section
variable {X : Cx} {Xw : Nat → Hp → Prop} {o e f : Expr} {δ δo δe δf : DE} {δs : DA} {pos p apos cpos : Pos} {x : Str} {i : Nat}
def yF:D→Bool
 | .dct _ _=>true
 | .dci _ _=>true
 |_=>false
theorem u_ {K:PySem.W.Frag}{F H:Hp}{d:D}{x:V}(s:Same F H) (hd:Den K F d x) (e:yF d=true):∃a,x= .ref a∧IsD H a:=by
 cases d with
 |dct ks ds=>obtain⟨a,ob,vs,rfl,h2,_⟩:=hd;exact⟨a,rfl, .inr ⟨_, .inr ⟨ob,s _ _ h2⟩⟩⟩
 |dci ks ds=>obtain⟨a,ob,vs,rfl,h2,_⟩:=hd;exact⟨a,rfl, .inl ⟨_, .inr ⟨ob,s _ _ h2⟩⟩⟩
 |_=>cases e
def getM (d k v:D):M D:=match atD d k with
 |some (some x)=>M.ret x
 |some none=>M.ret v
 |none=>M.stuck
def DG (δo δe:DE):DE:=fun ρ=>δo ρ>>=fun d=>if yF d then δe ρ>>=fun k=>getM d k .non else M.stuck
def nv (δo δe δf:DE):DE:=fun ρ=>δo ρ>>=fun d=>if yF d then δe ρ>>=fun k=>δf ρ>>=fun v=>getM d k v else M.stuck
theorem rB {F H:Hp}{d k v:D}{a:Addr}{y z:V}{Q:VK}(s:Same F H) (q1:Den X.K F d (.ref a)) (q2:Den X.K F k y) (q3:Den X.K F v z) (w:WP X.K Xw F H (getM d k v) Q):∃ov,iY H a y ov∧Q (ov.getD z) H:=by
 unfold getM at w
 cases hat:atD d k with
 |none=>rw[hat] at w;exact w.elim
 |some o'=>
  rw[hat] at w
  obtain⟨a',ov,zz,h2,h3,h4⟩:=qN s q1 q2 hat
  cases zz
  refine⟨ov,h2,?_⟩
  cases o' with
  |none=>
   cases ov with
   |none=>exact WP.now w s q3
   |some _=>cases h3
  |some d'=>
   obtain⟨v,rfl,hv⟩:=h4 d' rfl
   exact WP.now w s hv
theorem DX (hu:X.A.units+64<cLine) (ho:PD X Xw o δo) (he:PD X Xw e δe) (m:M1 X o "get" apos e cpos):PD X Xw (.Call (.Attribute o "get" apos) [e] [] cpos) (DG δo δe):=
 PE.weak (yt (by omega) ho he m) fun σ H Q ⟨F,ρ,s,w⟩=>by
  refine⟨F,ρ,s,WP.mono (WP.bind w) fun x H1 ⟨F1,d,e1,q1,w1⟩=>?_⟩
  split at w1
  ·rename_i hd
   obtain⟨a,rfl,isd⟩:=u_ e1.fh q1 hd
   refine⟨a,rfl,isd,F1,ρ,s.ext e1,WP.mono (WP.bind w1) fun y H2 ⟨F2,k,e2,q2,w2⟩=>?_⟩
   exact rB (v:= .non) (z:= .non) e2.fh (Den.mono e2.ff q1) q2 (show V.non=V.non from rfl) w2
  ·exact w1.elim
theorem Ap (hu:X.A.units+64<cLine) (ho:PD X Xw o δo) (he:PD X Xw e δe) (hf:PD X Xw f δf) (m:M2 X o "get" apos e f cpos):PD X Xw (.Call (.Attribute o "get" apos) [e,f] [] cpos) (nv δo δe δf):=
 PE.weak (yh (by omega) ho he hf m) fun σ H Q ⟨F,ρ,s,w⟩=>by
  refine⟨F,ρ,s,WP.mono (WP.bind w) fun x H1 ⟨F1,d,e1,q1,w1⟩=>?_⟩
  split at w1
  ·rename_i hd
   obtain⟨a,rfl,isd⟩:=u_ e1.fh q1 hd
   refine⟨a,rfl,isd,F1,ρ,s.ext e1,WP.mono (WP.bind w1) fun y H2 ⟨F2,k,e2,q2,w2⟩=>?_⟩
   refine⟨F2,ρ,(s.ext e1).ext e2,WP.mono (WP.bind w2) fun z H3 ⟨F3,v,e3,q3,w3⟩=>?_⟩
   exact rB e3.fh (Den.mono e3.ff (Den.mono e2.ff q1)) (Den.mono e3.ff q2) q3 w3
  ·exact w1.elim
end
end L3
namespace L3
open PySem PySem.Spec L2
open PyProof.Rows hiding St
section
variable {X : Cx} {Xw : Nat → Hp → Prop} {a b e est : Expr} {δ δa δb δs : DE} {pos p2 : Pos}
end
section
variable {prog : Program} {w : World} {A : Around} {E : Value → Shared → Prop} {s : Shared}
end
def uM:List Nat→TGs
 |[]=>CW
 |i::is=>A3 (xy i) (uM is)
def ub:List Nat→List D→Rho→Rho
 |i::is,d::ds,ρ=>ub is ds (ρ.set i (some (.fz d)))
 |_,_,ρ=>ρ
def jd (is:List Nat):D→Rho→Option Rho
 | .tup ds,ρ=>if ds.length=is.length then some (ub is ds ρ) else none
 |_,_=>none
theorem o7 {K:PySem.W.Frag}{F₀ H₀ F H:Hp}{Q:St→Hp→Prop}:∀(is:List Nat) (ds:List D) (vs:List V) (σ:St) (ρ:Rho),ds.length=is.length→StOk K F₀ H₀ F H σ ρ→DenL K F ds vs→(∀σ',StOk K F₀ H₀ F H σ' (ub is ds ρ)→Q σ' H)→uM is vs σ H Q
 |[],[],vs,σ,ρ,_,s,h,k=>⟨h,k σ s⟩
 |i::is,d::ds,vs,σ,ρ,hl,s,⟨v,r,e,h1,h2⟩,k=>by
  subst e
  exact⟨v,r,rfl,o7 is ds r _ _ (by simpa using hl) (s.set h1) h2 k⟩
 |[],_::_,_,_,_,hl,_,_,_=>by simp at hl
 |_::_,[],_,_,_,hl,_,_,_=>by simp at hl
theorem pA {K:PySem.W.Frag}{is:List Nat}:yJ K (DQ K is.length (uM is)) (jd is):=fun F₀ H₀ F H σ ρ ρ' d v Q s q e k=>by
 unfold jd at e
 split at e
 ·rename_i ds
  split at e
  ·rename_i hl
   cases e
   obtain⟨a,vs,rfl,hs,hd,_⟩:=q
   exact⟨a,vs,rfl,SqT.of (s.st.fh _ _ hs),by rw[←hd.len];exact hl,o7 is ds vs σ ρ hl s hd k⟩
  ·cases e
 ·cases e
end L3
namespace L3
open PySem PySem.Spec L2
open PyProof.Rows hiding St
section
variable {prog : Program} {w : World} {A : Around} {E : Value → Shared → Prop} {s : Shared}
theorem we {a b:Value}{r:Bool}{I T S:Addr}{good:Heap→Prop}{R:Result→Shared→Prop}(hh:A.handled=none) (hne:T≠I) (hSI:S≠I) (hST:S≠T)
 (hg:∀h h',(∀c o,c≠I→c≠S→h.get? c=some o→h'.get? c=some o)→good h→good h')
 (hcmp:∀(h':Heap) (tk:Nat) (Q':Value→Shared→Prop) (E':Value→Shared→Prop),good h'→Q' (.bool r) {s with heap:=h',toks:=tk}→wpAny (model prog w) A.in1 (richCompare .Lt b a) Q' E' {s with heap:=h',toks:=tk})
 (hR:∀h' tk,good h'→R (.ok (.ret (if r then b else a))) {s with heap:=h',toks:=tk}) {h0:Heap}{t0 c:Nat}(g0:good h0) (hst:h0.IsTupleIter I T 0∧h0.IsTuple T #[a,b])
 (hS:h0.get? S=some {cls:= .type "list",dict:=none,data:= .seq #[] c,slots:= #[]}):
 codeAny (model prog w) A (.builtin "min.loop" ⟨[.ref I, .none, .ref S],[]⟩) R {s with heap:=h0,toks:=t0}:=by
 have hname:(toString "min"++toString ".loop":String)="min.loop":=by decide
 have W:=Walks.tuple (prog:=prog) (w:=w) (A:=A.in1) hh I T hne #[a,b]
 have nI:∀{c:Addr},c≠I→c∉[I]:=fun q z=>q (List.mem_singleton.mp z)
 have fr:∀{i:Nat}{h:Heap}{f:Obj→Obj},(h.IsTupleIter I T i∧h.IsTuple T #[a,b])→((h.update S f).IsTupleIter I T i∧(h.update S f).IsTuple T #[a,b]):=fun {i h f} q=>W.frame _ _ _ q fun c hc o e=>(Heap.get?_update_other _ _ (fun z:S=c=>by
  subst z
  rcases List.mem_cons.mp hc with z | z
  ·exact hSI z
  ·exact hST (List.mem_singleton.mp z))).trans e
 have up:∀{h:Heap}{f:Obj→Obj},good h→good (h.update S f):=fun q=>hg _ _ (fun c o _ hc e=>(Heap.get?_update_other _ _ (Ne.symm hc)).trans e) q
 refine codeAny_builtin F.entry_min_loop ?_
 rw[Around.under_plainId F.plain_min_loop _]
 show wpAny _ A.in1 (seqItems? (.ref S)>>=_) _ _ _
 refine wpAny_bind (wpAny_seqItems hS rfl ?_)
 show wpAny _ A.in1 (tryCatch (pyNext (.ref I)) _>>=_) _ _ _
 refine wpAny_bind (wpAny_tryCatch (W.item 0 _ _ _ (by simp) hst fun v h1 t1 hP st1 k1=>?_))
 have hv:v=a:=(Option.some.inj hP).symm
 subst hv
 have S1:=k1 S _ (nI hSI) hS
 have g1:good h1:=hg _ _ (fun c o hc _ e=>k1 c o (nI hc) e) g0
 show wpAny _ A.in1 (updateSeq S (fun _=> #[v,v])>>=_) _ _ _
 refine wpAny_bind ?_
 refine wpAny_updateSeq S1 rfl ?_
 rw[hname]
 refine wpAny_pure ⟨plainId_quiet F.plain_min_loop _,?_⟩
 refine codeAny_builtin F.entry_min_loop ?_
 rw[Around.under_plainId F.plain_min_loop _]
 show wpAny _ A.in1 (seqItems? (.ref S)>>=_) _ _ _
 refine wpAny_bind (wpAny_seqItems (Heap.get?_update_self _ S1 rfl) rfl ?_)
 show wpAny _ A.in1 (tryCatch (pyNext (.ref I)) _>>=_) _ _ _
 refine wpAny_bind (wpAny_tryCatch (W.item 1 _ _ _ (by simp) (fr st1) fun u h2 t2 hP2 st2 k2=>?_))
 have hu:u=b:=(Option.some.inj hP2).symm
 subst hu
 have S2:=k2 S _ (nI hSI) (Heap.get?_update_self _ S1 rfl)
 have g2:good h2:=hg _ _ (fun c o hc _ e=>k2 c o (nI hc) e) (up g1)
 show wpAny _ A.in1 (tryCatch (holding [u,u] (richCompare .Lt u v>>=_)) _>>=_) _ _ _
 refine wpAny_bind (wpAny_tryCatch (wpAny_holding (wpAny_bind (hcmp _ _ _ _ g2 ?_))))
 refine wpAny_bind (wpAny_holding (wpAny_truthy_bool ?_))
 refine wpAny_bind (wpAny_letGo (wpAny_pure ?_))
 have last:∀{h3:Heap}{t3 c3:Nat}{x y:Value},x=(if r then u else v)→good h3→(h3.IsTupleIter I T 2∧h3.IsTuple T #[v,u])→h3.get? S=some {cls:= .type "list",dict:=none,data:= .seq #[x,y] c3,slots:= #[]}→
  codeAny (model prog w) A (.builtin "min.loop" ⟨[.ref I, .none, .ref S],[]⟩) R {s with heap:=h3,toks:=t3}:=fun {h3 t3 c3 x y} ex g3 st3 S3=>by
  refine codeAny_builtin F.entry_min_loop ?_
  rw[Around.under_plainId F.plain_min_loop _]
  show wpAny _ A.in1 (seqItems? (.ref S)>>=_) _ _ _
  refine wpAny_bind (wpAny_seqItems S3 rfl ?_)
  show wpAny _ A.in1 (tryCatch (pyNext (.ref I)) _>>=_) _ _ _
  refine wpAny_bind (wpAny_tryCatch (W.done _ _ _ st3 fun h4 t4 k4=>?_))
  have S4:=k4 S _ (nI hSI) S3
  show wpAny _ A.in1 (updateSeq S (fun _=> #[])>>=_) _ _ _
  refine wpAny_bind ?_
  refine wpAny_updateSeq S4 rfl (wpAny_bind (wpAny_letGo (wpAny_pure ?_)))
  rw[ex]
  exact hR _ _ (up (hg _ _ (fun c o hc _ e=>k4 c o (nI hc) e) g3))
 cases hr:r with
 |true=>
  simp only[if_true]
  refine wpAny_bind ?_
  refine wpAny_updateSeq S2 rfl (wpAny_bind (wpAny_letGo ?_))
  rw[hname]
  exact wpAny_pure ⟨plainId_quiet F.plain_min_loop _,last (by rw[hr];rfl) (up g2) (fr st2) (Heap.get?_update_self _ S2 rfl)⟩
 |false=>
  simp only[Bool.false_eq_true,if_false]
  refine wpAny_bind (wpAny_letGo ?_)
  rw[hname]
  exact wpAny_pure ⟨plainId_quiet F.plain_min_loop _,last (by rw[hr];rfl) g2 st2 S2⟩
theorem tu {a b:Value}{r:Bool}{Q:Value→Shared→Prop}(hh:A.handled=none)
 (hcmp:∀(h':Heap) (tk:Nat) (Q':Value→Shared→Prop) (E':Value→Shared→Prop),(∀c o,s.heap.get? c=some o→h'.get? c=some o)→Q' (.bool r) {s with heap:=h',toks:=tk}→wpAny (model prog w) A.in1 (richCompare .Lt b a) Q' E' {s with heap:=h',toks:=tk})
 (h:∀h' tk,(∀c o,s.heap.get? c=some o→h'.get? c=some o)→Q (if r then b else a) {s with heap:=h',toks:=tk}):
 wpAny (model prog w) A (call (.builtin "min") [a,b]) Q E s:=by
 have hname:(toString "min"++toString ".loop":String)="min.loop":=by decide
 have hT:(s.heap.push {cls:= .type "tuple",data:= .seq #[a,b]}).IsTuple s.heap.objs.size #[a,b]:=⟨_,Heap.get?_push_size _ rfl,rfl,0,rfl⟩
 have hsz:(s.heap.push {cls:= .type "tuple",data:= .seq #[a,b]}).objs.size=s.heap.objs.size+1:=Heap.size_push ..
 refine call_function_tree F.kind_min F.plain_min F.entry_min (F.args_min2 _ _) ?_
 show wpAny _ A.in1 (Builtin.Builtins.bindParams "min" ["key","default"] 0 ⟨[],[]⟩>>=_) _ _ s
 refine wpAny_bind (wpAny_of_eq (show Builtin.Builtins.bindParams "min" ["key","default"] 0 ⟨[],[]⟩=pure [none,none] from rfl) ?_)
 show wpAny _ A.in1 (newTuple [a,b]>>=_) _ _ s
 refine wpAny_bind (wpAny_newObj_type ?_)
 refine wpAny_bind (wpAny_pyIter_tuple hT ?_)
 refine wpAny_bind (wpAny_newObj_type ?_)
 rw[hname]
 refine wpAny_pure ⟨plainId_quiet F.plain_min_loop _,?_⟩
 have lt0:∀{c:Addr}{o:Obj},s.heap.get? c=some o→c<s.heap.objs.size:=fun e=>Heap.lt_size e
 refine we (s:=s) (r:=r) (good:=fun h'=>∀c o,s.heap.get? c=some o→h'.get? c=some o) hh (T:=s.heap.objs.size) ?_ ?_ ?_ (fun h1 h2 k g c o e=>k c o ?_ ?_ (g c o e)) hcmp (fun h' tk g=>h h' tk g) (fun c o e=>Heap.get?_push_of_some _ (Heap.get?_push_of_some _ (Heap.get?_push_of_some _ e))) ⟨?_,?_⟩ (Heap.get?_push_size _ rfl)
 ·rw[hsz];exact Nat.ne_of_lt (Nat.lt_succ_self _)
 ·rw[Heap.size_push];exact Nat.ne_of_gt (Nat.lt_succ_self _)
 ·rw[Heap.size_push,hsz];exact Nat.ne_of_gt (Nat.lt_succ_of_lt (Nat.lt_succ_self _))
 ·have:=lt0 e;rw[hsz];exact Nat.ne_of_lt (Nat.lt_succ_of_lt this)
 ·have:=lt0 e;rw[Heap.size_push,hsz];exact Nat.ne_of_lt (Nat.lt_succ_of_lt (Nat.lt_succ_of_lt this))
 ·exact⟨_,Heap.get?_push_of_some _ (Heap.get?_push_size _ rfl),rfl,rfl⟩
 ·exact(hT.push _).push _
end
end L3
namespace L3
open PySem PySem.Spec L2
open PyProof.Rows hiding St
theorem pS:typeLookup (.type "list") "keys"=pure none:=by rw[typeLookup_type,builtinLookup_eq_fast];kernel_rfl
theorem ej:entryFor table "dict.update.loop"=some Builtin.«dict.update.loop» :=entryFor_of_tree (by kernel_rfl)
theorem bM:plainId "dict.update.loop"=true:=by decide+kernel
theorem nW:(Value.type "list" !=Value.type "dict")=true:=by decide
section
variable {prog : Program} {w : World} {A : Around} {E : Value → Shared → Prop} {s : Shared}
theorem p8 {a:Addr}{o:Obj}{xs:Array Value}{k:Nat}{Q:Option Value→Shared→Prop}(hx:s.heap.get? a=some o) (hc:o.cls= .type "list") (hdat:o.data= .seq xs k) (hd:o.dict=none) (hA:A.handled=none)
 (h:∀h' tk,(∀b ob,s.heap.get? b=some ob→h'.get? b=some ob)→Q none {s with heap:=h',toks:=tk}):wpAny (model prog w) A (getAttr? (.ref a) "keys") Q E s:=by
 obtain⟨c,dct,dat,sl⟩:=o
 simp only at hc hdat hd
 subst hc hdat hd
 obtain⟨hp,g,d,tk,os⟩:=s
 have hT:∀tk',(⟨hp,g,d,tk',os⟩:Shared).TypeIs (.ref a) "list":=fun _=>⟨_,hx,rfl⟩
 have f1:=sub_AttributeError
 have f3:=F.slot_list_getattribute.lookup
 have f4:=F.slot_list_getattribute.bind (.ref a)
 have f5:=am_list_getattr_none
 unfold getAttr? getAttrBy? getAttrBy
 repeat (any_goals (first | assumption | exact hT _ | ((with_reducible show wpAny _ _ (call (Value.builtin "list.__getattribute__") _ _) _ _ _);refine call_meets F.slot_list_getattribute (hT _) am_entry_list_getattribute (F.args_list_getattribute_2 _ _) (meets_getattribute_miss_list a xs k sl "keys" _ pS (by decide) (by size_fits)) ⟨hx,hA,fun h' tk' e hx'=>?_⟩) | wp_step))
 obtain⟨t',u',he⟩:=hx'.there
 show wpAny _ _ (getattributeRaised _ _ _ _ _ _ _) _ _ _
 unfold getattributeRaised
 repeat (any_goals (first | assumption | wp_step))
 exact h _ _ fun b ob e=>hx'.keeps b ob e
abbrev kkT (prog:Program) (w:World):HeapKind prog w (List Key):=tupleKind (aP prog w)
theorem DictOfH.at' {h h':Heap}{d:Addr}{xs:List (List Key×Addr×Value)}(x:h.DictOfH (kkT prog w) d xs) (k:∀c o,h.get? c=some o→(c=d∨∃y∈xs,y.2.1=c)→h'.get? c=some o):h'.DictOfH (kkT prog w) d xs:=by
 obtain⟨o,es,ep,h1,h2,h3,h4,h5,h6⟩:=x
 refine⟨o,es,ep,k _ _ h1 (.inl rfl),h2,h3,h4,fun y hy=>?_,h6⟩
 obtain⟨oa,items,n,a1,a2⟩:=h5 y hy
 exact⟨oa,items,n,k _ _ a1 (.inr ⟨y,hy,rfl⟩),a2⟩
theorem qX {xs:List (List Key×Addr×Value)}{k:List Key}{a:Addr}{v:Value}{x:List Key×Addr×Value}(h:x∈storedH xs k a v):(∃z∈xs,z.2.1=x.2.1)∨x.2.1=a:=by
 unfold storedH at h
 split at h
 ·obtain⟨z,hz,rfl⟩:=List.mem_map.mp h
  refine .inl ⟨z,hz,?_⟩
  unfold putAt
  split<;>rfl
 ·rcases List.mem_append.mp h with h | h
  ·exact .inl ⟨x,h,rfl⟩
  ·rw[List.mem_singleton.mp h];exact .inr rfl
theorem jT:∀(ys acc:List (List Key×Addr×Value)) {x:List Key×Addr×Value},x∈bu acc ys→(∃z∈acc,z.2.1=x.2.1)∨∃z∈ys,z.2.1=x.2.1
 |[],acc,x,h=> .inl ⟨x,h,rfl⟩
 |y::ys,acc,x,h=>by
  rcases jT ys (storedH acc y.1 y.2.1 y.2.2) h with⟨z,hz,e⟩ | ⟨z,hz,e⟩
  ·rcases qX hz with⟨q,hq,e2⟩ | e2
   ·exact .inl ⟨q,hq,e2.trans e⟩
   ·exact .inr ⟨y,List.mem_cons_self ..,e2.symm.trans e⟩
  ·exact .inr ⟨z,List.mem_cons_of_mem _ hz,e⟩
theorem sO {D I L:Addr}{vs:List Value}{ys:List (List Key×Addr×Value)}{old:Heap}{R:Result→Shared→Prop}(hh:A.handled=none) (hu:A.units+1<cLine) (hLI:L≠I) (hDI:D≠I) (hI0:old.get? I=none) (hD0:old.get? D=none) (hL:old.IsList L vs.toArray)
 (pairs:∀i,i<vs.length→∃p y,vs[i]? =some (.ref p)∧ys[i]? =some y∧old.IsTuple p #[.ref y.2.1,y.2.2]∧IsTupleKey (aP prog w) old y.1 y.2.1) (hsz:ys.length≤sizeLine) (hl:ys.length=vs.length)
 (hR:∀h' tk,(∀c o,old.get? c=some o→h'.get? c=some o)→h'.DictOfH (kkT prog w) D (bu [] ys)→R (.ok (.ret .none)) {s with heap:=h',toks:=tk}):
 ∀(r i:Nat) (h:Heap) (tk:Nat) (j:Int) (tj:Tok),vs.length - i=r→i≤vs.length→(∀c o,old.get? c=some o→h.get? c=some o)→h.IsListIter I L i→h.DictOfH (kkT prog w) D (bu [] (ys.take i))→
  codeAny (model prog w) A (.builtin "dict.update.loop" ⟨[.ref D, .ref I, .int j tj, .none],[]⟩) R {s with heap:=h,toks:=tk}:=by
 have W:=Walks.list (prog:=prog) (w:=w) (A:=A.in1) hh I L hLI vs.toArray
 have hsz':vs.toArray.size=vs.length:=List.size_toArray ..
 have nI:∀{c:Addr},c≠I→c∉[I]:=fun q z=>q (List.mem_singleton.mp z)
 have oldI:∀{c:Addr}{o:Obj},old.get? c=some o→c≠I:=fun e z=>by rw[z,hI0] at e;cases e
 have oldD:∀{c:Addr}{o:Obj},old.get? c=some o→c≠D:=fun e z=>by rw[z,hD0] at e;cases e
 have listAt:∀{h:Heap},(∀c o,old.get? c=some o→h.get? c=some o)→h.IsList L vs.toArray:=fun {h} k=>by
  obtain⟨o,e,q⟩:=hL
  exact⟨o,k _ _ e,q⟩
 have oldY:∀y∈ys,∃o,old.get? y.2.1=some o:=fun y hy=>by
  obtain⟨i,hi,rfl⟩:=List.getElem_of_mem hy
  obtain⟨p,y,_,ey,_,⟨o,_,_,e,_⟩⟩:=pairs i (by omega)
  rw[List.getElem?_eq_getElem hi] at ey
  cases ey
  exact⟨o,e⟩
 have oldA:∀{i:Nat}(x:List Key×Addr×Value),x∈bu [] (ys.take i)→∃o,old.get? x.2.1=some o:=fun {i} x hx=>by
  rcases jT _ _ hx with⟨z,hz,_⟩ | ⟨z,hz,e⟩
  ·cases hz
  ·rw[←e];exact oldY z (List.mem_of_mem_take hz)
 intro r
 induction r with
 |zero=>
  intro i h tk j tj hr hi k it dd
  have hin:i=vs.length:=by omega
  refine codeAny_builtin ej ?_
  rw[Around.under_plainId bM _]
  show wpAny _ A.in1 (pyNext (.ref I)>>=_) _ _ _
  refine wpAny_bind (W.done _ _ _ ⟨by rw[hsz',←hin];exact it,listAt k⟩ fun h1 t1 k1=>?_)
  show wpAny _ A.in1 (Builtin.Dict.addKeywords D []>>=_) _ _ _
  refine wpAny_bind (wpAny_pure (wpAny_pure ?_))
  have dd':h.DictOfH (kkT prog w) D (bu [] ys):=by
   rw[hin,←hl,List.take_length] at dd
   exact dd
  refine hR _ _ (fun c o e=>k1 c o (nI (oldI e)) (k c o e)) (DictOfH.at' dd' fun c o e hc=>k1 c o (nI ?_) e)
  rcases hc with rfl | ⟨x,hx,rfl⟩
  ·exact hDI
  ·exact oldA (i:=ys.length) x (by rw[List.take_length];exact hx) |>.elim fun o e=>oldI e
 |succ r ih=>
  intro i h tk j tj hr hi k it dd
  have hlt:i<vs.length:=by omega
  obtain⟨p,y,ep,ey,tp,ky⟩:=pairs i hlt
  refine codeAny_builtin ej ?_
  rw[Around.under_plainId bM _]
  show wpAny _ A.in1 (pyNext (.ref I)>>=_) _ _ _
  refine wpAny_bind (W.item i _ _ _ (by rw[hsz'];exact hlt) ⟨it,listAt k⟩ fun v h1 t1 hP st1 k1=>?_)
  have hv:v= .ref p:=by
   have:vs[i]? =some v:=by simpa using hP
   rw[ep] at this
   exact(Option.some.inj this).symm
  subst hv
  have kk1:∀c o,old.get? c=some o→h1.get? c=some o:=fun c o e=>k1 c o (nI (oldI e)) (k c o e)
  show wpAny _ A.in1 (holding [Value.ref p] (tryCatch (Builtin.Dict.pairItems (.ref p)) _>>=_)>>=_) _ _ _
  have dd1:h1.DictOfH (kkT prog w) D (bu [] (ys.take i)):=DictOfH.at' dd fun c o e hc=>k1 c o (nI (by
   rcases hc with rfl | ⟨x,hx,rfl⟩
   ·exact hDI
   ·obtain⟨o',e'⟩:=oldA x hx
    exact oldI e')) e
  obtain⟨op,eo,hcp,np,hdp⟩:=tp
  have op1:=kk1 _ _ eo
  refine wpAny_bind (wpAny_holding (wpAny_bind (wpAny_tryCatch ?_)))
  unfold Builtin.Dict.pairItems
  refine wpAny_bind (wpAny_typeOf ⟨op,op1,hcp⟩ ?_)
  rw[if_pos (by decide)]
  refine wpAny_bind (wpAny_seqItems op1 hdp (wpAny_pure ?_))
  show wpAny _ A.in1 (holding [Value.ref y.2.1,y.2.2] (dictSet D (.ref y.2.1) y.2.2)) _ _ _
  have ky1:IsTupleKey (aP prog w) h1 y.1 y.2.1:=by
   obtain⟨oa,items,n,a1,a2⟩:=ky
   exact⟨oa,items,n,kk1 _ _ a1,a2⟩
  have hz:(bu [] (ys.take i)).length≤sizeLine:=by
   have:=hZ (ys.take i) ([]:List (List Key×Addr×Value))
   rw[List.length_take] at this
   have h3:min i ys.length≤ys.length:=Nat.min_le_right ..
   simp only[List.length_nil] at this
   omega
  refine wpAny_holding (wpAny_dictSet_heap (knd:=kkT prog w) (hsz:=hz) (show A.in1.units<cLine from hu) ky1 dd1 fun h2 dd2 hs2=>?_)
  show wpAny _ A.in1 (pure (Fin.again (.builtin "dict.update.loop" ⟨[.ref D, .ref I,rawInt (j+1), .none],[]⟩))) _ _ _
  refine wpAny_pure ⟨plainId_quiet bM _,?_⟩
  rw[←jM ey] at dd2
  refine ih (i+1) h2 _ _ _ (by omega) (by omega) (fun c o e=>?_) ?_ dd2
  ·rw[hs2.2 c (oldD e)];exact kk1 c o e
  ·obtain⟨oI,eI,q⟩:=st1.1
   exact⟨oI,by rw[hs2.2 I (Ne.symm hDI)];exact eI,q⟩
theorem lx {L:Addr}{o:Obj}{n:Nat}{vs:List Value}{ys:List (List Key×Addr×Value)}{Q:Value→Shared→Prop}(hA:A.handled=none) (hu:A.units+8<cLine) (hx:s.heap.get? L=some o) (hc:o.cls= .type "list") (hdat:o.data= .seq vs.toArray n) (hd:o.dict=none)
 (pairs:∀i,i<vs.length→∃p y,vs[i]? =some (.ref p)∧ys[i]? =some y∧s.heap.IsTuple p #[.ref y.2.1,y.2.2]∧IsTupleKey (aP prog w) s.heap y.1 y.2.1) (hsz:ys.length≤sizeLine) (hl:ys.length=vs.length)
 (h:∀h' tk,(∀c o,s.heap.get? c=some o→h'.get? c=some o)→h'.DictOfH (kkT prog w) s.heap.objs.size (bu [] ys)→Q (.ref s.heap.objs.size) {s with heap:=h',toks:=tk}):
 wpAny (model prog w) A (call (.type "dict") [.ref L]) Q E s:=by
 refine callType_codes (Q₁:=fun obj s₁=>obj= .ref s.heap.objs.size∧s₁={s with heap:=s.heap.push {cls:= .type "dict",data:= .dict #[]} }) F.kt_called_dict (F.kt_typeCall_dict_1 _) F.entry_dict_init (kt_code_dict_new _ ⟨rfl,rfl⟩) ?_
 rintro obj s₁ ⟨rfl,rfl⟩
 have hnew:(s.heap.push {cls:= .type "dict",data:= .dict #[]}).DictOfH (kkT prog w) s.heap.objs.size []:=⟨_,#[],0,Heap.get?_push_size _ rfl,⟨rfl,rfl,rfl⟩,rfl,rfl,fun x hx=>(by cases hx),List.nodup_nil⟩
 have hT:({s with heap:=s.heap.push {cls:= .type "dict",data:= .dict #[]} }:Shared).TypeIs (.ref s.heap.objs.size) "dict":=⟨_,Heap.get?_push_size _ rfl,rfl⟩
 refine⟨hT,F.args_dict_init_2 _ _,?_⟩
 have hx':(s.heap.push {cls:= .type "dict",data:= .dict #[]}).get? L=some o:=Heap.get?_push_of_some _ hx
 unfold Builtin.«dict.__init__»
 refine wpAny_bind ?_
 unfold Builtin.Dict.selfAndRest
 refine wpAny_bind (wpAny_notOrdered_dict hT ?_)
 show wpAny _ _ (pure (s.heap.objs.size,[Value.ref L])) _ _ _
 refine wpAny_pure ?_
 show wpAny _ _ (Builtin.Dict.updateFrom "dict.__init__" s.heap.objs.size (.ref L) [] .none) _ _ _
 unfold Builtin.Dict.updateFrom
 refine wpAny_bind (wpAny_typeOf ⟨o,hx',hc⟩ ?_)
 rw[if_pos nW]
 refine wpAny_bind (p8 hx' hc hdat hd (by exact hA) fun h1 t1 k1=>?_)
 show wpAny _ _ (rule _>>=_) _ _ _
 refine wpAny_bind (wpAny_rule ?_)
 have hL1:h1.IsList L vs.toArray:=⟨o,k1 _ _ hx',hc,n,hdat⟩
 refine wpAny_bind (wpAny_pyIter_list hL1 ?_)
 refine wpAny_pure ⟨plainId_quiet bM _,?_⟩
 have kk1:∀c ob,s.heap.get? c=some ob→h1.get? c=some ob:=fun c ob e=>k1 c ob (Heap.get?_push_of_some _ e)
 have none_at:∀{c:Addr},s.heap.objs.size≤c→s.heap.get? c=none:=fun {c} hc=>by
  cases e:s.heap.get? c with
  |none=>rfl
  |some ob=>exact absurd (Heap.lt_size e) (Nat.not_lt.mpr hc)
 have nD:s.heap.get? s.heap.objs.size=none:=none_at (Nat.le_refl _)
 have hl1:L<h1.objs.size:=Heap.lt_size (k1 _ _ hx')
 have lt1:s.heap.objs.size<h1.objs.size:=Heap.lt_size (k1 _ _ (Heap.get?_push_size _ rfl))
 refine sO (A:=A.in1) (s:=s) (old:=s.heap) (vs:=vs) (ys:=ys) (R:=wants (fun r s₂=>r=Value.none∧Q (Value.ref s.heap.objs.size) s₂) E) (by exact hA) (by show A.units+1+1<cLine;omega) (Nat.ne_of_lt hl1) (Nat.ne_of_lt lt1) (none_at (Nat.le_of_lt lt1)) nD ⟨o,hx,hc,n,hdat⟩ pairs hsz hl (fun h' tk k dd=>⟨rfl,h h' tk k dd⟩) vs.length 0 _ _ _ _ rfl (Nat.zero_le _) (fun c ob e=>Heap.get?_push_of_some _ (kk1 c ob e)) ⟨_,Heap.get?_push_size _ rfl,rfl,rfl⟩ ?_
 refine DictOfH.at' hnew fun c ob e hc=>Heap.get?_push_of_some _ (k1 c ob e)
end
end L3
namespace L3
open PySem PySem.Spec L2
open PyProof.Rows hiding St
def ltT:D→D→Option Bool
 | .tup xs, .tup ys=>match nums xs,nums ys with
   |some a,some b=>some (HT.lexLt a b)
   |_,_=>none
 |_,_=>none
def rS (x y:D):M D:=match ltT x y with | some b=>M.ret (.bl b) | none=>M.stuck
def oR:List D→M D
 |[x,y]=>match ltT y x with | some b=>M.ret (if b then y else x) | none=>M.stuck
 |_=>M.stuck
section
variable {X : Cx} {Xw : Nat → Hp → Prop} {a b e e2 : Expr} {δa δb : DE} {δs : DA} {p pos : Pos}
theorem u5 {K:PySem.W.Frag}{F:Hp}{x y:D}{v u:V}{r:Bool}(e:ltT x y=some r) (hx:Den K F x v) (hy:Den K F y u):∃a b ns ms,v= .ref a∧u= .ref b∧F a=some (.tup (ns.map V.int))∧F b=some (.tup (ms.map V.int))∧r=HT.lexLt ns ms:=by
 unfold ltT at e
 split at e
 ·rename_i xs ys
  obtain⟨a,vs,rfl,h2,h3,h4⟩:=hx
  obtain⟨b,us,rfl,k2,k3,k4⟩:=hy
  split at e
  ·rename_i ns ms e1 e2
   cases jE e1 h3
   cases jE e2 k3
   cases e
   exact⟨a,b,ns,ms,rfl,rfl,h2,k2,rfl⟩
  ·cases e
 ·cases e
theorem Av {K:PySem.W.Frag}:OpD K (CZ K) rS:=fun Xw F H x y dx dy Q s hx hy w=>by
 unfold rS at w
 split at w
 ·rename_i r e
  obtain⟨a,b,ns,ms,rfl,rfl,h1,h2,rfl⟩:=u5 e hx hy
  exact⟨a,b,ns,ms,rfl,rfl,SqT.of (s _ _ h1),SqT.of (s _ _ h2),WP.now w s rfl⟩
 ·exact w.elim
theorem B_ (hu:X.A.units+64<cLine) (ha:PD X Xw a δa) (hb:PD X Xw b δb):PDT X Xw (.Compare a [.Lt] [b] pos) (tB' (d2 rS δa δb)):=gw (Cr (by omega)) Av ha hb
def Dk (K:PySem.W.Frag):List V→Hp→VK→Prop:=fun xs H Q=>∃a b ns ms,xs=[.ref a, .ref b]∧SqT K H a (ns.map V.int)∧SqT K H b (ms.map V.int)∧Q (if HT.lexLt ms ns then .ref b else .ref a) H
theorem wC (hc:X.calm=true) (hu:X.A.units+64<cLine):CallR X (.builtin "min") (Dk X.K):=by
 intro pins s σ H xs us Q I r h
 obtain⟨a,b,ns,ms,rfl,ha,hb,q⟩:=h
 obtain⟨u,w',rfl,rx,ry⟩:=vals2 r
 cases rx
 cases ry
 obtain⟨its,r1,p1,_⟩:=I.tuple ha
 obtain⟨its2,r2,p2,_⟩:=I.tuple hb
 have i1:IntsAre its.toArray.toList ns:=intsAre_of r1
 have i2:IntsAre its2.toArray.toList ms:=intsAre_of r2
 refine tu (r:=HT.lexLt ms ns) (I.ok.hd hc) (fun h' tk Q' E' k hq=>?_) fun h' tk k=>⟨_,H,I.kept k,?_,q⟩
 ·obtain⟨o1,e1,q1⟩:=p1
  obtain⟨o2,e2,q2⟩:=p2
  exact HT.lt_tupInts (s:={s with heap:=h',toks:=tk}) ⟨o2,k _ _ e2,q2⟩ ⟨o1,k _ _ e1,q1⟩ i2 i1 (by show X.A.units+1<cLine;omega) hq
 ·cases HT.lexLt ms ns<;>rfl
theorem A1 (hu:X.A.units+64<cLine) (hc:X.calm=true) (hg:Gl X "min") (hm:X.mg "min"=none) (hb:bootBuiltins "min"=some (.builtin "min")) (ha:PDA X Xw [e,e2] δs) (he:starEach [e,e2] X.env=(false,eval e X.env)::starEach [e2] X.env:=by rfl)
 (hpl:(backTo pos (starEach [e2] X.env)).any (·.1)=false:=by rfl):PD X Xw (.Call (.Name "min" p) [e,e2] [] pos) (dA oR δs):=
 eh (wC hc hu) (fun Xw F H vs ds Q s h w=>by
  unfold oR at w
  split at w
  ·rename_i x y
   obtain⟨v,v',rfl,h1,h2⟩:=h.two
   split at w
   ·rename_i r e
    obtain⟨b,a,ms,ns,rfl,rfl,k1,k2,rfl⟩:=u5 e h2 h1
    refine⟨a,b,ns,ms,rfl,SqT.of (s _ _ k2),SqT.of (s _ _ k1),?_⟩
    cases hl:HT.lexLt ms ns with
    |true=>rw[hl] at w;exact WP.now w s h2
    |false=>rw[hl] at w;exact WP.now w s h1
   ·exact w.elim
  ·exact w.elim) hg hm hb ha (by decide) (by decide) he hpl
def iX:List D→Option (List (List Key)×List D)
 |[]=>some ([],[])
 | .tup [k,v]::r=>match dX k,iX r with
   |some kk,some q=>some (kk::q.1,v::q.2)
   |_,_=>none
 |_=>none
def vq:List D→M C
 |[.lst ds]=>match iX ds with
  |some q=>if q.1.Nodup∧q.2.length≤lim then M.ret (.dct q.1 q.2) else M.stuck
  |none=>M.stuck
 |_=>M.stuck
def BJ:List V→Hp→VK→Prop:=fun xs H Q=>∃(a:Addr) (ps:List (Addr×List Key×Addr×V)),xs=[.ref a]∧H a=some (.lst (ps.map fun p=>V.ref p.1))∧(∀p∈ps,H p.1=some (.tup [.ref p.2.2.1,p.2.2.2])∧H p.2.2.1=some (.tup (p.2.1.map kV)))∧
 (ps.map (·.2.1)).Nodup∧ps.length≤sizeLine∧∀q,H q=none→Q (.ref q) (upd H q (.dT (ps.map fun p=>(p.2.1,p.2.2.2))))
theorem pairs_at {P:Program}{w:World}{H:Hp}{h:Heap}(ok:HOk P w H h):∀(ps:List (Addr×List Key×Addr×V)) (us:List Value),Vals (ps.map fun p=>V.ref p.1) us→(∀p∈ps,H p.1=some (.tup [.ref p.2.2.1,p.2.2.2])∧H p.2.2.1=some (.tup (p.2.1.map kV)))→
 ∃ys:List (List Key×Addr×Value),ys.length=us.length∧ys.map (·.1)=ps.map (·.2.1)∧(∀i,i<us.length→∃p y,us[i]? =some (.ref p)∧ys[i]? =some y∧h.IsTuple p #[.ref y.2.1,y.2.2]∧IsTupleKey (aP P w) h y.1 y.2.1)∧
  Paired (fun (p:List Key×V) (q:List Key×Addr×Value)=>p.1=q.1∧H q.2.1=some (.tup (p.1.map kV))∧RelV p.2 q.2.2) (ps.map fun p=>(p.2.1,p.2.2.2)) ys
 |[],_, .nil,_=>⟨[],rfl,rfl,fun i hi=>absurd hi (Nat.not_lt_zero _), .nil⟩
 |p::ps,u::us, .cons r rs,hp=>by
  obtain⟨ys,l1,l2,l3,l4⟩:=pairs_at ok ps us rs fun q hq=>hp q (List.mem_cons_of_mem _ hq)
  obtain⟨e1,e2⟩:=hp p (List.mem_cons_self ..)
  have hr:u= .ref p.1:=r
  obtain⟨_,its,rv,o,h1,h2,n,h3⟩:=(show ObjOk P w H h p.1 (.tup [.ref p.2.2.1,p.2.2.2]) from ok _ _ e1)
  obtain⟨x,y,rfl,rx,ry⟩:=vals2 rv
  have hx:x= .ref p.2.2.1:=rx
  subst hx
  refine⟨(p.2.1,p.2.2.1,y)::ys,by simp[l1],by simp[l2],fun i hi=>?_, .cons ⟨rfl,e2,ry⟩ l4⟩
  cases i with
  |zero=>exact⟨p.1,_,by rw[hr];rfl,rfl,⟨o,h1,h2,n,h3⟩,gx ok e2⟩
  |succ i=>
   obtain⟨q,y',a1,a2,a3⟩:=l3 i (by simpa using hi)
   exact⟨q,y',by simpa using a1,by simpa using a2,a3⟩
theorem uU (hc:X.calm=true) (hu:X.A.units+64<cLine):CallR X (.type "dict") BJ:=by
 intro pins s σ H xs us Q I r h
 obtain⟨a,ps,rfl,ha,hp,hn,hz,q⟩:=h
 obtain⟨u,rfl,rx⟩:=vals1 r
 cases rx
 obtain⟨_,its,n,rv,e⟩:=(show ObjOk X.prog X.w H s.heap a (.lst _) from I.hok _ _ ha)
 obtain⟨ys,l1,l2,l3,l4⟩:=pairs_at I.hok ps its rv hp
 have hly:ys.length=ps.length:=by
  have:=congrArg List.length l2
  simpa using this
 have hnd:(ys.map (·.1)).Nodup:=by rw[l2];exact hn
 refine lx (vs:=its) (ys:=ys) (I.ok.hd hc) (by omega) e rfl rfl rfl l3 (by omega) l1 fun h' tk k dd=>?_
 rw[ij ys [] (by simpa using hnd),List.nil_append] at dd
 obtain⟨o,es,ep,d1,d2,d3,d4,_,d5⟩:=dd
 refine⟨.ref s.heap.objs.size,_,I.laid (t':=tk) k (Nat.le_refl _) (o:= .dT (ps.map fun p=>(p.2.1,p.2.2.2))) ⟨by rw[List.length_map];exact hz,?_,ys,?_,o,es,ep,d1,d2,d3,d4,d5⟩,rfl,q _ (I.hok.fresh (Nat.le_refl _))⟩
 ·have:=I.big
  exact beq_false_of_ne (Nat.ne_of_gt this)
 ·refine Paired.mapP l4 fun x y z=>⟨z.1,?_,z.2.2⟩
  rw[av (fun zz=>?_)]
  ·exact z.2.1
  ·have:=I.hok.fresh (a:=s.heap.objs.size) (Nat.le_refl _)
   rw[←zz,z.2.1] at this
   cases this
theorem o4 {K:PySem.W.Frag}{F:Hp}:∀{ds:List D}{vs:List V}{q:List (List Key)×List D},iX ds=some q→DenL K F ds vs→∃ps:List (Addr×List Key×Addr×V),vs=ps.map (fun p=>V.ref p.1)∧(∀p∈ps,F p.1=some (.tup [.ref p.2.2.1,p.2.2.2])∧F p.2.2.1=some (.tup (p.2.1.map kV)))∧
 ps.map (·.2.1)=q.1∧DenL K F q.2 (ps.map (·.2.2.2))∧q.1.length=q.2.length
 |[],_,_,e,h=>by
  cases e
  cases (show _=_ from h)
  exact⟨[],rfl,(fun p hp=>(by cases hp)),rfl,rfl,rfl⟩
 |d::ds,_,q,e,⟨v,r,h1,h2,h3⟩=>by
  unfold iX at e
  split at e
  ·cases ‹_::_=[]›
  ·rename_i k x r' heq
   cases heq
   split at e
   ·rename_i kk q' e1 e2
    cases e
    obtain⟨ps,i1,i2,i3,i4,i5⟩:=o4 e2 h3
    obtain⟨b,ws,rfl,b2,b3,b4⟩:=h2
    obtain⟨kv,r1,rfl,k1,r2⟩:=b3
    obtain⟨xv,r3,rfl,x1,r4⟩:=r2
    cases (show _=_ from r4)
    unfold dX at e1
    split at e1
    ·obtain⟨c,ws,rfl,c2,c3,c4⟩:=k1
     have e5:=gc e1 c3
     subst e5
     refine⟨(b,kk,c,xv)::ps,by rw[h1,i1];rfl,fun p hp=>?_,by simp[i3],⟨xv,_,rfl,x1,i4⟩,by simp[i5]⟩
     rcases List.mem_cons.mp hp with rfl | hp
     ·exact⟨b2,c2⟩
     ·exact i2 p hp
    ·cases e1
   ·cases e
  ·cases e
theorem rm {α β γ:Type}(f:α→β) (g:α→γ):∀l:List α,(l.map f).zip (l.map g)=l.map fun x=>(f x,g x)
 |[]=>rfl
 |a::l=>by rw[List.map_cons,List.map_cons,List.zip_cons_cons,rm f g l];rfl
theorem ya (hu:X.A.units+64<cLine) (hc:X.calm=true) (hg:Gl X "dict") (hm:X.mg "dict"=none) (hb:bootBuiltins "dict"=some (.type "dict")) (ha:PDA X Xw [e] δs) (he:starEach [e] X.env=[(false,eval e X.env)]:=by rfl):
 PDF X Xw (.Call (.Name "dict" p) [e] [] pos) (fun ρ=>δs ρ>>=vq):=
 PE.weak (n_ (uU hc hu) hg hm hb ha (by decide) (by decide) he rfl) fun σ H Q ⟨F,ρ,s,w⟩=>by
  refine⟨F,ρ,s,WPL.mono (WPF.bindL w) fun vs H1 ⟨F1,ds,e1,q1,w1⟩=>?_⟩
  unfold vq at w1
  split at w1
  ·rename_i ds
   obtain⟨v,rfl,h1⟩:=q1.one
   obtain⟨a,ws,rfl,h2,h3,h4⟩:=h1
   split at w1
   ·rename_i q eq
    split at w1
    ·rename_i hq
     obtain⟨ps,rfl,i2,i3,i4,i5⟩:=o4 eq h3
     have hlen:ps.length=q.2.length:=by rw[←i5,←i3,List.length_map]
     refine⟨a,ps,rfl,e1.fh _ _ h2,fun p hp=>⟨e1.fh _ _ (i2 p hp).1,e1.fh _ _ (i2 p hp).2⟩,by rw[i3];exact hq.1,?_,fun r hr=>?_⟩
     ·have:=dD;have:=hq.2;omega
     obtain⟨E,nF⟩:=Ext.fresh (o:= .dT (ps.map fun p=>(p.2.1,p.2.2.2))) e1.fh hr
     refine w1 r _ _ F1 E aF nF hr ⟨ps.map (·.2.2.2),?_,i4,i5,hq.2⟩
     rw[←i3,rm]
    ·exact w1.elim
   ·exact w1.elim
  ·exact w1.elim
end
end L3
namespace L3
open PySem PySem.Spec L2
open PyProof.Rows hiding St
mutual
def pb:D→Bool
 | .non=>true
 | .bl _=>true
 | .int _=>true
 | .str _=>true
 | .tup ds=>lV ds
 | .lst ds=>lV ds
 | .raw _=>false
 | .exc _=>false
 | .scr _=>false
 | .dct _ _=>false
 | .dci _ _=>false
def lV:List D→Bool
 |[]=>true
 |d::ds=>pb d&&lV ds
end
def yA (d:D):M D:=if pb d then M.ret d else M.stuck
def jU (ρ:Rho):Bool:=ρ.all fun x=>match x with
 |some (.ow (.lst _))=>false
 |_=>true
theorem xn {ρ:Rho}{i:Nat}{ds:List D}(h:jU ρ=true) (e:ρ[i]? =some (some (.ow (.lst ds)))):False:=by
 have:=List.all_eq_true.mp h _ (List.mem_of_getElem? e)
 cases this
def dTd (δ:DE):DE:=fun ρ=>if jU ρ then noex (δ (frA ρ))>>=yA else M.stuck
section
variable {K : PySem.W.Frag} {F H F' H' : Hp} {σ : St} {ρ : Rho} {h : Heap} {b : Addr}
theorem OwnAt.dict (S:StE K F H σ ρ) (hd:jU ρ=true) (p:OwnAt σ ρ b):∃o,H b=some o∧((∃x,o= .dT x)∨∃x,o= .dK x):=by
 obtain⟨i,c,h1,h2⟩:=p
 obtain⟨v,h3,a,o,rfl,h4,h5,h6⟩:=S.den i _ h1
 rw[h3] at h2
 cases h2
 refine⟨o,h4,?_⟩
 cases c with
 |lst ds=>exact(xn hd h1).elim
 |dct ks ds=>obtain⟨vs,rfl,_⟩:=h6;exact .inl ⟨_,rfl⟩
 |dci ks ds=>obtain⟨vs,rfl,_⟩:=h6;exact .inr ⟨_,rfl⟩
open Classical in
theorem va (S:StE K F H σ ρ) (hd:jU ρ=true) (E:Ext (fA σ ρ (refA h (OwnAt σ ρ) H) F) (refA h (OwnAt σ ρ) H) F' H') {a:Addr}{o:HO}(e:F' a=some o) (hne:∀q u,o≠ .frz q u):(if OwnAt σ ρ a then none else F' a)=some o:=by
 rw[if_neg,e]
 intro hp
 obtain⟨o',k1,k2⟩:=OwnAt.dict S hd hp
 have k3:fA σ ρ (refA h (OwnAt σ ρ) H) F a=some (ll ((h.get? a).getD {cls:= .none,data:= .fields #[]}) o'):=by
  unfold fA refA
  rw[if_pos hp,if_pos hp,k1]
  rfl
 have k4:=E.ff a _ k3
 rw[e] at k4
 rcases k2 with⟨x,rfl⟩ | ⟨x,rfl⟩<;>cases k4<;>exact hne _ _ rfl
open Classical in
mutual
theorem tq (S:StE K F H σ ρ) (hd:jU ρ=true) (E:Ext (fA σ ρ (refA h (OwnAt σ ρ) H) F) (refA h (OwnAt σ ρ) H) F' H'):∀{d:D}{v:V},pb d=true→Den K F' d v→Den K (fun b=>if OwnAt σ ρ b then none else F' b) d v
 | .non,_,_,q=>q
 | .bl _,_,_,q=>q
 | .int _,_,_,q=>q
 | .str _,_,_,q=>q
 | .tup ds,_,f,⟨a,vs,h1,h2,h3,h4⟩=>⟨a,vs,h1,va S hd E h2 (fun _ _ z=>nomatch z),j_ S hd E f h3,h4⟩
 | .lst ds,_,f,⟨a,vs,h1,h2,h3,h4⟩=>⟨a,vs,h1,va S hd E h2 (fun _ _ z=>nomatch z),j_ S hd E f h3,h4⟩
 | .raw _,_,f,_=>by cases f
 | .exc _,_,f,_=>by cases f
 | .scr _,_,f,_=>by cases f
 | .dct _ _,_,f,_=>by cases f
 | .dci _ _,_,f,_=>by cases f
theorem j_ (S:StE K F H σ ρ) (hd:jU ρ=true) (E:Ext (fA σ ρ (refA h (OwnAt σ ρ) H) F) (refA h (OwnAt σ ρ) H) F' H'):∀{ds:List D}{vs:List V},lV ds=true→DenL K F' ds vs→DenL K (fun b=>if OwnAt σ ρ b then none else F' b) ds vs
 |[],_,_,q=>q
 |d::ds,_,f,⟨v,r,h1,h2,h3⟩=>by
  unfold lV at f
  rw[Bool.and_eq_true] at f
  exact⟨v,r,h1,tq S hd E f.1 h2,j_ S hd E f.2 h3⟩
end
end
section
variable {X : Cx} {Xw : Nat → Hp → Prop} {e : Expr} {δ : DE}
theorem CV (h:PD X Xw e δ):PD X Xw e (dTd δ):=fun pins s σ H Q I ⟨F,ρ,S,w⟩=>by
 classical
 have w:WP X.K Xw F H (if jU ρ then noex (δ (frA ρ))>>=yA else M.stuck) Q:=w
 by_cases hd:jU ρ=true
 ·rw[if_pos hd] at w
  rcases iV (δ (frA ρ)) with q | ⟨d,q,q2⟩
  ·rw[q] at w
   exact w.elim
  ·rw[q2,ar] at w
   unfold yA at w
   split at w
   ·rename_i hf
    refine thn (h pins s σ _ (fun v H'=>Q v (unA (OwnAt σ ρ) H')∧∀c,OwnAt σ ρ c→∀o u,H' c=some (.frz o u)→(∃k,u= .dT k)∨∃k,u= .dK k) (Inv.refA (P:=OwnAt σ ρ) I) ⟨_,_,uL (h:=s.heap) S,?_⟩) fun u s' ⟨v,H',I',r,q1,q3⟩=>⟨v,_,Inv.unA I' (ki I S) q3,r,q1⟩
    rw[q]
    intro v H' F' E k
    obtain⟨E1,q3⟩:=mQ S E
    exact⟨w _ _ _ E1 (tq S hd E hf k),q3⟩
   ·exact w.elim
 ·rw[if_neg hd] at w
  exact w.elim
end
end L3
namespace L3
open PySem PySem.Spec L2
open PyProof.Rows hiding St
def dTf (δ:DE):DE:=fun ρ=>noex (δ (frA ρ))>>=mW
def tTf (τ:DT):DT:=fun ρ=>noex (τ (frA ρ))
section
variable {X : Cx} {Xw : Nat → Hp → Prop} {st : Stmt} {τ : DS} {is : List Nat}
end
end L3
namespace L3
def sRz (n:Nat) (δs:DA):DS:=fun ρ=>δs ρ>>=fun ds=>if ds.length≤lim then M.raise n else M.stuck
end L3
namespace K1
open PySem PySem.Spec L2 L3
open PyProof.Rows hiding St
def rzI:Nat→Nat
 |1=>1
 |2=>2
 |_=>0
def cB (cA:Nat→Addr) (n:Nat):Addr:=cA (rzI n)
def cAs (cA:Nat→Addr):List Addr:=[cA 0,cA 1,cA 2]
def hdM (k:Nat):M D:=M.ret (.tup [.str "refused", .int ((rzI k:Nat):Int)])
def t5:DS:=(bp (dI (dA gS (aC (dV 0) (aC (dC (.raw (.ty "int"))) aN))) (A8 (dA gS (aC (dV 0) (aC (dC (.raw (.ty "bool"))) aN))))))
def bw:List D→M D:=bY 1 (t5)
def sj:DS:=(bp (dI (dA gS (aC (dV 0) (aC (dC (.raw (.ty "str"))) aN))) (dI (d2 gEq (dA aS (aC (dV 0) aN)) (dC (.int 1))) (d2 (yY false) (dV 0) (dC (.str "abcdef"))))))
def cP:List D→M D:=bY 1 (sj)
def mX:DS:=(bp (br 0 (fun ρ=>(aC (dA aS (aC (d2 aK (dV 0) (dC (.int 0))) aN)) aN) ρ>>=eR) cb (dA aU (aC (dV 2) (aC (dV 0) aN)))))
def aY:List D→M D:=bY 2 (mX)
def rC:DS:=(bp (d2 iI (d2 aK (dV 0) (d2 aK (dV 1) (dC (.int 0)))) (d2 aK (dV 1) (dC (.int 1)))))
def dR:List D→M D:=bY 2 (rC)
def ue:DS:=(aB (bh 3 (dA xY (aC (d2 rF (d2 aK (dV 0) (dC (.int 0))) (d2 aK (dV 1) (dC (.int 0)))) aN))) (aB (bh 4 (dA xY (aC (d2 rF (d2 aK (dV 0) (dC (.int 1))) (d2 aK (dV 1) (dC (.int 1)))) aN))) (aB (sIf (tB' (d2 gEq (dV 2) (dC (.int 4)))) (bp (d2 gEq (d2 dE (dV 3) (dV 4)) (dC (.int 1)))) cf) (bp (d2 gEq (dA tQ (aC (dV 3) (aC (dV 4) aN))) (dC (.int 1)))))))
def dB:List D→M D:=bY 5 (ue)
def AS:DS:=(aB (tI 1) (aB (fun ρ=>noex ((cT (putN 2) (Cu (cW (dV 0)) (fun ρ=>(dV 0) ρ>>=kS)) (bN [2] (fb 1 (dV 2) (dC (.bl true))))) ρ)) (sFz 1 (bp (dV 1)))))
def jF:List D→M D:=bY 3 (AS)
def mB:DS:=(aB (sIf (tB' (d2 gEq (dV 0) (dA bD aN))) (bp (d2 fX (dC (.int 7)) (dV 1))) cf) (bp (d2 dE (d2 xi (dV 0) (d2 jN (dV 1) (dA aS (aC (dV 0) aN)))) (d2 fX (dC (.int 6553)) (d2 nO (dV 1) (dA aS (aC (dV 0) aN)))))))
def fI:List D→M D:=bY 2 (mB)
def rV:DS:=(aB (sIf (dOr (cz (bU (dA gS (aC (dV 0) (aC (dC (.raw (.ty "str"))) aN))))) (cz (tB' (chI (fun i j=>decide (i≤j)) (fun i j=>decide (i≤j)) (dC (.int 1)) (dA aS (aC (dV 0) aN)) (dC (.int 8)))))) (bp (dC (.bl false))) cf) (bp (dA allM (aC (br 0 (fun ρ=>(dV 0) ρ>>=BF) cb (ax 1 cP (aC (dV 0) aN))) aN))))
def fM:List D→M D:=bY 1 (rV)
def o5:DS:=(aB (sIf (dOr (cz (bU (dA gS (aC (dV 1) (aC (dC (.raw (.ty "tuple"))) aN))))) (tB' (d2 gNe (dA aS (aC (dV 1) aN)) (dC (.int 2))))) (bp (dC (.bl false))) cf) (aB (sIf (dOr (cz (bU (ax 1 bw (aC (d2 aK (dV 1) (dC (.int 0))) aN)))) (cz (bU (ax 1 bw (aC (d2 aK (dV 1) (dC (.int 1))) aN))))) (bp (dC (.bl false))) cf) (bp (dI (chI (fun i j=>decide (i≤j)) (fun i j=>decide (i<j)) (dC (.int 0)) (d2 aK (dV 1) (dC (.int 0))) (dA aS (aC (dV 0) aN))) (chI (fun i j=>decide (i≤j)) (fun i j=>decide (i<j)) (dC (.int 0)) (d2 aK (dV 1) (dC (.int 1))) (dA aS (aC (d2 aK (dV 0) (dC (.int 0))) aN)))))))
def iy:List D→M D:=bY 2 (o5)
def tJ:DS:=(sIf (dOr (cz (bU (ax 1 bw (aC (dV 0) aN)))) (tB' (d2 (zI true) (dV 0) (dA aU (aC (dC (.int 4)) (aC (dC (.int 8)) aN)))))) (sRz 1 (aC (dC (.str "ways are 4 or 8")) aN)) cf)
def bE:List D→M D:=bY 1 (tJ)
def rE:DS:=(aB (qW 1) (aB (fun ρ=>noex ((cT (putN 2) (fun ρ=>(aC (dA aS (aC (dV 0) aN)) aN) ρ>>=eR) (bN [2] (y0 1 (ax 2 aY (aC (dV 0) (aC (dV 2) aN)))))) ρ)) (sFz 1 (bp (dV 1)))))
def fP:List D→M D:=bY 3 (rE)
def qi:DS:=(aB (qW 3) (aB (fun ρ=>noex ((cT (putN 4) (fun ρ=>(aC (dA tQ (aC (d2 rF (d2 aK (dV 1) (dC (.int 0))) (dC (.int 1))) (aC (dC (.int 0)) aN))) (aC (dA w6 (aC (d2 dE (d2 aK (dV 1) (dC (.int 0))) (dC (.int 2))) (aC (dA aS (aC (dV 0) aN)) aN))) aN)) ρ>>=oE) (bN [4,5] (cT (putN 5) (fun ρ=>(aC (dA tQ (aC (d2 rF (d2 aK (dV 1) (dC (.int 1))) (dC (.int 1))) (aC (dC (.int 0)) aN))) (aC (dA w6 (aC (d2 dE (d2 aK (dV 1) (dC (.int 1))) (dC (.int 2))) (aC (dA aS (aC (d2 aK (dV 0) (dC (.int 0))) aN)) aN))) aN)) ρ>>=oE) (bN [5] (sIf (bU (ax 3 dB (aC (dV 1) (aC (dA aU (aC (dV 4) (aC (dV 5) aN))) (aC (dV 2) aN))))) (gY 3 (dA aU (aC (dV 4) (aC (dV 5) aN)))) cf))))) ρ)) (sFz 3 (bp (dV 3)))))
def da:List D→M D:=bY 6 (qi)
def kZ:DS:=(aB (bh 3 (d2 jN (d2 dE (d2 fX (d2 jN (ax 2 fI (aC (dV 0) (aC (dV 1) aN))) (dC (.int 2147483563))) (dC (.int 69069))) (d2 fX (dC (.int 104723)) (d2 dE (dV 1) (dC (.int 1))))) (dC (.int 2147483563)))) (aB (bh 3 (d2 jN (d2 dE (d2 fX (dV 3) (dV 3)) (d2 nO (dV 3) (dC (.int 3)))) (dC (.int 2147483399)))) (bp (d2 jN (d2 nO (d2 jN (d2 dE (d2 fX (dV 3) (dV 3)) (d2 nO (dV 3) (dC (.int 7)))) (dC (.int 2147483647))) (dC (.int 11))) (dV 2)))))
def aG:List D→M D:=bY 4 (kZ)
def mj:DS:=(aB (sIf (dOr (cz (bU (dA gS (aC (dV 0) (aC (dC (.raw (.ty "tuple"))) aN))))) (cz (tB' (chI (fun i j=>decide (i≤j)) (fun i j=>decide (i≤j)) (dC (.int 1)) (dA aS (aC (dV 0) aN)) (dC (.int 8)))))) (bp (dC (.bl false))) cf) (aB (sIf (cz (bU (dA allM (aC (br 0 (nq (dV 0)) cb (ax 1 fM (aC (dV 0) aN))) aN)))) (bp (dC (.bl false))) cf) (bp (dA allM (aC (br 0 (nq (dV 0)) cb (d2 gEq (dA aS (aC (dV 0) aN)) (dA aS (aC (d2 aK (dV 1) (dC (.int 0))) aN)))) aN)))))
def gB:List D→M D:=bY 1 (mj)
def rN:DS:=(sIf (cz (bU (ax 2 iy (aC (dV 0) (aC (dV 1) aN))))) (sRz 2 (aC (dC (.str "a tuple (row, column) on the board is asked for")) aN)) cf)
def dO:List D→M D:=bY 2 (rN)
def pB:DS:=(aB (bh 3 (ax 2 dR (aC (dV 0) (aC (dV 1) aN)))) (bp (br 0 (cW (ax 3 da (aC (dV 0) (aC (dV 1) (aC (dV 2) aN))))) (tB' (d2 gEq (ax 2 dR (aC (dV 1) (aC (dV 0) aN))) (dV 4))) (dV 0))))
def cx:List D→M D:=bY 4 (pB)
def ri:DS:=(aB (bh 3 (d2 dE (dC (.int 1)) (ax 3 aG (aC (dV 0) (aC (dV 1) (aC (dV 2) aN)))))) (aB (bh 4 (d2 dE (dC (.int 1)) (ax 3 aG (aC (dV 0) (aC (d2 dE (dV 1) (dC (.int 1))) (aC (dV 2) aN)))))) (aB (bh 5 (d2 e9 (dA bD (aC (dC (.str "ab")) (aC (dC (.str "abc")) (aC (dC (.str "aab")) (aC (dC (.str "fa")) aN))))) (ax 3 aG (aC (dV 0) (aC (d2 dE (dV 1) (dC (.int 2))) (aC (dC (.int 4)) aN)))))) (aB (bh 6 (dA aU aN)) (aB (fun ρ=>noex ((cT (putN 7) (fun ρ=>(aC (dV 3) aN) ρ>>=eR) (bN [7,8] (aB (bh 8 (br 0 (fun ρ=>(aC (dV 4) aN) ρ>>=eR) cb (d2 iI (dV 6) (ax 3 aG (aC (dV 1) (aC (d2 dE (d2 dE (d2 dE (dV 2) (dC (.int 3))) (d2 fX (dC (.int 7)) (dV 8))) (dV 0)) (aC (dA aS (aC (dV 6) aN)) aN))))))) (bh 6 (d2 sE (dV 6) (dA aU (aC (dM isS joinM (dC (.str "")) (aC (dV 8) aN)) aN))))))) ρ)) (bp (dV 6)))))))
def eV:List D→M D:=bY 9 (ri)
def pC:DS:=(sIf (cz (bU (ax 1 gB (aC (dV 0) aN)))) (sRz 0 (aC (dC (.str "a tuple of 1 to 8 texts of 1 to 8 letters, all as long, is asked for")) aN)) cf)
def be:List D→M D:=bY 1 (pC)
def qL:DS:=(aB (ph 3 (fun ρ=>(dV 1) ρ>>=fun x=>(dC .non) ρ>>=fun y=>oS x y)) (aB (bh 4 (dA bD (aC (dV 1) aN))) (aB (fun ρ=>noex ((uw (bU (dV 4)) (bN [5,6,7] (aB (qW 5) (aB (cT (putN 6) (cW (dV 4)) (bN [6,7] (cT (putN 7) (cW (ax 3 cx (aC (dV 0) (aC (dV 6) (aC (dV 2) aN))))) (bN [7] (sIf (tTf (tB' (d2 (nV true) (dV 7) (dV 3)))) (aB (fb 3 (dV 7) (dV 6)) (gY 5 (dV 7))) cf))))) (sFz 5 (bh 4 (dV 5))))))) ρ)) (sFz 3 (bp (dV 3))))))
def aT:List D→M D:=bY 8 (qL)
def uT:DS:=(aB (i8 (ax 1 be (aC (dV 0) aN))) (aB (i8 (ax 2 dO (aC (dV 0) (aC (dV 1) aN)))) (aB (i8 (ax 1 bE (aC (dV 2) aN))) (bp (dA gR (aC (ax 3 aT (aC (dV 0) (aC (dV 1) (aC (dV 2) aN)))) aN))))))
def bW:List D→M D:=bY 3 (uT)
def pU:DS:=(aB (tI 1) (aB (fun ρ=>noex ((cT (jd [2,3]) (fun ρ=>(aC (dV 0) aN) ρ>>=u6) (bN [2,3,4] (cT (putN 4) (cW (dV 3)) (bN [4] (fb 1 (dV 4) (dV 2)))))) ρ)) (sFz 1 (bp (dV 1)))))
def fc:List D→M D:=bY 5 (pU)
def tm:DS:=(aB (bh 1 (dA bD aN)) (aB (fun ρ=>noex ((cT (putN 2) (fun ρ=>(aC (dA aS (aC (dV 0) aN)) aN) ρ>>=eR) (bN [2] (bh 1 (d2 gj (dV 1) (br 0 (fun ρ=>(aC (dA aS (aC (d2 aK (dV 0) (dC (.int 0))) aN)) aN) ρ>>=eR) cb (dA aU (aC (dV 3) (aC (dV 0) aN)))))))) ρ)) (bp (dV 1))))
def bC:List D→M D:=bY 3 (tm)
def qR:DS:=(aB (qW 3) (aB (fun ρ=>noex ((cT (putN 4) (nq (dA aU (aC (d1 ur (dC (.int 1))) (aC (dC (.int 0)) (aC (dC (.int 1)) aN))))) (bN [4,5,6,7,8] (cT (putN 5) (nq (dA aU (aC (d1 ur (dC (.int 1))) (aC (dC (.int 0)) (aC (dC (.int 1)) aN))))) (bN [5,6,7,8] (aB (bh 6 (d2 dE (d2 aK (dV 1) (dC (.int 0))) (dV 4))) (aB (bh 7 (d2 dE (d2 aK (dV 1) (dC (.int 1))) (dV 5))) (aB (bh 8 (dI (chI (fun i j=>decide (i≤j)) (fun i j=>decide (i<j)) (dC (.int 0)) (dV 6) (dA aS (aC (dV 0) aN))) (chI (fun i j=>decide (i≤j)) (fun i j=>decide (i<j)) (dC (.int 0)) (dV 7) (dA aS (aC (d2 aK (dV 0) (dC (.int 0))) aN))))) (sIf (jH (bU (dV 8)) (jH (tB' (d2 gNe (dA aU (aC (dV 4) (aC (dV 5) aN))) (dA aU (aC (dC (.int 0)) (aC (dC (.int 0)) aN))))) (dOr (tB' (d2 gEq (dV 2) (dC (.int 8)))) (tB' (d2 gEq (d2 fX (dV 4) (dV 5)) (dC (.int 0))))))) (gY 3 (dA aU (aC (dV 6) (aC (dV 7) aN)))) cf)))))))) ρ)) (sFz 3 (bp (dV 3)))))
def c7:List D→M D:=bY 9 (qR)
def eQ (K:PySem.W.Frag) (cA:Nat→Addr):DS:=(aB (bh 1 (dA bD (aC (dA (jZ K (cAs cA)) (aC (dV 0) (aC (dC (.raw (.ref (cA 0)))) aN))) (aC (dA (jZ K (cAs cA)) (aC (dV 0) (aC (dC (.raw (.ref (cA 1)))) aN))) (aC (dA (jZ K (cAs cA)) (aC (dV 0) (aC (dC (.raw (.ref (cA 2)))) aN))) aN))))) (aB (bh 1 (d2 gj (dV 1) (dA bD (aC (dA (jZ K (cAs cA)) (aC (dV 0) (aC (dC (.raw (.ref (cA 3)))) aN))) (aC (dA (jZ K (cAs cA)) (aC (dV 0) (aC (dC (.raw (.ref (cA 4)))) aN))) (aC (dA (jZ K (cAs cA)) (aC (dV 0) (aC (dC (.raw (.ref (cA 5)))) aN))) aN)))))) (aB (bh 1 (d2 gj (dV 1) (dA bD (aC (dA (jZ K (cAs cA)) (aC (dV 0) (aC (dC (.raw (.ref (cA 6)))) aN))) aN)))) (aB (sIf (dOr (tB' (d2 gNe (dM kq vK (dV 1) (aC (dC (.bl true)) aN)) (dC (.int 1)))) (cz (bU (dA (jZ K (cAs cA)) (aC (dV 0) (aC (dC (.raw (.ty "ValueError"))) aN)))))) (bp (dA aU (aC (dC (.str "refused")) (aC (d1 ur (dC (.int 1))) aN)))) cf) (bp (dA aU (aC (dC (.str "refused")) (aC (dM kq BY (dV 1) (aC (dC (.bl true)) aN)) aN))))))))
def bz (K:PySem.W.Frag) (cA:Nat→Addr):List D→M D:=bY 2 (eQ K cA)
def pF:DS:=(aB (ph 2 (fun ρ=>(aC (br 0 (cW (ax 1 bC (aC (dV 0) aN))) cb (dA aU (aC (dV 0) (aC (dV 0) aN)))) aN) ρ>>=vq)) (aB (qW 3) (aB (fun ρ=>noex ((cT (putN 4) (cW (ax 1 bC (aC (dV 0) aN))) (bN [4,5,6] (cT (putN 5) (cW (ax 3 c7 (aC (dV 0) (aC (dV 4) (aC (dV 1) aN))))) (bN [5,6] (aB (bh 6 (d2 iI (d2 aK (dV 0) (d2 aK (dV 4) (dC (.int 0)))) (d2 aK (dV 4) (dC (.int 1))))) (sIf (jH (tB' (d2 rS (dV 4) (dV 5))) (tB' (d2 gEq (dV 6) (d2 iI (d2 aK (dV 0) (d2 aK (dV 5) (dC (.int 0)))) (d2 aK (dV 5) (dC (.int 1))))))) (gY 3 (dA aU (aC (dV 4) (aC (dV 5) aN)))) cf)))))) ρ)) (aB (bh 7 (dC (.bl true))) (aB (fun ρ=>noex ((uw (bU (dV 7)) (bN [8,9,10] (aB (bh 7 (dC (.bl false))) (sFz 3 (cT (jd [8,9]) (cW (dV 3)) (bN [8,9,10] (sIf (tTf (tB' (d2 gNe (d2 dw (dV 2) (dV 8)) (d2 dw (dV 2) (dV 9))))) (aB (bh 10 (dTf (dA oR (aC (d2 dw (dV 2) (dV 8)) (aC (d2 dw (dV 2) (dV 9)) aN))))) (aB (fb 2 (dV 8) (dV 10)) (aB (fb 2 (dV 9) (dV 10)) (bh 7 (dC (.bl true)))))) cf))))))) ρ)) (sFz 2 (bp (dV 2))))))))
def fi:List D→M D:=bY 11 (pF)
def nN:DS:=(aB (bh 2 (ax 2 fi (aC (dV 0) (aC (dV 1) aN)))) (aB (tI 3) (aB (fun ρ=>noex ((cT (putN 4) (cW (ax 1 bC (aC (dV 0) aN))) (bN [4] (fb 3 (d2 dw (dV 2) (dV 4)) (dTd (d2 gj (nv (dV 3) (d2 dw (dV 2) (dV 4)) (dA bD aN)) (dA bD (aC (dV 4) aN))))))) ρ)) (sFz 3 (bp (br 0 (cW (dA gR (aC (dV 3) aN))) cb (d2 dw (dV 4) (dV 0))))))))
def b6:List D→M D:=bY 5 (nN)
def nS:DS:=(aB (qW 2) (aB (tI 3) (aB (fun ρ=>noex ((cT (putN 4) (cW (ax 1 fP (aC (dV 0) aN))) (bN [4,5] (sIf (tTf (tB' (d2 (nV true) (dV 4) (dV 3)))) (aB (bh 5 (dA gR (aC (ax 3 aT (aC (dV 0) (aC (dV 4) (aC (dV 1) aN)))) aN))) (aB (gY 2 (dV 5)) (w9 3 (ax 1 jF (aC (dV 5) aN))))) cf))) ρ)) (sFz 2 (bp (dV 2))))))
def bR:List D→M D:=bY 6 (nS)
def vR:DS:=(aB (i8 (ax 1 be (aC (dV 0) aN))) (aB (i8 (ax 1 bE (aC (dV 1) aN))) (bp (ax 2 bR (aC (dV 0) (aC (dV 1) aN))))))
def c_:List D→M D:=bY 2 (vR)
def um:DS:=(aB (i8 (ax 1 be (aC (dV 0) aN))) (aB (i8 (ax 1 bE (aC (dV 1) aN))) (bp (dA aS (aC (ax 2 bR (aC (dV 0) (aC (dV 1) aN))) aN)))))
def cu:List D→M D:=bY 2 (um)
def t7:DS:=(aB (i8 (ax 1 be (aC (dV 0) aN))) (aB (i8 (ax 1 bE (aC (dV 1) aN))) (aB (bh 2 (ax 1 fc (aC (ax 2 bR (aC (dV 0) (aC (dV 1) aN))) aN))) (aB (qW 3) (aB (fun ρ=>noex ((cT (putN 4) (fun ρ=>(aC (dA aS (aC (dV 0) aN)) aN) ρ>>=eR) (bN [4] (gY 3 (br 0 (cW (ax 2 aY (aC (dV 0) (aC (dV 4) aN)))) cb (d2 dw (dV 3) (dV 0)))))) ρ)) (sFz 3 (bp (dV 3))))))))
def cy:List D→M D:=bY 5 (t7)
end K1
namespace K1
open PySem PySem.Spec L2 L3
open PyProof.Rows hiding St
def nU:DS:=(BE (aB (sIf (tB' (d2 gEq (dV 0) (dC (.int 0)))) (bp (ax 3 bW (aC (dV 1) (aC (dV 2) (aC (dV 3) aN))))) cf) (bp (A_ [c_,cu,cy] 2 (d2 rF (dV 0) (dC (.int 1))) (aC (dV 1) (aC (dV 3) aN))))) fun k=>noex (hdM k))
def aw:List D→M D:=bY 5 (nU)
def kQ:DS:=(bh 1 (ax 3 eV (aC (dV 0) (aC (dC (.int 0)) (aC (dC (.int 5)) aN)))))
def lg:DS:=(bh 2 (ax 1 bC (aC (dV 1) aN)))
def kL:DS:=(bh 3 (d2 e9 (dV 2) (ax 3 aG (aC (dV 0) (aC (dC (.int 50)) (aC (dA aS (aC (dV 2) aN)) aN))))))
def kH:DS:=(fun ρ=>noex ((cT (putN 4) (nq (dA aU (aC (dC (.int 4)) (aC (dC (.int 8)) aN)))) (bN [4,5,6,7,8,9] (aB (bh 5 (ax 2 b6 (aC (dV 1) (aC (dV 4) aN)))) (aB (bh 6 (d2 e9 (br 0 (cW (dV 5)) (tB' (d2 (nR false) (dV 4) (dV 0))) (dV 0)) (dC (.int 0)))) (aB (sIf (dOr (tB' (d2 gNe (ax 4 aw (aC (dC (.int 0)) (aC (dV 1) (aC (dV 3) (aC (dV 4) aN))))) (dV 6))) (tB' (d2 gNe (ax 4 aw (aC (dC (.int 1)) (aC (dV 1) (aC (dV 3) (aC (dV 4) aN))))) (dV 5)))) (bp (dC (.bl false))) cf) (aB (sIf (tB' (d2 gNe (ax 4 aw (aC (dC (.int 2)) (aC (dV 1) (aC (dV 3) (aC (dV 4) aN))))) (dA aS (aC (dV 5) aN)))) (bp (dC (.bl false))) cf) (aB (bh 7 (ax 4 aw (aC (dC (.int 3)) (aC (dV 1) (aC (dV 3) (aC (dV 4) aN)))))) (aB (sIf (dOr (tB' (d2 gNe (dA aS (aC (dV 7) aN)) (dA aS (aC (dV 1) aN)))) (tB' (d2 gNe (br 0 (cW (dV 7)) (tB' (d2 gNe (dA aS (aC (dV 0) aN)) (dA aS (aC (d2 aK (dV 2) (dC (.int 0))) aN)))) (dV 0)) (dA bD aN)))) (bp (dC (.bl false))) cf) (cT (jd [8,9]) (cW (dV 2)) (bN [8,9] (sIf (tB' (d2 (nR true) (dA aU (aC (dV 8) (aC (dV 9) aN))) (d2 e9 (dV 5) (d2 e9 (d2 e9 (dV 7) (dV 8)) (dV 9))))) (bp (dC (.bl false))) cf))))))))))) ρ))
def k9:DS:=(bh 10 (d2 e9 (dA bD (aC (dA aU (aC (dA aS (aC (dV 1) aN)) (aC (dC (.int 0)) aN))) (aC (dA aU (aC (dC (.int 0)) (aC (d1 ur (dC (.int 1))) aN))) (aC (dC .non) (aC (dA aU (aC (dC (.bl true)) (aC (dC (.int 0)) aN))) (aC (dA bD (aC (dC (.int 0)) (aC (dC (.int 0)) aN))) aN)))))) (ax 3 aG (aC (dV 0) (aC (dC (.int 51)) (aC (dC (.int 5)) aN))))))
def kE:DS:=(bh 11 (d2 e9 (dA bD (aC (dC (.int 0)) (aC (dC (.int 5)) (aC (dC .non) (aC (dC (.bl true)) (aC (dC (.str "8")) (aC (dC (.int 6)) aN))))))) (ax 3 aG (aC (dV 0) (aC (dC (.int 52)) (aC (dC (.int 6)) aN))))))
def kY:DS:=(sIf (tB' (d2 gNe (br 0 (fun ρ=>(aC (dC (.int 4)) aN) ρ>>=eR) cb (ax 4 aw (aC (dV 0) (aC (dV 2) (aC (dV 4) (aC (dV 12) aN)))))) (d2 z8 (dA bD (aC (dA aU (aC (dC (.str "refused")) (aC (dC (.int 1)) aN))) aN)) (dC (.int 4))))) (bp (dC (.bl false))) cf)
def kP:DS:=(sIf (tB' (d2 gNe (ax 4 aw (aC (dC (.int 0)) (aC (dV 1) (aC (dV 10) (aC (dV 11) aN))))) (dA aU (aC (dC (.str "refused")) (aC (dC (.int 2)) aN))))) (bp (dC (.bl false))) cf)
def kM:DS:=(bp (d2 gEq (br 0 (fun ρ=>(aC (dC (.int 4)) aN) ρ>>=eR) cb (ax 4 aw (aC (dV 0) (aC (dA xB (aC (dV 2) aN)) (aC (dV 11) (aC (dV 12) aN)))))) (d2 z8 (dA bD (aC (dA aU (aC (dC (.str "refused")) (aC (dC (.int 0)) aN))) aN)) (dC (.int 4)))))
def jV:DS:=(aB kQ (aB lg (aB kL (aB kH (aB k9 (aB kE (aB kY (aB kP kM))))))))
def iw:List D→M D:=bY 12 jV
end K1
namespace K1
open PySem PySem.Spec L2 L3
open PyProof.Rows hiding St
def Ea:List Str:=["NoBoard","NoWays","NoCell","NoLetter","NoNumber","NoFit","Nothing"]
structure Bl (K:PySem.W.Frag) (mg:Str→Option Value) (base:Heap) (cv:Nat→Value) (cA:Nat→Addr) (Cp:Addr):Prop where
 len:mg "len"=none
 isinstance:mg "isinstance"=none
 all:mg "all"=none
 abs:mg "abs"=none
 max:mg "max"=none
 min:mg "min"=none
 range:mg "range"=none
 str:mg "str"=none
 int:mg "int"=none
 bool:mg "bool"=none
 tuple:mg "tuple"=none
 list:mg "list"=none
 dict:mg "dict"=none
 sorted:mg "sorted"=none
 enumerate:mg "enumerate"=none
 ValueError:mg "ValueError"=none
 LETTERS:∃t,mg "LETTERS"=some (.str "abcdef" t)
 MOST_ROWS:∃t,mg "MOST_ROWS"=some (.int 8 t)
 MOST_COLUMNS:∃t,mg "MOST_COLUMNS"=some (.int 8 t)
 cls:∀n x,Ea[n]? =some x→mg x=some (.ref (cA n))
 own0:OwnCls "NoBoard" (cA 0) [.type "ValueError", .type "Exception", .type "BaseException", .type "object"] "ValueError.__new__" mg base
 own1:OwnCls "NoWays" (cA 1) [.type "ValueError", .type "Exception", .type "BaseException", .type "object"] "ValueError.__new__" mg base
 own2:OwnCls "NoCell" (cA 2) [.type "ValueError", .type "Exception", .type "BaseException", .type "object"] "ValueError.__new__" mg base
 cvE:∀n,cv n= .ref (cB cA n)
 top:mg "PatchError"=some (.ref Cp)
 exm:∀n,PySem.W.exmOne K (cv n) (.ref Cp)=some true
 exs:∀C∈cAs cA,ExcC K C
 kit:∀n m,n∈[0,1,2]→m<7→PySem.W.kitOne K (.ref (cA n)) (.ref (cA m))=some (decide (n=m))
 kitV:∀n,n∈[0,1,2]→PySem.W.kitOne K (.ref (cA n)) (.type "ValueError")=some true
section
variable {P : Program} {w : World} {K : PySem.W.Frag} {mg : Str → Option Value} {base : Heap} {cv : Nat → Value} {cA : Nat → Addr} {Cp : Addr} {f : Addr}
abbrev eF:Stmt:=top 13
def nz:List Str:=["thing"]
def mV:List Str:=["thing"]
theorem si:FnScope nz mV (ag eF):=⟨rfl,rfl,rfl,by decide+kernel,rfl,by decide+kernel,by decide+kernel⟩
theorem tF (B:Bl K mg base cv cA Cp) (T:bL K mg "is_whole" eF f):au P w K mg base cv 1 "is_whole" 1 (bw):=
 aE (N:=nz) (ps:=mV) T si (fun _ _ _ _ _ _ us hl=>match us,hl with | [_],_=>rfl) fun cdv A outer s H E hr=>
  (aq (aD (mv (jY rfl B.isinstance rfl (aa (ae (pv 0)) (aa (nh rfl B.int rfl) af))) (qO (Bv (jY rfl B.isinstance rfl (aa (ae (pv 0)) (aa (nh rfl B.bool rfl) af))))))))
abbrev dU:Stmt:=top 14
def kG:List Str:=["thing"]
def kX:List Str:=["thing"]
theorem qH:FnScope kG kX (ag dU):=⟨rfl,rfl,rfl,by decide+kernel,rfl,by decide+kernel,by decide+kernel⟩
theorem qA (B:Bl K mg base cv cA Cp) (T:bL K mg "is_letter" dU f):au P w K mg base cv 1 "is_letter" 1 (cP):=
 aE (N:=kG) (ps:=kX) T qH (fun _ _ _ _ _ _ us hl=>match us,hl with | [_],_=>rfl) fun cdv A outer s H E hr=>
  (aq (aD (mv (jY rfl B.isinstance rfl (aa (ae (pv 0)) (aa (nh rfl B.str rfl) af))) (mv (s_ hr.units (bt rfl B.len (aa (ae (pv 0)) af)) aj) (qO (BG (ae (pv 0)) (A2 rfl B.LETTERS (by decide))))))))
abbrev bV:Stmt:=top 21
def d_:List Str:=["board","row"]
def g8:List Str:=["board","row"]
theorem lj:FnScope d_ g8 (ag bV):=⟨rfl,rfl,rfl,by decide+kernel,rfl,by decide+kernel,by decide+kernel⟩
theorem lq (B:Bl K mg base cv cA Cp) (T:bL K mg "cells_of_row" bV f):au P w K mg base cv 1 "cells_of_row" 2 (aY):=
 aE (N:=d_) (ps:=g8) T lj (fun _ _ _ _ _ _ us hl=>match us,hl with | [_,_],_=>rfl) fun cdv A outer s H E hr=>
  (aq (aD (cV (tn:=["column"]) (n:=0) (bG (N:=d_) (osc:=(ag bV)) rfl rfl (by decide+kernel)) rfl rfl (ck rfl B.range (aa (bt rfl B.len (aa (bo (ae (pv 0)) aj) af)) af)) (fun _ _ _ _ _ _ _=>cI (show List.Nodup (((["column"]:List Str))++cM ["column"] d_) by decide+kernel) rfl rfl) (fun _ _ _ _ _ _=>cR) (fun _ _ _ _ _ _=>(bP (aa (ae (pv 2)) (aa (ae (pv 0)) af)))))))
abbrev dH:Stmt:=top 23
def kI:List Str:=["board","cell"]
def kN:List Str:=["board","cell"]
theorem pQ:FnScope kI kN (ag dH):=⟨rfl,rfl,rfl,by decide+kernel,rfl,by decide+kernel,by decide+kernel⟩
theorem pw (B:Bl K mg base cv cA Cp) (T:bL K mg "letter_of" dH f):au P w K mg base cv 1 "letter_of" 2 (dR):=
 aE (N:=kI) (ps:=kN) T pQ (fun _ _ _ _ _ _ us hl=>match us,hl with | [_,_],_=>rfl) fun cdv A outer s H E hr=>
  (aq (aD (qz (bo (ae (pv 0)) (bo (ae (pv 1)) aj)) (bo (ae (pv 1)) aj))))
abbrev eE:Stmt:=top 24
def my:List Str:=["one","other","ways","down","along"]
def mK:List Str:=["one","other","ways"]
theorem hJ:FnScope my mK (ag eE):=⟨rfl,rfl,rfl,by decide+kernel,rfl,by decide+kernel,by decide+kernel⟩
theorem tf (B:Bl K mg base cv cA Cp) (T:bL K mg "are_next" eE f):au P w K mg base cv 1 "are_next" 3 (dB):=
 aE (N:=my) (ps:=mK) T hJ (fun _ _ _ _ _ _ us hl=>match us,hl with | [_,_,_],_=>rfl) fun cdv A outer s H E hr=>
  (ah (aJ hJ.nd rfl (by first | exact .inl rfl | exact .inr rfl) (yN rfl B.abs (aa (mz (bo (ae (pv 0)) aj) (bo (ae (pv 1)) aj)) af) rfl)) (ah (aJ hJ.nd rfl (by first | exact .inl rfl | exact .inr rfl) (yN rfl B.abs (aa (mz (bo (ae (pv 0)) aj) (bo (ae (pv 1)) aj)) af) rfl)) (ah (bO (mP hr.units (ae (pv 2)) aj) (aq (aD (s_ hr.units (cK (ae (pv 3)) (ae (pv 4))) aj))) bg) (aq (aD (s_ hr.units (uA rfl rfl B.max rfl (aa (ae (pv 3)) (aa (ae (pv 4)) af))) aj))))))
abbrev iG:Stmt:=top 26
def vz:List Str:=["things","found","thing"]
def vw:List Str:=["things"]
theorem lK:FnScope vz vw (ag iG):=⟨rfl,rfl,rfl,by decide+kernel,rfl,by decide+kernel,by decide+kernel⟩
theorem xQ (B:Bl K mg base cv cA Cp) (T:bL K mg "keyed" iG f):au P w K mg base cv 1 "keyed" 1 (jF):=
 aE (N:=vz) (ps:=vw) T lK (fun _ _ _ _ _ _ us hl=>match us,hl with | [_],_=>rfl) fun cdv A outer s H E hr=>
  (ah (je lK.nd rfl (by first | exact .inl rfl | exact .inr rfl)) (ah (cJ (bF PassesOwn.never rfl (Al (bK (ae (pv 0))) (yC (ae (pv 0)))) (a9 lK.nd rfl (by first | exact .inl rfl | exact .inr rfl)) bB (ba (aq (gu hr.units (pv 1) (ae (pv 2)) dY))))) (aq (dq (i:=1) (aD (ae (pv 1)))))))
abbrev cY:Stmt:=top 31
def jt:List Str:=["found","numbers","number","patch","cell"]
def ju:List Str:=["found"]
theorem dj:FnScope jt ju (ag cY):=⟨rfl,rfl,rfl,by decide+kernel,rfl,by decide+kernel,by decide+kernel⟩
theorem nM (B:Bl K mg base cv cA Cp) (T:bL K mg "numbers_of" cY f):au P w K mg base cv 1 "numbers_of" 1 (fc):=
 aE (N:=jt) (ps:=ju) T dj (fun _ _ _ _ _ _ us hl=>match us,hl with | [_],_=>rfl) fun cdv A outer s H E hr=>
  (ah (je dj.nd rfl (by first | exact .inl rfl | exact .inr rfl)) (ah (cJ (bF PassesOwn.never rfl (zu rfl B.enumerate (aa (ae (pv 0)) af)) (uQ rfl (gr (a9 dj.nd rfl (by first | exact .inl rfl | exact .inr rfl)) (gr (a9 dj.nd rfl (by first | exact .inl rfl | exact .inr rfl)) qr))) (pA (is:=[2,3])) (ba (aq (bF PassesOwn.never rfl (bK (ae (pv 3))) (a9 dj.nd rfl (by first | exact .inl rfl | exact .inr rfl)) bB (ba (aq (gu hr.units (pv 1) (ae (pv 4)) (ae (pv 2)))))))))) (aq (dq (i:=1) (aD (ae (pv 1)))))))
abbrev et:Stmt:=top 37
def lR:List Str:=["_law_script","_law_k"]
def mC:List Str:=["_law_script","_law_k"]
theorem sy:FnScope lR mC (ag et):=⟨rfl,rfl,rfl,by decide+kernel,rfl,by decide+kernel,by decide+kernel⟩
theorem sC (B:Bl K mg base cv cA Cp) (T:bL K mg "_law_cell" et f):au P w K mg base cv 1 "_law_cell" 2 (fI):=
 aE (N:=lR) (ps:=mC) T sy (fun _ _ _ _ _ _ us hl=>match us,hl with | [_,_],_=>rfl) fun cdv A outer s H E hr=>
  (ah (bO (mP hr.units (ae (pv 0)) (dz af)) (aq (aD (ig aj (ae (pv 1))))) bg) (aq (aD (cK (Cv (ae (pv 0)) (j0 (ae (pv 1)) (bt rfl B.len (aa (ae (pv 0)) af)))) (ig aj (qp (ae (pv 1)) (bt rfl B.len (aa (ae (pv 0)) af))))))))
abbrev cQ:Stmt:=top 40
def fR:List Str:=["_law_board_here","_law_found","_law_row"]
def k7:List Str:=["_law_board_here"]
theorem fm:FnScope fR k7 (ag cQ):=⟨rfl,rfl,rfl,by decide+kernel,rfl,by decide+kernel,by decide+kernel⟩
theorem qC (B:Bl K mg base cv cA Cp) (T:bL K mg "_law_cells" cQ f):au P w K mg base cv 1 "_law_cells" 1 (bC):=
 aE (N:=fR) (ps:=k7) T fm (fun _ _ _ _ _ _ us hl=>match us,hl with | [_],_=>rfl) fun cdv A outer s H E hr=>
  (ah (aJ fm.nd rfl (by first | exact .inl rfl | exact .inr rfl) (dz af)) (ah (cJ (bF PassesOwn.never rfl (ck rfl B.range (aa (bt rfl B.len (aa (ae (pv 0)) af)) af)) (a9 fm.nd rfl (by first | exact .inl rfl | exact .inr rfl)) bB (ba (aq (aJ fm.nd rfl (by first | exact .inl rfl | exact .inr rfl) (lF (ae (pv 1)) (cV (tn:=["_law_column"]) (n:=0) (bG (N:=fR) (osc:=(ag cQ)) rfl rfl (by decide+kernel)) rfl rfl (ck rfl B.range (aa (bt rfl B.len (aa (bo (ae (pv 0)) aj) af)) af)) (fun _ _ _ _ _ _ _=>cI (show List.Nodup (((["_law_column"]:List Str))++cM ["_law_column"] fR) by decide+kernel) rfl rfl) (fun _ _ _ _ _ _=>cR) (fun _ _ _ _ _ _=>(bP (aa (ae (pv 3)) (aa (ae (pv 0)) af))))))))))) (aq (aD (ae (pv 1))))))
abbrev de:Stmt:=top 41
def jD:List Str:=["_law_board_here","_law_cell_here","_law_ways","_law_found","_law_down","_law_right","_law_row","_law_column","_law_inside"]
def jk:List Str:=["_law_board_here","_law_cell_here","_law_ways"]
theorem b9:FnScope jD jk (ag de):=⟨rfl,rfl,rfl,by decide+kernel,rfl,by decide+kernel,by decide+kernel⟩
theorem nH (B:Bl K mg base cv cA Cp) (T:bL K mg "_law_beside" de f):au P w K mg base cv 1 "_law_beside" 3 (c7):=
 aE (N:=jD) (ps:=jk) T b9 (fun _ _ _ _ _ _ us hl=>match us,hl with | [_,_,_],_=>rfl) fun cdv A outer s H E hr=>
  (ah (gM b9.nd rfl (by first | exact .inl rfl | exact .inr rfl)) (ah (cJ (bF PassesOwn.never rfl (jg (bP (aa (pW aj) (aa aj (aa aj af))))) (a9 b9.nd rfl (by first | exact .inl rfl | exact .inr rfl)) bB (ba (aq (bF PassesOwn.never rfl (jg (bP (aa (pW aj) (aa aj (aa aj af))))) (a9 b9.nd rfl (by first | exact .inl rfl | exact .inr rfl)) bB (ba (ah (aJ b9.nd rfl (by first | exact .inl rfl | exact .inr rfl) (cK (bo (ae (pv 1)) aj) (ae (pv 4)))) (ah (aJ b9.nd rfl (by first | exact .inl rfl | exact .inr rfl) (cK (bo (ae (pv 1)) aj) (ae (pv 5)))) (ah (aJ b9.nd rfl (by first | exact .inl rfl | exact .inr rfl) (mv (pG kA uZ aj (ae (pv 6)) (bt rfl B.len (aa (ae (pv 0)) af))) (qO (pG kA uZ aj (ae (pv 7)) (bt rfl B.len (aa (bo (ae (pv 0)) aj) af)))))) (aq (bO (PDW.t (qk (cH (ae (pv 8))) (qk (gQ hr.units (bP (aa (ae (pv 4)) (aa (ae (pv 5)) af))) (bP (aa aj (aa aj af)))) (s9 (PDW.t (gJ (mP hr.units (ae (pv 2)) aj) (ft (mP hr.units (ig (ae (pv 4)) (ae (pv 5))) aj)))))))) (aq (iA (pv 3) (bP (aa (ae (pv 6)) (aa (ae (pv 7)) af))))) bg))))))))))) (aq (dq (i:=3) (aD (ae (pv 3)))))))
abbrev cE:Stmt:=top 44
def iJ:List Str:=["_law_e","_law_flags"]
def iP:List Str:=["_law_e"]
theorem ei:FnScope iJ iP (ag cE):=⟨rfl,rfl,rfl,by decide+kernel,rfl,by decide+kernel,by decide+kernel⟩
theorem nu (B:Bl K mg base cv cA Cp) (T:bL K mg "_law_refused" cE f):ly P w K mg base cv 1 "_law_refused" 1 (bz K cA):=
 uE (N:=iJ) (ps:=iP) T ei (fun _ _ _ _ _ _ us hl=>match us,hl with | [_],_=>rfl) fun cdv A outer s H hr=>
  (ah (aJ ei.nd rfl (by first | exact .inl rfl | exact .inr rfl) (dz (aa (h7 B.exs rfl B.isinstance rfl (aa (ae (pv 0)) (aa (gD rfl (B.cls 0 "NoBoard" rfl)) af))) (aa (h7 B.exs rfl B.isinstance rfl (aa (ae (pv 0)) (aa (gD rfl (B.cls 1 "NoWays" rfl)) af))) (aa (h7 B.exs rfl B.isinstance rfl (aa (ae (pv 0)) (aa (gD rfl (B.cls 2 "NoCell" rfl)) af))) af))))) (ah (aJ ei.nd rfl (by first | exact .inl rfl | exact .inr rfl) (lF (ae (pv 1)) (dz (aa (h7 B.exs rfl B.isinstance rfl (aa (ae (pv 0)) (aa (gD rfl (B.cls 3 "NoLetter" rfl)) af))) (aa (h7 B.exs rfl B.isinstance rfl (aa (ae (pv 0)) (aa (gD rfl (B.cls 4 "NoNumber" rfl)) af))) (aa (h7 B.exs rfl B.isinstance rfl (aa (ae (pv 0)) (aa (gD rfl (B.cls 5 "NoFit" rfl)) af))) af)))))) (ah (aJ ei.nd rfl (by first | exact .inl rfl | exact .inr rfl) (lF (ae (pv 1)) (dz (aa (h7 B.exs rfl B.isinstance rfl (aa (ae (pv 0)) (aa (gD rfl (B.cls 6 "Nothing" rfl)) af))) af)))) (ah (bO (PDW.t (gJ (gQ hr.units (BB (ae (pv 1)) (aa dY af)) aj) (ft (dr (cH (h7 B.exs rfl B.isinstance rfl (aa (ae (pv 0)) (aa (nh rfl B.ValueError rfl) af)))))))) (aq (aD (bP (aa er (aa (pW aj) af))))) bg) (aq (aD (bP (aa er (aa (Bn (ae (pv 1)) (aa dY af)) af)))))))))
abbrev fL:Stmt:=top 15
def jj:List Str:=["thing"]
def sr:List Str:=["thing"]
theorem wc:FnScope jj sr (ag fL):=⟨rfl,rfl,rfl,by decide+kernel,rfl,by decide+kernel,by decide+kernel⟩
theorem vM (B:Bl K mg base cv cA Cp) (c_is_letter:au P w K mg base cv 1 "is_letter" 1 cP) (T:bL K mg "is_row" fL f):au P w K mg base cv 2 "is_row" 1 (fM):=
 aE (N:=jj) (ps:=sr) T wc (fun _ _ _ _ _ _ us hl=>match us,hl with | [_],_=>rfl) fun cdv A outer s H E hr=>
  (ah (bO (PDW.t (gJ (dr (cH (jY rfl B.isinstance rfl (aa (ae (pv 0)) (aa (nh rfl B.str rfl) af))))) (ft (dr (yk kA kA aj (bt rfl B.len (aa (ae (pv 0)) af)) (vv rfl B.MOST_COLUMNS)))))) (aq (aD dY)) bg) (aq (aD (t6 rfl rfl B.all rfl (aa (cV (tn:=["sign"]) (n:=0) (bG (N:=jj) (osc:=(ag fL)) rfl rfl (by decide+kernel)) rfl rfl (Aq (ae (pv 0))) (fun _ _ _ _ _ _ _=>cI (show List.Nodup (((["sign"]:List Str))++cM ["sign"] jj) by decide+kernel) rfl rfl) (fun _ _ _ _ _ _=>cR) (fun _ _ _ _ _ _=>(bx c_is_letter (hr.mono (by decide)) rfl di (aa (ae (pv 0)) af) rfl))) af)))))
abbrev fF:Stmt:=top 17
def oA:List Str:=["board","thing"]
def oz:List Str:=["board","thing"]
theorem tO:FnScope oA oz (ag fF):=⟨rfl,rfl,rfl,by decide+kernel,rfl,by decide+kernel,by decide+kernel⟩
theorem uR (B:Bl K mg base cv cA Cp) (c_is_whole:au P w K mg base cv 1 "is_whole" 1 bw) (T:bL K mg "is_cell" fF f):au P w K mg base cv 2 "is_cell" 2 (iy):=
 aE (N:=oA) (ps:=oz) T tO (fun _ _ _ _ _ _ us hl=>match us,hl with | [_,_],_=>rfl) fun cdv A outer s H E hr=>
  (ah (bO (PDW.t (gJ (dr (cH (jY rfl B.isinstance rfl (aa (ae (pv 1)) (aa (nh rfl B.tuple rfl) af))))) (ft (gQ hr.units (bt rfl B.len (aa (ae (pv 1)) af)) aj)))) (aq (aD dY)) bg) (ah (bO (PDW.t (gJ (dr (cH (bx c_is_whole (hr.mono (by decide)) rfl bJ (aa (bo (ae (pv 1)) aj) af) rfl))) (ft (dr (cH (bx c_is_whole (hr.mono (by decide)) rfl bJ (aa (bo (ae (pv 1)) aj) af) rfl)))))) (aq (aD dY)) bg) (aq (aD (mv (pG kA uZ aj (bo (ae (pv 1)) aj) (bt rfl B.len (aa (ae (pv 0)) af))) (qO (pG kA uZ aj (bo (ae (pv 1)) aj) (bt rfl B.len (aa (bo (ae (pv 0)) aj) af)))))))))
abbrev dG:Stmt:=top 20
def kD:List Str:=["thing"]
def kz:List Str:=["thing"]
theorem pN:FnScope kD kz (ag dG):=⟨rfl,rfl,rfl,by decide+kernel,rfl,by decide+kernel,by decide+kernel⟩
theorem pM (B:Bl K mg base cv cA Cp) (c_is_whole:au P w K mg base cv 1 "is_whole" 1 bw) (T:bL K mg "need_ways" dG f):au P w K mg base cv 2 "need_ways" 1 (bE):=
 aE (N:=kD) (ps:=kz) T pN (fun _ _ _ _ _ _ us hl=>match us,hl with | [_],_=>rfl) fun cdv A outer s H E hr=>
  (aq (bO (PDW.t (gJ (dr (cH (bx c_is_whole (hr.mono (by decide)) rfl bJ (aa (ae (pv 0)) af) rfl))) (ft (wy (ae (pv 0)) (bP (aa aj (aa aj af))))))) (aq (kl B.own1 PySem.F.excBase_ValueError rfl rfl (B.cvE 1) xZ (aa er af))) bg))
abbrev dN:Stmt:=top 22
def kB:List Str:=["board","found","row"]
def k_:List Str:=["board"]
theorem gz:FnScope kB k_ (ag dN):=⟨rfl,rfl,rfl,by decide+kernel,rfl,by decide+kernel,by decide+kernel⟩
theorem qo (B:Bl K mg base cv cA Cp) (c_cells_of_row:au P w K mg base cv 1 "cells_of_row" 2 aY) (T:bL K mg "all_cells" dN f):au P w K mg base cv 2 "all_cells" 1 (fP):=
 aE (N:=kB) (ps:=k_) T gz (fun _ _ _ _ _ _ us hl=>match us,hl with | [_],_=>rfl) fun cdv A outer s H E hr=>
  (ah (gM gz.nd rfl (by first | exact .inl rfl | exact .inr rfl)) (ah (cJ (bF PassesOwn.never rfl (ck rfl B.range (aa (bt rfl B.len (aa (ae (pv 0)) af)) af)) (a9 gz.nd rfl (by first | exact .inl rfl | exact .inr rfl)) bB (ba (aq (AH (pv 1) (bx c_cells_of_row (hr.mono (by decide)) rfl di (aa (ae (pv 0)) (aa (ae (pv 2)) af)) rfl)))))) (aq (dq (i:=1) (aD (ae (pv 1)))))))
abbrev cX:Stmt:=top 25
def jo:List Str:=["board","cell","ways","found","row","column"]
def jy:List Str:=["board","cell","ways"]
theorem eP:FnScope jo jy (ag cX):=⟨rfl,rfl,rfl,by decide+kernel,rfl,by decide+kernel,by decide+kernel⟩
theorem nX (B:Bl K mg base cv cA Cp) (c_are_next:au P w K mg base cv 1 "are_next" 3 dB) (T:bL K mg "next_cells" cX f):au P w K mg base cv 2 "next_cells" 3 (da):=
 aE (N:=jo) (ps:=jy) T eP (fun _ _ _ _ _ _ us hl=>match us,hl with | [_,_,_],_=>rfl) fun cdv A outer s H E hr=>
  (ah (gM eP.nd rfl (by first | exact .inl rfl | exact .inr rfl)) (ah (cJ (bF PassesOwn.never rfl (lT rfl B.range (aa (uA rfl rfl B.max rfl (aa (mz (bo (ae (pv 1)) aj) aj) (aa aj af))) (aa (xh rfl rfl B.min rfl (aa (cK (bo (ae (pv 1)) aj) aj) (aa (bt rfl B.len (aa (ae (pv 0)) af)) af))) af))) (a9 eP.nd rfl (by first | exact .inl rfl | exact .inr rfl)) bB (ba (aq (bF PassesOwn.never rfl (lT rfl B.range (aa (uA rfl rfl B.max rfl (aa (mz (bo (ae (pv 1)) aj) aj) (aa aj af))) (aa (xh rfl rfl B.min rfl (aa (cK (bo (ae (pv 1)) aj) aj) (aa (bt rfl B.len (aa (bo (ae (pv 0)) aj) af)) af))) af))) (a9 eP.nd rfl (by first | exact .inl rfl | exact .inr rfl)) bB (ba (aq (bO (cH (bx c_are_next (hr.mono (by decide)) rfl di (aa (ae (pv 1)) (aa (bP (aa (ae (pv 4)) (aa (ae (pv 5)) af))) (aa (ae (pv 2)) af))) rfl)) (aq (iA (pv 3) (bP (aa (ae (pv 4)) (aa (ae (pv 5)) af))))) bg)))))))) (aq (dq (i:=3) (aD (ae (pv 3)))))))
abbrev dJ:Stmt:=top 38
def kO:List Str:=["_law_script","_law_k","_law_many","_law_cell_here"]
def kF:List Str:=["_law_script","_law_k","_law_many"]
theorem gy:FnScope kO kF (ag dJ):=⟨rfl,rfl,rfl,by decide+kernel,rfl,by decide+kernel,by decide+kernel⟩
theorem pJ (B:Bl K mg base cv cA Cp) (c_law_cell:au P w K mg base cv 1 "_law_cell" 2 fI) (T:bL K mg "_law_drawn" dJ f):au P w K mg base cv 2 "_law_drawn" 3 (aG):=
 aE (N:=kO) (ps:=kF) T gy (fun _ _ _ _ _ _ us hl=>match us,hl with | [_,_,_],_=>rfl) fun cdv A outer s H E hr=>
  (ah (aJ gy.nd rfl (by first | exact .inl rfl | exact .inr rfl) (j0 (cK (ig (j0 (bx c_law_cell (hr.mono (by decide)) rfl bJ (aa (ae (pv 0)) (aa (ae (pv 1)) af)) rfl) aj) aj) (ig aj (cK (ae (pv 1)) aj))) aj)) (ah (aJ gy.nd rfl (by first | exact .inl rfl | exact .inr rfl) (j0 (cK (ig (ae (pv 3)) (ae (pv 3))) (qp (ae (pv 3)) aj)) aj)) (aq (aD (j0 (qp (j0 (cK (ig (ae (pv 3)) (ae (pv 3))) (qp (ae (pv 3)) aj)) aj) aj) (ae (pv 2)))))))
abbrev cw:Stmt:=top 42
def fk:List Str:=["_law_board_here","_law_ways","_law_found","_law_pairs","_law_cell_here","_law_there","_law_mine","_law_changed","_law_one","_law_other","_law_least"]
def jw:List Str:=["_law_board_here","_law_ways"]
theorem a8:FnScope fk jw (ag cw):=⟨rfl,rfl,rfl,by decide+kernel,rfl,by decide+kernel,by decide+kernel⟩
theorem nL (B:Bl K mg base cv cA Cp) (c_law_cells:au P w K mg base cv 1 "_law_cells" 1 bC) (c_law_beside:au P w K mg base cv 1 "_law_beside" 3 c7) (T:bL K mg "_law_labels" cw f):au P w K mg base cv 2 "_law_labels" 2 (fi):=
 aE (N:=fk) (ps:=jw) T a8 (fun _ _ _ _ _ _ us hl=>match us,hl with | [_,_],_=>rfl) fun cdv A outer s H E hr=>
  (ah (sd a8.nd rfl (by first | exact .inl rfl | exact .inr rfl) (ya hr.units rfl rfl B.dict rfl (aa (cV (tn:=["_law_cell_here"]) (n:=0) (bG (N:=fk) (osc:=(ag cw)) rfl rfl (by decide+kernel)) rfl rfl (bK (bx c_law_cells (hr.mono (by decide)) rfl bJ (aa (ae (pv 0)) af) rfl)) (fun _ _ _ _ _ _ _=>cI (show List.Nodup (((["_law_cell_here"]:List Str))++cM ["_law_cell_here"] fk) by decide+kernel) rfl rfl) (fun _ _ _ _ _ _=>cR) (fun _ _ _ _ _ _=>(bP (aa (ae (pv 0)) (aa (ae (pv 0)) af))))) af))) (ah (gM a8.nd rfl (by first | exact .inl rfl | exact .inr rfl)) (ah (cJ (bF PassesOwn.never rfl (bK (bx c_law_cells (hr.mono (by decide)) rfl di (aa (ae (pv 0)) af) rfl)) (a9 a8.nd rfl (by first | exact .inl rfl | exact .inr rfl)) bB (ba (aq (bF PassesOwn.never rfl (bK (bx c_law_beside (hr.mono (by decide)) rfl di (aa (ae (pv 0)) (aa (ae (pv 4)) (aa (ae (pv 1)) af))) rfl)) (a9 a8.nd rfl (by first | exact .inl rfl | exact .inr rfl)) bB (ba (ah (aJ a8.nd rfl (by first | exact .inl rfl | exact .inr rfl) (qz (bo (ae (pv 0)) (bo (ae (pv 4)) aj)) (bo (ae (pv 4)) aj))) (aq (bO (PDW.t (qk (B_ hr.units (ae (pv 4)) (ae (pv 5))) (s9 (mP hr.units (ae (pv 6)) (qz (bo (ae (pv 0)) (bo (ae (pv 5)) aj)) (bo (ae (pv 5)) aj)))))) (aq (iA (pv 3) (bP (aa (ae (pv 4)) (aa (ae (pv 5)) af))))) bg))))))))) (ah (aJ a8.nd rfl (by first | exact .inl rfl | exact .inr rfl) dY) (ah (cJ (oQ PassesOwn.never (cH (ae (pv 7))) (ba (ah (aJ a8.nd rfl (by first | exact .inl rfl | exact .inr rfl) dY) (aq (dq (i:=3) (bF PassesOwn.never rfl (bK (ae (pv 3))) (uQ rfl (gr (a9 a8.nd rfl (by first | exact .inl rfl | exact .inr rfl)) (gr (a9 a8.nd rfl (by first | exact .inl rfl | exact .inr rfl)) qr))) (pA (is:=[8,9])) (ba (aq (bO (uI (gQ hr.units (g6 hr.units (ae (pv 2)) (ae (pv 8))) (g6 hr.units (ae (pv 2)) (ae (pv 9))))) (ah (aJ a8.nd rfl (by first | exact .inl rfl | exact .inr rfl) (DP (A1 hr.units rfl rfl B.min rfl (aa (g6 hr.units (ae (pv 2)) (ae (pv 8))) (aa (g6 hr.units (ae (pv 2)) (ae (pv 9))) af))))) (ah (gu hr.units (pv 2) (ae (pv 8)) (ae (pv 10))) (ah (gu hr.units (pv 2) (ae (pv 9)) (ae (pv 10))) (aq (aJ a8.nd rfl (by first | exact .inl rfl | exact .inr rfl) dY))))) bg)))))))))) (aq (dq (i:=2) (aD (ae (pv 2))))))))))
abbrev cU:Stmt:=top 16
def eJ:List Str:=["thing"]
def l8:List Str:=["thing"]
theorem rR:FnScope eJ l8 (ag cU):=⟨rfl,rfl,rfl,by decide+kernel,rfl,by decide+kernel,by decide+kernel⟩
theorem ro (B:Bl K mg base cv cA Cp) (c_is_row:au P w K mg base cv 2 "is_row" 1 fM) (T:bL K mg "is_board" cU f):au P w K mg base cv 3 "is_board" 1 (gB):=
 aE (N:=eJ) (ps:=l8) T rR (fun _ _ _ _ _ _ us hl=>match us,hl with | [_],_=>rfl) fun cdv A outer s H E hr=>
  (ah (bO (PDW.t (gJ (dr (cH (jY rfl B.isinstance rfl (aa (ae (pv 0)) (aa (nh rfl B.tuple rfl) af))))) (ft (dr (yk kA kA aj (bt rfl B.len (aa (ae (pv 0)) af)) (vv rfl B.MOST_ROWS)))))) (aq (aD dY)) bg) (ah (bO (dr (cH (t6 rfl rfl B.all rfl (aa (cV (tn:=["row"]) (n:=0) (bG (N:=eJ) (osc:=(ag cU)) rfl rfl (by decide+kernel)) rfl rfl (jg (ae (pv 0))) (fun _ _ _ _ _ _ _=>cI (show List.Nodup (((["row"]:List Str))++cM ["row"] eJ) by decide+kernel) rfl rfl) (fun _ _ _ _ _ _=>cR) (fun _ _ _ _ _ _=>(bx c_is_row (hr.mono (by decide)) rfl di (aa (ae (pv 0)) af) rfl))) af)))) (aq (aD dY)) bg) (aq (aD (t6 rfl rfl B.all rfl (aa (cV (tn:=["row"]) (n:=0) (bG (N:=eJ) (osc:=(ag cU)) rfl rfl (by decide+kernel)) rfl rfl (jg (ae (pv 0))) (fun _ _ _ _ _ _ _=>cI (show List.Nodup (((["row"]:List Str))++cM ["row"] eJ) by decide+kernel) rfl rfl) (fun _ _ _ _ _ _=>cR) (fun _ _ _ _ _ _=>(s_ hr.units (bt rfl B.len (aa (ae (pv 0)) af)) (bt rfl B.len (aa (bo (ae (pv 1)) aj) af))))) af))))))
abbrev dW:Stmt:=top 19
def kT:List Str:=["board","thing"]
def k8:List Str:=["board","thing"]
theorem qZ:FnScope kT k8 (ag dW):=⟨rfl,rfl,rfl,by decide+kernel,rfl,by decide+kernel,by decide+kernel⟩
theorem qK (B:Bl K mg base cv cA Cp) (c_is_cell:au P w K mg base cv 2 "is_cell" 2 iy) (T:bL K mg "need_cell" dW f):au P w K mg base cv 3 "need_cell" 2 (dO):=
 aE (N:=kT) (ps:=k8) T qZ (fun _ _ _ _ _ _ us hl=>match us,hl with | [_,_],_=>rfl) fun cdv A outer s H E hr=>
  (aq (bO (dr (cH (bx c_is_cell (hr.mono (by decide)) rfl bJ (aa (ae (pv 0)) (aa (ae (pv 1)) af)) rfl))) (aq (kl B.own2 PySem.F.excBase_ValueError rfl rfl (B.cvE 2) xZ (aa er af))) bg))
abbrev cq:Stmt:=top 28
def fj:List Str:=["board","cell","ways","letter"]
def jI:List Str:=["board","cell","ways"]
theorem iL:FnScope fj jI (ag cq):=⟨rfl,rfl,rfl,by decide+kernel,rfl,by decide+kernel,by decide+kernel⟩
theorem nB (B:Bl K mg base cv cA Cp) (c_letter_of:au P w K mg base cv 1 "letter_of" 2 dR) (c_next_cells:au P w K mg base cv 2 "next_cells" 3 da) (T:bL K mg "like_cells" cq f):au P w K mg base cv 3 "like_cells" 3 (cx):=
 aE (N:=fj) (ps:=jI) T iL (fun _ _ _ _ _ _ us hl=>match us,hl with | [_,_,_],_=>rfl) fun cdv A outer s H E hr=>
  (ah (aJ iL.nd rfl (by first | exact .inl rfl | exact .inr rfl) (bx c_letter_of (hr.mono (by decide)) rfl bJ (aa (ae (pv 0)) (aa (ae (pv 1)) af)) rfl)) (aq (aD (cV (tn:=["near"]) (n:=0) (bG (N:=fj) (osc:=(ag cq)) rfl rfl (by decide+kernel)) rfl rfl (bK (bx c_next_cells (hr.mono (by decide)) rfl bJ (aa (ae (pv 0)) (aa (ae (pv 1)) (aa (ae (pv 2)) af))) rfl)) (fun _ _ _ _ _ _ _=>cI (show List.Nodup (((["near"]:List Str))++cM ["near"] fj) by decide+kernel) rfl rfl) (fun _ _ _ _ _ _=>(l_ (mP hr.units (bx c_letter_of (hr.mono (by decide)) rfl di (aa (ae (pv 1)) (aa (ae (pv 0)) af)) rfl) (ae (pv 4))))) (fun _ _ _ _ _ _=>(ae (pv 0)))))))
abbrev cO:Stmt:=top 39
def fV:List Str:=["_law_script","_law_at","_law_most","_law_rows","_law_wide","_law_alphabet","_law_found","_law_row","_law_signs"]
def kU:List Str:=["_law_script","_law_at","_law_most"]
theorem bZ:FnScope fV kU (ag cO):=⟨rfl,rfl,rfl,by decide+kernel,rfl,by decide+kernel,by decide+kernel⟩
theorem q_ (B:Bl K mg base cv cA Cp) (c_law_drawn:au P w K mg base cv 2 "_law_drawn" 3 aG) (T:bL K mg "_law_board" cO f):au P w K mg base cv 3 "_law_board" 3 (eV):=
 aE (N:=fV) (ps:=kU) T bZ (fun _ _ _ _ _ _ us hl=>match us,hl with | [_,_,_],_=>rfl) fun cdv A outer s H E hr=>
  (ah (aJ bZ.nd rfl (by first | exact .inl rfl | exact .inr rfl) (cK aj (bx c_law_drawn (hr.mono (by decide)) rfl bJ (aa (ae (pv 0)) (aa (ae (pv 1)) (aa (ae (pv 2)) af))) rfl))) (ah (aJ bZ.nd rfl (by first | exact .inl rfl | exact .inr rfl) (cK aj (bx c_law_drawn (hr.mono (by decide)) rfl bJ (aa (ae (pv 0)) (aa (cK (ae (pv 1)) aj) (aa (ae (pv 2)) af))) rfl))) (ah (aJ bZ.nd rfl (by first | exact .inl rfl | exact .inr rfl) (iq (dz (aa er (aa er (aa er (aa er af))))) (bx c_law_drawn (hr.mono (by decide)) rfl bJ (aa (ae (pv 0)) (aa (cK (ae (pv 1)) aj) (aa aj af))) rfl))) (ah (aJ bZ.nd rfl (by first | exact .inl rfl | exact .inr rfl) (bP af)) (ah (cJ (bF PassesOwn.never rfl (ck rfl B.range (aa (ae (pv 3)) af)) (a9 bZ.nd rfl (by first | exact .inl rfl | exact .inr rfl)) bB (ba (ah (rW (tn:=["_law_k"]) (n:=0) bZ.nd rfl (by first | exact .inl rfl | exact .inr rfl) (bG (N:=fV) (osc:=(ag cO)) rfl rfl (by decide+kernel)) rfl rfl (ck rfl B.range (aa (ae (pv 4)) af)) (fun _ _ _ _ _ _ _=>cI (show List.Nodup (((["_law_k"]:List Str))++cM ["_law_k"] fV) by decide+kernel) rfl rfl) (fun _ _ _ _ _ _=>cR) (fun _ _ _ _ _ _=>(qz (ae (pv 6)) (bx c_law_drawn (hr.mono (by decide)) rfl di (aa (ae (pv 1)) (aa (cK (cK (cK (ae (pv 2)) aj) (ig aj (ae (pv 8)))) (ae (pv 0))) (aa (bt rfl B.len (aa (ae (pv 6)) af)) af))) rfl)))) (aq (aJ bZ.nd rfl (by first | exact .inl rfl | exact .inr rfl) (z3 (ae (pv 6)) (bP (aa (Ag er (aa (ae (pv 8)) af)) af))))))))) (aq (aD (ae (pv 6)))))))))
abbrev b5:Stmt:=top 43
def eO:List Str:=["_law_board_here","_law_ways","_law_labels_here","_law_rows","_law_cell_here"]
def iN:List Str:=["_law_board_here","_law_ways"]
theorem d6:FnScope eO iN (ag b5):=⟨rfl,rfl,rfl,by decide+kernel,rfl,by decide+kernel,by decide+kernel⟩
theorem lO (B:Bl K mg base cv cA Cp) (c_law_labels:au P w K mg base cv 2 "_law_labels" 2 fi) (c_law_cells:au P w K mg base cv 1 "_law_cells" 1 bC) (T:bL K mg "_law_patches" b5 f):au P w K mg base cv 3 "_law_patches" 2 (b6):=
 aE (N:=eO) (ps:=iN) T d6 (fun _ _ _ _ _ _ us hl=>match us,hl with | [_,_],_=>rfl) fun cdv A outer s H E hr=>
  (ah (aJ d6.nd rfl (by first | exact .inl rfl | exact .inr rfl) (bx c_law_labels (hr.mono (by decide)) rfl bJ (aa (ae (pv 0)) (aa (ae (pv 1)) af)) rfl)) (ah (je d6.nd rfl (by first | exact .inl rfl | exact .inr rfl)) (ah (cJ (bF PassesOwn.never rfl (bK (bx c_law_cells (hr.mono (by decide)) rfl di (aa (ae (pv 0)) af) rfl)) (a9 d6.nd rfl (by first | exact .inl rfl | exact .inr rfl)) bB (ba (aq (gu hr.units (pv 3) (g6 hr.units (ae (pv 2)) (ae (pv 4))) (CV (lF (Ap hr.units (ae (pv 3)) (g6 hr.units (ae (pv 2)) (ae (pv 4))) (dz af) ⟨rfl,rfl,rfl,rfl⟩) (dz (aa (ae (pv 4)) af))))))))) (aq (dq (i:=3) (aD (cV (tn:=["_law_first"]) (n:=0) (bG (N:=eO) (osc:=(ag b5)) rfl rfl (by decide+kernel)) rfl rfl (bK (qf rfl rfl B.sorted rfl (aa (ae (pv 3)) af))) (fun _ _ _ _ _ _ _=>cI (show List.Nodup (((["_law_first"]:List Str))++cM ["_law_first"] eO) by decide+kernel) rfl rfl) (fun _ _ _ _ _ _=>cR) (fun _ _ _ _ _ _=>(g6 hr.units (ae (pv 4)) (ae (pv 0)))))))))))
abbrev cZ:Stmt:=top 18
def jL:List Str:=["thing"]
def jQ:List Str:=["thing"]
theorem nP:FnScope jL jQ (ag cZ):=⟨rfl,rfl,rfl,by decide+kernel,rfl,by decide+kernel,by decide+kernel⟩
theorem nJ (B:Bl K mg base cv cA Cp) (c_is_board:au P w K mg base cv 3 "is_board" 1 gB) (T:bL K mg "need_board" cZ f):au P w K mg base cv 4 "need_board" 1 (be):=
 aE (N:=jL) (ps:=jQ) T nP (fun _ _ _ _ _ _ us hl=>match us,hl with | [_],_=>rfl) fun cdv A outer s H E hr=>
  (aq (bO (dr (cH (bx c_is_board (hr.mono (by decide)) rfl bJ (aa (ae (pv 0)) af) rfl))) (aq (kl B.own0 PySem.F.excBase_ValueError rfl rfl (B.cvE 0) xZ (aa er af))) bg))
abbrev c9:Stmt:=top 29
def jG:List Str:=["board","start","ways","back","ring","further","cell","near"]
def jh:List Str:=["board","start","ways"]
theorem b7:FnScope jG jh (ag c9):=⟨rfl,rfl,rfl,by decide+kernel,rfl,by decide+kernel,by decide+kernel⟩
theorem nQ (B:Bl K mg base cv cA Cp) (c_like_cells:au P w K mg base cv 3 "like_cells" 3 cx) (T:bL K mg "steps_back" c9 f):au P w K mg base cv 4 "steps_back" 3 (aT):=
 aE (N:=jG) (ps:=jh) T b7 (fun _ _ _ _ _ _ us hl=>match us,hl with | [_,_,_],_=>rfl) fun cdv A outer s H E hr=>
  (ah (sd b7.nd rfl (by first | exact .inl rfl | exact .inr rfl) (xg hr.units (ae (pv 1)) uu)) (ah (aJ b7.nd rfl (by first | exact .inl rfl | exact .inr rfl) (dz (aa (ae (pv 1)) af))) (ah (cJ (oQ PassesOwn.never (cH (ae (pv 4))) (ba (ah (gM b7.nd rfl (by first | exact .inl rfl | exact .inr rfl)) (ah (bF PassesOwn.never rfl (bK (ae (pv 4))) (a9 b7.nd rfl (by first | exact .inl rfl | exact .inr rfl)) bB (ba (aq (bF PassesOwn.never rfl (bK (bx c_like_cells (hr.mono (by decide)) rfl di (aa (ae (pv 0)) (aa (ae (pv 6)) (aa (ae (pv 2)) af))) rfl)) (a9 b7.nd rfl (by first | exact .inl rfl | exact .inr rfl)) bB (ba (aq (bO (uI (om hr.units (ae (pv 7)) (ae (pv 3)))) (ah (gu hr.units (pv 3) (ae (pv 7)) (ae (pv 6))) (aq (iA (pv 5) (ae (pv 7))))) bg))))))) (aq (dq (i:=5) (aJ b7.nd rfl (by first | exact .inl rfl | exact .inr rfl) (ae (pv 5)))))))))) (aq (dq (i:=3) (aD (ae (pv 3))))))))
abbrev cF:Stmt:=top 30
def iQ:List Str:=["board","ways","found","seen","cell","patch"]
def iT:List Str:=["board","ways"]
theorem cS:FnScope iQ iT (ag cF):=⟨rfl,rfl,rfl,by decide+kernel,rfl,by decide+kernel,by decide+kernel⟩
theorem mn (B:Bl K mg base cv cA Cp) (c_all_cells:au P w K mg base cv 2 "all_cells" 1 fP) (c_steps_back:au P w K mg base cv 4 "steps_back" 3 aT) (c_keyed:au P w K mg base cv 1 "keyed" 1 jF) (T:bL K mg "all_patches" cF f):au P w K mg base cv 5 "all_patches" 2 (bR):=
 aE (N:=iQ) (ps:=iT) T cS (fun _ _ _ _ _ _ us hl=>match us,hl with | [_,_],_=>rfl) fun cdv A outer s H E hr=>
  (ah (gM cS.nd rfl (by first | exact .inl rfl | exact .inr rfl)) (ah (je cS.nd rfl (by first | exact .inl rfl | exact .inr rfl)) (ah (cJ (bF PassesOwn.never rfl (bK (bx c_all_cells (hr.mono (by decide)) rfl di (aa (ae (pv 0)) af) rfl)) (a9 cS.nd rfl (by first | exact .inl rfl | exact .inr rfl)) bB (ba (aq (bO (uI (om hr.units (ae (pv 4)) (ae (pv 3)))) (ah (aJ cS.nd rfl (by first | exact .inl rfl | exact .inr rfl) (qf rfl rfl B.sorted rfl (aa (bx c_steps_back (hr.mono (by decide)) rfl di (aa (ae (pv 0)) (aa (ae (pv 4)) (aa (ae (pv 1)) af))) rfl) af))) (ah (iA (pv 2) (ae (pv 5))) (aq (Ae hr.units (pv 3) (bx c_keyed (hr.mono (by decide)) rfl di (aa (ae (pv 5)) af) rfl) ⟨rfl,rfl,rfl,rfl⟩)))) bg))))) (aq (dq (i:=2) (aD (ae (pv 2))))))))
abbrev eM:Stmt:=top 32
def lU:List Str:=["board","cell","ways"]
def nj:List Str:=["board","cell","ways"]
theorem tz:FnScope lU nj (ag eM):=⟨rfl,rfl,rfl,by decide+kernel,rfl,by decide+kernel,by decide+kernel⟩
theorem rb (B:Bl K mg base cv cA Cp) (c_need_board:au P w K mg base cv 4 "need_board" 1 be) (c_need_cell:au P w K mg base cv 3 "need_cell" 2 dO) (c_need_ways:au P w K mg base cv 2 "need_ways" 1 bE) (c_steps_back:au P w K mg base cv 4 "steps_back" 3 aT) (T:bL K mg "patch_of" eM f):au P w K mg base cv 5 "patch_of" 3 (bW):=
 aE (N:=lU) (ps:=nj) T tz (fun _ _ _ _ _ _ us hl=>match us,hl with | [_,_,_],_=>rfl) fun cdv A outer s H E hr=>
  (ah (fe (bx c_need_board (hr.mono (by decide)) rfl bJ (aa (ae (pv 0)) af) rfl)) (ah (fe (bx c_need_cell (hr.mono (by decide)) rfl bJ (aa (ae (pv 0)) (aa (ae (pv 1)) af)) rfl)) (ah (fe (bx c_need_ways (hr.mono (by decide)) rfl bJ (aa (ae (pv 2)) af) rfl)) (aq (aD (qf rfl rfl B.sorted rfl (aa (bx c_steps_back (hr.mono (by decide)) rfl bJ (aa (ae (pv 0)) (aa (ae (pv 1)) (aa (ae (pv 2)) af))) rfl) af)))))))
abbrev fB:Stmt:=top 33
def oK:List Str:=["board","ways"]
def ou:List Str:=["board","ways"]
theorem tR:FnScope oK ou (ag fB):=⟨rfl,rfl,rfl,by decide+kernel,rfl,by decide+kernel,by decide+kernel⟩
theorem uq (B:Bl K mg base cv cA Cp) (c_need_board:au P w K mg base cv 4 "need_board" 1 be) (c_need_ways:au P w K mg base cv 2 "need_ways" 1 bE) (c_all_patches:au P w K mg base cv 5 "all_patches" 2 bR) (T:bL K mg "patches" fB f):au P w K mg base cv 6 "patches" 2 (c_):=
 aE (N:=oK) (ps:=ou) T tR (fun _ _ _ _ _ _ us hl=>match us,hl with | [_,_],_=>rfl) fun cdv A outer s H E hr=>
  (ah (fe (bx c_need_board (hr.mono (by decide)) rfl bJ (aa (ae (pv 0)) af) rfl)) (ah (fe (bx c_need_ways (hr.mono (by decide)) rfl bJ (aa (ae (pv 1)) af) rfl)) (aq (aD (bx c_all_patches (hr.mono (by decide)) rfl bJ (aa (ae (pv 0)) (aa (ae (pv 1)) af)) rfl)))))
abbrev ez:Stmt:=top 34
def mY:List Str:=["board","ways"]
def ni:List Str:=["board","ways"]
theorem rk:FnScope mY ni (ag ez):=⟨rfl,rfl,rfl,by decide+kernel,rfl,by decide+kernel,by decide+kernel⟩
theorem sm (B:Bl K mg base cv cA Cp) (c_need_board:au P w K mg base cv 4 "need_board" 1 be) (c_need_ways:au P w K mg base cv 2 "need_ways" 1 bE) (c_all_patches:au P w K mg base cv 5 "all_patches" 2 bR) (T:bL K mg "how_many" ez f):au P w K mg base cv 6 "how_many" 2 (cu):=
 aE (N:=mY) (ps:=ni) T rk (fun _ _ _ _ _ _ us hl=>match us,hl with | [_,_],_=>rfl) fun cdv A outer s H E hr=>
  (ah (fe (bx c_need_board (hr.mono (by decide)) rfl bJ (aa (ae (pv 0)) af) rfl)) (ah (fe (bx c_need_ways (hr.mono (by decide)) rfl bJ (aa (ae (pv 1)) af) rfl)) (aq (aD (bt rfl B.len (aa (bx c_all_patches (hr.mono (by decide)) rfl bJ (aa (ae (pv 0)) (aa (ae (pv 1)) af)) rfl) af))))))
abbrev du:Stmt:=top 35
def gF:List Str:=["board","ways","numbers","told","row"]
def m8:List Str:=["board","ways"]
theorem fQ:FnScope gF m8 (ag du):=⟨rfl,rfl,rfl,by decide+kernel,rfl,by decide+kernel,by decide+kernel⟩
theorem tE (B:Bl K mg base cv cA Cp) (c_need_board:au P w K mg base cv 4 "need_board" 1 be) (c_need_ways:au P w K mg base cv 2 "need_ways" 1 bE) (c_numbers_of:au P w K mg base cv 1 "numbers_of" 1 fc) (c_all_patches:au P w K mg base cv 5 "all_patches" 2 bR) (c_cells_of_row:au P w K mg base cv 1 "cells_of_row" 2 aY) (T:bL K mg "numbered" du f):au P w K mg base cv 6 "numbered" 2 (cy):=
 aE (N:=gF) (ps:=m8) T fQ (fun _ _ _ _ _ _ us hl=>match us,hl with | [_,_],_=>rfl) fun cdv A outer s H E hr=>
  (ah (fe (bx c_need_board (hr.mono (by decide)) rfl bJ (aa (ae (pv 0)) af) rfl)) (ah (fe (bx c_need_ways (hr.mono (by decide)) rfl bJ (aa (ae (pv 1)) af) rfl)) (ah (aJ fQ.nd rfl (by first | exact .inl rfl | exact .inr rfl) (bx c_numbers_of (hr.mono (by decide)) rfl bJ (aa (bx c_all_patches (hr.mono (by decide)) rfl bJ (aa (ae (pv 0)) (aa (ae (pv 1)) af)) rfl) af) rfl)) (ah (gM fQ.nd rfl (by first | exact .inl rfl | exact .inr rfl)) (ah (cJ (bF PassesOwn.never rfl (ck rfl B.range (aa (bt rfl B.len (aa (ae (pv 0)) af)) af)) (a9 fQ.nd rfl (by first | exact .inl rfl | exact .inr rfl)) bB (ba (aq (iA (pv 3) (cV (tn:=["cell"]) (n:=0) (bG (N:=gF) (osc:=(ag du)) rfl rfl (by decide+kernel)) rfl rfl (bK (bx c_cells_of_row (hr.mono (by decide)) rfl di (aa (ae (pv 0)) (aa (ae (pv 4)) af)) rfl)) (fun _ _ _ _ _ _ _=>cI (show List.Nodup (((["cell"]:List Str))++cM ["cell"] gF) by decide+kernel) rfl rfl) (fun _ _ _ _ _ _=>cR) (fun _ _ _ _ _ _=>(g6 hr.units (ae (pv 3)) (ae (pv 0)))))))))) (aq (dq (i:=3) (aD (ae (pv 3))))))))))
theorem AI (B:Bl K mg base cv cA Cp) {n m:Nat}(hn:n∈[0,1,2]) (hm:m<7):jZ K (cAs cA) [.exc (cA n), .raw (.ref (cA m))]=M.ret (.bl (decide (n=m))):=by
 have h:cA n∈cAs cA:=by
  unfold cAs
  simp only[List.mem_cons,List.not_mem_nil,or_false] at hn
  rcases hn with rfl | rfl | rfl<;>simp
 show (if cA n∈cAs cA then(match PySem.W.kitOne K (.ref (cA n)) (.ref (cA m)) with | some b=>M.ret (D.bl b) | none=>M.stuck) else M.stuck)=_
 rw[if_pos h,B.kit n m hn hm]
theorem xK (B:Bl K mg base cv cA Cp) {n:Nat}(hn:n∈[0,1,2]):jZ K (cAs cA) [.exc (cA n), .raw (.ty "ValueError")]=M.ret (.bl true):=by
 have h:cA n∈cAs cA:=by
  unfold cAs
  simp only[List.mem_cons,List.not_mem_nil,or_false] at hn
  rcases hn with rfl | rfl | rfl<;>simp
 show (if cA n∈cAs cA then(match PySem.W.kitOne K (.ref (cA n)) (.type "ValueError") with | some b=>M.ret (D.bl b) | none=>M.stuck) else M.stuck)=_
 rw[if_pos h,B.kitV n hn]
theorem u9 (k:Nat):rzI k∈[0,1,2]:=by
 unfold rzI
 split<;>simp
theorem rL (B:Bl K mg base cv cA Cp) (k:Nat):bz K cA [.exc (cB cA k)]=hdM k:=by
 unfold hdM cB
 have hn:=u9 k
 generalize rzI k=n at hn
 have hx:∀m (hm:m<7),jZ K (cAs cA) [.exc (cA n), .raw (.ref (cA m))]=M.ret (.bl (decide (n=m))):=fun m hm=>AI B hn hm
 have hv:=xK B hn
 have x0:=hx 0 (by decide)
 have x1:=hx 1 (by decide)
 have x2:=hx 2 (by decide)
 have x3:=hx 3 (by decide)
 have x4:=hx 4 (by decide)
 have x5:=hx 5 (by decide)
 have x6:=hx 6 (by decide)
 clear hx B
 simp only[List.mem_cons,List.not_mem_nil,or_false] at hn
 rcases hn with rfl | rfl | rfl
 ·simp only[bz,eQ,hv,x0,x1,x2,x3,x4,x5,x6,bY,aB,bh,dA,aC,aN,dV,dC,d1,d2,dM,dOr,cz,bU,sIf,bp,cf,tB',ar,List.map_cons,List.map_nil,List.cons_append,List.nil_append,List.replicate,List.length_cons,List.length_nil,List.set_cons_zero,List.set_cons_succ,List.getElem?_cons_zero,List.getElem?_cons_succ,bD,Nat.reduceSub,Nat.reduceAdd,lim,Nat.reduceLeDiff,if_true,gj,kq,vK,bools,decide_true,decide_false,Nat.reduceEqDiff];rfl
 ·simp only[bz,eQ,hv,x0,x1,x2,x3,x4,x5,x6,bY,aB,bh,dA,aC,aN,dV,dC,d1,d2,dM,dOr,cz,bU,sIf,bp,cf,tB',ar,List.map_cons,List.map_nil,List.cons_append,List.nil_append,List.replicate,List.length_cons,List.length_nil,List.set_cons_zero,List.set_cons_succ,List.getElem?_cons_zero,List.getElem?_cons_succ,bD,Nat.reduceSub,Nat.reduceAdd,lim,Nat.reduceLeDiff,if_true,gj,kq,vK,bools,decide_true,decide_false,Nat.reduceEqDiff];rfl
 ·simp only[bz,eQ,hv,x0,x1,x2,x3,x4,x5,x6,bY,aB,bh,dA,aC,aN,dV,dC,d1,d2,dM,dOr,cz,bU,sIf,bp,cf,tB',ar,List.map_cons,List.map_nil,List.cons_append,List.nil_append,List.replicate,List.length_cons,List.length_nil,List.set_cons_zero,List.set_cons_succ,List.getElem?_cons_zero,List.getElem?_cons_succ,bD,Nat.reduceSub,Nat.reduceAdd,lim,Nat.reduceLeDiff,if_true,gj,kq,vK,bools,decide_true,decide_false,Nat.reduceEqDiff];rfl
theorem hh (B:Bl K mg base cv cA Cp) {i:Nat}(k:Nat) (ρ:Rho) (e:ρ[i]? =some (some (.fz (.exc (cB cA k))))):bp (yE 1 (bz K cA) (aC (dV i) aN)) ρ=(hdM k>>=fun d=>M.ret (.rt d)):=by
 have h4:dV i ρ=M.ret (.exc (cB cA k)):=by unfold dV;rw[e]
 show ((dV i ρ>>=fun x=>aN ρ>>=fun xs=>M.ret (x::xs))>>=fun ds=>if ds.length=1 then noex (noex (bz K cA ds)) else M.stuck)>>=_=_
 rw[h4]
 show (if [D.exc (cB cA k)].length=1 then noex (noex (bz K cA [.exc (cB cA k)])) else M.stuck)>>=_=_
 rw[rL B k]
 rfl
abbrev cC:Stmt:=top 45
def iK:List Str:=["_law_which","_law_board_here","_law_cell_here","_law_ways","_law_e"]
def iM:List Str:=["_law_which","_law_board_here","_law_cell_here","_law_ways"]
theorem gU:FnScope iK iM (ag cC):=⟨rfl,rfl,rfl,by decide+kernel,rfl,by decide+kernel,by decide+kernel⟩
theorem ml (B:Bl K mg base cv cA Cp) (c_patch_of:au P w K mg base cv 5 "patch_of" 3 bW) (c_law_refused:ly P w K mg base cv 1 "_law_refused" 1 (bz K cA)) (c_patches:au P w K mg base cv 6 "patches" 2 c_) (c_how_many:au P w K mg base cv 6 "how_many" 2 cu) (c_numbered:au P w K mg base cv 6 "numbered" 2 cy) (T:bL K mg "_law_told" cC f):au P w K mg base cv 7 "_law_told" 4 (aw):=
 aE (N:=iK) (ps:=iM) T gU (fun _ _ _ _ _ _ us hl=>match us,hl with | [_,_,_,_],_=>rfl) fun cdv A outer s H E hr=>
  (aq (Aj (i:=4) (hd:=hdM) B.cvE gU.nd rfl rfl rfl B.top B.exm (fun pn Ec Xw' hp=>(ah (bO (mP hr.units (ae (pv 0)) aj) (aq (aD (bx c_patch_of (hr.mono (by decide)) rfl hp (aa (ae (pv 1)) (aa (ae (pv 2)) (aa (ae (pv 3)) af))) rfl))) bg) (aq (aD (xt c_patches c_how_many c_numbered (hr.mono (by decide)) (hr.mono (by decide)) (hr.mono (by decide)) rfl rfl rfl hp (mz (ae (pv 0)) aj) (aa (ae (pv 1)) (aa (ae (pv 3)) af)) rfl))))) (fun ea=>(aq (aD (Au c_law_refused (RoomH.of (hr.mono (by decide)) _) rfl (aa (ae (pv 4)) af))))) (fun k ρ e=>hh B k ρ e)))
abbrev ay:Stmt:=top 46
def aW:List Str:=["_law_script","_law_board_here","_law_whole","_law_cell_here","_law_ways","_law_rows","_law_own","_law_told_here","_law_row","_law_column","_law_bad","_law_odd"]
def j6:List Str:=["_law_script"]
theorem bI:FnScope aW j6 (ag ay):=⟨rfl,rfl,rfl,by decide+kernel,rfl,by decide+kernel,by decide+kernel⟩
set_option maxHeartbeats 4000000 in
theorem qb (B:Bl K mg base cv cA Cp) (c_law_board:au P w K mg base cv 3 "_law_board" 3 eV) {cdv:Value}{A:Around}{outer:List Env}{s:Shared}{H:Hp}{E:XK}(hr:Room 7 (A.deeper (envOfC "law" (ag ay) s.heap.objs.size f cdv))):
 Box (PSD (aZ (CX1 P w cv) P w K mg base aW "law" (ag ay) f cdv A outer s H E) (fun n H'=>E (cv n) none H') ((az ay).getD 0 (.Pass ⟨0,0,0,0⟩)) kQ):=
 ⟨(aJ bI.nd rfl (by first | exact .inl rfl | exact .inr rfl) (bx c_law_board (hr.mono (by decide)) rfl bJ (aa (ae (pv 0)) (aa aj (aa aj af))) rfl))⟩
set_option maxHeartbeats 4000000 in
theorem qS (B:Bl K mg base cv cA Cp) (c_law_cells:au P w K mg base cv 1 "_law_cells" 1 bC) {cdv:Value}{A:Around}{outer:List Env}{s:Shared}{H:Hp}{E:XK}(hr:Room 7 (A.deeper (envOfC "law" (ag ay) s.heap.objs.size f cdv))):
 Box (PSD (aZ (CX1 P w cv) P w K mg base aW "law" (ag ay) f cdv A outer s H E) (fun n H'=>E (cv n) none H') ((az ay).getD 1 (.Pass ⟨0,0,0,0⟩)) lg):=
 ⟨(aJ bI.nd rfl (by first | exact .inl rfl | exact .inr rfl) (bx c_law_cells (hr.mono (by decide)) rfl bJ (aa (ae (pv 1)) af) rfl))⟩
set_option maxHeartbeats 4000000 in
theorem qJ (B:Bl K mg base cv cA Cp) (c_law_drawn:au P w K mg base cv 2 "_law_drawn" 3 aG) {cdv:Value}{A:Around}{outer:List Env}{s:Shared}{H:Hp}{E:XK}(hr:Room 7 (A.deeper (envOfC "law" (ag ay) s.heap.objs.size f cdv))):
 Box (PSD (aZ (CX1 P w cv) P w K mg base aW "law" (ag ay) f cdv A outer s H E) (fun n H'=>E (cv n) none H') ((az ay).getD 2 (.Pass ⟨0,0,0,0⟩)) kL):=
 ⟨(aJ bI.nd rfl (by first | exact .inl rfl | exact .inr rfl) (iq (ae (pv 2)) (bx c_law_drawn (hr.mono (by decide)) rfl bJ (aa (ae (pv 0)) (aa aj (aa (bt rfl B.len (aa (ae (pv 2)) af)) af))) rfl)))⟩
set_option maxHeartbeats 4000000 in
theorem p5 (B:Bl K mg base cv cA Cp) (c_law_patches:au P w K mg base cv 3 "_law_patches" 2 b6) (c_law_told_v3:au P w K mg base cv 7 "_law_told" 4 aw) {cdv:Value}{A:Around}{outer:List Env}{s:Shared}{H:Hp}{E:XK}(hr:Room 7 (A.deeper (envOfC "law" (ag ay) s.heap.objs.size f cdv))):
 Box (PSD (aZ (CX1 P w cv) P w K mg base aW "law" (ag ay) f cdv A outer s H E) (fun n H'=>E (cv n) none H') ((az ay).getD 3 (.Pass ⟨0,0,0,0⟩)) kH):=
 ⟨(cJ (bF PassesOwn.never rfl (jg (bP (aa aj (aa aj af)))) (a9 bI.nd rfl (by first | exact .inl rfl | exact .inr rfl)) bB (ba (ah (aJ bI.nd rfl (by first | exact .inl rfl | exact .inr rfl) (bx c_law_patches (hr.mono (by decide)) rfl di (aa (ae (pv 1)) (aa (ae (pv 4)) af)) rfl)) (ah (aJ bI.nd rfl (by first | exact .inl rfl | exact .inr rfl) (iq (cV (tn:=["_law_row"]) (n:=0) (bG (N:=aW) (osc:=(ag ay)) rfl rfl (by decide+kernel)) rfl rfl (bK (ae (pv 5))) (fun _ _ _ _ _ _ _=>cI (show List.Nodup (((["_law_row"]:List Str))++cM ["_law_row"] aW) by decide+kernel) rfl rfl) (fun _ _ _ _ _ _=>(l_ (Bz hr.units (ae (pv 4)) (ae (pv 0))))) (fun _ _ _ _ _ _=>(ae (pv 0)))) aj)) (ah (bO (PDW.t (gJ (gQ hr.units (bx c_law_told_v3 (hr.mono (by decide)) rfl di (aa aj (aa (ae (pv 1)) (aa (ae (pv 3)) (aa (ae (pv 4)) af)))) rfl) (ae (pv 6))) (ft (gQ hr.units (bx c_law_told_v3 (hr.mono (by decide)) rfl di (aa aj (aa (ae (pv 1)) (aa (ae (pv 3)) (aa (ae (pv 4)) af)))) rfl) (ae (pv 5)))))) (aq (aD dY)) bg) (ah (bO (gQ hr.units (bx c_law_told_v3 (hr.mono (by decide)) rfl di (aa aj (aa (ae (pv 1)) (aa (ae (pv 3)) (aa (ae (pv 4)) af)))) rfl) (bt rfl B.len (aa (ae (pv 5)) af))) (aq (aD dY)) bg) (ah (aJ bI.nd rfl (by first | exact .inl rfl | exact .inr rfl) (bx c_law_told_v3 (hr.mono (by decide)) rfl di (aa aj (aa (ae (pv 1)) (aa (ae (pv 3)) (aa (ae (pv 4)) af)))) rfl)) (ah (bO (PDW.t (gJ (gQ hr.units (bt rfl B.len (aa (ae (pv 7)) af)) (bt rfl B.len (aa (ae (pv 1)) af))) (ft (gQ hr.units (cV (tn:=["_law_row"]) (n:=0) (bG (N:=aW) (osc:=(ag ay)) rfl rfl (by decide+kernel)) rfl rfl (bK (ae (pv 7))) (fun _ _ _ _ _ _ _=>cI (show List.Nodup (((["_law_row"]:List Str))++cM ["_law_row"] aW) by decide+kernel) rfl rfl) (fun _ _ _ _ _ _=>(l_ (gQ hr.units (bt rfl B.len (aa (ae (pv 0)) af)) (bt rfl B.len (aa (bo (ae (pv 2)) aj) af))))) (fun _ _ _ _ _ _=>(ae (pv 0)))) (dz af))))) (aq (aD dY)) bg) (aq (bF PassesOwn.never rfl (bK (ae (pv 2))) (uQ rfl (gr (a9 bI.nd rfl (by first | exact .inl rfl | exact .inr rfl)) (gr (a9 bI.nd rfl (by first | exact .inl rfl | exact .inr rfl)) qr))) (pA (is:=[8,9])) (ba (aq (bO (vU hr.units (bP (aa (ae (pv 8)) (aa (ae (pv 9)) af))) (iq (ae (pv 5)) (iq (iq (ae (pv 7)) (ae (pv 8))) (ae (pv 9))))) (aq (aD dY)) bg))))))))))))))⟩
set_option maxHeartbeats 4000000 in
theorem pZ (B:Bl K mg base cv cA Cp) (c_law_drawn:au P w K mg base cv 2 "_law_drawn" 3 aG) {cdv:Value}{A:Around}{outer:List Env}{s:Shared}{H:Hp}{E:XK}(hr:Room 7 (A.deeper (envOfC "law" (ag ay) s.heap.objs.size f cdv))):
 Box (PSD (aZ (CX1 P w cv) P w K mg base aW "law" (ag ay) f cdv A outer s H E) (fun n H'=>E (cv n) none H') ((az ay).getD 4 (.Pass ⟨0,0,0,0⟩)) k9):=
 ⟨(aJ bI.nd rfl (by first | exact .inl rfl | exact .inr rfl) (iq (dz (aa (bP (aa (bt rfl B.len (aa (ae (pv 1)) af)) (aa aj af))) (aa (bP (aa aj (aa (pW aj) af))) (aa uu (aa (bP (aa dY (aa aj af))) (aa (dz (aa aj (aa aj af))) af)))))) (bx c_law_drawn (hr.mono (by decide)) rfl bJ (aa (ae (pv 0)) (aa aj (aa aj af))) rfl)))⟩
set_option maxHeartbeats 4000000 in
theorem pz (B:Bl K mg base cv cA Cp) (c_law_drawn:au P w K mg base cv 2 "_law_drawn" 3 aG) {cdv:Value}{A:Around}{outer:List Env}{s:Shared}{H:Hp}{E:XK}(hr:Room 7 (A.deeper (envOfC "law" (ag ay) s.heap.objs.size f cdv))):
 Box (PSD (aZ (CX1 P w cv) P w K mg base aW "law" (ag ay) f cdv A outer s H E) (fun n H'=>E (cv n) none H') ((az ay).getD 5 (.Pass ⟨0,0,0,0⟩)) kE):=
 ⟨(aJ bI.nd rfl (by first | exact .inl rfl | exact .inr rfl) (iq (dz (aa aj (aa aj (aa uu (aa dY (aa er (aa aj af))))))) (bx c_law_drawn (hr.mono (by decide)) rfl bJ (aa (ae (pv 0)) (aa aj (aa aj af))) rfl)))⟩
set_option maxHeartbeats 4000000 in
theorem pO (B:Bl K mg base cv cA Cp) (c_law_told_v3:au P w K mg base cv 7 "_law_told" 4 aw) {cdv:Value}{A:Around}{outer:List Env}{s:Shared}{H:Hp}{E:XK}(hr:Room 7 (A.deeper (envOfC "law" (ag ay) s.heap.objs.size f cdv))):
 Box (PSD (aZ (CX1 P w cv) P w K mg base aW "law" (ag ay) f cdv A outer s H E) (fun n H'=>E (cv n) none H') ((az ay).getD 6 (.Pass ⟨0,0,0,0⟩)) kY):=
 ⟨(bO (gQ hr.units (cV (tn:=["_law_which"]) (n:=0) (bG (N:=aW) (osc:=(ag ay)) rfl rfl (by decide+kernel)) rfl rfl (ck rfl B.range (aa aj af)) (fun _ _ _ _ _ _ _=>cI (show List.Nodup (((["_law_which"]:List Str))++cM ["_law_which"] aW) by decide+kernel) rfl rfl) (fun _ _ _ _ _ _=>cR) (fun _ _ _ _ _ _=>(bx c_law_told_v3 (hr.mono (by decide)) rfl di (aa (ae (pv 0)) (aa (ae (pv 2)) (aa (ae (pv 4)) (aa (ae (pv 12)) af)))) rfl))) (zm (dz (aa (bP (aa er (aa aj af))) af)) aj)) (aq (aD dY)) bg)⟩
set_option maxHeartbeats 4000000 in
theorem qu (B:Bl K mg base cv cA Cp) (c_law_told_v3:au P w K mg base cv 7 "_law_told" 4 aw) {cdv:Value}{A:Around}{outer:List Env}{s:Shared}{H:Hp}{E:XK}(hr:Room 7 (A.deeper (envOfC "law" (ag ay) s.heap.objs.size f cdv))):
 Box (PSD (aZ (CX1 P w cv) P w K mg base aW "law" (ag ay) f cdv A outer s H E) (fun n H'=>E (cv n) none H') ((az ay).getD 7 (.Pass ⟨0,0,0,0⟩)) kP):=
 ⟨(bO (gQ hr.units (bx c_law_told_v3 (hr.mono (by decide)) rfl bJ (aa aj (aa (ae (pv 1)) (aa (ae (pv 10)) (aa (ae (pv 11)) af)))) rfl) (bP (aa er (aa aj af)))) (aq (aD dY)) bg)⟩
set_option maxHeartbeats 4000000 in
theorem pR (B:Bl K mg base cv cA Cp) (c_law_told_v3:au P w K mg base cv 7 "_law_told" 4 aw) {cdv:Value}{A:Around}{outer:List Env}{s:Shared}{H:Hp}{E:XK}(hr:Room 7 (A.deeper (envOfC "law" (ag ay) s.heap.objs.size f cdv))):
 Box (PSD (aZ (CX1 P w cv) P w K mg base aW "law" (ag ay) f cdv A outer s H E) (fun n H'=>E (cv n) none H') ((az ay).getD 8 (.Pass ⟨0,0,0,0⟩)) kM):=
 ⟨(aD (s_ hr.units (cV (tn:=["_law_which"]) (n:=0) (bG (N:=aW) (osc:=(ag ay)) rfl rfl (by decide+kernel)) rfl rfl (ck rfl B.range (aa aj af)) (fun _ _ _ _ _ _ _=>cI (show List.Nodup (((["_law_which"]:List Str))++cM ["_law_which"] aW) by decide+kernel) rfl rfl) (fun _ _ _ _ _ _=>cR) (fun _ _ _ _ _ _=>(bx c_law_told_v3 (hr.mono (by decide)) rfl di (aa (ae (pv 0)) (aa (zQ rfl B.list rfl (aa (ae (pv 2)) af)) (aa (ae (pv 11)) (aa (ae (pv 12)) af)))) rfl))) (zm (dz (aa (bP (aa er (aa aj af))) af)) aj)))⟩
set_option maxHeartbeats 4000000 in
theorem rj {fd:FuncData}(B:Bl K mg base cv cA Cp) (c_law_board:au P w K mg base cv 3 "_law_board" 3 eV) (c_law_cells:au P w K mg base cv 1 "_law_cells" 1 bC) (c_law_drawn:au P w K mg base cv 2 "_law_drawn" 3 aG) (c_law_patches:au P w K mg base cv 3 "_law_patches" 2 b6) (c_law_told_v3:au P w K mg base cv 7 "_law_told" 4 aw) (Fn:Fun K "law" "law" ay f fd):FnOk P w K mg base (CX1 P w cv) 8 f fd j6 (spD K cv 1 iw):=
 Dj (N:=aW) (ps:=j6) (τ:=jV) Fn bI fun cdv A outer s H E hr=>by
  obtain⟨hbx⟩:Box (PSDs (aZ (CX1 P w cv) P w K mg base aW "law" (ag ay) f cdv A outer s H E) (fun n H'=>E (cv n) none H') (az ay) jV):=(ik (qb B c_law_board hr) (ik (qS B c_law_cells hr) (ik (qJ B c_law_drawn hr) (ik (p5 B c_law_patches c_law_told_v3 hr) (ik (pZ B c_law_drawn hr) (ik (pz B c_law_drawn hr) (ik (pO B c_law_told_v3 hr) (ik (qu B c_law_told_v3 hr) (Co (pR B c_law_told_v3 hr))))))))))
  assumption
end
end K1
namespace K1
open PySem L2 L3
theorem yo {ds:List D}(h:ds.length≤lim):bD ds=M.ret (.lst ds):=if_pos h
theorem dc:lim=4096:=rfl
theorem eY {α:Type}{xs:List α}{i:Nat}{x:α}(h:xs[i]? =some x):L2.atI xs (i:Int)=some x:=by
 obtain⟨hi,e⟩:=List.getElem?_eq_some_iff.mp h
 unfold L2.atI ixN
 rw[if_pos (Int.natCast_nonneg i),if_pos (by exact Int.ofNat_lt.mpr hi)]
 exact h
theorem ao {m:Nat}{g:List D→M D}{δs:DA}{ρ:Rho}{ds:List D}(h:δs ρ=M.ret ds) (hl:ds.length=m):ax m g δs ρ=g ds:=by
 unfold ax
 rw[h]
 exact if_pos hl
theorem bA {a:DE}{r:DA}{ρ:Rho}{x:D}{xs:List D}(h1:a ρ=M.ret x) (h2:r ρ=M.ret xs):aC a r ρ=M.ret (x::xs):=by
 unfold aC
 rw[h1,ar,h2]
 rfl
theorem aM {g:D→D→M D}{a b:DE}{ρ:Rho}{x y:D}(h1:a ρ=M.ret x) (h2:b ρ=M.ret y):d2 g a b ρ=g x y:=by
 unfold d2
 rw[h1,ar,h2]
 rfl
theorem cN {g:List D→M D}{a:DA}{ρ:Rho}{xs:List D}(h:a ρ=M.ret xs):dA g a ρ=g xs:=by
 unfold dA
 rw[h]
 rfl
theorem f_ {i j:Int}(h:0<j):jN (.int i) (.int j)=M.ret (.int (i % j)):=by
 show (if decide (0<j)=true then _ else _)=_
 rw[if_pos (decide_eq_true h)]
theorem jm {i j:Int}(h:0<j) (h2:j<1073741824):nO (.int i) (.int j)=M.ret (.int (i / j)):=by
 show (if decide (0<j∧j<1073741824)=true then _ else _)=_
 rw[if_pos (decide_eq_true ⟨h,h2⟩)]
theorem fN {i j:Int}(h:(-(2 ^ 64)<i∧i<2 ^ 64)∨(-(2 ^ 64)<j∧j<2 ^ 64)):fX (.int i) (.int j)=M.ret (.int (i*j)):=by
 show (if decide _=true then _ else _)=_
 rw[if_pos (decide_eq_true h)]
theorem g7 {i j:Int}:dE (.int i) (.int j)=M.ret (.int (i+j)):=rfl
theorem yB (ns:List Int) (hl:ns.length≤63) (k:Nat):∃v,fI [.scr ns, .int (k:Int)]=M.ret (.int v):=by
 cases ns with
 |nil=>
  refine⟨7*(k:Int),?_⟩
  rfl
 |cons n r=>
  have hp:0<(n::r).length:=Nat.succ_pos _
  generalize e:(n::r)=ns at*
  have he:eqF 6 (.scr ns) (.lst [])=some false:=by subst e;rfl
  obtain⟨y,hy⟩:∃y,ns[k % ns.length]? =some y:=⟨_,List.getElem?_eq_getElem (Nat.mod_lt _ hp)⟩
  have hp':(0:Int)<(ns.length:Int):=by omega
  have h1:jN (.int (k:Int)) (.int (ns.length:Int))=M.ret (.int ((k % ns.length:Nat):Int)):=f_ hp'
  have h2:nO (.int (k:Int)) (.int (ns.length:Int))=M.ret (.int ((k:Int) / (ns.length:Int))):=jm hp' (by omega)
  have h3:xi (.scr ns) (.int ((k % ns.length:Nat):Int))=M.ret (.int y):=by
   show (match L2.atI ns ((k % ns.length:Nat):Int) with | some n=>M.ret (D.int n) | none=>M.stuck)=_
   rw[eY hy]
  have h4:fX (.int 6553) (.int ((k:Int) / (ns.length:Int)))=M.ret (.int (6553*((k:Int) / (ns.length:Int)))):=fN (.inl ⟨by decide,by decide⟩)
  refine⟨y+6553*((k:Int) / (ns.length:Int)),?_⟩
  simp only[fI,mB,bY,aB,sIf,bp,cf,tB',d2,dV,dC,dA,aC,aN,bD,aS,blM,gEq,he,ar,h1,h2,h3,h4,List.map_cons,List.map_nil,List.cons_append,List.nil_append,List.length_cons,List.length_nil,List.getElem?_cons_zero,List.getElem?_cons_succ,dc,Nat.reduceAdd,Nat.zero_le,if_true,Bool.false_eq_true,if_false,dE,gI]
theorem eA (ns:List Int) (hl:ns.length≤63) (k m:Nat) (hm:0<m):∃v:Nat,v<m∧aG [.scr ns, .int (k:Int), .int (m:Int)]=M.ret (.int (v:Int)):=by
 obtain⟨c,hc⟩:=yB ns hl k
 have b1:=Int.emod_nonneg (c % 2147483563*69069+104723*((k:Int)+1)) (b:=2147483563) (by decide)
 have b2:=Int.emod_lt_of_pos (c % 2147483563*69069+104723*((k:Int)+1)) (b:=2147483563) (by decide)
 generalize hx:(c % 2147483563*69069+104723*((k:Int)+1)) % 2147483563=x at b1 b2
 have b3:=Int.emod_nonneg (x*x+x / 3) (b:=2147483399) (by decide)
 have b4:=Int.emod_lt_of_pos (x*x+x / 3) (b:=2147483399) (by decide)
 generalize hy:(x*x+x / 3) % 2147483399=y at b3 b4
 have m1:fX (.int (c % 2147483563)) (.int 69069)=_:=fN (.inr ⟨by decide,by decide⟩)
 have m2:fX (.int 104723) (.int ((k:Int)+1))=_:=fN (.inl ⟨by decide,by decide⟩)
 have m3:fX (.int x) (.int x)=_:=fN (.inl ⟨by omega,by omega⟩)
 have m4:fX (.int y) (.int y)=_:=fN (.inl ⟨by omega,by omega⟩)
 have hM:(0:Int)<(m:Int):=Int.ofNat_lt.mpr hm
 have n1:=Int.emod_nonneg ((y*y+y / 7) % 2147483647 / 11) (b:=(m:Int)) (by omega)
 have n2:=Int.emod_lt_of_pos ((y*y+y / 7) % 2147483647 / 11) hM
 have q1:jN (.int c) (.int 2147483563)=_:=f_ (by decide)
 have q2:jN (.int (c % 2147483563*69069+104723*((k:Int)+1))) (.int 2147483563)=_:=f_ (by decide)
 have q3:nO (.int x) (.int 3)=_:=jm (by decide) (by decide)
 have q4:jN (.int (x*x+x / 3)) (.int 2147483399)=_:=f_ (by decide)
 have q5:nO (.int y) (.int 7)=_:=jm (by decide) (by decide)
 have q6:jN (.int (y*y+y / 7)) (.int 2147483647)=_:=f_ (by decide)
 have q7:nO (.int ((y*y+y / 7) % 2147483647)) (.int 11)=_:=jm (by decide) (by decide)
 have q8:jN (.int ((y*y+y / 7) % 2147483647 / 11)) (.int (m:Int))=_:=f_ hM
 refine⟨((y*y+y / 7) % 2147483647 / 11 % (m:Int)).toNat,by omega,?_⟩
 rw[Int.toNat_of_nonneg n1]
 rw[hx] at q2
 rw[hy] at q4
 simp only[aG,kZ,bY,aB,bh,bp,ax,d2,dV,dC,dA,aC,aN,ar,hc,List.map_cons,List.map_nil,List.cons_append,List.nil_append,List.length_cons,List.length_nil,List.getElem?_cons_zero,List.getElem?_cons_succ,List.replicate,List.set_cons_zero,List.set_cons_succ,Nat.reduceAdd,Nat.reduceSub,if_true,g7,m1,m2,m3,m4,q1,q2,q3,q4,q5,q6,q7,q8]
theorem yb {α:Type}(a:α):noex (M.ret a)=M.ret a:=rfl
theorem rQ {put:D→Rho→Option Rho}{body:DS}{I:Nat→Rho→Prop}:∀(ds:List D) (i:Nat) (ρ:Rho),I i ρ→
 (∀j d,ds[j]? =some d→∀ρ,I (i+j) ρ→∃ρ1 ρ2,put d ρ=some ρ1∧body ρ1=M.ret (.nx ρ2)∧I (i+j+1) ρ2)→∃ρ',forL put body ds ρ=M.ret (.nx ρ')∧I (i+ds.length) ρ'
 |[],i,ρ,h,_=>⟨ρ,rfl,h⟩
 |d::ds,i,ρ,h,step=>by
  obtain⟨ρ1,ρ2,e1,e2,h2⟩:=step 0 d rfl ρ h
  obtain⟨ρ',e3,h3⟩:=rQ (I:=I) ds (i+1) ρ2 h2 fun j d' hd ρ hI=>by
   have:=step (j+1) d' hd ρ (by rw[show i+(j+1)=i+1+j by omega];exact hI)
   rw[show i+(j+1)+1=i+1+j+1 by omega] at this
   exact this
  refine⟨ρ',?_,?_⟩
  ·show (match put d ρ with | none=>M.stuck | some ρ1=>body ρ1>>=fun o=>match o with | .nx ρ2=>forL put body ds ρ2 | .rt v=>M.ret (.rt v))=_
   rw[e1]
   show (body ρ1>>=fun o=>match o with | .nx ρ2=>forL put body ds ρ2 | .rt v=>M.ret (.rt v))=_
   rw[e2]
   exact e3
  ·rw[show i+(d::ds).length=i+1+ds.length by simp;omega]
   exact h3
theorem oy {f:D→M (Option D)}{Pr:D→Prop}:∀(ds:List D),(∀d∈ds,∃y,f d=M.ret (some y)∧Pr y)→∃ys,dF f ds=M.ret ys∧ys.length=ds.length∧∀y∈ys,Pr y
 |[],_=>⟨[],rfl,rfl,fun _ h=>by cases h⟩
 |d::ds,h=>by
  obtain⟨y,e,hy⟩:=h d (List.mem_cons_self ..)
  obtain⟨ys,e2,hl,hp⟩:=oy ds fun d' hd=>h d' (List.mem_cons_of_mem _ hd)
  refine⟨y::ys,?_,by simp[hl],fun z hz=>?_⟩
  ·rw[fK,e,ar,e2]
   rfl
  ·cases hz with
   |head=>exact hy
   |tail _ hz=>exact hp z hz
theorem gh {f:D→M (Option D)}{g:D→D}:∀(ds:List D),(∀d∈ds,f d=M.ret (some (g d)))→dF f ds=M.ret (ds.map g)
 |[],_=>rfl
 |d::ds,h=>by
  rw[fK,h d (List.mem_cons_self ..),ar,gh ds fun d' hd=>h d' (List.mem_cons_of_mem _ hd)]
  rfl
def inL (x:Str):Bool:=!(Builtin.Str.occurrences ("abcdef":Str) x 0 ("abcdef":Str).length 1).isEmpty
structure Row (W:Nat) (r:Str):Prop where
 len:r.length=W
 let':∀c∈r.cps.toList,inL ⟨#[c]⟩=true
structure Good (bd:List Str) (W:Nat):Prop where
 r1:1≤bd.length
 r5:bd.length≤5
 w1:1≤W
 w5:W≤5
 rows:∀r∈bd,Row W r
theorem sL:∀(ys:List D),(∀y∈ys,∃c,y= .str ⟨#[c]⟩∧inL ⟨#[c]⟩=true)→∃xs,qE ys=some xs∧xs.length=ys.length∧(xs.map (·.length)).sum=ys.length∧Row ys.length (fo xs)
 |[],_=>⟨[],rfl,rfl,rfl,rfl,fun c h=>by cases h⟩
 |y::ys,h=>by
  obtain⟨c,e,hc⟩:=h y (List.mem_cons_self ..)
  obtain⟨xs,e1,e2,e3,e4⟩:=sL ys fun z hz=>h z (List.mem_cons_of_mem _ hz)
  subst e
  refine⟨⟨#[c]⟩::xs,?_,by simp[e2],?_,?_,fun z hz=>?_⟩
  ·show (qE ys).map _=_
   rw[e1]
   rfl
  ·rw[List.map_cons,List.sum_cons,e3]
   show 1+ys.length=_
   simp
   omega
  ·show ((⟨#[c]⟩:Str)++fo xs).length=_
   rw[gZ,e4.len]
   show 1+ys.length=_
   simp
   omega
  ·have hz:z∈((⟨#[c]⟩:Str)++fo xs).cps.toList:=hz
   have:((⟨#[c]⟩:Str)++fo xs).cps= #[c]++(fo xs).cps:=rfl
   rw[this] at hz
   have hz:z∈c::(fo xs).cps.toList:=by simpa using hz
   cases hz with
   |head=>exact hc
   |tail _ hz=>exact e4.let' z hz
theorem zB {lo:Int}{n:Nat}{d:D}(h:d∈gm lo n):∃i:Nat,i<n∧d= .int (lo+(i:Int)):=by
 unfold gm at h
 obtain⟨i,hi,e⟩:=List.mem_map.mp h
 exact⟨i,List.mem_range.mp hi,e.symm⟩
theorem Ar {lo:Int}{n j:Nat}{d:D}(h:(gm lo n)[j]? =some d):j<n∧d= .int (lo+(j:Int)):=by
 unfold gm at h
 rw[List.getElem?_map] at h
 by_cases hj:j<n
 ·rw[List.getElem?_range hj] at h
  cases h
  exact⟨hj,rfl⟩
 ·rw[List.getElem?_eq_none (by simpa using hj)] at h
  cases h
theorem jK (lo:Int) (n:Nat):(gm lo n).length=n:=by simp[gm]
abbrev fz (d:D):Option Sl:=some (.fz d)
theorem jb {δe:DE}{ρ:Rho}{d:D}:f9 0 cb δe ρ d=(δe (fz d::ρ)>>=fun y=>M.ret (some y)):=rfl
theorem tN {δt:DT}{δe:DE}{ρ:Rho}{d:D}:f9 0 δt δe ρ d=(δt (fz d::ρ)>>=fun b=>if b then δe (fz d::ρ)>>=fun y=>M.ret (some y) else M.ret none):=rfl
theorem ak {a b:DS}{ρ ρ':Rho}{o:M Out}(h:a ρ=M.ret (.nx ρ')) (h2:b ρ'=o):aB a b ρ=o:=by
 unfold aB
 rw[h]
 exact h2
theorem d9 {a b:DS}{ρ:Rho}{d:D}(h:a ρ=M.ret (.rt d)):aB a b ρ=M.ret (.rt d):=by
 unfold aB
 rw[h]
 rfl
theorem aQ {i:Nat}{δ:DE}{ρ:Rho}{d:D}(h:δ ρ=M.ret d):bh i δ ρ=M.ret (.nx (ρ.set i (fz d))):=by
 unfold bh
 rw[h]
 rfl
theorem el {c:DT}{a b:DS}{ρ:Rho}{o:M Out}(h:c ρ=M.ret true) (h2:a ρ=o):sIf c a b ρ=o:=by
 unfold sIf
 rw[h]
 exact h2
theorem dP {c:DT}{a b:DS}{ρ:Rho}{o:M Out}(h:c ρ=M.ret false) (h2:b ρ=o):sIf c a b ρ=o:=by
 unfold sIf
 rw[h]
 exact h2
theorem aR {δ:DE}{ρ:Rho}{d:D}(h:δ ρ=M.ret d):bp δ ρ=M.ret (.rt d):=by
 unfold bp
 rw[h]
 rfl
theorem bX {δ:DE}{ρ:Rho}{d:D}(h:δ ρ=M.ret d):i8 δ ρ=M.ret (.nx ρ):=by
 unfold i8
 rw[h]
 rfl
theorem bf {n:Nat}{τ:DS}{ds:List D}{d:D}(h:τ (ds.map (fun d=>some (Sl.fz d))++List.replicate (n - ds.length) none)=M.ret (.rt d)):bY n τ ds=M.ret d:=by
 unfold bY
 rw[h]
 rfl
theorem vi {n:Nat}{τ:DS}{ds:List D}{ρ:Rho}(h:τ (ds.map (fun d=>some (Sl.fz d))++List.replicate (n - ds.length) none)=M.ret (.nx ρ)):bY n τ ds=M.ret .non:=by
 unfold bY
 rw[h]
 rfl
theorem dZ {n k:Nat}{τ:DS}{ds:List D}(h:τ (ds.map (fun d=>some (Sl.fz d))++List.replicate (n - ds.length) none)=M.raise k):bY n τ ds=M.raise k:=by
 unfold bY
 rw[h]
 rfl
theorem yp {put:D→Rho→Option Rho}{δi:DA}{b:DS}{ρ:Rho}{ds:List D}{o:Out}(h:δi ρ=M.ret ds) (h2:forL put b ds ρ=M.ret o):noex (cT put δi b ρ)=M.ret o:=by
 unfold cT
 rw[h,ar,h2]
 rfl
theorem a_ {is:List Nat}{τ:DS}{ρ ρ':Rho}(h:τ ρ=M.ret (.nx ρ')):bN is τ ρ=M.ret (.nx (fgt is ρ')):=by
 unfold bN
 rw[h]
 rfl
theorem bS {n:Nat}{δi:DA}{δt:DT}{δe:DE}{ρ:Rho}{ds ys:List D}(h:δi ρ=M.ret ds) (h2:dF (f9 n δt δe ρ) ds=M.ret ys) (h3:ys.length≤lim):br n δi δt δe ρ=M.ret (.lst ys):=by
 unfold br
 rw[h,ar,h2,yb,ar,yo h3]
theorem j2 {n:Nat}(h:n≤4096):eR [.int (n:Int)]=M.ret (gm 0 n):=by
 show (if -4096≤(n:Int)∧(n:Int)≤4096 then M.ret (gm 0 (n:Int).toNat) else M.stuck)=_
 rw[if_pos ⟨by omega,by omega⟩]
 rfl
structure Alpha (al:Str):Prop where
 pos:0<al.length
 ok:∀c∈al.cps.toList,inL ⟨#[c]⟩=true
theorem Bu:Alpha "ab"∧Alpha "abc"∧Alpha "aab"∧Alpha "fa":=by
 refine⟨⟨by decide+kernel,?_⟩,⟨by decide+kernel,?_⟩,⟨by decide+kernel,?_⟩,⟨by decide+kernel,?_⟩⟩<;>decide+kernel
theorem zv {x:Str}{i:Nat}(h:i<x.length):∃c,c∈x.cps.toList∧x.cps.toList[i]? =some c∧iI (.str x) (.int (i:Int))=M.ret (.str ⟨#[c]⟩):=by
 have h:i<x.cps.toList.length:=by rw[Array.length_toList];exact h
 refine⟨x.cps.toList[i],List.getElem_mem h,List.getElem?_eq_getElem h,?_⟩
 show (match L2.atI x.cps.toList (i:Int) with | some c=>M.ret (D.str ⟨#[c]⟩) | none=>M.stuck)=_
 rw[eY (List.getElem?_eq_getElem h)]
abbrev brd (bd:List Str):D:= .tup (bd.map D.str)
abbrev sgn (at' mo:Nat) (ns:List Int) (W:Nat) (al:Str) (bd:List Str) (R:Nat) (x7 x8:Option Sl):Rho:=[fz (.scr ns),fz (.int (at':Int)),fz (.int (mo:Int)),fz (.int (R:Int)),fz (.int (W:Int)),fz (.str al),fz (brd bd),x7,x8]
def δsg:DE:=br 0 (fun ρ=>(aC (dV 4) aN) ρ>>=eR) cb (d2 iI (dV 6) (ax 3 aG (aC (dV 1) (aC (d2 dE (d2 dE (d2 dE (dV 2) (dC (.int 3))) (d2 fX (dC (.int 7)) (dV 8))) (dV 0)) (aC (dA aS (aC (dV 6) aN)) aN)))))
theorem wk (at' mo:Nat) (ns:List Int) (hl:ns.length≤63) (al:Str) (ha:Alpha al) (j W R:Nat) (hW:W≤5) (bd:List Str) (x8:Option Sl):
 ∃ys,δsg (sgn at' mo ns W al bd R (fz (.int (0+(j:Int)))) x8)=M.ret (.lst ys)∧ys.length=W∧∀y∈ys,∃c,y= .str ⟨#[c]⟩∧inL ⟨#[c]⟩=true:=by
 obtain⟨ys,e,hl',hp⟩:=oy (f:=f9 0 cb (d2 iI (dV 6) (ax 3 aG (aC (dV 1) (aC (d2 dE (d2 dE (d2 dE (dV 2) (dC (.int 3))) (d2 fX (dC (.int 7)) (dV 8))) (dV 0)) (aC (dA aS (aC (dV 6) aN)) aN)))))
  (sgn at' mo ns W al bd R (fz (.int (0+(j:Int)))) x8)) (Pr:=fun y=>∃c,y= .str ⟨#[c]⟩∧inL ⟨#[c]⟩=true) (gm 0 W) fun d hd=>by
  obtain⟨i,hi,rfl⟩:=zB hd
  obtain⟨v,hv,e⟩:=eA ns hl (at'+3+7*j+i) al.length ha.pos
  obtain⟨c,hc,_,e2⟩:=zv hv
  refine⟨.str ⟨#[c]⟩,?_,c,rfl,ha.ok c hc⟩
  rw[jb]
  have k:(at':Int)+3+7*(0+(j:Int))+(0+(i:Int))=((at'+3+7*j+i:Nat):Int):=by omega
  have m1:fX (.int 7) (.int (0+(j:Int)))=M.ret (.int (7*(0+(j:Int)))):=fN (.inl ⟨by decide,by decide⟩)
  simp only[ax,d2,dV,dC,dA,aC,aN,ar,List.length_cons,List.length_nil,List.getElem?_cons_zero,List.getElem?_cons_succ,Nat.reduceAdd,if_true,g7,m1,k,aS,e,e2]
 refine⟨ys,bS (j2 (n:=W) (by omega)) e (by rw[hl',jK,dc];omega),by rw[hl',jK],hp⟩
def τct:DS:=bh 6 (d2 sE (dV 6) (dA aU (aC (dM isS joinM (dC (.str "")) (aC (dV 8) aN)) aN)))
theorem AC (at' mo:Nat) (ns:List Int) (W:Nat) (al:Str) (bd:List Str) (R:Nat) (x7:Option Sl) (ys:List D) (hb:bd.length≤5) (hy:ys.length≤5) (s3:∀y∈ys,∃c,y= .str ⟨#[c]⟩∧inL ⟨#[c]⟩=true):
 ∃r,Row ys.length r∧τct (sgn at' mo ns W al bd R x7 (fz (.lst ys)))=M.ret (.nx (sgn at' mo ns W al (bd++[r]) R x7 (fz (.lst ys)))):=by
 obtain⟨xs,t1,t2,t3,t4⟩:=sL ys s3
 refine⟨fo xs,t4,?_⟩
 have jn:joinM (.str "") [.lst ys]=M.ret (.str (fo xs)):=by
  show (match qE ys with | some (xs:List Str)=>if ("":Str).length=0∧(xs.map (fun x:Str=>x.length)).sum≤lim then M.ret (D.str (fo xs)) else M.stuck | none=>M.stuck)=_
  rw[t1]
  show (if ("":Str).length=0∧(xs.map (fun x:Str=>x.length)).sum≤lim then M.ret (D.str (fo xs)) else M.stuck)=_
  rw[if_pos ⟨rfl,by rw[t3,dc];omega⟩]
 have ct:sE (brd bd) (.tup [.str (fo xs)])=M.ret (brd (bd++[fo xs])):=by
  show (if (bd.map D.str).length+1≤lim then M.ret (D.tup (bd.map D.str++[.str (fo xs)])) else M.stuck)=_
  rw[if_pos (by rw[List.length_map,dc];omega)]
  simp[brd]
 refine(aQ (d:=brd (bd++[fo xs])) ?_).trans rfl
 simp only[d2,dV,dC,dA,aC,aN,dM,isS,ar,List.getElem?_cons_zero,List.getElem?_cons_succ,if_true,jn,aU,List.length_cons,List.length_nil,dc,Nat.reduceAdd,Nat.reduceLeDiff,ct]
theorem vT (ns:List Int) (hl:ns.length≤63) (at' mo:Nat) (m0:0<mo) (m5:mo≤5):∃bd W,Good bd W∧eV [.scr ns, .int (at':Int), .int (mo:Int)]=M.ret (brd bd):=by
 obtain⟨r,hr,e1⟩:=eA ns hl at' mo m0
 obtain⟨c,hc,e2⟩:=eA ns hl (at'+1) mo m0
 obtain⟨a,ha,e3⟩:=eA ns hl (at'+2) 4 (by decide)
 obtain⟨al,hal,e4⟩:∃al,Alpha al∧e9 (.lst [.str "ab", .str "abc", .str "aab", .str "fa"]) (.int (a:Int))=M.ret (.str al):=by
  obtain⟨a1,a2,a3,a4⟩:=Bu
  match a,ha with
  |0,_=>exact⟨_,a1,rfl⟩
  |1,_=>exact⟨_,a2,rfl⟩
  |2,_=>exact⟨_,a3,rfl⟩
  |3,_=>exact⟨_,a4,rfl⟩
 have k1:(1:Int)+(r:Int)=((r+1:Nat):Int):=by omega
 have k2:(1:Int)+(c:Int)=((c+1:Nat):Int):=by omega
 have e1':aG [.scr ns, .int (at':Int), .int (mo:Int)]=M.ret (.int (r:Int)):=e1
 have e2':aG [.scr ns, .int ((at':Int)+1), .int (mo:Int)]=M.ret (.int (c:Int)):=e2
 have e3':aG [.scr ns, .int ((at':Int)+2), .int 4]=M.ret (.int (a:Int)):=e3
 obtain⟨ρ',f1,bd,f2,f3,f4⟩:=rQ (put:=putN 7) (body:=bN [7,8] (aB (bh 8 δsg) τct))
  (I:=fun i ρ=>∃bd,ρ=sgn at' mo ns (c+1) al bd (r+1) none none∧bd.length=i∧∀z∈bd,Row (c+1) z)
  (gm 0 (r+1)) 0 (sgn at' mo ns (c+1) al [] (r+1) none none) ⟨[],rfl,rfl,fun _ h=>by cases h⟩ fun j d hd ρ ⟨bd,hρ,hb,hw⟩=>by
   obtain⟨hj,rfl⟩:=Ar hd
   subst hρ
   obtain⟨ys,s1,s2,s3⟩:=wk at' mo ns hl al hal j (c+1) (r+1) (by omega) bd none
   obtain⟨rw',t1,t2⟩:=AC at' mo ns (c+1) al bd (r+1) (fz (.int (0+(j:Int)))) ys (by omega) (by omega) s3
   refine⟨_,_,rfl,a_ (ak (aQ s1) t2),bd++[rw'],rfl,by simp[hb],fun z hz=>?_⟩
   rcases List.mem_append.mp hz with h | h
   ·exact hw z h
   ·have h:z=rw':=by simpa using h
    subst h
    rw[s2] at t1
    exact t1
 refine⟨bd,c+1,⟨by rw[f3,jK];omega,by rw[f3,jK];omega,by omega,by omega,f4⟩,?_⟩
 subst f2
 refine bf ?_
 refine ak (aQ (d:= .int ((r+1:Nat):Int)) ?_) ?_
 ·simp only[ax,d2,dV,dC,aC,aN,ar,List.map_cons,List.map_nil,List.cons_append,List.nil_append,List.length_cons,List.length_nil,List.getElem?_cons_zero,List.getElem?_cons_succ,Nat.reduceAdd,if_true,g7,e1',k1]
 refine ak (aQ (d:= .int ((c+1:Nat):Int)) ?_) ?_
 ·simp only[ax,d2,dV,dC,aC,aN,ar,List.map_cons,List.map_nil,List.cons_append,List.nil_append,List.length_cons,List.length_nil,List.replicate,List.set_cons_zero,List.set_cons_succ,Nat.reduceSub,List.getElem?_cons_zero,List.getElem?_cons_succ,Nat.reduceAdd,if_true,g7,e2',k2]
 refine ak (aQ (d:= .str al) ?_) ?_
 ·simp only[ax,d2,dV,dC,dA,aC,aN,ar,List.map_cons,List.map_nil,List.cons_append,List.nil_append,List.length_cons,List.length_nil,List.replicate,List.set_cons_zero,List.set_cons_succ,Nat.reduceSub,List.getElem?_cons_zero,List.getElem?_cons_succ,Nat.reduceAdd,if_true,g7,e3',bD,dc,Nat.reduceLeDiff,e4]
 refine ak (aQ (d:= .tup []) rfl) ?_
 refine ak (yp (j2 (n:=r+1) (by omega)) f1) ?_
 exact aR rfl
def Plain:D→Prop
 | .non | .bl _ | .int _ | .str _ | .tup _ | .lst _=>True
 |_=>False
def isStr:D→Bool
 | .str _=>true
 |_=>false
def isTup:D→Bool
 | .tup _=>true
 |_=>false
theorem fT {d:D}(h:Plain d):gS [d, .raw (.ty "str")]=M.ret (.bl (isStr d)):=by
 cases d<;>first | rfl | exact h.elim
theorem lG {d:D}(h:Plain d):gS [d, .raw (.ty "tuple")]=M.ret (.bl (isTup d)):=by
 cases d<;>first | rfl | exact h.elim
def qG:D→Bool
 | .str x=>(x.length==1)&&inL x
 |_=>false
theorem pY {ρ:Rho}{i:Nat}{d:D}(h:ρ[i]? =some (fz d)):dV i ρ=M.ret d:=by
 unfold dV
 rw[h]
theorem eq_int (i j:Int):gEq (.int i) (.int j)=M.ret (.bl (i==j)):=rfl
theorem ne_int (i j:Int):gNe (.int i) (.int j)=M.ret (.bl (!(i==j))):=rfl
theorem len_str (x:Str):aS [.str x]=M.ret (.int (x.length:Int)):=rfl
theorem in_str (x:Str):yY false (.str x) (.str "abcdef")=M.ret (.bl (inL x)):=rfl
theorem iO (a b:Nat):((a:Int)==(b:Int))=(a==b):=by
 by_cases h:a=b
 ·subst h;simp
 ·have h2:¬(a:Int)=(b:Int):=by omega
  rw[beq_eq_false_iff_ne.mpr h,beq_eq_false_iff_ne.mpr h2]
theorem z9 {d:D}(h:Plain d) {i:Nat}{ρ:Rho}(hρ:ρ[i]? =some (fz d)):
 dI (dA gS (aC (dV i) (aC (dC (.raw (.ty "str"))) aN))) (dI (d2 gEq (dA aS (aC (dV i) aN)) (dC (.int 1))) (d2 (yY false) (dV i) (dC (.str "abcdef")))) ρ=M.ret (.bl (qG d)):=by
 have hv:=pY hρ
 have e1:=iO
 cases d with
 |str x=>
  have k:((x.length:Int)==1)=(x.length==1):=iO x.length 1
  simp only[dI,dA,aC,aN,dC,d2,hv,ar,fT h,isStr,blM,if_true,len_str,eq_int,k,in_str,qG]
  cases x.length==1<;>rfl
 |non=>simp only[dI,dA,aC,aN,dC,d2,hv,ar,fT h,isStr,blM,if_false,Bool.false_eq_true,qG]
 |bl b=>simp only[dI,dA,aC,aN,dC,d2,hv,ar,fT h,isStr,blM,if_false,Bool.false_eq_true,qG]
 |int b=>simp only[dI,dA,aC,aN,dC,d2,hv,ar,fT h,isStr,blM,if_false,Bool.false_eq_true,qG]
 |tup b=>simp only[dI,dA,aC,aN,dC,d2,hv,ar,fT h,isStr,blM,if_false,Bool.false_eq_true,qG]
 |lst b=>simp only[dI,dA,aC,aN,dC,d2,hv,ar,fT h,isStr,blM,if_false,Bool.false_eq_true,qG]
 |raw _=>exact h.elim
 |exc _=>exact h.elim
 |scr _=>exact h.elim
 |dct _ _=>exact h.elim
 |dci _ _=>exact h.elim
theorem nK {d:D}(h:Plain d):cP [d]=M.ret (.bl (qG d)):=bf (aR (z9 h rfl))
def iE (x:Str):Bool:=x.cps.toList.all fun c=>inL ⟨#[c]⟩
def lr:D→Bool
 | .str x=>(decide (1≤x.length)&&decide (x.length≤8))&&iE x
 |_=>false
theorem wK (l:List Bool):bools (l.map D.bl)=some l:=by
 induction l with
 |nil=>rfl
 |cons b r ih=>show (bools (r.map D.bl)).map _=_;rw[ih];rfl
theorem all_map (l:List Bool):allM [.lst (l.map D.bl)]=M.ret (.bl (l.all id)):=by
 show (match bools (l.map D.bl) with | some bs=>M.ret (D.bl (bs.all id)) | none=>M.stuck)=_
 rw[wK]
theorem yX {δ:DE}{ρ:Rho}{n:Nat}(h:δ ρ=M.ret (.int (n:Int))):
 tB' (chI (fun i j=>decide (i≤j)) (fun i j=>decide (i≤j)) (dC (.int 1)) δ (dC (.int 8))) ρ=M.ret (decide (1≤n)&&decide (n≤8)):=by
 have k1:decide ((1:Int)≤(n:Int))=decide (1≤n):=by by_cases h:1≤n<;>simp[h]<;>omega
 have k2:decide ((n:Int)≤8)=decide (n≤8):=by by_cases h:n≤8<;>simp[h]<;>omega
 simp only[tB',chI,dC,h,ar,k1,k2,gI,blM]
 cases decide (1≤n)<;>rfl
theorem uS {d:D}(h:Plain d):fM [d]=M.ret (.bl (lr d)):=by
 refine bf ?_
 have hρ:([d].map (fun d=>some (Sl.fz d))++List.replicate (1 - [d].length) none)=[fz d]:=rfl
 rw[hρ]
 have hv:dV 0 [fz d]=M.ret d:=rfl
 have no:isStr d=false→rV [fz d]=M.ret (.rt (.bl false)):=fun hs=>by
  refine d9 (el ?_ (aR rfl))
  simp only[dOr,cz,bU,dA,aC,aN,dC,hv,ar,fT h,hs,sY,Bool.not_false,if_true]
 cases d with
 |str x=>
  have hi:bU (dA gS (aC (dV 0) (aC (dC (.raw (.ty "str"))) aN))) [fz (.str x)]=M.ret true:=by
   simp only[bU,dA,aC,aN,dC,hv,ar,fT h,isStr,sY]
  have hl:dA aS (aC (dV 0) aN) [fz (.str x)]=M.ret (.int (x.length:Int)):=rfl
  have hc:=yX hl
  by_cases hr:(decide (1≤x.length)&&decide (x.length≤8))=true
  ·rw[hr] at hc
   refine ak (dP ?_ (ρ:=[fz (.str x)]) rfl) (aR ?_)
   ·unfold dOr cz
    rw[hi,ar,ar,hc]
    rfl
   ·have hb:x.length≤8:=by simp only[Bool.and_eq_true,decide_eq_true_eq] at hr;exact hr.2
    have cm:br 0 (fun ρ=>(dV 0) ρ>>=BF) cb (ax 1 cP (aC (dV 0) aN)) [fz (.str x)]=M.ret (.lst ((x.cps.toList.map fun c=>inL ⟨#[c]⟩).map D.bl)):=by
     refine bS (ds:=signs x) rfl ?_ ?_
     ·have:=gh (f:=f9 0 cb (ax 1 cP (aC (dV 0) aN)) [fz (.str x)]) (g:=fun d=>D.bl (qG d)) (signs x) fun d hd=>by
       rw[jb]
       obtain⟨c,_,rfl⟩:=List.mem_map.mp hd
       show (cP [.str ⟨#[c]⟩]>>=fun y=>M.ret (some y))=_
       rw[nK (d:= .str ⟨#[c]⟩) trivial]
       rfl
      rw[this]
      unfold signs
      rw[List.map_map,List.map_map]
      congr 1
     ·rw[List.length_map,List.length_map,Array.length_toList,dc]
      exact Nat.le_trans hb (by decide)
    rw[cN (bA cm rfl),all_map]
    show M.ret (D.bl ((x.cps.toList.map fun c=>inL ⟨#[c]⟩).all id))=M.ret (D.bl ((decide (1≤x.length)&&decide (x.length≤8))&&iE x))
    rw[hr]
    unfold iE
    rw[List.all_map]
    rfl
  ·have hr:(decide (1≤x.length)&&decide (x.length≤8))=false:=by simpa using hr
   rw[hr] at hc
   have:lr (.str x)=false:=by
    show ((decide (1≤x.length)&&decide (x.length≤8))&&iE x)=false
    rw[hr];rfl
   rw[this]
   refine d9 (el ?_ (aR rfl))
   unfold dOr cz
   rw[hi,ar,ar,hc]
   rfl
 |non=>exact no rfl
 |bl b=>exact no rfl
 |int b=>exact no rfl
 |tup b=>exact no rfl
 |lst b=>exact no rfl
 |raw _=>exact h.elim
 |exc _=>exact h.elim
 |scr _=>exact h.elim
 |dct _ _=>exact h.elim
 |dci _ _=>exact h.elim
def iW:D→Nat
 | .str x=>x.length
 |_=>0
def i9:D→Bool
 | .tup ds=>(decide (1≤ds.length)&&decide (ds.length≤8))&&(ds.all lr&&ds.all fun d=>iW d==iW (ds.headD .non))
 |_=>false
def Plain2:D→Prop
 | .tup ds=>∀d∈ds,Plain d
 |d=>Plain d
theorem Plain2.plain {d:D}(h:Plain2 d):Plain d:=by
 cases d<;>first | exact h | exact trivial
theorem z0 {ds:List D}:aS [.tup ds]=M.ret (.int (ds.length:Int)):=rfl
theorem ix0 {ds:List D}{d:D}{r:List D}(h:ds=d::r):aK (.tup ds) (.int 0)=M.ret d:=by
 subst h
 show (match L2.atI (d::r) ((0:Nat):Int) with | some d=>M.ret d | none=>M.stuck)=_
 rw[eY (x:=d) rfl]
theorem Ai {d:D}(h:lr d=true):∃x,d= .str x:=by
 cases d<;>first | exact⟨_,rfl⟩ | cases h
theorem wg {d:D}(h:Plain d):dOr (cz (bU (dA gS (aC (dV 0) (aC (dC (.raw (.ty "tuple"))) aN))))) (cz (tB' (chI (fun i j=>decide (i≤j)) (fun i j=>decide (i≤j)) (dC (.int 1)) (dA aS (aC (dV 0) aN)) (dC (.int 8))))) [fz d]=
 M.ret (match d with | .tup ds=>!(decide (1≤ds.length)&&decide (ds.length≤8)) | _=>true):=by
 have hv:dV 0 [fz d]=M.ret d:=rfl
 have no:isTup d=false→dOr (cz (bU (dA gS (aC (dV 0) (aC (dC (.raw (.ty "tuple"))) aN))))) (cz (tB' (chI (fun i j=>decide (i≤j)) (fun i j=>decide (i≤j)) (dC (.int 1)) (dA aS (aC (dV 0) aN)) (dC (.int 8))))) [fz d]=M.ret true:=fun hs=>by
  simp only[dOr,cz,bU,dA,aC,aN,dC,hv,ar,lG h,hs,sY,Bool.not_false,if_true]
 cases d with
 |tup ds=>
  have hi:bU (dA gS (aC (dV 0) (aC (dC (.raw (.ty "tuple"))) aN))) [fz (.tup ds)]=M.ret true:=by
   simp only[bU,dA,aC,aN,dC,hv,ar,lG h,isTup,sY]
  have hl:dA aS (aC (dV 0) aN) [fz (.tup ds)]=M.ret (.int (ds.length:Int)):=rfl
  unfold dOr cz
  rw[hi,ar,ar,yX hl]
  rfl
 |non=>exact no rfl
 |bl b=>exact no rfl
 |int b=>exact no rfl
 |str b=>exact no rfl
 |lst b=>exact no rfl
 |raw _=>exact h.elim
 |exc _=>exact h.elim
 |scr _=>exact h.elim
 |dct _ _=>exact h.elim
 |dci _ _=>exact h.elim
theorem all_rows {ds:List D}(h:∀d∈ds,Plain d) (hl:ds.length≤8):dA allM (aC (br 0 (nq (dV 0)) cb (ax 1 fM (aC (dV 0) aN))) aN) [fz (.tup ds)]=M.ret (.bl (ds.all lr)):=by
 have cm:br 0 (nq (dV 0)) cb (ax 1 fM (aC (dV 0) aN)) [fz (.tup ds)]=M.ret (.lst ((ds.map lr).map D.bl)):=by
  refine bS (ds:=ds) rfl ?_ (by rw[List.length_map,List.length_map,dc];omega)
  rw[List.map_map]
  refine gh (g:=D.bl∘lr) ds fun d hd=>?_
  rw[jb]
  show (fM [d]>>=fun y=>M.ret (some y))=_
  rw[uS (h d hd)]
  rfl
 rw[cN (bA cm rfl),all_map,List.all_map]
 rfl
theorem zq {ds:List D}(hs:∀d∈ds,∃x,d= .str x) (h0:1≤ds.length) (hl:ds.length≤8):
 dA allM (aC (br 0 (nq (dV 0)) cb (d2 gEq (dA aS (aC (dV 0) aN)) (dA aS (aC (d2 aK (dV 1) (dC (.int 0))) aN)))) aN) [fz (.tup ds)]=M.ret (.bl (ds.all fun d=>iW d==iW (ds.headD .non))):=by
 obtain⟨d0,r,e0⟩:∃d0 r,ds=d0::r:=by
  cases ds with
  |nil=>simp at h0
  |cons a r=>exact⟨a,r,rfl⟩
 have hh:ds.headD .non=d0:=by rw[e0];rfl
 obtain⟨x0,hx0⟩:=hs d0 (by rw[e0];exact List.mem_cons_self ..)
 have cm:br 0 (nq (dV 0)) cb (d2 gEq (dA aS (aC (dV 0) aN)) (dA aS (aC (d2 aK (dV 1) (dC (.int 0))) aN))) [fz (.tup ds)]=M.ret (.lst ((ds.map fun d=>iW d==iW (ds.headD .non)).map D.bl)):=by
  refine bS (ds:=ds) rfl ?_ (by rw[List.length_map,List.length_map,dc];omega)
  rw[List.map_map]
  refine gh (g:=D.bl∘fun d=>iW d==iW (ds.headD .non)) ds fun d hd=>?_
  rw[jb]
  obtain⟨x,rfl⟩:=hs d hd
  have k:((x.length:Int)==(x0.length:Int))=(x.length==x0.length):=iO _ _
  have i0:aK (.tup ds) (.int 0)=M.ret (.str x0):=by rw[ix0 e0,hx0]
  have hh':ds.headD .non= .str x0:=by rw[hh,hx0]
  simp only[d2,dA,aC,aN,dC,dV,ar,List.getElem?_cons_zero,List.getElem?_cons_succ,len_str,i0,eq_int,k,Function.comp,iW,hh']
 rw[cN (bA cm rfl),all_map,List.all_map]
 rfl
theorem jP {d:D}(h:Plain2 d):gB [d]=M.ret (.bl (i9 d)):=by
 refine bf ?_
 have hρ:([d].map (fun d=>some (Sl.fz d))++List.replicate (1 - [d].length) none)=[fz d]:=rfl
 rw[hρ]
 have hf:=wg h.plain
 have no:(∀ds,d≠ .tup ds)→mj [fz d]=M.ret (.rt (.bl (i9 d))):=fun hn=>by
  cases d<;>first | exact absurd rfl (hn _) | exact d9 (el hf (aR rfl))
 cases d with
 |tup ds=>
  have hf:_=M.ret (!(decide (1≤ds.length)&&decide (ds.length≤8))):=hf
  by_cases hr:(decide (1≤ds.length)&&decide (ds.length≤8))=true
  ·rw[hr] at hf
   have hb:=hr
   simp only[Bool.and_eq_true,decide_eq_true_eq] at hb
   have e:i9 (.tup ds)=(ds.all lr&&ds.all fun d=>iW d==iW (ds.headD .non)):=by
    show ((decide (1≤ds.length)&&decide (ds.length≤8))&&_)=_
    rw[hr,Bool.true_and]
   rw[e]
   have a1:=all_rows h hb.2
   refine ak (dP hf rfl) ?_
   cases hc:ds.all lr with
   |false=>
    rw[hc] at a1
    refine d9 (el ?_ (aR rfl))
    unfold cz bU
    rw[a1]
    rfl
   |true=>
    rw[hc] at a1
    refine ak (dP ?_ rfl) (aR ?_)
    ·unfold cz bU
     rw[a1]
     rfl
    ·rw[Bool.true_and]
     exact zq (fun d hd=>Ai (List.all_eq_true.mp hc d hd)) hb.1 hb.2
  ·have hr:(decide (1≤ds.length)&&decide (ds.length≤8))=false:=by simpa using hr
   rw[hr] at hf
   have e:i9 (.tup ds)=false:=by
    show ((decide (1≤ds.length)&&decide (ds.length≤8))&&_)=_
    rw[hr];rfl
   rw[e]
   exact d9 (el hf (aR rfl))
 |non=>exact no fun _ z=>by cases z
 |bl b=>exact no fun _ z=>by cases z
 |int b=>exact no fun _ z=>by cases z
 |str b=>exact no fun _ z=>by cases z
 |lst b=>exact no fun _ z=>by cases z
 |raw _=>exact h.elim
 |exc _=>exact h.elim
 |scr _=>exact h.elim
 |dct _ _=>exact h.elim
 |dci _ _=>exact h.elim
end K1
namespace K1
open PySem L2 L3
structure Brd (ob:List Str) (V:Nat):Prop where
 r1:1≤ob.length
 r8:ob.length≤8
 w1:1≤V
 w8:V≤8
 rows:∀r∈ob,Row V r
theorem Good.brd {bd:List Str}{W:Nat}(hg:Good bd W):Brd bd W:=⟨hg.r1,by have:=hg.r5;omega,hg.w1,by have:=hg.w5;omega,hg.rows⟩
theorem Brd.board {ob:List Str}{V:Nat}(h:Brd ob V):i9 (brd ob)=true:=by
 have hrow:∀r∈ob,lr (.str r)=true:=fun r hr=>by
  have q:=h.rows r hr
  show ((decide (1≤r.length)&&decide (r.length≤8))&&iE r)=true
  rw[q.len]
  have a:decide (1≤V)=true:=decide_eq_true h.w1
  have b:decide (V≤8)=true:=decide_eq_true h.w8
  rw[a,b]
  show iE r=true
  exact List.all_eq_true.mpr fun c hc=>q.let' c hc
 have h0:iW ((ob.map D.str).headD .non)=V:=by
  have:=h.r1
  have hr:=h.rows
  cases ob with
  |nil=>simp at this
  |cons x l=>exact(hr x (List.mem_cons_self ..)).len
 show ((decide (1≤(ob.map D.str).length)&&decide ((ob.map D.str).length≤8))&&((ob.map D.str).all lr&&(ob.map D.str).all fun d=>iW d==iW ((ob.map D.str).headD .non)))=true
 rw[h0,List.length_map,decide_eq_true h.r1,decide_eq_true h.r8]
 have a:(ob.map D.str).all lr=true:=List.all_eq_true.mpr fun d hd=>by
  obtain⟨r,hr,rfl⟩:=List.mem_map.mp hd
  exact hrow r hr
 have b:((ob.map D.str).all fun d=>iW d==V)=true:=List.all_eq_true.mpr fun d hd=>by
  obtain⟨r,hr,rfl⟩:=List.mem_map.mp hd
  show (r.length==V)=true
  rw[(h.rows r hr).len]
  simp
 rw[a,b]
 rfl
theorem wB {bd:List Str}:Plain2 (brd bd):=fun d hd=>by
 obtain⟨r,_,rfl⟩:=List.mem_map.mp hd
 trivial
theorem gA {δ:DE}{ρ:Rho}{b:Bool}(h:δ ρ=M.ret (.bl b)):bU δ ρ=M.ret b:=by
 unfold bU
 rw[h]
 rfl
theorem fZ {δ:DE}{ρ:Rho}{b:Bool}(h:δ ρ=M.ret (.bl b)):tB' δ ρ=M.ret b:=by
 unfold tB'
 rw[h]
 rfl
theorem pL {τ:DT}{ρ:Rho}{b:Bool}(h:τ ρ=M.ret b):cz τ ρ=M.ret (!b):=by
 unfold cz
 rw[h]
 rfl
theorem yT {a c:DT}{ρ:Rho}{p q:Bool}(h1:a ρ=M.ret p) (h2:c ρ=M.ret q):dOr a c ρ=M.ret (p||q):=by
 unfold dOr
 rw[h1,ar]
 cases p
 ·exact h2
 ·rfl
theorem uW {a c:DT}{ρ:Rho}{p q:Bool}(h1:a ρ=M.ret p) (h2:c ρ=M.ret q):jH a c ρ=M.ret (p&&q):=by
 unfold jH
 rw[h1,ar]
 cases p
 ·rfl
 ·exact h2
theorem AQ {a c:DE}{ρ:Rho}{p q:Bool}(h1:a ρ=M.ret (.bl p)) (h2:c ρ=M.ret (.bl q)):dI a c ρ=M.ret (.bl (p&&q)):=by
 unfold dI
 rw[h1,ar]
 cases p
 ·rfl
 ·exact h2
theorem Brd.nb {ob:List Str}{V:Nat}(h:Brd ob V):be [brd ob]=M.ret .non:=by
 refine vi (ρ:=[fz (brd ob)]) (dP (pL (gA (b:=true) ?_)) rfl)
 refine(ao (ds:=[brd ob]) rfl rfl).trans ?_
 rw[jP wB,h.board]
theorem Brd.len0 {ob:List Str}{V:Nat}(h:Brd ob V) {i:Nat}{ρ:Rho}(hρ:ρ[i]? =some (fz (brd ob))):dA aS (aC (d2 aK (dV i) (dC (.int 0))) aN) ρ=M.ret (.int (V:Int)):=by
 have h1:=h.r1
 have hr:=h.rows
 obtain⟨x,l,e⟩:∃x l,ob=x::l:=by
  cases ob with
  |nil=>simp at h1
  |cons x l=>exact⟨x,l,rfl⟩
 have hx:x.length=V:=(hr x (by rw[e];exact List.mem_cons_self ..)).len
 have i0:aK (brd ob) (.int 0)=M.ret (.str x):=ix0 (show ob.map D.str=D.str x::l.map D.str by rw[e];rfl)
 have k:=aM (g:=aK) (pY hρ) (show dC (.int 0) ρ=M.ret (.int 0) from rfl)
 rw[i0] at k
 rw[cN (bA (xs:=[]) k rfl)]
 show M.ret (D.int (x.length:Int))=_
 rw[hx]
theorem t9 {bd:List Str}{i:Nat}{ρ:Rho}(hρ:ρ[i]? =some (fz (brd bd))):dA aS (aC (dV i) aN) ρ=M.ret (.int (bd.length:Int)):=by
 have:aS [brd bd]=M.ret (.int (bd.length:Int)):=by
  show M.ret (D.int ((bd.map D.str).length:Int))=_
  rw[List.length_map]
 simp only[dA,aC,aN,pY hρ,ar,this]
def gG:D→Bool
 | .int _=>true
 |_=>false
theorem oW {d:D}(h:Plain d):bw [d]=M.ret (.bl (gG d)):=by
 cases d<;>first | rfl | exact h.elim
def Dl (R W:Nat):D→D→Bool
 | .int a, .int b=>(decide (0≤a)&&decide (a<(R:Int)))&&(decide (0≤b)&&decide (b<(W:Int)))
 |_,_=>false
def tw (R W:Nat):D→Bool
 | .tup [u,v]=>Dl R W u v
 |_=>false
theorem AF {δ ε:DE}{ρ:Rho}{i n:Int}(h:δ ρ=M.ret (.int i)) (h2:ε ρ=M.ret (.int n)):
 chI (fun i j=>decide (i≤j)) (fun i j=>decide (i<j)) (dC (.int 0)) δ ε ρ=M.ret (.bl (decide (0≤i)&&decide (i<n))):=by
 simp only[chI,dC,h,h2,ar,gI]
 cases decide (0≤i)<;>rfl
theorem Dp {d e:D}:aK (.tup [d,e]) (.int 0)=M.ret d∧aK (.tup [d,e]) (.int 1)=M.ret e:=⟨rfl,rfl⟩
theorem la {bd:List Str}{W:Nat}(hg:Brd bd W) {d:D}(h:Plain2 d):iy [brd bd,d]=M.ret (.bl (tw bd.length W d)):=by
 refine bf ?_
 have hρ:([brd bd,d].map (fun d=>some (Sl.fz d))++List.replicate (2 - [brd bd,d].length) none)=[fz (brd bd),fz d]:=rfl
 rw[hρ]
 have hv:dV 1 [fz (brd bd),fz d]=M.ret d:=rfl
 have no:isTup d=false→o5 [fz (brd bd),fz d]=M.ret (.rt (.bl false)):=fun hs=>by
  refine d9 (el ?_ (aR rfl))
  simp only[dOr,cz,bU,dA,aC,aN,dC,hv,ar,lG h.plain,hs,sY,Bool.not_false,if_true]
 cases d with
 |tup ds=>
  have hi:cz (bU (dA gS (aC (dV 1) (aC (dC (.raw (.ty "tuple"))) aN)))) [fz (brd bd),fz (.tup ds)]=M.ret false:=by
   simp only[cz,bU,dA,aC,aN,dC,hv,ar,lG h.plain,isTup,sY,Bool.not_true]
  have k:((ds.length:Int)==2)=(ds.length==2):=iO ds.length 2
  have hl:dOr (cz (bU (dA gS (aC (dV 1) (aC (dC (.raw (.ty "tuple"))) aN))))) (tB' (d2 gNe (dA aS (aC (dV 1) aN)) (dC (.int 2)))) [fz (brd bd),fz (.tup ds)]=M.ret (!(ds.length==2)):=by
   unfold dOr
   rw[hi]
   simp only[tB',d2,dA,aC,aN,dC,hv,ar,z0,ne_int,k,blM,Bool.false_eq_true,if_false]
  match ds,h,hl with
  |[],h,hl=>exact d9 (el hl (aR rfl))
  |[_],h,hl=>exact d9 (el hl (aR rfl))
  |_::_::_::_,h,hl=>
   refine d9 (el (hl.trans ?_) (aR rfl))
   simp
  |[u,v],h,hl=>
   refine ak (dP hl rfl) ?_
   have pu:Plain u:=h u (by simp)
   have pv:Plain v:=h v (by simp)
   have w1:ax 1 bw (aC (d2 aK (dV 1) (dC (.int 0))) aN) [fz (brd bd),fz (.tup [u,v])]=M.ret (.bl (gG u)):=oW pu
   have w2:ax 1 bw (aC (d2 aK (dV 1) (dC (.int 1))) aN) [fz (brd bd),fz (.tup [u,v])]=M.ret (.bl (gG v)):=oW pv
   have hw:dOr (cz (bU (ax 1 bw (aC (d2 aK (dV 1) (dC (.int 0))) aN)))) (cz (bU (ax 1 bw (aC (d2 aK (dV 1) (dC (.int 1))) aN)))) [fz (brd bd),fz (.tup [u,v])]=M.ret (!(gG u&&gG v)):=by
    unfold dOr cz bU
    rw[w1,w2]
    simp only[ar,sY]
    cases gG u<;>cases gG v<;>rfl
   have bad:(gG u&&gG v)=false→aB (sIf (dOr (cz (bU (ax 1 bw (aC (d2 aK (dV 1) (dC (.int 0))) aN)))) (cz (bU (ax 1 bw (aC (d2 aK (dV 1) (dC (.int 1))) aN))))) (bp (dC (.bl false))) cf) (bp (dI (chI (fun i j=>decide (i≤j)) (fun i j=>decide (i<j)) (dC (.int 0)) (d2 aK (dV 1) (dC (.int 0))) (dA aS (aC (dV 0) aN))) (chI (fun i j=>decide (i≤j)) (fun i j=>decide (i<j)) (dC (.int 0)) (d2 aK (dV 1) (dC (.int 1))) (dA aS (aC (d2 aK (dV 0) (dC (.int 0))) aN))))) [fz (brd bd),fz (.tup [u,v])]=M.ret (.rt (.bl false)):=fun hz=>by
    rw[hz] at hw
    exact d9 (el hw (aR rfl))
   match u,v,hw,bad with
   | .int a, .int b,hw,bad=>
     refine ak (dP hw rfl) (aR ?_)
     obtain⟨x0,r,e0⟩:∃x0 r,bd=x0::r:=by
      have:=hg.r1
      cases bd with
      |nil=>simp at this
      |cons x r=>exact⟨x,r,rfl⟩
     have hx:x0.length=W:=(hg.rows x0 (by rw[e0];simp)).len
     have l0:dA aS (aC (dV 0) aN) [fz (brd bd),fz (.tup [.int a, .int b])]=M.ret (.int (bd.length:Int)):=by
      show M.ret (D.int ((bd.map D.str).length:Int))=_
      rw[List.length_map]
     have l1:dA aS (aC (d2 aK (dV 0) (dC (.int 0))) aN) [fz (brd bd),fz (.tup [.int a, .int b])]=M.ret (.int (W:Int)):=by
      have i0:aK (brd bd) (.int 0)=M.ret (.str x0):=ix0 (r:=r.map D.str) (by rw[e0];rfl)
      simp only[dA,aC,aN,d2,dC,dV,List.getElem?_cons_zero,ar,i0,len_str,hx]
     have c1:=AF (δ:=d2 aK (dV 1) (dC (.int 0))) (i:=a) rfl l0
     have c2:=AF (δ:=d2 aK (dV 1) (dC (.int 1))) (i:=b) rfl l1
     unfold dI
     rw[c1,ar]
     show (if (decide (0≤a)&&decide (a<(bd.length:Int)))=true then _ else _)=M.ret (D.bl ((decide (0≤a)&&decide (a<(bd.length:Int)))&&(decide (0≤b)&&decide (b<(W:Int)))))
     cases (decide (0≤a)&&decide (a<(bd.length:Int)))
     ·rfl
     ·rw[if_pos rfl,c2,Bool.true_and]
   | .non,_,_,bad=>exact bad rfl
   | .bl _,_,_,bad=>exact bad rfl
   | .str _,_,_,bad=>exact bad rfl
   | .tup _,_,_,bad=>exact bad rfl
   | .lst _,_,_,bad=>exact bad rfl
   | .raw _,_,_,_=>exact pu.elim
   | .exc _,_,_,_=>exact pu.elim
   | .scr _,_,_,_=>exact pu.elim
   | .int a, .non,_,bad=>exact bad rfl
   | .int a, .bl _,_,bad=>exact bad rfl
   | .int a, .str _,_,bad=>exact bad rfl
   | .int a, .tup _,_,bad=>exact bad rfl
   | .int a, .lst _,_,bad=>exact bad rfl
   | .int a, .raw _,_,_=>exact pv.elim
   | .int a, .exc _,_,_=>exact pv.elim
   | .int a, .scr _,_,_=>exact pv.elim
 |non=>exact no rfl
 |bl b=>exact no rfl
 |int b=>exact no rfl
 |str b=>exact no rfl
 |lst b=>exact no rfl
 |raw _=>exact h.elim
 |exc _=>exact h.elim
 |scr _=>exact h.elim
 |dct _ _=>exact h.elim
 |dci _ _=>exact h.elim
abbrev Cell:=Nat×Nat
def cD (c:Cell):D:= .tup [.int (c.1:Int), .int (c.2:Int)]
def On (R W:Nat) (c:Cell):Prop:=c.1<R∧c.2<W
instance {R W:Nat}{c:Cell}:Decidable (On R W c):=by unfold On;infer_instance
theorem xM {c:Cell}:Plain2 (cD c):=fun d hd=>by
 have:d= .int (c.1:Int)∨d= .int (c.2:Int):=by simpa[cD] using hd
 rcases this with rfl | rfl<;>trivial
theorem A0 {R W:Nat}{c:Cell}(h:On R W c):tw R W (cD c)=true:=by
 show ((decide ((0:Int)≤(c.1:Int))&&decide ((c.1:Int)<(R:Int)))&&(decide ((0:Int)≤(c.2:Int))&&decide ((c.2:Int)<(W:Int))))=true
 obtain⟨h1,h2⟩:=h
 simp
 omega
theorem Brd.nc {bd:List Str}{W:Nat}(hg:Brd bd W) {c:Cell}(h:On bd.length W c):dO [brd bd,cD c]=M.ret .non:=by
 refine vi (ρ:=[fz (brd bd),fz (cD c)]) (dP (pL (gA (b:=true) ?_)) rfl)
 refine(ao (ds:=[brd bd,cD c]) rfl rfl).trans ?_
 rw[la hg xM,A0 h]
def Ways (w:Nat):Prop:=w=4∨w=8
theorem Ways.nw {w:Nat}(h:Ways w):bE [.int (w:Int)]=M.ret .non:=by
 rcases h with rfl | rfl<;>rfl
def ch (x:Str) (j:Nat):Nat:=x.cps.toList.getD j 0
def at2 (bd:List Str) (i j:Nat):Nat:=ch (bd.getD i ⟨#[]⟩) j
abbrev lt (bd:List Str) (c:Cell):Nat:=at2 bd c.1 c.2
def sg (n:Nat):D:= .str ⟨#[n]⟩
theorem vn {x:Str}{c:Nat}(h:c<x.length):iI (.str x) (.int (c:Int))=M.ret (sg (ch x c)):=by
 have h':c<x.cps.toList.length:=by rw[Array.length_toList];exact h
 show (match L2.atI x.cps.toList (c:Int) with | some c=>M.ret (D.str ⟨#[c]⟩) | none=>M.stuck)=_
 rw[eY (List.getElem?_eq_getElem h')]
 unfold sg ch
 rw[List.getD_eq_getElem?_getD,List.getElem?_eq_getElem h']
 rfl
theorem getD_mem {bd:List Str}{i:Nat}(h:i<bd.length):bd.getD i ⟨#[]⟩∈bd:=by
 rw[List.getD_eq_getElem?_getD,List.getElem?_eq_getElem h]
 exact List.getElem_mem h
theorem yj {bd:List Str}{i:Nat}(h:i<bd.length):aK (brd bd) (.int (i:Int))=M.ret (.str (bd.getD i ⟨#[]⟩)):=by
 show (match L2.atI (bd.map D.str) (i:Int) with | some d=>M.ret d | none=>M.stuck)=_
 rw[eY (x:= .str (bd.getD i ⟨#[]⟩)) ?_]
 rw[List.getElem?_map,List.getElem?_eq_getElem h,List.getD_eq_getElem?_getD,List.getElem?_eq_getElem h]
 rfl
theorem iS {bd:List Str}{W:Nat}(hg:Brd bd W) {c:Cell}(h:On bd.length W c):dR [brd bd,cD c]=M.ret (sg (lt bd c)):=by
 refine bf (aR ?_)
 refine(aM (x:= .str (bd.getD c.1 ⟨#[]⟩)) (y:= .int (c.2:Int)) ((aM (x:=brd bd) (y:= .int (c.1:Int)) rfl rfl).trans (yj h.1)) rfl).trans ?_
 exact vn (by rw[(hg.rows _ (getD_mem h.1)).len];exact h.2)
theorem A5 (a b:Nat):gEq (sg a) (sg b)=M.ret (.bl (decide (a=b))):=by
 show M.ret (D.bl (decide ((⟨#[a]⟩:Str)=⟨#[b]⟩)))=_
 congr 2
 by_cases h:a=b
 ·subst h;simp
 ·have:¬((⟨#[a]⟩:Str)=⟨#[b]⟩):=fun z=>by
   injection z with z
   exact h (by simpa using z)
  rw[decide_eq_false h,decide_eq_false this]
def dif (a b:Nat):Nat:=max a b - min a b
def nxt (w:Nat) (a b:Cell):Bool:=if w=4 then decide (dif a.1 b.1+dif a.2 b.2=1) else decide (max (dif a.1 b.1) (dif a.2 b.2)=1)
theorem u7 (a b:Nat):xY [.int ((a:Int) - (b:Int))]=M.ret (.int (dif a b:Int)):=by
 show M.ret (D.int _)=_
 congr 2
 unfold dif
 omega
theorem pP {w:Nat}(hw:Ways w) (a b:Cell):dB [cD a,cD b, .int (w:Int)]=M.ret (.bl (nxt w a b)):=by
 refine bf ?_
 refine ak (ρ':=[fz (cD a),fz (cD b),fz (.int (w:Int)),fz (.int (dif a.1 b.1:Int)),none]) ((aQ (d:= .int (dif a.1 b.1:Int)) (u7 a.1 b.1)).trans rfl) ?_
 refine ak (ρ':=[fz (cD a),fz (cD b),fz (.int (w:Int)),fz (.int (dif a.1 b.1:Int)),fz (.int (dif a.2 b.2:Int))]) ((aQ (d:= .int (dif a.2 b.2:Int)) (u7 a.2 b.2)).trans rfl) ?_
 rcases hw with rfl | rfl
 ·refine d9 (el (fZ rfl) (aR ?_))
  show M.ret (D.bl (((dif a.1 b.1:Int)+(dif a.2 b.2:Int))==1))=_
  unfold nxt
  rw[if_pos rfl]
  congr 2
  have:((dif a.1 b.1:Int)+(dif a.2 b.2:Int))=((dif a.1 b.1+dif a.2 b.2:Nat):Int):=by omega
  rw[this]
  have e:=iO (dif a.1 b.1+dif a.2 b.2) 1
  exact e.trans rfl
 ·refine ak (dP (fZ rfl) rfl) (aR ?_)
  show M.ret (D.bl ((if (dif a.1 b.1:Int)<(dif a.2 b.2:Int) then(dif a.2 b.2:Int) else(dif a.1 b.1:Int))==1))=_
  have hn:nxt 8 a b=decide (max (dif a.1 b.1) (dif a.2 b.2)=1):=rfl
  rw[hn]
  congr 2
  have:(if (dif a.1 b.1:Int)<(dif a.2 b.2:Int) then(dif a.2 b.2:Int) else(dif a.1 b.1:Int))=((max (dif a.1 b.1) (dif a.2 b.2):Nat):Int):=by split<;>omega
  rw[this]
  have e:=iO (max (dif a.1 b.1) (dif a.2 b.2)) 1
  exact e.trans rfl
theorem se (w:Nat) (a b:Cell):nxt w a b=nxt w b a:=by
 have e:∀x y:Nat,dif x y=dif y x:=fun x y=>by unfold dif;omega
 unfold nxt
 rw[e a.1,e a.2]
theorem Cj {w:Nat}(hw:Ways w) {a:Cell}:nxt w a a=false:=by
 unfold nxt dif
 rcases hw with rfl | rfl<;>simp
end K1
namespace K1
open PySem L2 L3
theorem dS {put:D→Rho→Option Rho}{body:DS}{d:D}{ds:List D}{ρ ρ1 ρ2:Rho}(h1:put d ρ=some ρ1) (h2:body ρ1=M.ret (.nx ρ2)):forL put body (d::ds) ρ=forL put body ds ρ2:=by
 show (match put d ρ with | none=>M.stuck | some ρ1=>body ρ1>>=fun o=>match o with | .nx ρ2=>forL put body ds ρ2 | .rt v=>M.ret (.rt v))=_
 rw[h1]
 show (body ρ1>>=fun o=>match o with | .nx ρ2=>forL put body ds ρ2 | .rt v=>M.ret (.rt v))=_
 rw[h2]
 rfl
section
variable {α σ : Type} {put : D → Rho → Option Rho} {body : DS}
theorem iD (enc:α→D) (mk:σ→Rho) (step:σ→α→σ) (I:σ→Prop):∀(xs:List α) (s:σ),I s→(∀s,I s→∀x∈xs,I (step s x)∧∃ρ1,put (enc x) (mk s)=some ρ1∧body ρ1=M.ret (.nx (mk (step s x))))→
 I (xs.foldl step s)∧forL put body (xs.map enc) (mk s)=M.ret (.nx (mk (xs.foldl step s)))
 |[],s,h,_=>⟨h,rfl⟩
 |x::xs,s,h,st=>by
  obtain⟨h2,ρ1,e1,e2⟩:=st s h x (List.mem_cons_self ..)
  obtain⟨h3,e3⟩:=iD enc mk step I xs (step s x) h2 fun s hs y hy=>st s hs y (List.mem_cons_of_mem _ hy)
  exact⟨h3,(dS e1 e2).trans e3⟩
theorem ke (enc:α→D) (ρ:Rho):∀(xs:List α),(∀x∈xs,∃ρ1,put (enc x) ρ=some ρ1∧body ρ1=M.ret (.nx ρ))→forL put body (xs.map enc) ρ=M.ret (.nx ρ)
 |[],_=>rfl
 |x::xs,st=>by
  obtain⟨ρ1,e1,e2⟩:=st x (List.mem_cons_self ..)
  exact(dS e1 e2).trans (ke enc ρ xs fun y hy=>st y (List.mem_cons_of_mem _ hy))
theorem dh (enc:α→D) (mk:List D→Rho) (g:α→List D) {B:Nat}:∀(xs:List α) (acc:List D),(acc++xs.flatMap g).length≤B→(∀x∈xs,∀acc,(acc++g x).length≤B→∃ρ1,put (enc x) (mk acc)=some ρ1∧body ρ1=M.ret (.nx (mk (acc++g x))))→
 forL put body (xs.map enc) (mk acc)=M.ret (.nx (mk (acc++xs.flatMap g)))
 |[],acc,_,_=>by simp;rfl
 |x::xs,acc,hB,st=>by
  have hB':((acc++g x)++xs.flatMap g).length≤B:=by simpa[List.flatMap_cons,List.append_assoc] using hB
  obtain⟨ρ1,e1,e2⟩:=st x (List.mem_cons_self ..) acc (Nat.le_trans (by simp only[List.length_append];omega) hB')
  have e3:=dh enc mk g xs (acc++g x) hB' fun y hy=>st y (List.mem_cons_of_mem _ hy)
  rw[List.map_cons,dS e1 e2,e3,List.flatMap_cons,List.append_assoc]
end
theorem dQ {put:D→Rho→Option Rho}{δi:DA}{b:DS}{ρ:Rho}{ds:List D}{m:M Out}(h:δi ρ=M.ret ds) (h2:forL put b ds ρ=m):cT put δi b ρ=m:=by
 unfold cT
 rw[h]
 exact h2
theorem c8 {τ:DS}{ρ:Rho}{o:Out}(h:τ ρ=M.ret o):(fun ρ=>noex (τ ρ)) ρ=M.ret o:=by
 show noex (τ ρ)=_
 rw[h]
 rfl
theorem sA (lo n:Nat):gm (lo:Int) n=(List.range' lo n).map fun(k:Nat)=>D.int (k:Int):=by
 unfold gm
 rw[List.range_eq_range']
 have:∀(n a:Nat),(List.range' a n).map (fun (i:Nat)=>D.int ((lo:Int)+(i:Int)))=(List.range' (lo+a) n).map fun(k:Nat)=>D.int (k:Int):=by
  intro n
  induction n with
  |zero=>intro a;rfl
  |succ n ih=>
   intro a
   rw[List.range'_succ,List.range'_succ,List.map_cons,List.map_cons,ih (a+1)]
   rfl
 exact this n 0
theorem vJ {δ:DE}{ρ:Rho}{n:Nat}(h:δ ρ=M.ret (.int (n:Int))) (hn:n≤4096):(aC δ aN ρ>>=eR)=M.ret ((List.range n).map fun(k:Nat)=>D.int (k:Int)):=by
 rw[bA h rfl,ar,j2 hn,show gm 0 n=gm ((0:Nat):Int) n from rfl,sA,List.range_eq_range']
theorem Dr {δ ε:DE}{ρ:Rho}{i j:Nat}(h:δ ρ=M.ret (.int (i:Int))) (h2:ε ρ=M.ret (.int (j:Int))) (hi:i≤4096) (hj:j≤4096):(aC δ (aC ε aN) ρ>>=oE)=M.ret ((List.range' i (j - i)).map fun(k:Nat)=>D.int (k:Int)):=by
 rw[bA h (bA h2 rfl),ar]
 show (if (-4096≤(i:Int)∧(i:Int)≤4096)∧(-4096≤(j:Int)∧(j:Int)≤4096) then M.ret (gm (i:Int) ((j:Int) - (i:Int)).toNat) else M.stuck)=_
 rw[if_pos ⟨⟨by omega,by omega⟩,by omega,by omega⟩,show ((j:Int) - (i:Int)).toNat=j - i by omega,sA]
def aO (W r:Nat):List Cell:=(List.range W).map fun k=>(r,k)
def ai (R W:Nat):List Cell:=(List.range R).flatMap (aO W)
theorem aA {R W:Nat}{c:Cell}:c∈ai R W↔On R W c:=by
 unfold ai aO On
 simp only[List.mem_flatMap,List.mem_range,List.mem_map]
 constructor
 ·rintro⟨r,hr,k,hk,rfl⟩;exact⟨hr,hk⟩
 ·rintro⟨h1,h2⟩;exact⟨c.1,h1,c.2,h2,rfl⟩
theorem aX (R W:Nat):(ai R W).length=R*W:=by
 unfold ai
 have:∀l:List Nat,(l.flatMap (aO W)).length=l.length*W:=by
  intro l
  induction l with
  |nil=>simp
  |cons a l ih=>rw[List.flatMap_cons,List.length_append,ih,List.length_cons,Nat.succ_mul];simp[aO];omega
 rw[this,List.length_range]
theorem gq {bd:List Str}{W:Nat}(hg:Brd bd W) (r:Nat):aY [brd bd, .int (r:Int)]=M.ret (.lst ((aO W r).map cD)):=by
 have:=hg.w8
 refine bf (aR (bS (vJ (n:=W) (hg.len0 rfl) (by omega)) ?_ (by simp[aO,dc];omega)))
 rw[show (aO W r).map cD=((List.range W).map fun(k:Nat)=>D.int (k:Int)).map (fun e=> .tup [.int (r:Int),e]) by simp[aO,List.map_map];intro a _;rfl]
 exact gh (g:=fun e=> .tup [.int (r:Int),e]) _ fun e _=>rfl
theorem nE {bd:List Str}{W:Nat}(hg:Brd bd W):fP [brd bd]=M.ret (.lst ((ai bd.length W).map cD)):=by
 have h8:=hg.r8
 have w8:=hg.w8
 have hm:bd.length*W≤64:=Nat.mul_le_mul h8 w8
 have hfl:(List.range bd.length).flatMap (fun r=>(aO W r).map cD)=(ai bd.length W).map cD:=by
  unfold ai;rw[List.map_flatMap]
 have e:=dh (put:=putN 2) (body:=bN [2] (y0 1 (ax 2 aY (aC (dV 0) (aC (dV 2) aN))))) (fun (k:Nat)=>D.int (k:Int)) (fun acc=>[fz (brd bd),some (.ow (.lst acc)),none]) (fun r=>(aO W r).map cD) (B:=64) (List.range bd.length) []
  (by rw[List.nil_append,hfl,List.length_map,aX];exact hm) fun r hr acc hB=>by
   refine⟨[fz (brd bd),some (.ow (.lst acc)),fz (.int (r:Int))],rfl,?_⟩
   refine(a_ (ρ':=[fz (brd bd),some (.ow (.lst (acc++(aO W r).map cD))),fz (.int (r:Int))]) ?_).trans rfl
   show (aY [brd bd, .int (r:Int)]>>=fun d=>lstM d>>=fun es=>if acc.length+es.length≤lim then M.ret (Out.nx (List.set [fz (brd bd),some (.ow (.lst acc)),fz (.int (r:Int))] 1 (some (.ow (.lst (acc++es)))))) else M.stuck)=_
   rw[gq hg,ar]
   show (if acc.length+((aO W r).map cD).length≤lim then M.ret (Out.nx [fz (brd bd),some (.ow (.lst (acc++(aO W r).map cD))),fz (.int (r:Int))]) else M.stuck)=_
   rw[if_pos (by rw[List.length_append] at hB;rw[dc];omega)]
 rw[List.nil_append,hfl] at e
 refine bf (ak (ρ':=[fz (brd bd),some (.ow (.lst [])),none]) rfl (ak (ρ':=[fz (brd bd),some (.ow (.lst ((ai bd.length W).map cD))),none]) (c8 (dQ (vJ (n:=bd.length) (t9 rfl) (by omega)) e)) ?_))
 rfl
def ip (R W w:Nat) (c:Cell):List Cell:=
 (List.range' (c.1 - 1) (min (c.1+2) R - (c.1 - 1))).flatMap fun r=>((List.range' (c.2 - 1) (min (c.2+2) W - (c.2 - 1))).map fun k=>(r,k)).filter (nxt w c)
theorem oZ {R W w:Nat}(hw:Ways w) {c x:Cell}:x∈ip R W w c↔On R W x∧nxt w c x=true:=by
 unfold ip On
 simp only[List.mem_flatMap,List.mem_filter,List.mem_map,List.mem_range'_1]
 constructor
 ·rintro⟨r,⟨h1,h2⟩,⟨k,⟨h3,h4⟩,rfl⟩,h5⟩
  refine⟨⟨?_,?_⟩,h5⟩
  ·show r<R;omega
  ·show k<W;omega
 ·rintro⟨⟨h1,h2⟩,h5⟩
  have h6:dif c.1 x.1≤1∧dif c.2 x.2≤1:=by
   unfold nxt at h5
   rcases hw with rfl | rfl
   ·rw[if_pos rfl] at h5;have:=of_decide_eq_true h5;omega
   ·rw[if_neg (by decide)] at h5;have:=of_decide_eq_true h5;omega
  unfold dif at h6
  exact⟨x.1,⟨by omega,by omega⟩,⟨x.2,⟨by omega,by omega⟩,rfl⟩,h5⟩
theorem oB (R W w:Nat) (c:Cell):(ip R W w c).length≤9:=by
 unfold ip
 rw[List.length_flatMap]
 have h:∀r,(((List.range' (c.2 - 1) (min (c.2+2) W - (c.2 - 1))).map fun k=>(r,k)).filter (nxt w c)).length≤3:=fun r=>by
  refine Nat.le_trans (List.length_filter_le ..) ?_
  rw[List.length_map,List.length_range']
  omega
 have:∀(l:List Nat),(l.map fun r=>(((List.range' (c.2 - 1) (min (c.2+2) W - (c.2 - 1))).map fun k=>(r,k)).filter (nxt w c)).length).sum≤3*l.length:=by
  intro l
  induction l with
  |nil=>simp
  |cons a l ih=>rw[List.map_cons,List.sum_cons,List.length_cons];have:=h a;omega
 refine Nat.le_trans (this _) ?_
 rw[List.length_range']
 omega
abbrev nc (b c w:D) (acc:List D) (x4 x5:Option Sl):Rho:=[fz b,fz c,fz w,some (.ow (.lst acc)),x4,x5]
theorem mF {bd:List Str}{W w:Nat}(hg:Brd bd W) (hw:Ways w) {c:Cell}(hc:On bd.length W c):da [brd bd,cD c, .int (w:Int)]=M.ret (.lst ((ip bd.length W w c).map cD)):=by
 have h8:=hg.r8
 have w8:=hg.w8
 obtain⟨c1,c2⟩:=hc
 have hmax:∀n:Nat,tQ [.int ((n:Int) - 1), .int 0]=M.ret (.int ((n - 1:Nat):Int)):=fun n=>by
  show M.ret (D.int (if (0:Int)>(n:Int) - 1 then 0 else(n:Int) - 1))=_
  congr 2
  split<;>omega
 have hmin:∀n m:Nat,w6 [.int ((n:Int)+2), .int (m:Int)]=M.ret (.int ((min (n+2) m:Nat):Int)):=fun n m=>by
  show M.ret (D.int (if (m:Int)<(n:Int)+2 then(m:Int) else(n:Int)+2))=_
  congr 2
  split<;>omega
 have inner:∀(r:Nat) (acc:List D),acc.length≤16→forL (putN 5) (bN [5] (sIf (bU (ax 3 dB (aC (dV 1) (aC (dA aU (aC (dV 4) (aC (dV 5) aN))) (aC (dV 2) aN))))) (gY 3 (dA aU (aC (dV 4) (aC (dV 5) aN)))) cf))
  ((List.range' (c.2 - 1) (min (c.2+2) W - (c.2 - 1))).map fun(k:Nat)=>D.int (k:Int)) (nc (brd bd) (cD c) (.int (w:Int)) acc (fz (.int (r:Int))) none)=
  M.ret (.nx (nc (brd bd) (cD c) (.int (w:Int)) (acc++(List.range' (c.2 - 1) (min (c.2+2) W - (c.2 - 1))).flatMap fun k=>if nxt w c (r,k) then [cD (r,k)] else []) (fz (.int (r:Int))) none)):=fun r acc hacc=>by
  refine dh (fun (k:Nat)=>D.int (k:Int)) (fun acc=>nc (brd bd) (cD c) (.int (w:Int)) acc (fz (.int (r:Int))) none) (fun k=>if nxt w c (r,k) then [cD (r,k)] else []) (B:=64) _ acc ?_ fun k hk acc hB=>?_
  ·rw[List.length_append,List.length_flatMap]
   have:∀l:List Nat,(l.map fun k=>(if nxt w c (r,k) then [cD (r,k)] else []).length).sum≤l.length:=by
    intro l
    induction l with
    |nil=>simp
    |cons a l ih=>rw[List.map_cons,List.sum_cons,List.length_cons];split<;>simp<;>omega
   have h2:=this (List.range' (c.2 - 1) (min (c.2+2) W - (c.2 - 1)))
   rw[List.length_range'] at h2
   omega
  ·refine⟨nc (brd bd) (cD c) (.int (w:Int)) acc (fz (.int (r:Int))) (fz (.int (k:Int))),rfl,?_⟩
   have ht:bU (ax 3 dB (aC (dV 1) (aC (dA aU (aC (dV 4) (aC (dV 5) aN))) (aC (dV 2) aN)))) (nc (brd bd) (cD c) (.int (w:Int)) acc (fz (.int (r:Int))) (fz (.int (k:Int))))=M.ret (nxt w c (r,k)):=
    gA ((ao (ds:=[cD c,cD (r,k), .int (w:Int)]) rfl rfl).trans (pP hw c (r,k)))
   cases hn:nxt w c (r,k) with
   |true=>
    rw[hn] at ht
    rw[hn,if_pos rfl,List.length_append] at hB
    refine(a_ (ρ':=nc (brd bd) (cD c) (.int (w:Int)) (acc++[cD (r,k)]) (fz (.int (r:Int))) (fz (.int (k:Int)))) (el ht ?_)).trans rfl
    show (if acc.length<lim then M.ret (Out.nx (nc (brd bd) (cD c) (.int (w:Int)) (acc++[cD (r,k)]) (fz (.int (r:Int))) (fz (.int (k:Int))))) else M.stuck)=_
    rw[if_pos (by rw[dc];simp at hB;omega)]
   |false=>
    rw[hn] at ht
    refine(a_ (ρ':=nc (brd bd) (cD c) (.int (w:Int)) acc (fz (.int (r:Int))) (fz (.int (k:Int)))) (dP ht rfl)).trans ?_
    simp
    rfl
 have flt:∀r,((List.range' (c.2 - 1) (min (c.2+2) W - (c.2 - 1))).flatMap fun k=>if nxt w c (r,k) then [cD (r,k)] else [])=(((List.range' (c.2 - 1) (min (c.2+2) W - (c.2 - 1))).map fun k=>(r,k)).filter (nxt w c)).map cD:=fun r=>by
  generalize List.range' (c.2 - 1) (min (c.2+2) W - (c.2 - 1))=l
  induction l with
  |nil=>rfl
  |cons a l ih=>
   rw[List.flatMap_cons,ih,List.map_cons,List.filter_cons]
   cases nxt w c (r,a)<;>rfl
 have tot:(List.range' (c.1 - 1) (min (c.1+2) bd.length - (c.1 - 1))).flatMap (fun r=>(((List.range' (c.2 - 1) (min (c.2+2) W - (c.2 - 1))).map fun k=>(r,k)).filter (nxt w c)).map cD)=(ip bd.length W w c).map cD:=by
  unfold ip;rw[List.map_flatMap]
 have outer:=dh (put:=putN 4) (body:=bN [4,5] (cT (putN 5) (fun ρ=>(aC (dA tQ (aC (d2 rF (d2 aK (dV 1) (dC (.int 1))) (dC (.int 1))) (aC (dC (.int 0)) aN))) (aC (dA w6 (aC (d2 dE (d2 aK (dV 1) (dC (.int 1))) (dC (.int 2))) (aC (dA aS (aC (d2 aK (dV 0) (dC (.int 0))) aN)) aN))) aN)) ρ>>=oE) (bN [5] (sIf (bU (ax 3 dB (aC (dV 1) (aC (dA aU (aC (dV 4) (aC (dV 5) aN))) (aC (dV 2) aN))))) (gY 3 (dA aU (aC (dV 4) (aC (dV 5) aN)))) cf))))
  (fun (k:Nat)=>D.int (k:Int)) (fun acc=>nc (brd bd) (cD c) (.int (w:Int)) acc none none) (fun r=>(((List.range' (c.2 - 1) (min (c.2+2) W - (c.2 - 1))).map fun k=>(r,k)).filter (nxt w c)).map cD) (B:=16) (List.range' (c.1 - 1) (min (c.1+2) bd.length - (c.1 - 1))) []
  (by rw[List.nil_append,tot,List.length_map];have:=oB bd.length W w c;omega) fun r hr acc hB=>by
   refine⟨nc (brd bd) (cD c) (.int (w:Int)) acc (fz (.int (r:Int))) none,rfl,?_⟩
   have e:=inner r acc (by rw[List.length_append] at hB;omega)
   rw[flt r] at e
   refine(a_ (dQ (Dr (i:=c.2 - 1) (j:=min (c.2+2) W) ?_ ?_ (by omega) (by omega)) e)).trans rfl
   ·exact(cN (xs:=[.int ((c.2:Int) - 1), .int 0]) rfl).trans (hmax c.2)
   ·refine(cN (xs:=[.int ((c.2:Int)+2), .int (W:Int)]) ?_).trans (hmin c.2 W)
    exact bA (show d2 dE (d2 aK (dV 1) (dC (.int 1))) (dC (.int 2)) (nc (brd bd) (cD c) (.int (w:Int)) acc (fz (.int (r:Int))) none)=M.ret (.int ((c.2:Int)+2)) from rfl) (bA (hg.len0 rfl) rfl)
 rw[List.nil_append,tot] at outer
 refine bf (ak (ρ':=nc (brd bd) (cD c) (.int (w:Int)) [] none none) rfl (ak (ρ':=nc (brd bd) (cD c) (.int (w:Int)) ((ip bd.length W w c).map cD) none none) (c8 (dQ (Dr (i:=c.1 - 1) (j:=min (c.1+2) bd.length) ?_ ?_ (by omega) (by omega)) outer)) ?_))
 ·exact(cN (xs:=[.int ((c.1:Int) - 1), .int 0]) rfl).trans (hmax c.1)
 ·refine(cN (xs:=[.int ((c.1:Int)+2), .int (bd.length:Int)]) ?_).trans (hmin c.1 bd.length)
  exact bA (show d2 dE (d2 aK (dV 1) (dC (.int 0))) (dC (.int 2)) (nc (brd bd) (cD c) (.int (w:Int)) [] none none)=M.ret (.int ((c.1:Int)+2)) from rfl) (bA (t9 rfl) rfl)
 ·rfl
def bq (bd:List Str) (W w:Nat) (c:Cell):List Cell:=(ip bd.length W w c).filter fun x=>decide (lt bd x=lt bd c)
theorem fE {bd:List Str}{W w:Nat}(hw:Ways w) {c x:Cell}:x∈bq bd W w c↔On bd.length W x∧nxt w c x=true∧lt bd x=lt bd c:=by
 unfold bq
 rw[List.mem_filter,oZ hw,decide_eq_true_eq,and_assoc]
theorem vL (bd:List Str) (W w:Nat) (c:Cell):(bq bd W w c).length≤9:=Nat.le_trans (List.length_filter_le ..) (oB ..)
theorem ix {α:Type}{f:D→M (Option D)}(enc:α→D) (p:α→Bool):∀(xs:List α),(∀x∈xs,f (enc x)=M.ret (if p x then some (enc x) else none))→dF f (xs.map enc)=M.ret ((xs.filter p).map enc)
 |[],_=>rfl
 |x::xs,h=>by
  rw[List.map_cons,fK,h x (List.mem_cons_self ..),ar,ix enc p xs fun y hy=>h y (List.mem_cons_of_mem _ hy),List.filter_cons]
  cases p x<;>rfl
theorem mG {bd:List Str}{W w:Nat}(hg:Brd bd W) (hw:Ways w) {c:Cell}(hc:On bd.length W c):cx [brd bd,cD c, .int (w:Int)]=M.ret (.lst ((bq bd W w c).map cD)):=by
 refine bf (ak (ρ':=[fz (brd bd),fz (cD c),fz (.int (w:Int)),fz (sg (lt bd c))]) ((aQ (d:=sg (lt bd c)) ((ao (ds:=[brd bd,cD c]) rfl rfl).trans (iS hg hc))).trans rfl) (aR ?_))
 refine bS (ds:=(ip bd.length W w c).map cD) ?_ (ix cD _ _ fun x hx=>?_) (by rw[List.length_map,dc];exact Nat.le_trans (vL bd W w c) (by decide))
 ·show (ax 3 da _ _>>=lstM)=_
  have e:ax 3 da (aC (dV 0) (aC (dV 1) (aC (dV 2) aN))) [fz (brd bd),fz (cD c),fz (.int (w:Int)),fz (sg (lt bd c))]=M.ret (.lst ((ip bd.length W w c).map cD)):=mF hg hw hc
  rw[e]
  rfl
 ·have hx':=(oZ hw).mp hx
  rw[tN]
  have e:tB' (d2 gEq (ax 2 dR (aC (dV 1) (aC (dV 0) aN))) (dV 4)) (fz (cD x)::[fz (brd bd),fz (cD c),fz (.int (w:Int)),fz (sg (lt bd c))])=M.ret (decide (lt bd x=lt bd c)):=by
   refine fZ ?_
   exact(aM (x:=sg (lt bd x)) (y:=sg (lt bd c)) ((ao (ds:=[brd bd,cD x]) rfl rfl).trans (iS hg hx'.1)) rfl).trans (A5 _ _)
  rw[e,ar]
  cases decide (lt bd x=lt bd c)<;>rfl
end K1
namespace K1
section
variable {α : Type} [DecidableEq α]
structure Bk (α:Type) where
 ks:List α
 ps:List (Option α)
 fu:List α
def eS (c:α) (s:Bk α) (x:α):Bk α:=if x∈s.ks then s else⟨s.ks++[x],s.ps++[some c],s.fu++[x]⟩
variable (nb : α → List α)
def lb (s:Bk α) (c:α):Bk α:=(nb c).foldl (eS c) s
def cG (s:Bk α) (ring:List α):Bk α:=ring.foldl (lb nb) s
def Rb (a:α):Nat→α→Prop
 |0,x=>x=a
 |k+1,x=>Rb a k x∨∃y,Rb a k y∧x∈nb y
variable {nb} {a : α}
theorem Rb.mono {i j:Nat}{x:α}(h:i≤j) (r:Rb nb a i x):Rb nb a j x:=by
 induction h with
 |refl=>exact r
 |step _ ih=>exact .inl ih
structure Grown (P:α→α→Prop) (s t:Bk α):Prop where
 ex:∃fs:List (α×α),t.ks=s.ks++fs.map (·.1)∧t.ps=s.ps++fs.map (fun p=>some p.2)∧t.fu=s.fu++fs.map (·.1)∧(∀p∈fs,P p.2 p.1)
 nd:s.ks.Nodup→t.ks.Nodup
theorem Grown.refl {P:α→α→Prop}(s:Bk α):Grown P s s:=⟨⟨[],by simp,by simp,by simp,fun _ h=>by cases h⟩,id⟩
theorem Grown.trans {P:α→α→Prop}{s t u:Bk α}(h1:Grown P s t) (h2:Grown P t u):Grown P s u:=by
 obtain⟨fs,a1,a2,a3,a4⟩:=h1.ex
 obtain⟨gs,b1,b2,b3,b4⟩:=h2.ex
 refine⟨⟨fs++gs,by rw[b1,a1];simp,by rw[b2,a2];simp,by rw[b3,a3];simp,fun p hp=>?_⟩,fun h=>h2.nd (h1.nd h)⟩
 rcases List.mem_append.mp hp with h | h
 ·exact a4 p h
 ·exact b4 p h
theorem rX {P:α→α→Prop}{c x:α}(s:Bk α) (h:P c x):Grown P s (eS c s x):=by
 unfold eS
 split
 ·exact Grown.refl s
 ·rename_i hx
  refine⟨⟨[(x,c)],rfl,rfl,rfl,fun p hp=>?_⟩,fun hn=>?_⟩
  ·have:p=(x,c):=by simpa using hp
   subst this;exact h
  ·refine List.nodup_append.mpr ⟨hn,by simp,fun y hy z hz e=>?_⟩
   have hz:z=x:=by simpa using hz
   rw[e,hz] at hy
   exact hx hy
theorem wG {c x y:α}(s:Bk α):y∈(eS c s x).ks↔y∈s.ks∨y=x:=by
 unfold eS
 split
 ·rename_i hx
  exact⟨.inl,fun h=>h.elim id fun e=>by rw[e];exact hx⟩
 ·simp
theorem foldStep {P:α→α→Prop}{c:α}:∀(l:List α) (s:Bk α),(∀x∈l,P c x)→Grown P s (l.foldl (eS c) s)∧∀y,y∈(l.foldl (eS c) s).ks↔y∈s.ks∨y∈l
 |[],s,_=>⟨Grown.refl s,fun y=>by simp⟩
 |x::l,s,h=>by
  obtain⟨h1,h2⟩:=foldStep l (eS c s x) fun y hy=>h y (List.mem_cons_of_mem _ hy)
  refine⟨(rX s (h x (List.mem_cons_self ..))).trans h1,fun y=>?_⟩
  rw[List.foldl_cons,h2 y,wG]
  simp[or_assoc]
theorem sN {P:α→α→Prop}:∀(l:List α) (s:Bk α),(∀c∈l,∀x∈nb c,P c x)→Grown P s (cG nb s l)∧∀y,y∈(cG nb s l).ks↔y∈s.ks∨∃c∈l,y∈nb c
 |[],s,_=>⟨Grown.refl s,fun y=>by simp[cG]⟩
 |c::l,s,h=>by
  obtain⟨g1,m1⟩:=foldStep (P:=P) (c:=c) (nb c) s (h c (List.mem_cons_self ..))
  obtain⟨g2,m2⟩:=sN l (lb nb s c) fun c' hc=>h c' (List.mem_cons_of_mem _ hc)
  refine⟨g1.trans g2,fun y=>?_⟩
  show y∈(cG nb (lb nb s c) l).ks↔_
  rw[m2 y]
  show (y∈((nb c).foldl (eS c) s).ks∨_)↔_
  rw[m1 y]
  simp[or_assoc]
structure Rng (nb:α→List α) (a:α) (k:Nat) (ks:List α) (ps:List (Option α)) (ring:List α):Prop where
 len:ks.length=ps.length
 nd:ks.Nodup
 mem:∀x,x∈ks↔Rb nb a k x
 rg:∀x,x∈ring↔Rb nb a k x∧∀j,Rb nb a j x→k≤j
 par:∀x p,(x,some p)∈ks.zip ps→x∈nb p∧p∈ks∧∀j,Rb nb a j x→∃i,j=i+1∧Rb nb a i p
 non:∀x,(x,none)∈ks.zip ps→x=a
 sz:k≤ks.length∧(ring≠[]→k+1≤ks.length)
theorem Rng.zero (nb:α→List α) (a:α):Rng nb a 0 [a] [none] [a] where
 len:=rfl
 nd:=by simp
 mem:=fun x=>by simp[Rb]
 rg:=fun x=>by simp[Rb]
 par:=fun x p h=>by simp at h
 non:=fun x h=>by simpa using h
 sz:=⟨by simp,fun _=>by simp⟩
theorem Rng.next {k:Nat}{ks:List α}{ps:List (Option α)}{ring:List α}(h:Rng nb a k ks ps ring) (hr:ring≠[]):Rng nb a (k+1) (cG nb ⟨ks,ps,[]⟩ ring).ks (cG nb ⟨ks,ps,[]⟩ ring).ps (cG nb ⟨ks,ps,[]⟩ ring).fu:=by
 obtain⟨g,m⟩:=sN (nb:=nb) (P:=fun c x=>c∈ring∧x∈nb c) ring ⟨ks,ps,[]⟩ fun c hc x hx=>⟨hc,hx⟩
 obtain⟨fs,e1,e2,e3,e4⟩:=g.ex
 have hnd:=g.nd h.nd
 have hm:∀x,x∈(cG nb ⟨ks,ps,[]⟩ ring).ks↔Rb nb a (k+1) x:=fun x=>by
  rw[m x]
  show (x∈ks∨_)↔(Rb nb a k x∨_)
  constructor
  ·rintro(q | ⟨c,hc,hx⟩)
   ·exact .inl ((h.mem x).mp q)
   ·exact .inr ⟨c,((h.rg c).mp hc).1,hx⟩
  ·rintro(q | ⟨y,hy,hx⟩)
   ·exact .inl ((h.mem x).mpr q)
   ·by_cases hk:∀j,Rb nb a j y→k≤j
    ·exact .inr ⟨y,(h.rg y).mpr ⟨hy,hk⟩,hx⟩
    ·refine .inl ((h.mem x).mpr ?_)
     obtain⟨j,hj⟩:=Classical.not_forall.mp hk
     obtain⟨hj1,hj2⟩:=Classical.not_imp.mp hj
     exact Rb.mono (i:=j+1) (by omega) (.inr ⟨y,hj1,hx⟩)
 have e1':(cG nb ⟨ks,ps,[]⟩ ring).ks=ks++fs.map (·.1):=e1
 have e2':(cG nb ⟨ks,ps,[]⟩ ring).ps=ps++fs.map (fun p=>some p.2):=e2
 have e3':(cG nb ⟨ks,ps,[]⟩ ring).fu=fs.map (·.1):=e3
 have new:∀x,x∈fs.map (·.1)→¬Rb nb a k x:=fun x hx hk=>by
  rw[e1'] at hnd
  exact(List.nodup_append.mp hnd).2.2 x ((h.mem x).mpr hk) x hx rfl
 have late:∀x,¬Rb nb a k x→∀j,Rb nb a j x→k+1≤j:=fun x hx j hj=>by
  by_cases hjk:k+1≤j
  ·exact hjk
  ·exact absurd (Rb.mono (by omega) hj) hx
 have hzip:(cG nb ⟨ks,ps,[]⟩ ring).ks.zip (cG nb ⟨ks,ps,[]⟩ ring).ps=ks.zip ps++fs.map fun p=>(p.1,some p.2):=by
  rw[e1',e2',List.zip_append h.len]
  congr 1
  rw[List.zip_map']
 refine⟨?_,hnd,hm,fun x=>?_,fun x p hp=>?_,fun x hx=>?_,?_⟩
 ·rw[e1',e2',List.length_append,List.length_append,List.length_map,List.length_map,h.len]
 ·rw[e3']
  constructor
  ·intro hx
   exact⟨(hm x).mp (by rw[e1'];exact List.mem_append_right _ hx),late x (new x hx)⟩
  ·rintro⟨h1,h2⟩
   have h3:=(hm x).mpr h1
   rw[e1'] at h3
   rcases List.mem_append.mp h3 with q | q
   ·have:=h2 k ((h.mem x).mp q)
    omega
   ·exact q
 ·rw[hzip] at hp
  rcases List.mem_append.mp hp with q | q
  ·obtain⟨q1,q2,q3⟩:=h.par x p q
   exact⟨q1,by rw[e1'];exact List.mem_append_left _ q2,q3⟩
  ·obtain⟨f,hf,e⟩:=List.mem_map.mp q
   cases e
   obtain⟨f1,f2⟩:=e4 f hf
   have hc:=(h.rg f.2).mp f1
   refine⟨f2,by rw[e1'];exact List.mem_append_left _ ((h.mem _).mpr hc.1),fun j hj=>?_⟩
   have:=late f.1 (new f.1 (List.mem_map.mpr ⟨f,hf,rfl⟩)) j hj
   exact⟨j - 1,by omega,Rb.mono (by omega) hc.1⟩
 ·rw[hzip] at hx
  rcases List.mem_append.mp hx with q | q
  ·exact h.non x q
  ·obtain⟨f,hf,e⟩:=List.mem_map.mp q
   cases e
 ·have hs:=h.sz.2 hr
  rw[e1',List.length_append,List.length_map]
  refine⟨by omega,fun hne=>?_⟩
  have:fs≠[]:=fun z=>hne (by rw[e3',z];rfl)
  have:=List.length_pos_iff.mpr this
  omega
theorem Rng.last {k:Nat}{ks:List α}{ps:List (Option α)}(h:Rng nb a k ks ps []):∀x,x∈ks↔∃j,Rb nb a j x:=by
 have none:∀x,¬(Rb nb a k x∧∀j,Rb nb a j x→k≤j):=fun x q=>by
  have:=(h.rg x).mpr q
  cases this
 have hk:∀x,Rb nb a k x→∃i,i<k∧Rb nb a i x:=fun x hx=>by
  by_cases q:∀j,Rb nb a j x→k≤j
  ·exact absurd ⟨hx,q⟩ (none x)
  ·obtain⟨j,hj⟩:=Classical.not_forall.mp q
   obtain⟨hj1,hj2⟩:=Classical.not_imp.mp hj
   exact⟨j,by omega,hj1⟩
 have all:∀j x,Rb nb a j x→Rb nb a k x:=by
  intro j
  induction j with
  |zero=>intro x hx;exact Rb.mono (Nat.zero_le _) hx
  |succ j ih=>
   rintro x (q | ⟨y,hy,hx⟩)
   ·exact ih x q
   ·obtain⟨i,hi,hr⟩:=hk y (ih y hy)
    exact Rb.mono (i:=i+1) (by omega) (.inr ⟨y,hr,hx⟩)
 exact fun x=>⟨fun q=>⟨k,(h.mem x).mp q⟩,fun⟨j,hj⟩=>(h.mem x).mpr (all j x hj)⟩
theorem jf {l U:List α}(hn:l.Nodup) (h:∀x∈l,x∈U):l.length≤U.length:=by
 induction l generalizing U with
 |nil=>simp
 |cons a l ih=>
  rw[List.nodup_cons] at hn
  have hl:∀x∈l,x∈U.erase a:=fun x hx=>by
   have hne:x≠a:=fun z=>hn.1 (by rw[←z];exact hx)
   exact(List.mem_erase_of_ne hne).mpr (h x (List.mem_cons_of_mem _ hx))
  have h1:=ih hn.2 hl
  have h2:=List.length_erase_of_mem (h a (List.mem_cons_self ..))
  have h3:=List.length_pos_of_mem (h a (List.mem_cons_self ..))
  rw[List.length_cons]
  omega
end
end K1
namespace K1
open PySem L2 L3
def keyOf (c:Cell):List Key:=[.inl (c.1:Int), .inl (c.2:Int)]
theorem fG {a b:Cell}(h:keyOf a=keyOf b):a=b:=by
 unfold keyOf at h
 injection h with h1 h2
 injection h1 with h1
 injection h2 with h2 _
 injection h2 with h2
 exact Prod.ext (Int.ofNat.inj h1) (Int.ofNat.inj h2)
theorem fO (c:Cell):dX (cD c)=some (keyOf c):=rfl
theorem fw {c:Cell}:∀{ks:List Cell}{ds:List D},c∉ks→eU (ks.map keyOf) ds (keyOf c)=none
 |[],_,_=>by simp[eU]
 |k::ks,[],_=>by simp[eU]
 |k::ks,d::ds,h=>by
  rw[List.map_cons]
  unfold eU
  rw[if_neg (fun z=>h (by rw[fG z];exact List.mem_cons_self ..))]
  exact fw fun z=>h (List.mem_cons_of_mem _ z)
theorem j3 {c:Cell}:∀{ks:List Cell}{ds:List D},ks.length=ds.length→c∈ks→∃d,eU (ks.map keyOf) ds (keyOf c)=some d∧(c,d)∈ks.zip ds
 |[],_,_,h=>by cases h
 |k::ks,[],hl,_=>by simp at hl
 |k::ks,d::ds,hl,h=>by
  rw[List.map_cons]
  unfold eU
  by_cases hk:k=c
  ·subst hk
   rw[if_pos rfl]
   exact⟨d,rfl,by simp⟩
  ·rw[if_neg (fun z=>hk (fG z))]
   have hc:c∈ks:=by
    rcases List.mem_cons.mp h with q | q
    ·exact absurd q.symm hk
    ·exact q
   obtain⟨d',e1,e2⟩:=j3 (ds:=ds) (by simpa using hl) hc
   exact⟨d',e1,by simp[e2]⟩
theorem vH {neg:Bool}{ks:List Cell}{ds:List D}{c:Cell}(hl:ks.length=ds.length):nV neg (cD c) (.dct (ks.map keyOf) ds)=M.ret (.bl (if neg then !decide (c∈ks) else decide (c∈ks))):=by
 show (match (dX (cD c)).map (eU (ks.map keyOf) ds) with | some o=>M.ret (D.bl (if neg then !o.isSome else o.isSome)) | none=>M.stuck)=_
 rw[fO]
 show M.ret (D.bl (if neg then !(eU (ks.map keyOf) ds (keyOf c)).isSome else(eU (ks.map keyOf) ds (keyOf c)).isSome))=_
 by_cases h:c∈ks
 ·obtain⟨d,e,_⟩:=j3 hl h
  rw[e,decide_eq_true h];rfl
 ·rw[fw h,decide_eq_false h];rfl
theorem sZ {ks:List Cell}{ds:List D}{c:Cell}{d:D}(h:c∉ks) (hl:ds.length<lim):kh (.dct (ks.map keyOf) ds) (cD c) d=some (.dct ((ks++[c]).map keyOf) (ds++[d])):=by
 show (match dX (cD c) with | some kk=>if ds.length<lim then some (C.dct (dg (ks.map keyOf) ds kk) (cg (ks.map keyOf) ds kk d)) else none | none=>none)=_
 rw[fO]
 show (if ds.length<lim then some (C.dct (dg (ks.map keyOf) ds (keyOf c)) (cg (ks.map keyOf) ds (keyOf c) d)) else none)=_
 rw[if_pos hl]
 unfold dg cg
 rw[fw h]
 simp
theorem xx {τ:DT}{ρ:Rho}{b:Bool}(h:τ (frA ρ)=M.ret b):tTf τ ρ=M.ret b:=by
 unfold tTf
 rw[h]
 rfl
theorem Dz {δ:DE}{ρ:Rho}{d:D}(h:δ (frA ρ)=M.ret d) (hf:tK d=true):dTf δ ρ=M.ret d:=by
 unfold dTf
 rw[h]
 show mW d=_
 unfold mW
 rw[hf]
 rfl
theorem zF (c:Cell):tK (cD c)=true:=rfl
theorem lP {c:DT}{body:DS}{n:Nat}{ρ ρ':Rho}{m:M Out}(h1:c ρ=M.ret true) (h2:body ρ=M.ret (.nx ρ')) (h3:eK c body n ρ'=m):eK c body (n+1) ρ=m:=by
 show (c ρ>>=fun b=>if b then body ρ>>=fun o=>match o with | .nx ρ'=>eK c body n ρ' | .rt d=>M.ret (.rt d) else M.ret (.nx ρ))=_
 rw[h1,ar,if_pos rfl,h2]
 exact h3
theorem rT {c:DT}{body:DS}{n:Nat}{ρ:Rho}(h1:c ρ=M.ret false):eK c body (n+1) ρ=M.ret (.nx ρ):=by
 show (c ρ>>=fun b=>if b then body ρ>>=fun o=>match o with | .nx ρ'=>eK c body n ρ' | .rt d=>M.ret (.rt d) else M.ret (.nx ρ))=_
 rw[h1]
 rfl
def xX:Option Cell→D
 |none=> .non
 |some c=>cD c
abbrev xF (ks:List Cell) (ps:List (Option Cell)):C:= .dct (ks.map keyOf) (ps.map xX)
abbrev vA (ks:List Cell) (ps:List (Option Cell)):D:= .dct (ks.map keyOf) (ps.map xX)
abbrev sb (b s w:D) (ks:List Cell) (ps:List (Option Cell)) (x4 x5 x6 x7:Option Sl):Rho:=[fz b,fz s,fz w,some (.ow (xF ks ps)),x4,x5,x6,x7]
structure Bok (R W:Nat) (s:Bk Cell):Prop where
 len:s.ks.length=s.ps.length
 nd:s.ks.Nodup
 on:∀x∈s.ks,On R W x
 fu:s.fu.length≤s.ks.length
theorem Bok.le {R W:Nat}{s:Bk Cell}(h:Bok R W s):s.ks.length≤R*W:=by
 rw[←aX R W]
 exact jf h.nd fun x hx=>aA.mpr (h.on x hx)
theorem Bok.step {R W:Nat}{s:Bk Cell}(h:Bok R W s) {c x:Cell}(hx:On R W x):Bok R W (eS c s x):=by
 unfold eS
 split
 ·exact h
 ·rename_i hn
  refine⟨by simp[h.len],?_,fun y hy=>?_,by simp;exact h.fu⟩
  ·refine List.nodup_append.mpr ⟨h.nd,by simp,fun y hy z hz e=>?_⟩
   have hz:z=x:=by simpa using hz
   rw[e,hz] at hy
   exact hn hy
  ·rcases List.mem_append.mp hy with q | q
   ·exact h.on y q
   ·have:y=x:=by simpa using q
    rw[this];exact hx
def BH:DS:=bN [7] (sIf (tTf (tB' (d2 (nV true) (dV 7) (dV 3)))) (aB (fb 3 (dV 7) (dV 6)) (gY 5 (dV 7))) cf)
theorem Ab {bd:List Str}{W:Nat}(hg:Brd bd W) {a c x:Cell}{w:D}{r:Option Sl}{s:Bk Cell}(h:Bok bd.length W s):
 BH (sb (brd bd) (cD a) w s.ks s.ps r (some (.ow (.lst (s.fu.map cD)))) (fz (cD c)) (fz (cD x)))=M.ret (.nx (sb (brd bd) (cD a) w (eS c s x).ks (eS c s x).ps r (some (.ow (.lst ((eS c s x).fu.map cD)))) (fz (cD c)) none)):=by
 have hle:=h.le
 have hm:bd.length*W≤64:=Nat.mul_le_mul hg.r8 hg.w8
 have ht:tTf (tB' (d2 (nV true) (dV 7) (dV 3))) (sb (brd bd) (cD a) w s.ks s.ps r (some (.ow (.lst (s.fu.map cD)))) (fz (cD c)) (fz (cD x)))=M.ret (!decide (x∈s.ks)):=
  xx (fZ ((aM (x:=cD x) (y:=vA s.ks s.ps) rfl rfl).trans (vH (neg:=true) (by rw[List.length_map];exact h.len))))
 by_cases hx:x∈s.ks
 ·rw[decide_eq_true hx] at ht
  have e:eS c s x=s:=if_pos hx
  rw[e]
  exact(a_ (dP ht rfl)).trans rfl
 ·rw[decide_eq_false hx] at ht
  have e:eS c s x=⟨s.ks++[x],s.ps++[some c],s.fu++[x]⟩:=if_neg hx
  rw[e]
  refine(a_ (ρ':=sb (brd bd) (cD a) w (s.ks++[x]) (s.ps++[some c]) r (some (.ow (.lst ((s.fu++[x]).map cD)))) (fz (cD c)) (fz (cD x))) (el ht (ak (ρ':=sb (brd bd) (cD a) w (s.ks++[x]) (s.ps++[some c]) r (some (.ow (.lst (s.fu.map cD)))) (fz (cD c)) (fz (cD x))) ?_ ?_))).trans rfl
  ·show (match kh (xF s.ks s.ps) (cD x) (cD c) with | some c'=>M.ret (Out.nx (List.set (sb (brd bd) (cD a) w s.ks s.ps r (some (.ow (.lst (s.fu.map cD)))) (fz (cD c)) (fz (cD x))) 3 (some (.ow c')))) | none=>M.stuck)=_
   rw[sZ hx (by rw[List.length_map,←h.len,dc];omega)]
   rw[show s.ps.map xX++[cD c]=(s.ps++[some c]).map xX by simp[xX]]
   rfl
  ·show (if (s.fu.map cD).length<lim then M.ret (Out.nx (sb (brd bd) (cD a) w (s.ks++[x]) (s.ps++[some c]) r (some (.ow (.lst (s.fu.map cD++[cD x])))) (fz (cD c)) (fz (cD x)))) else M.stuck)=_
   have:=h.fu
   rw[if_pos (by rw[List.length_map,dc];omega)]
   rw[show s.fu.map cD++[cD x]=(s.fu++[x]).map cD by simp]
def Bt:DS:=bN [6,7] (cT (putN 7) (cW (ax 3 cx (aC (dV 0) (aC (dV 6) (aC (dV 2) aN))))) BH)
theorem vf {bd:List Str}{W w:Nat}(hg:Brd bd W) (hw:Ways w) {a c:Cell}(hc:On bd.length W c) {r:Option Sl}{s:Bk Cell}(h:Bok bd.length W s):
 Bok bd.length W (lb (bq bd W w) s c)∧Bt (sb (brd bd) (cD a) (.int (w:Int)) s.ks s.ps r (some (.ow (.lst (s.fu.map cD)))) (fz (cD c)) none)=
  M.ret (.nx (sb (brd bd) (cD a) (.int (w:Int)) (lb (bq bd W w) s c).ks (lb (bq bd W w) s c).ps r (some (.ow (.lst ((lb (bq bd W w) s c).fu.map cD)))) none none)):=by
 obtain⟨h1,e⟩:=iD (put:=putN 7) (body:=BH) cD (fun s:Bk Cell=>sb (brd bd) (cD a) (.int (w:Int)) s.ks s.ps r (some (.ow (.lst (s.fu.map cD)))) (fz (cD c)) none) (eS c) (Bok bd.length W) (bq bd W w c) s h fun s hs x hx=>
  ⟨hs.step ((fE hw).mp hx).1,_,rfl,Ab hg hs⟩
 refine⟨h1,(a_ (dQ ?_ e)).trans rfl⟩
 show (ax 3 cx (aC (dV 0) (aC (dV 6) (aC (dV 2) aN))) (sb (brd bd) (cD a) (.int (w:Int)) s.ks s.ps r (some (.ow (.lst (s.fu.map cD)))) (fz (cD c)) none)>>=lstM)=_
 have e2:ax 3 cx (aC (dV 0) (aC (dV 6) (aC (dV 2) aN))) (sb (brd bd) (cD a) (.int (w:Int)) s.ks s.ps r (some (.ow (.lst (s.fu.map cD)))) (fz (cD c)) none)=M.ret (.lst ((bq bd W w c).map cD)):=mG hg hw hc
 rw[e2]
 rfl
def DJ:DS:=bN [5,6,7] (aB (qW 5) (aB (cT (putN 6) (cW (dV 4)) Bt) (sFz 5 (bh 4 (dV 5)))))
theorem AZ {bd:List Str}{W w:Nat}(hg:Brd bd W) (hw:Ways w) {a:Cell}{ring:List Cell}(hr:∀c∈ring,On bd.length W c) {s:Bk Cell}(h:Bok bd.length W s) (hf:s.fu=[]):
 Bok bd.length W (cG (bq bd W w) s ring)∧DJ (sb (brd bd) (cD a) (.int (w:Int)) s.ks s.ps (fz (.lst (ring.map cD))) none none none)=
  M.ret (.nx (sb (brd bd) (cD a) (.int (w:Int)) (cG (bq bd W w) s ring).ks (cG (bq bd W w) s ring).ps (fz (.lst ((cG (bq bd W w) s ring).fu.map cD))) none none none)):=by
 obtain⟨h1,e⟩:=iD (put:=putN 6) (body:=Bt) cD (fun s:Bk Cell=>sb (brd bd) (cD a) (.int (w:Int)) s.ks s.ps (fz (.lst (ring.map cD))) (some (.ow (.lst (s.fu.map cD)))) none none) (lb (bq bd W w)) (Bok bd.length W) ring s h fun s hs c hc=>
  ⟨(vf (a:=a) (r:=fz (.lst (ring.map cD))) hg hw (hr c hc) hs).1,_,rfl,(vf hg hw (hr c hc) hs).2⟩
 refine⟨h1,(a_ (ρ':=sb (brd bd) (cD a) (.int (w:Int)) (cG (bq bd W w) s ring).ks (cG (bq bd W w) s ring).ps (fz (.lst ((cG (bq bd W w) s ring).fu.map cD))) (fz (.lst ((cG (bq bd W w) s ring).fu.map cD))) none none) ?_).trans rfl⟩
 refine ak (ρ':=sb (brd bd) (cD a) (.int (w:Int)) s.ks s.ps (fz (.lst (ring.map cD))) (some (.ow (.lst []))) none none) rfl (ak (ρ':=sb (brd bd) (cD a) (.int (w:Int)) (cG (bq bd W w) s ring).ks (cG (bq bd W w) s ring).ps (fz (.lst (ring.map cD))) (some (.ow (.lst ((cG (bq bd W w) s ring).fu.map cD)))) none none) ?_ rfl)
 rw[hf] at e
 exact dQ rfl e
theorem sM {bd:List Str}{W w:Nat}(hg:Brd bd W) (hw:Ways w) {a:Cell}(ha:On bd.length W a):∀(fuel k:Nat) (ks:List Cell) (ps:List (Option Cell)) (ring:List Cell),bd.length*W+2≤fuel+k→Rng (bq bd W w) a k ks ps ring→(∀x∈ks,On bd.length W x)→
 ∃k' ks' ps',Rng (bq bd W w) a k' ks' ps' []∧(∀x∈ks',On bd.length W x)∧eK (bU (dV 4)) DJ fuel (sb (brd bd) (cD a) (.int (w:Int)) ks ps (fz (.lst (ring.map cD))) none none none)=M.ret (.nx (sb (brd bd) (cD a) (.int (w:Int)) ks' ps' (fz (.lst [])) none none none))
 |0,k,ks,ps,ring,hf,hR,hon=>by
  have h1:ks.length≤bd.length*W:=by
   rw[←aX bd.length W]
   exact jf hR.nd fun x hx=>aA.mpr (hon x hx)
  have:=hR.sz.1
  omega
 |fuel+1,k,ks,ps,[],hf,hR,hon=>⟨k,ks,ps,hR,hon,rT rfl⟩
 |fuel+1,k,ks,ps,c::ring,hf,hR,hon=>by
  have hne:c::ring≠[]:=by simp
  have hN:=hR.next hne
  have hro:∀x∈c::ring,On bd.length W x:=fun x hx=>hon x ((hR.mem x).mpr ((hR.rg x).mp hx).1)
  obtain⟨hb,e⟩:=AZ (a:=a) hg hw hro (s:=⟨ks,ps,[]⟩) ⟨hR.len,hR.nd,hon,Nat.zero_le _⟩ rfl
  obtain⟨k',ks',ps',q1,q2,q3⟩:=sM hg hw ha fuel (k+1) _ _ _ (by omega) hN hb.on
  exact⟨k',ks',ps',q1,q2,lP rfl e q3⟩
theorem ir {bd:List Str}{W w:Nat}(hg:Brd bd W) (hw:Ways w) {a:Cell}(ha:On bd.length W a):
 ∃k ks ps,Rng (bq bd W w) a k ks ps []∧(∀x∈ks,On bd.length W x)∧aT [brd bd,cD a, .int (w:Int)]=M.ret (vA ks ps):=by
 have hm:bd.length*W≤64:=Nat.mul_le_mul hg.r8 hg.w8
 obtain⟨k,ks,ps,h1,h2,h3⟩:=sM hg hw ha lim 0 [a] [none] [a] (by rw[dc];omega) (Rng.zero _ _) (fun x hx=>(show x=a by simpa using hx)▸ha)
 refine⟨k,ks,ps,h1,h2,bf (ak (ρ':=[fz (brd bd),fz (cD a),fz (.int (w:Int)),some (.ow (xF [a] [none])),none,none,none,none]) rfl (ak (ρ':=sb (brd bd) (cD a) (.int (w:Int)) [a] [none] (fz (.lst [cD a])) none none none) rfl (ak (ρ':=sb (brd bd) (cD a) (.int (w:Int)) ks ps (fz (.lst [])) none none none) (c8 h3) rfl)))⟩
end K1
namespace K1
open PySem L2 L3
def o6 {α:Type} [DecidableEq α] (n:Nat) (enc:α→D):Prop:=∀k x y,eqF (n+k) (enc x) (enc y)=some (decide (x=y))
theorem Ak (n:Nat) (xs ys:List D):eqF (n+1) (.tup xs) (.tup ys)=eqL (eqF n) xs ys:=rfl
theorem lJ (n:Nat) (i j:Int):eqF n (.int i) (.int j)=some (i==j):=by cases n<;>rfl
theorem vk {α:Type} [DecidableEq α] {enc:α→D}{f:D→D→Option Bool}(h:∀x y,f (enc x) (enc y)=some (decide (x=y))):∀(xs ys:List α),eqL f (xs.map enc) (ys.map enc)=some (decide (xs=ys))
 |[],[]=>rfl
 |[],_::_=>by simp[eqL]
 |_::_,[]=>by simp[eqL]
 |x::xs,y::ys=>by
  rw[List.map_cons,List.map_cons]
  show (match f (enc x) (enc y),eqL f (xs.map enc) (ys.map enc) with | some b,some r=>some (b&&r) | _,_=>none)=_
  rw[h,vk h xs ys]
  show some (decide (x=y)&&decide (xs=ys))=_
  congr 1
  by_cases h1:x=y<;>by_cases h2:xs=ys<;>simp[h1,h2]
theorem ui:o6 1 cD:=fun k a b=>by
 rw[Nat.add_comm]
 show (match eqF k (.int (a.1:Int)) (.int (b.1:Int)),eqL (eqF k) [.int (a.2:Int)] [.int (b.2:Int)] with | some b,some r=>some (b&&r) | _,_=>none)=_
 rw[lJ]
 show (match some ((a.1:Int)==(b.1:Int)),(match eqF k (.int (a.2:Int)) (.int (b.2:Int)),eqL (eqF k) [] [] with | some b,some r=>some (b&&r) | _,_=>none) with | some b,some r=>some (b&&r) | _,_=>none)=_
 rw[lJ]
 show some (((a.1:Int)==(b.1:Int))&&(((a.2:Int)==(b.2:Int))&&true))=_
 rw[iO,iO,Bool.and_true]
 congr 1
 obtain⟨a1,a2⟩:=a
 obtain⟨b1,b2⟩:=b
 by_cases h1:a1=b1<;>by_cases h2:a2=b2<;>simp[h1,h2]
theorem p6 {α:Type} [DecidableEq α] {enc:α→D}{n:Nat}(h:o6 n enc):o6 (n+1) (fun l:List α=> .lst (l.map enc)):=fun k x y=>by
 rw[show n+1+k=(n+k)+1 by omega]
 exact vk (h k) x y
theorem D7 {α:Type} [DecidableEq α] {enc:α→D}{n:Nat}(h:o6 n enc) (hn:n≤6) (x y:α):gEq (enc x) (enc y)=M.ret (.bl (decide (x=y))):=by
 have:=h (6 - n) x y
 rw[show n+(6 - n)=6 by omega] at this
 unfold gEq
 rw[this]
theorem ux {α:Type} [DecidableEq α] {enc:α→D}{n:Nat}(h:o6 n enc) (hn:n≤6) (x y:α):gNe (enc x) (enc y)=M.ret (.bl (!decide (x=y))):=by
 have:=h (6 - n) x y
 rw[show n+(6 - n)=6 by omega] at this
 unfold gNe
 rw[this]
abbrev cL (l:List Cell):D:= .lst (l.map cD)
theorem Da (a b:Cell):gNe (cD a) (cD b)=M.ret (.bl (!decide (a=b))):=ux ui (by decide) a b
theorem Df (a b:List Cell):gNe (cL a) (cL b)=M.ret (.bl (!decide (a=b))):=ux (p6 ui) (by decide) a b
def ic (c:Cell):List Int:=[(c.1:Int),(c.2:Int)]
def clt (a b:Cell):Bool:=if a.1=b.1 then decide (a.2<b.2) else decide (a.1<b.1)
def AB (k:Cell):List Cell→List Cell
 |[]=>[k]
 |x::r=>if clt k x then k::x::r else x::AB k r
def js:List Cell→List Cell
 |[]=>[]
 |k::r=>AB k (js r)
theorem uK (a b:Cell):eC (ic a) (ic b)=clt a b:=by
 show (if (a.1:Int)=(b.1:Int) then(if (a.2:Int)=(b.2:Int) then false else decide ((a.2:Int)<(b.2:Int))) else decide ((a.1:Int)<(b.1:Int)))=_
 unfold clt
 by_cases h:a.1=b.1
 ·rw[if_pos h,if_pos (by omega)]
  by_cases h2:a.2=b.2
  ·rw[if_pos (by omega),h2];simp
  ·rw[if_neg (by omega)]
   by_cases h3:a.2<b.2
   ·rw[decide_eq_true h3,decide_eq_true (by omega)]
   ·rw[decide_eq_false h3,decide_eq_false (by omega)]
 ·rw[if_neg h,if_neg (by omega)]
  by_cases h3:a.1<b.1
  ·rw[decide_eq_true h3,decide_eq_true (by omega)]
  ·rw[decide_eq_false h3,decide_eq_false (by omega)]
theorem xG (k:Cell):∀l:List Cell,insI (ic k) (l.map ic)=(AB k l).map ic
 |[]=>rfl
 |x::r=>by
  rw[List.map_cons]
  unfold insI AB
  rw[uK]
  cases clt k x with
  |true=>rfl
  |false=>rw[if_neg (by decide),if_neg (by decide),List.map_cons,xG k r]
theorem lI:∀l:List Cell,sortI (l.map ic)=(js l).map ic
 |[]=>rfl
 |k::r=>by
  rw[List.map_cons]
  unfold sortI js
  rw[lI r,xG]
theorem p4 {a b:Cell}(h:ic a=ic b):a=b:=by
 unfold ic at h
 injection h with h1 h2
 injection h2 with h2 _
 exact Prod.ext (Int.ofNat.inj h1) (Int.ofNat.inj h2)
theorem iF {x:Cell}{l:List Cell}:x∈js l↔x∈l:=by
 have h:=gp (x:=ic x) (l:=l.map ic)
 rw[lI] at h
 constructor
 ·intro hx
  obtain⟨y,hy,e⟩:=List.mem_map.mp (h.mp (List.mem_map.mpr ⟨x,hx,rfl⟩))
  rw[←p4 e];exact hy
 ·intro hx
  obtain⟨y,hy,e⟩:=List.mem_map.mp (h.mpr (List.mem_map.mpr ⟨x,hx,rfl⟩))
  rw[←p4 e];exact hy
def RiseC (l:List Cell):Prop:=l.Pairwise fun a b=>clt a b=true
theorem p_ {l:List Cell}:uh (l.map ic)↔RiseC l:=by
 unfold uh RiseC
 rw[List.pairwise_map]
 constructor<;>intro h<;>refine List.Pairwise.imp ?_ h<;>intro a b q
 ·rw[←uK];exact q
 ·rw[uK];exact q
theorem rq {l:List Cell}(h:l.Nodup):(l.map ic).Nodup:=by
 unfold List.Nodup at h⊢
 rw[List.pairwise_map]
 exact List.Pairwise.imp (fun h z=>h (p4 z)) h
theorem jc {l:List Cell}(h:l.Nodup):RiseC (js l):=by
 have:=i7 (rq h)
 rw[lI] at this
 exact p_.mp this
theorem kc {a b:List Cell}(ha:RiseC a) (hb:RiseC b) (h:∀x,x∈a↔x∈b):a=b:=by
 have e:=mI (p_.mpr ha) (p_.mpr hb) fun x=>by
  constructor
  ·intro hx
   obtain⟨y,hy,rfl⟩:=List.mem_map.mp hx
   exact List.mem_map.mpr ⟨y,(h y).mp hy,rfl⟩
  ·intro hx
   obtain⟨y,hy,rfl⟩:=List.mem_map.mp hx
   exact List.mem_map.mpr ⟨y,(h y).mpr hy,rfl⟩
 have inj:∀(a b:List Cell),a.map ic=b.map ic→a=b:=by
  intro a
  induction a with
  |nil=>intro b h;cases b with
   |nil=>rfl
   |cons=>simp at h
  |cons x a ih=>intro b h;cases b with
   |nil=>simp at h
   |cons y b=>
    rw[List.map_cons,List.map_cons] at h
    injection h with h1 h2
    rw[p4 h1,ih b h2]
 exact inj a b e
theorem RiseC.nodup {l:List Cell}(h:RiseC l):l.Nodup:=by
 refine List.Pairwise.imp ?_ h
 intro a b q z
 subst z
 unfold clt at q
 rw[if_pos rfl] at q
 have:=of_decide_eq_true q
 omega
theorem j5:∀ks:List Cell,fJ (ks.map keyOf)=some (ks.map ic)
 |[]=>rfl
 |k::r=>by
  show (match oX (keyOf k),fJ (r.map keyOf) with | some x,some xs=>some (x::xs) | _,_=>none)=_
  rw[j5 r]
  rfl
theorem CS {ks:List Cell}(h:ks.Nodup) (hl:ks.length<64):ib (ks.map ic)=true:=by
 unfold ib
 rw[List.length_map,decide_eq_true (rq h),decide_eq_true hl]
 simp
 intro a b _ z
 cases z
theorem lW {ks:List Cell}{ds:List D}(h:ks.Nodup) (hl:ks.length<64):gR [.dct (ks.map keyOf) ds]=M.ret (cL (js ks)):=by
 show (match fJ (ks.map keyOf) with | some ks=>if ib ks&&ks.all (fun k=>decide (k.length≤lim)) then M.ret (D.lst ((sortI ks).map tupI)) else M.stuck | none=>M.stuck)=_
 rw[j5]
 show (if ib (ks.map ic)&&(ks.map ic).all (fun k=>decide (k.length≤lim)) then M.ret (D.lst ((sortI (ks.map ic)).map tupI)) else M.stuck)=_
 rw[CS h hl]
 have:(ks.map ic).all (fun k=>decide (k.length≤lim))=true:=by
  simp
  intro a b _
  show 2≤lim
  decide
 rw[this,Bool.and_true,if_pos rfl,lI,List.map_map]
 rfl
def Cn (bd:List Str) (W w:Nat) (a b:Cell):Prop:=∃j,Rb (bq bd W w) a j b
theorem Cn.refl {bd:List Str}{W w:Nat}{a:Cell}:Cn bd W w a a:=⟨0,rfl⟩
theorem uF {bd:List Str}{W w:Nat}(hw:Ways w) {a b:Cell}(ha:On bd.length W a) (h:b∈bq bd W w a):a∈bq bd W w b:=by
 obtain⟨h1,h2,h3⟩:=(fE hw).mp h
 exact(fE hw).mpr ⟨ha,by rw[se];exact h2,h3.symm⟩
theorem sP {bd:List Str}{W w:Nat}(hw:Ways w) {a b:Cell}(ha:On bd.length W a):∀{j:Nat},Rb (bq bd W w) a j b→On bd.length W b
 |0,h=>by rw[show b=a from h];exact ha
 |j+1, .inl h=>sP hw ha h
 |j+1, .inr ⟨y,_,hy⟩=>((fE hw).mp hy).1
theorem lS {bd:List Str}{W w:Nat}{a c b:Cell}(h:c∈bq bd W w a):∀{j:Nat},Rb (bq bd W w) c j b→Rb (bq bd W w) a (j+1) b
 |0,q=> .inr ⟨a,rfl,by rw[show b=c from q];exact h⟩
 |j+1, .inl q=> .inl (lS h q)
 |j+1, .inr ⟨y,q,hy⟩=> .inr ⟨y,lS h q,hy⟩
theorem qP {bd:List Str}{W w:Nat}(hw:Ways w) {a b:Cell}(ha:On bd.length W a):∀{j:Nat},Rb (bq bd W w) a j b→Rb (bq bd W w) b j a
 |0,h=>show a=b from(show b=a from h).symm
 |j+1, .inl h=> .inl (qP hw ha h)
 |j+1, .inr ⟨y,q,hy⟩=>lS (uF hw (sP hw ha q) hy) (qP hw ha q)
theorem l7 {bd:List Str}{W w:Nat}{a b c:Cell}{i:Nat}(h:Rb (bq bd W w) a i b):∀{j:Nat},Rb (bq bd W w) b j c→Rb (bq bd W w) a (i+j) c
 |0,q=>by rw[show c=b from q];exact h
 |j+1, .inl q=> .inl (l7 h q)
 |j+1, .inr ⟨y,q,hy⟩=> .inr ⟨y,l7 h q,hy⟩
section
variable {bd : List Str} {W w : Nat} {a b c : Cell}
theorem Cn.on (hw:Ways w) (ha:On bd.length W a) (h:Cn bd W w a b):On bd.length W b:=let ⟨_,q⟩:=h;sP hw ha q
theorem Cn.symm (hw:Ways w) (ha:On bd.length W a) (h:Cn bd W w a b):Cn bd W w b a:=let ⟨j,q⟩:=h;⟨j,qP hw ha q⟩
theorem Cn.trans (h:Cn bd W w a b) (h2:Cn bd W w b c):Cn bd W w a c:=let ⟨i,q⟩:=h;let ⟨j,r⟩:=h2;⟨i+j,l7 q r⟩
theorem Cn.step (h:Cn bd W w a b) (h2:c∈bq bd W w b):Cn bd W w a c:=let ⟨j,q⟩:=h;⟨j+1, .inr ⟨b,q,h2⟩⟩
end
structure IsPatch (bd:List Str) (W w:Nat) (a:Cell) (P:List Cell):Prop where
 rise:RiseC P
 mem:∀x,x∈P↔Cn bd W w a x
theorem IsPatch.one {bd:List Str}{W w:Nat}{a:Cell}{P Q:List Cell}(h:IsPatch bd W w a P) (h2:IsPatch bd W w a Q):P=Q:=kc h.rise h2.rise fun x=>(h.mem x).trans (h2.mem x).symm
theorem lE {bd:List Str}{W:Nat}{ks:List Cell}(hn:ks.Nodup) (hon:∀x∈ks,On bd.length W x):ks.length≤bd.length*W:=by
 rw[←aX bd.length W]
 exact jf hn fun x hx=>aA.mpr (hon x hx)
theorem yV {bd:List Str}{W w:Nat}(hg:Brd bd W) (hs:bd.length*W<64) (hw:Ways w) (ha:On bd.length W a):∃P,IsPatch bd W w a P∧(aT [brd bd,cD a, .int (w:Int)]>>=fun d=>gR [d])=M.ret (cL P):=by
 obtain⟨k,ks,ps,h1,h2,h3⟩:=ir hg hw ha
 refine⟨js ks,⟨jc h1.nd,fun x=>iF.trans (h1.last x)⟩,?_⟩
 rw[h3,ar]
 exact lW h1.nd (Nat.lt_of_le_of_lt (lE h1.nd h2) hs)
theorem qm {bd:List Str}{W w:Nat}(hg:Brd bd W) (hs:bd.length*W<64) (hw:Ways w) {a:Cell}(ha:On bd.length W a):∃P,IsPatch bd W w a P∧bW [brd bd,cD a, .int (w:Int)]=M.ret (cL P):=by
 obtain⟨P,h1,h2⟩:=yV hg hs hw ha
 refine⟨P,h1,bf (ak (bX ((ao (ds:=[brd bd]) rfl rfl).trans hg.nb)) (ak (bX ((ao (ds:=[brd bd,cD a]) rfl rfl).trans (hg.nc ha))) (ak (bX ((ao (ds:=[.int (w:Int)]) rfl rfl).trans hw.nw)) (aR ?_))))⟩
 have e:(dA gR (aC (ax 3 aT (aC (dV 0) (aC (dV 1) (aC (dV 2) aN)))) aN)) [fz (brd bd),fz (cD a),fz (.int (w:Int))]=(aT [brd bd,cD a, .int (w:Int)]>>=fun d=>gR [d]):=by
  show ((aT [brd bd,cD a, .int (w:Int)]>>=fun x=>M.ret [x])>>=gR)=_
  match aT [brd bd,cD a, .int (w:Int)] with
  |none=>rfl
  |some (.ok a)=>rfl
  |some (.ex n)=>rfl
 exact e.trans h2
end K1
namespace K1
open PySem L2 L3
def Dw (w:Nat):List Cell→Bool
 |a::b::r=>nxt w a b&&Dw w (b::r)
 |_=>true
structure IsWay (bd:List Str) (W w:Nat) (a b:Cell) (p:List Cell):Prop where
 on:∀x∈p,On bd.length W x
 hd:p.head? =some a
 lst:p.getLast? =some b
 let':∀x∈p,lt bd x=lt bd a
 adj:Dw w p=true
theorem rM {α:Type}{l:List α}{x:α}:L2.atI (l++[x]) (-1)=some x:=by
 unfold L2.atI ixN
 rw[if_neg (by decide)]
 have: -((l++[x]).length:Int)≤ -1:=by simp;omega
 rw[if_pos this]
 have e:((-1:Int)+((l++[x]).length:Int)).toNat=l.length:=by simp;omega
 show (l++[x])[((-1:Int)+((l++[x]).length:Int)).toNat]? =some x
 rw[e]
 simp
theorem Dq {l:List Cell}{x:Cell}:e9 (cL (l++[x])) (.int (-1))=M.ret (cD x):=by
 show (match L2.atI ((l++[x]).map cD) (-1) with | some d=>M.ret d | none=>M.stuck)=_
 rw[List.map_append,show [x].map cD=[cD x] from rfl,rM]
theorem CF {l:List Cell}{i:Nat}{x:Cell}(h:l[i]? =some x):e9 (cL l) (.int (i:Int))=M.ret (cD x):=by
 show (match L2.atI (l.map cD) (i:Int) with | some d=>M.ret d | none=>M.stuck)=_
 rw[eY (x:=cD x) (by rw[List.getElem?_map,h];rfl)]
structure Trail (nb:Cell→List Cell) (b:Cell) (p:List Cell) (x:Cell):Prop where
 hd:p.head? =some x
 lst:p.getLast? =some b
 ch:∀l r u v,p=l++u::v::r→u∈nb v
end K1
namespace K1
open PySem L2 L3
theorem eG {α:Type}{f:D→M (Option D)}(enc:α→D) (g:α→D):∀(xs:List α),(∀x∈xs,f (enc x)=M.ret (some (g x)))→dF f (xs.map enc)=M.ret (xs.map g)
 |[],_=>rfl
 |x::xs,h=>by
  rw[List.map_cons,fK,h x (List.mem_cons_self ..),ar,eG enc g xs fun y hy=>h y (List.mem_cons_of_mem _ hy)]
  rfl
theorem itL {ρ:Rho}{i:Nat}{ds:List D}(h:ρ[i]? =some (fz (.lst ds))):cW (dV i) ρ=M.ret ds:=by
 unfold cW
 rw[pY h]
 rfl
def bT (ks:List Cell) (c:Cell):List Cell:=if c∈ks then ks else ks++[c]
def a7 (l:List Cell):List Cell:=l.foldl bT []
def aL (ks:List Cell):List D:=ks.map fun _=> .bl true
theorem gX {ks:List Cell}{c x:Cell}:x∈bT ks c↔x∈ks∨x=c:=by
 unfold bT
 split
 ·rename_i h
  exact⟨.inl,fun q=>q.elim id fun e=>by rw[e];exact h⟩
 ·simp
theorem kR:∀(l ks:List Cell),(ks.Nodup→(l.foldl bT ks).Nodup)∧(∀x,x∈l.foldl bT ks↔x∈ks∨x∈l)∧(l.foldl bT ks).length≤ks.length+l.length
 |[],ks=>⟨id,fun x=>by simp,by simp⟩
 |c::l,ks=>by
  obtain⟨h1,h2,h3⟩:=kR l (bT ks c)
  refine⟨fun hn=>h1 ?_,fun x=>?_,?_⟩
  ·unfold bT
   split
   ·exact hn
   ·rename_i hc
    refine List.nodup_append.mpr ⟨hn,by simp,fun y hy z hz e=>?_⟩
    have hz:z=c:=by simpa using hz
    rw[e,hz] at hy
    exact hc hy
  ·rw[List.foldl_cons,h2 x,gX]
   simp[or_assoc]
  ·rw[List.foldl_cons,List.length_cons]
   have:(bT ks c).length≤ks.length+1:=by unfold bT;split<;>simp
   omega
theorem gb {l:List Cell}{x:Cell}:x∈a7 l↔x∈l:=by
 unfold a7
 rw[(kR l []).2.1 x]
 simp
theorem lX (l:List Cell):(a7 l).Nodup:=(kR l []).1 List.nodup_nil
theorem j7 (l:List Cell):(a7 l).length≤l.length:=by have:=(kR l []).2.2;simpa[a7] using this
theorem pk {k:List Key}:∀{ks:List (List Key)}{l:List Cell},ks.length=l.length→km ks (aL l) k (.bl true)=aL l
 |[],[],_=>rfl
 |k'::ks,c::l,h=>by
  show (if k'=k then D.bl true else D.bl true)::km ks (aL l) k (.bl true)=_
  rw[pk (by simpa using h)]
  split<;>rfl
 |[],_::_,h=>by simp at h
 |_::_,[],h=>by simp at h
theorem yO {ks:List Cell}{c:Cell}(hl:ks.length<lim):kh (.dct (ks.map keyOf) (aL ks)) (cD c) (.bl true)=some (.dct ((bT ks c).map keyOf) (aL (bT ks c))):=by
 have hlen:(aL ks).length=ks.length:=by simp[aL]
 unfold bT
 by_cases h:c∈ks
 ·rw[if_pos h]
  show (match dX (cD c) with | some kk=>if (aL ks).length<lim then some (C.dct (dg (ks.map keyOf) (aL ks) kk) (cg (ks.map keyOf) (aL ks) kk (.bl true))) else none | none=>none)=_
  rw[fO]
  show (if (aL ks).length<lim then some (C.dct (dg (ks.map keyOf) (aL ks) (keyOf c)) (cg (ks.map keyOf) (aL ks) (keyOf c) (.bl true))) else none)=_
  rw[if_pos (by rw[hlen];exact hl)]
  obtain⟨d,e,_⟩:=j3 (ds:=aL ks) hlen.symm h
  unfold dg cg
  rw[e]
  show some (C.dct (ks.map keyOf) (km (ks.map keyOf) (aL ks) (keyOf c) (.bl true)))=_
  rw[pk (by simp)]
 ·rw[if_neg h,sZ h (by rw[hlen];exact hl)]
  simp[aL]
abbrev uc (l:List Cell):D:= .dct ((a7 l).map keyOf) (aL (a7 l))
theorem wu {l:List Cell}(hl:l.length<4000):jF [cL l]=M.ret (uc l):=by
 have e:∀(xs ks:List Cell),ks.length+xs.length<4000→forL (putN 2) (bN [2] (fb 1 (dV 2) (dC (.bl true)))) (xs.map cD) [fz (cL l),some (.ow (.dct (ks.map keyOf) (aL ks))),none]=M.ret (.nx [fz (cL l),some (.ow (.dct ((xs.foldl bT ks).map keyOf) (aL (xs.foldl bT ks)))),none]):=by
  intro xs
  induction xs with
  |nil=>intro ks _;rfl
  |cons x xs ih=>
   intro ks hk
   rw[List.length_cons] at hk
   have hle:(bT ks x).length≤ks.length+1:=by unfold bT;split<;>simp
   refine(dS (ρ1:=[fz (cL l),some (.ow (.dct (ks.map keyOf) (aL ks))),fz (cD x)]) (ρ2:=[fz (cL l),some (.ow (.dct ((bT ks x).map keyOf) (aL (bT ks x)))),none]) rfl ?_).trans (ih (bT ks x) (by omega))
   refine(a_ (ρ':=[fz (cL l),some (.ow (.dct ((bT ks x).map keyOf) (aL (bT ks x)))),fz (cD x)]) ?_).trans rfl
   show (match kh (.dct (ks.map keyOf) (aL ks)) (cD x) (.bl true) with | some c'=>M.ret (Out.nx [fz (cL l),some (.ow c'),fz (cD x)]) | none=>M.stuck)=_
   rw[yO (by rw[dc];omega)]
 refine bf (ak (ρ':=[fz (cL l),some (.ow (.dct [] [])),none]) rfl (ak (ρ':=[fz (cL l),some (.ow (.dct ((a7 l).map keyOf) (aL (a7 l)))),none]) (c8 (dQ (ds:=l.map cD) rfl (e l [] (by simpa using hl)))) rfl))
end K1
namespace K1
open PySem L2 L3
section
variable {bd : List Str} {W w : Nat} {a b c : Cell} {p q : List Cell}
theorem IsWay.one (ha:On bd.length W a):IsWay bd W w a a [a]:=⟨fun x hx=>(show x=a by simpa using hx)▸ha,rfl,rfl,fun x hx=>by rw[show x=a by simpa using hx],rfl⟩
end
theorem sT {x:Cell}:∀{l:List Cell},j8 (keyOf x) (l.map keyOf)=decide (x∈l)
 |[]=>rfl
 |y::l=>by
  show (decide (keyOf y=keyOf x)||j8 (keyOf x) (l.map keyOf))=_
  rw[sT]
  by_cases h:y=x
  ·subst h;simp
  ·have h2:¬keyOf y=keyOf x:=fun z=>h (fG z)
   rw[decide_eq_false h2,Bool.false_or,decide_eq_decide]
   constructor
   ·exact fun q=>List.mem_cons_of_mem _ q
   ·intro q
    rcases List.mem_cons.mp q with q | q
    ·exact absurd q.symm h
    ·exact q
theorem oM:∀{l:List Cell},jr (l.map cD)=some (l.map keyOf)
 |[]=>rfl
 |y::l=>by
  show (match dX (cD y),jr (l.map cD) with | some k,some ks=>some (k::ks) | _,_=>none)=_
  rw[oM]
  rfl
theorem vg {neg:Bool}{x:Cell}{l:List Cell}:nR neg (cD x) (cL l)=M.ret (.bl (if neg then !decide (x∈l) else decide (x∈l))):=by
 show (match dX (cD x),jr (l.map cD) with | some k,some ks=>M.ret (D.bl (if neg then !j8 k ks else j8 k ks)) | _,_=>M.stuck)=_
 rw[oM,fO]
 show M.ret (D.bl (if neg then !j8 (keyOf x) (l.map keyOf) else j8 (keyOf x) (l.map keyOf)))=_
 rw[sT]
theorem Ct (l:List Cell):aS [cL l]=M.ret (.int (l.length:Int)):=by
 show M.ret (D.int ((l.map cD).length:Int))=_
 rw[List.length_map]
theorem BS {a b:List Cell}(h:a.length+b.length≤4096):gj (cL a) (cL b)=M.ret (cL (a++b)):=by
 show (if (a.map cD).length+(b.map cD).length≤lim then M.ret (D.lst (a.map cD++b.map cD)) else M.stuck)=_
 rw[if_pos (by rw[List.length_map,List.length_map,dc];exact h),←List.map_append]
theorem yu (a b:Nat):gNe (.int (a:Int)) (.int (b:Int))=M.ret (.bl (!(a==b))):=by
 rw[ne_int,iO]
end K1
namespace K1
open PySem L2 L3
theorem xr {R W v:Nat}(h:v<R*W):∃c,On R W c∧(ai R W)[v]? =some c:=by
 have hv:v<(ai R W).length:=by rw[aX];exact h
 exact⟨(ai R W)[v],aA.mp (List.getElem_mem _),List.getElem?_eq_getElem hv⟩
theorem yg (ns:List Int) (hl:ns.length≤63) {R W:Nat}(h:0<R*W) (k:Nat):∃c,On R W c∧∃v:Nat,v<R*W∧aG [.scr ns, .int (k:Int), .int ((R*W:Nat):Int)]=M.ret (.int (v:Int))∧e9 (cL (ai R W)) (.int (v:Int))=M.ret (cD c):=by
 obtain⟨v,hv,e⟩:=eA ns hl k (R*W) h
 obtain⟨c,hc,e2⟩:=xr hv
 exact⟨c,hc,v,hv,e,CF e2⟩
theorem xc {R W:Nat}{δ:DE}{ρ:Rho}(h:δ ρ=M.ret (cL (ai R W))):dA aS (aC δ aN) ρ=M.ret (.int ((R*W:Nat):Int)):=by
 refine(cN (xs:=[cL (ai R W)]) (bA h rfl)).trans ?_
 rw[Ct,aX]
theorem x_ (ns:List Int) (hl:ns.length≤63) {R W:Nat}(h:0<R*W) {i s:Nat}{δk:DE}{ρ:Rho}{k:Nat}(hi:dV i ρ=M.ret (cL (ai R W))) (hs:dV s ρ=M.ret (.scr ns)) (hk:δk ρ=M.ret (.int (k:Int))):
 ∃c,On R W c∧d2 e9 (dV i) (ax 3 aG (aC (dV s) (aC δk (aC (dA aS (aC (dV i) aN)) aN)))) ρ=M.ret (cD c):=by
 obtain⟨c,hc,v,hv,e1,e2⟩:=yg ns hl h k
 exact⟨c,hc,(aM hi ((ao (ds:=[.scr ns, .int (k:Int), .int ((R*W:Nat):Int)]) (bA hs (bA hk (bA (xc hi) rfl))) rfl).trans e1)).trans e2⟩
end K1
namespace K1
open PySem L2 L3
def dfn (ks:List Cell) (f:Cell→D):C:= .dct (ks.map keyOf) (ks.map f)
def dfD (ks:List Cell) (f:Cell→D):D:= .dct (ks.map keyOf) (ks.map f)
def d8 (f:Cell→D) (x:Cell) (d:D):Cell→D:=fun y=>if y=x then d else f y
theorem jJ {f:Cell→D}{x:Cell}:∀{ks:List Cell},x∈ks→eU (ks.map keyOf) (ks.map f) (keyOf x)=some (f x)
 |y::ks,h=>by
  show (if keyOf y=keyOf x then some (f y) else eU (ks.map keyOf) (ks.map f) (keyOf x))=_
  by_cases e:y=x
  ·subst e;rw[if_pos rfl]
  ·rw[if_neg (fun z=>e (fG z))]
   rcases List.mem_cons.mp h with q | q
   ·exact absurd q.symm e
   ·exact jJ q
theorem lZ {ks:List Cell}{f:Cell→D}{x:Cell}(h:x∈ks):dw (dfD ks f) (cD x)=M.ret (f x):=by
 show (match ((dX (cD x)).map fun k=>eU (ks.map keyOf) (ks.map f) k) with | some (some v)=>M.ret v | _=>M.stuck)=_
 rw[fO]
 show (match some (eU (ks.map keyOf) (ks.map f) (keyOf x)) with | some (some v)=>M.ret v | _=>M.stuck)=_
 rw[jJ h]
theorem z7 {ks:List Cell}{f:Cell→D}{x:Cell}{v:D}(h:x∈ks):getM (dfD ks f) (cD x) v=M.ret (f x):=by
 show (match ((dX (cD x)).map fun k=>eU (ks.map keyOf) (ks.map f) k) with | some (some x)=>M.ret x | some none=>M.ret v | none=>M.stuck)=_
 rw[fO]
 show (match some (eU (ks.map keyOf) (ks.map f) (keyOf x)) with | some (some x)=>M.ret x | some none=>M.ret v | none=>M.stuck)=_
 rw[jJ h]
theorem yQ {ks:List Cell}{f:Cell→D}{x:Cell}{v:D}(h:x∉ks):getM (dfD ks f) (cD x) v=M.ret v:=by
 show (match ((dX (cD x)).map fun k=>eU (ks.map keyOf) (ks.map f) k) with | some (some x)=>M.ret x | some none=>M.ret v | none=>M.stuck)=_
 rw[fO]
 show (match some (eU (ks.map keyOf) (ks.map f) (keyOf x)) with | some (some x)=>M.ret x | some none=>M.ret v | none=>M.stuck)=_
 rw[fw h]
theorem pI {f:Cell→D}{x:Cell}{d:D}:∀{ks:List Cell},km (ks.map keyOf) (ks.map f) (keyOf x) d=ks.map (d8 f x d)
 |[]=>rfl
 |y::ks=>by
  show (if keyOf y=keyOf x then d else f y)::km (ks.map keyOf) (ks.map f) (keyOf x) d=_
  rw[pI,List.map_cons]
  congr 1
  unfold d8
  by_cases e:y=x
  ·subst e;rw[if_pos rfl,if_pos rfl]
  ·rw[if_neg (fun z=>e (fG z)),if_neg e]
theorem AV {ks:List Cell}{f:Cell→D}{x:Cell}{d:D}(hl:ks.length<lim):kh (dfn ks f) (cD x) d=some (dfn (bT ks x) (d8 f x d)):=by
 show (match dX (cD x) with | some kk=>if (ks.map f).length<lim then some (C.dct (dg (ks.map keyOf) (ks.map f) kk) (cg (ks.map keyOf) (ks.map f) kk d)) else none | none=>none)=_
 rw[fO]
 show (if (ks.map f).length<lim then some (C.dct (dg (ks.map keyOf) (ks.map f) (keyOf x)) (cg (ks.map keyOf) (ks.map f) (keyOf x) d)) else none)=_
 rw[if_pos (by rw[List.length_map];exact hl)]
 unfold dfn bT dg cg
 by_cases h:x∈ks
 ·rw[jJ h,if_pos h]
  show some (C.dct (ks.map keyOf) (km (ks.map keyOf) (ks.map f) (keyOf x) d))=_
  rw[pI]
 ·rw[fw h,if_neg h]
  show some (C.dct (ks.map keyOf++[keyOf x]) (ks.map f++[d]))=_
  have e1:ks.map f=ks.map (d8 f x d):=List.map_congr_left fun y hy=>by
   unfold d8;rw[if_neg (fun z:y=x=>h (z▸hy))]
  have e2:(ks++[x]).map (d8 f x d)=ks.map (d8 f x d)++[d]:=by
   rw[List.map_append]
   congr 1
   show [d8 f x d x]=[d]
   unfold d8;rw[if_pos rfl]
  rw[List.map_append,e1,e2]
  rfl
theorem lD {i:Nat}{δk δv:DE}{ρ:Rho}{ks:List Cell}{f:Cell→D}{x:Cell}{d:D}(h0:ρ[i]? =some (some (.ow (dfn ks f)))) (hv:δv ρ=M.ret d) (hk:δk ρ=M.ret (cD x)) (hl:ks.length<lim):
 fb i δk δv ρ=M.ret (.nx (ρ.set i (some (.ow (dfn (bT ks x) (d8 f x d)))))):=by
 unfold fb tP
 rw[h0]
 show (δv ρ>>=fun v=>δk ρ>>=fun k=>match kh (dfn ks f) k v with | some c'=>M.ret (Out.nx (ρ.set i (some (.ow c')))) | none=>M.stuck)=_
 rw[hv,ar,hk,ar,AV hl]
theorem eN {bd:List Str}{W:Nat}(hg:Brd bd W):bC [brd bd]=M.ret (cL (ai bd.length W)):=by
 have h8:=hg.r8
 have w8:=hg.w8
 have hm:bd.length*W≤64:=Nat.mul_le_mul h8 w8
 have hfl:(List.range bd.length).flatMap (fun r=>(aO W r).map cD)=(ai bd.length W).map cD:=by
  unfold ai;rw[List.map_flatMap]
 have e:=dh (put:=putN 2) (body:=bN [2] (bh 1 (d2 gj (dV 1) (br 0 (fun ρ=>(aC (dA aS (aC (d2 aK (dV 0) (dC (.int 0))) aN)) aN) ρ>>=eR) cb (dA aU (aC (dV 3) (aC (dV 0) aN))))))) (fun (k:Nat)=>D.int (k:Int)) (fun acc=>[fz (brd bd),fz (.lst acc),none]) (fun r=>(aO W r).map cD) (B:=64) (List.range bd.length) []
  (by rw[List.nil_append,hfl,List.length_map,aX];exact hm) fun r hr acc hB=>by
   refine⟨[fz (brd bd),fz (.lst acc),fz (.int (r:Int))],rfl,?_⟩
   refine(a_ (ρ':=[fz (brd bd),fz (.lst (acc++(aO W r).map cD)),fz (.int (r:Int))]) ?_).trans rfl
   have hc:br 0 (fun ρ=>(aC (dA aS (aC (d2 aK (dV 0) (dC (.int 0))) aN)) aN) ρ>>=eR) cb (dA aU (aC (dV 3) (aC (dV 0) aN))) [fz (brd bd),fz (.lst acc),fz (.int (r:Int))]=M.ret (.lst ((aO W r).map cD)):=by
    refine bS (vJ (n:=W) (hg.len0 rfl) (by omega)) ?_ (by simp[aO,dc];omega)
    rw[show (aO W r).map cD=(List.range W).map (fun k=>cD (r,k)) by simp[aO,List.map_map]]
    exact eG (fun (k:Nat)=>D.int (k:Int)) (fun k=>cD (r,k)) _ fun k _=>rfl
   refine(aQ (d:= .lst (acc++(aO W r).map cD)) ((aM (x:= .lst acc) (y:= .lst ((aO W r).map cD)) rfl hc).trans ?_)).trans rfl
   show (if acc.length+((aO W r).map cD).length≤lim then M.ret (D.lst (acc++(aO W r).map cD)) else M.stuck)=_
   rw[if_pos (by rw[List.length_append] at hB;rw[dc];omega)]
 rw[List.nil_append,hfl] at e
 refine bf (ak (ρ':=[fz (brd bd),fz (.lst []),none]) rfl (ak (ρ':=[fz (brd bd),fz (.lst ((ai bd.length W).map cD)),none]) (c8 (dQ (vJ (n:=bd.length) (t9 rfl) (by omega)) e)) ?_))
 rfl
def uV (R W w:Nat) (c:Cell) (d e:Int):Bool:=((decide (0≤(c.1:Int)+d)&&decide ((c.1:Int)+d<(R:Int)))&&(decide (0≤(c.2:Int)+e)&&decide ((c.2:Int)+e<(W:Int))))&&((!(d==0&&e==0))&&((w==8)||(d*e==0)))
def i_ (R W w:Nat) (c:Cell) (d e:Int):List Cell:=if uV R W w c d e then [(((c.1:Int)+d).toNat,((c.2:Int)+e).toNat)] else []
def jz (R W w:Nat) (c:Cell):List Cell:=[-1,0,1].flatMap fun d=>[-1,0,1].flatMap fun e=>i_ R W w c d e
theorem zf (R W w:Nat) (c:Cell) (d e:Int):(i_ R W w c d e).length≤1:=by unfold i_;split<;>simp
theorem rh (R W w:Nat) (c:Cell):(jz R W w c).length≤9:=by
 have h:=zf R W w c
 simp only[jz,List.flatMap_cons,List.flatMap_nil,List.length_append,List.append_nil]
 have:=h (-1) (-1);have:=h (-1) 0;have:=h (-1) 1
 have:=h 0 (-1);have:=h 0 0;have:=h 0 1
 have:=h 1 (-1);have:=h 1 0;have:=h 1 1
 omega
theorem mJ {R W w:Nat}(hw:Ways w) {c x:Cell}(hc:On R W c):x∈jz R W w c↔On R W x∧nxt w c x=true:=by
 obtain⟨c1,c2⟩:=c
 obtain⟨x1,x2⟩:=x
 have hc1:c1<R:=hc.1
 have hc2:c2<W:=hc.2
 have key:(x1,x2)∈jz R W w (c1,c2)↔∃d∈[(-1:Int),0,1],∃e∈[(-1:Int),0,1],uV R W w (c1,c2) d e=true∧(x1:Int)=c1+d∧(x2:Int)=c2+e:=by
  unfold jz i_
  simp only[List.mem_flatMap]
  constructor
  ·rintro⟨d,hd,e,he,h⟩
   by_cases hb:uV R W w (c1,c2) d e=true
   ·rw[if_pos hb] at h
    have hb':=hb
    unfold uV at hb'
    simp only[Bool.and_eq_true,decide_eq_true_eq] at hb'
    have h:=List.mem_singleton.mp h
    rw[Prod.mk.injEq] at h
    exact⟨d,hd,e,he,hb,by omega,by omega⟩
   ·rw[if_neg hb] at h;cases h
  ·rintro⟨d,hd,e,he,hb,h1,h2⟩
   refine⟨d,hd,e,he,?_⟩
   rw[if_pos hb]
   exact List.mem_singleton.mpr (by rw[Prod.mk.injEq];exact⟨by omega,by omega⟩)
 rw[key]
 unfold On uV nxt dif
 constructor
 ·rintro⟨d,hd,e,he,hb,h1,h2⟩
  simp only[Bool.and_eq_true,decide_eq_true_eq,Bool.or_eq_true,beq_iff_eq,Bool.not_eq_true',Bool.and_eq_false_imp,beq_eq_false_iff_ne] at hb
  simp only[List.mem_cons,List.not_mem_nil,or_false] at hd he
  obtain⟨⟨⟨a1,a2⟩,a3,a4⟩,a5,a6⟩:=hb
  refine⟨⟨by simp only at*;omega,by simp only at*;omega⟩,?_⟩
  rcases hw with rfl | rfl
  ·rw[if_pos rfl,decide_eq_true_eq]
   rcases hd with rfl | rfl | rfl<;>rcases he with rfl | rfl | rfl<;>simp at a5 a6<;>simp only<;>omega
  ·rw[if_neg (by decide),decide_eq_true_eq]
   rcases hd with rfl | rfl | rfl<;>rcases he with rfl | rfl | rfl<;>simp at a5 a6<;>simp only<;>omega
 ·rintro⟨⟨h1,h2⟩,h3⟩
  simp only at h1 h2
  refine⟨(x1:Int) - c1,?_,(x2:Int) - c2,?_,?_,by omega,by omega⟩
  ·rcases hw with rfl | rfl
   ·rw[if_pos rfl,decide_eq_true_eq] at h3;simp only[List.mem_cons,List.not_mem_nil,or_false];simp only at h3;omega
   ·rw[if_neg (by decide),decide_eq_true_eq] at h3;simp only[List.mem_cons,List.not_mem_nil,or_false];simp only at h3;omega
  ·rcases hw with rfl | rfl
   ·rw[if_pos rfl,decide_eq_true_eq] at h3;simp only[List.mem_cons,List.not_mem_nil,or_false];simp only at h3;omega
   ·rw[if_neg (by decide),decide_eq_true_eq] at h3;simp only[List.mem_cons,List.not_mem_nil,or_false];simp only at h3;omega
  ·simp only[Bool.and_eq_true,decide_eq_true_eq,Bool.or_eq_true,beq_iff_eq,Bool.not_eq_true',Bool.and_eq_false_imp,beq_eq_false_iff_ne]
   refine⟨⟨⟨by omega,by omega⟩,by omega,by omega⟩,?_,?_⟩
   ·intro z
    rcases hw with rfl | rfl
    ·rw[if_pos rfl,decide_eq_true_eq] at h3;simp only at h3;omega
    ·rw[if_neg (by decide),decide_eq_true_eq] at h3;simp only at h3;omega
   ·rcases hw with rfl | rfl
    ·rw[if_pos rfl,decide_eq_true_eq] at h3
     refine .inr ?_
     simp only at h3
     have:(x1:Int) - c1=0∨(x2:Int) - c2=0:=by omega
     rcases this with z | z<;>rw[z]<;>simp
    ·exact .inl rfl
end K1
namespace K1
open PySem L2 L3
def AA:DS:=(bN [5,6,7,8] (aB (bh 6 (d2 dE (d2 aK (dV 1) (dC (.int 0))) (dV 4))) (aB (bh 7 (d2 dE (d2 aK (dV 1) (dC (.int 1))) (dV 5))) (aB (bh 8 (dI (chI (fun i j=>decide (i≤j)) (fun i j=>decide (i<j)) (dC (.int 0)) (dV 6) (dA aS (aC (dV 0) aN))) (chI (fun i j=>decide (i≤j)) (fun i j=>decide (i<j)) (dC (.int 0)) (dV 7) (dA aS (aC (d2 aK (dV 0) (dC (.int 0))) aN))))) (sIf (jH (bU (dV 8)) (jH (tB' (d2 gNe (dA aU (aC (dV 4) (aC (dV 5) aN))) (dA aU (aC (dC (.int 0)) (aC (dC (.int 0)) aN))))) (dOr (tB' (d2 gEq (dV 2) (dC (.int 8)))) (tB' (d2 gEq (d2 fX (dV 4) (dV 5)) (dC (.int 0))))))) (gY 3 (dA aU (aC (dV 6) (aC (dV 7) aN)))) cf)))))
theorem zN (a b c d:Int):gNe (.tup [.int a, .int b]) (.tup [.int c, .int d])=M.ret (.bl (!(a==c&&b==d))):=by
 show (match eqF 6 (.tup [.int a, .int b]) (.tup [.int c, .int d]) with | some b=>M.ret (D.bl (!b)) | none=>M.stuck)=_
 have:eqF 6 (.tup [.int a, .int b]) (.tup [.int c, .int d])=some (a==c&&b==d):=by
  rw[show (6:Nat)=5+1 from rfl,Ak]
  unfold eqL
  rw[lJ]
  cases h:(a==c)
  ·rfl
  ·unfold eqL
   rw[lJ]
   cases h2:(b==d)
   ·rfl
   ·rfl
 rw[this]
theorem zM {bd:List Str}{W w:Nat}(hg:Brd bd W) {c:Cell}{d e:Int}(hd:d∈[(-1:Int),0,1]) (he:e∈[(-1:Int),0,1]) {acc:List D}(hl:(acc++(i_ bd.length W w c d e).map cD).length≤64):
 AA [fz (brd bd),fz (cD c),fz (.int (w:Int)),some (.ow (.lst acc)),fz (.int d),fz (.int e),none,none,none]=M.ret (.nx [fz (brd bd),fz (cD c),fz (.int (w:Int)),some (.ow (.lst (acc++(i_ bd.length W w c d e).map cD))),fz (.int d),none,none,none,none]):=by
 have hin:dI (chI (fun i j=>decide (i≤j)) (fun i j=>decide (i<j)) (dC (.int 0)) (dV 6) (dA aS (aC (dV 0) aN))) (chI (fun i j=>decide (i≤j)) (fun i j=>decide (i<j)) (dC (.int 0)) (dV 7) (dA aS (aC (d2 aK (dV 0) (dC (.int 0))) aN))) [fz (brd bd),fz (cD c),fz (.int (w:Int)),some (.ow (.lst acc)),fz (.int d),fz (.int e),fz (.int ((c.1:Int)+d)),fz (.int ((c.2:Int)+e)),none]=
  M.ret (.bl ((decide (0≤(c.1:Int)+d)&&decide ((c.1:Int)+d<(bd.length:Int)))&&(decide (0≤(c.2:Int)+e)&&decide ((c.2:Int)+e<(W:Int))))):=AQ (AF rfl (t9 rfl)) (AF rfl (hg.len0 rfl))
 have hlm: -(2:Int) ^ 64<d∧d<2 ^ 64:=by
  simp only[List.mem_cons,List.not_mem_nil,or_false] at hd
  rcases hd with rfl | rfl | rfl<;>decide
 have ht:∀{b8:Bool},jH (bU (dV 8)) (jH (tB' (d2 gNe (dA aU (aC (dV 4) (aC (dV 5) aN))) (dA aU (aC (dC (.int 0)) (aC (dC (.int 0)) aN))))) (dOr (tB' (d2 gEq (dV 2) (dC (.int 8)))) (tB' (d2 gEq (d2 fX (dV 4) (dV 5)) (dC (.int 0)))))) [fz (brd bd),fz (cD c),fz (.int (w:Int)),some (.ow (.lst acc)),fz (.int d),fz (.int e),fz (.int ((c.1:Int)+d)),fz (.int ((c.2:Int)+e)),fz (.bl b8)]=
  M.ret (b8&&((!(d==0&&e==0))&&((w==8)||(d*e==0)))):=fun {b8}=>
  uW (gA rfl) (uW (fZ ((aM (x:= .tup [.int d, .int e]) (y:= .tup [.int 0, .int 0]) rfl rfl).trans (zN ..))) (yT (fZ ((aM (x:= .int (w:Int)) (y:= .int 8) rfl rfl).trans ((eq_int _ _).trans (by rw[show ((w:Int)==8)=(w==8) from iO w 8])))) (fZ ((aM (x:= .int (d*e)) (y:= .int 0) ((aM (x:= .int d) (y:= .int e) rfl rfl).trans (fN (.inl hlm))) rfl).trans (eq_int _ _)))))
 have pre:∀{ρ':Rho},sIf (jH (bU (dV 8)) (jH (tB' (d2 gNe (dA aU (aC (dV 4) (aC (dV 5) aN))) (dA aU (aC (dC (.int 0)) (aC (dC (.int 0)) aN))))) (dOr (tB' (d2 gEq (dV 2) (dC (.int 8)))) (tB' (d2 gEq (d2 fX (dV 4) (dV 5)) (dC (.int 0))))))) (gY 3 (dA aU (aC (dV 6) (aC (dV 7) aN)))) cf [fz (brd bd),fz (cD c),fz (.int (w:Int)),some (.ow (.lst acc)),fz (.int d),fz (.int e),fz (.int ((c.1:Int)+d)),fz (.int ((c.2:Int)+e)),fz (.bl ((decide (0≤(c.1:Int)+d)&&decide ((c.1:Int)+d<(bd.length:Int)))&&(decide (0≤(c.2:Int)+e)&&decide ((c.2:Int)+e<(W:Int)))))]=M.ret (.nx ρ')→
  AA [fz (brd bd),fz (cD c),fz (.int (w:Int)),some (.ow (.lst acc)),fz (.int d),fz (.int e),none,none,none]=M.ret (.nx (fgt [5,6,7,8] ρ')):=fun {ρ'} h=>
  a_ (ak (ρ':=[fz (brd bd),fz (cD c),fz (.int (w:Int)),some (.ow (.lst acc)),fz (.int d),fz (.int e),fz (.int ((c.1:Int)+d)),none,none]) rfl
   (ak (ρ':=[fz (brd bd),fz (cD c),fz (.int (w:Int)),some (.ow (.lst acc)),fz (.int d),fz (.int e),fz (.int ((c.1:Int)+d)),fz (.int ((c.2:Int)+e)),none]) rfl (ak ((aQ hin).trans rfl) h)))
 have hbe:uV bd.length W w c d e=(((decide (0≤(c.1:Int)+d)&&decide ((c.1:Int)+d<(bd.length:Int)))&&(decide (0≤(c.2:Int)+e)&&decide ((c.2:Int)+e<(W:Int))))&&((!(d==0&&e==0))&&((w==8)||(d*e==0)))):=rfl
 have ht:=ht (b8:=(decide (0≤(c.1:Int)+d)&&decide ((c.1:Int)+d<(bd.length:Int)))&&(decide (0≤(c.2:Int)+e)&&decide ((c.2:Int)+e<(W:Int))))
 rw[←hbe] at ht
 by_cases hb:uV bd.length W w c d e=true
 ·have hb':=hb
  rw[hbe] at hb'
  simp only[Bool.and_eq_true,decide_eq_true_eq] at hb'
  have eg:(i_ bd.length W w c d e).map cD=[.tup [.int ((c.1:Int)+d), .int ((c.2:Int)+e)]]:=by
   unfold i_
   rw[if_pos hb]
   show [D.tup [.int ((((c.1:Int)+d).toNat:Nat):Int), .int ((((c.2:Int)+e).toNat:Nat):Int)]]=_
   rw[Int.toNat_of_nonneg (by omega),Int.toNat_of_nonneg (by omega)]
  rw[eg] at hl⊢
  rw[hb] at ht
  refine(pre (ρ':=[fz (brd bd),fz (cD c),fz (.int (w:Int)),some (.ow (.lst (acc++[.tup [.int ((c.1:Int)+d), .int ((c.2:Int)+e)]]))),fz (.int d),fz (.int e),fz (.int ((c.1:Int)+d)),fz (.int ((c.2:Int)+e)),fz (.bl ((decide (0≤(c.1:Int)+d)&&decide ((c.1:Int)+d<(bd.length:Int)))&&(decide (0≤(c.2:Int)+e)&&decide ((c.2:Int)+e<(W:Int)))))]) (el ht ?_)).trans rfl
  show (if acc.length<lim then M.ret (Out.nx [fz (brd bd),fz (cD c),fz (.int (w:Int)),some (.ow (.lst (acc++[.tup [.int ((c.1:Int)+d), .int ((c.2:Int)+e)]]))),fz (.int d),fz (.int e),fz (.int ((c.1:Int)+d)),fz (.int ((c.2:Int)+e)),_]) else M.stuck)=_
  rw[if_pos (by rw[List.length_append] at hl;rw[dc];simp at hl;omega)]
 ·have eg:(i_ bd.length W w c d e).map cD=[]:=by
   unfold i_
   rw[if_neg hb]
   rfl
  rw[eg,List.append_nil]
  rw[Bool.eq_false_iff.mpr hb] at ht
  exact(pre (dP ht rfl)).trans rfl
theorem nr {bd:List Str}{W w:Nat}(hg:Brd bd W) {c:Cell}:c7 [brd bd,cD c, .int (w:Int)]=M.ret (cL (jz bd.length W w c)):=by
 have hin:∀d∈[(-1:Int),0,1],∀acc:List D,(acc++([(-1:Int),0,1].flatMap fun e=>(i_ bd.length W w c d e).map cD)).length≤64→
  forL (putN 5) AA ([(-1:Int),0,1].map D.int) [fz (brd bd),fz (cD c),fz (.int (w:Int)),some (.ow (.lst acc)),fz (.int d),none,none,none,none]=
   M.ret (.nx [fz (brd bd),fz (cD c),fz (.int (w:Int)),some (.ow (.lst (acc++([(-1:Int),0,1].flatMap fun e=>(i_ bd.length W w c d e).map cD)))),fz (.int d),none,none,none,none]):=fun d hd acc hl=>
  dh (B:=64) D.int (fun acc=>[fz (brd bd),fz (cD c),fz (.int (w:Int)),some (.ow (.lst acc)),fz (.int d),none,none,none,none]) (fun e=>(i_ bd.length W w c d e).map cD) [(-1:Int),0,1] acc hl fun e he acc' hl'=>⟨_,rfl,zM hg hd he hl'⟩
 have hfl:([(-1:Int),0,1].flatMap fun d=>[(-1:Int),0,1].flatMap fun e=>(i_ bd.length W w c d e).map cD)=(jz bd.length W w c).map cD:=by
  unfold jz
  simp only[List.map_flatMap]
 have hout:=dh (put:=putN 4) (body:=bN [4,5,6,7,8] (cT (putN 5) (nq (dA aU (aC (d1 ur (dC (.int 1))) (aC (dC (.int 0)) (aC (dC (.int 1)) aN))))) AA)) (B:=64) D.int (fun acc=>[fz (brd bd),fz (cD c),fz (.int (w:Int)),some (.ow (.lst acc)),none,none,none,none,none]) (fun d=>[(-1:Int),0,1].flatMap fun e=>(i_ bd.length W w c d e).map cD) [(-1:Int),0,1] []
  (by rw[List.nil_append,hfl,List.length_map];have:=rh bd.length W w c;omega) fun d hd acc hl=>⟨_,rfl,(a_ (dQ (ds:=[(-1:Int),0,1].map D.int) rfl (hin d hd acc hl))).trans rfl⟩
 rw[List.nil_append,hfl] at hout
 refine bf (ak (ρ':=[fz (brd bd),fz (cD c),fz (.int (w:Int)),some (.ow (.lst [])),none,none,none,none,none]) rfl (ak (c8 (dQ (ds:=[(-1:Int),0,1].map D.int) rfl hout)) ?_))
 rfl
end K1
namespace K1
open PySem L2 L3
theorem vE {bd:List Str}{W:Nat}(hg:Brd bd W) {x:Cell}(hx:On bd.length W x) {b i:Nat}{ρ:Rho}(hb:dV b ρ=M.ret (brd bd)) (hi:dV i ρ=M.ret (cD x)):d2 iI (d2 aK (dV b) (d2 aK (dV i) (dC (.int 0)))) (d2 aK (dV i) (dC (.int 1))) ρ=M.ret (sg (lt bd x)):=by
 have h1:d2 aK (dV i) (dC (.int 0)) ρ=M.ret (.int (x.1:Int)):=(aM (y:= .int 0) hi rfl).trans Dp.1
 have h2:d2 aK (dV i) (dC (.int 1)) ρ=M.ret (.int (x.2:Int)):=(aM (y:= .int 1) hi rfl).trans Dp.2
 refine(aM ((aM hb h1).trans (yj hx.1)) h2).trans (vn ?_)
 rw[(hg.rows _ (getD_mem hx.1)).len]
 exact hx.2
theorem yI (a b:Cell):HT.lexLt (ic a) (ic b)=clt a b:=by
 show (if (a.1:Int)=(b.1:Int) then(if (a.2:Int)=(b.2:Int) then false else decide ((a.2:Int)<(b.2:Int))) else decide ((a.1:Int)<(b.1:Int)))=_
 unfold clt
 by_cases h1:a.1=b.1
 ·rw[if_pos (by omega),if_pos h1]
  by_cases h2:a.2=b.2
  ·rw[if_pos (by omega),decide_eq_false (by omega)]
  ·rw[if_neg (by omega),decide_eq_decide];omega
 ·rw[if_neg (by omega),if_neg h1,decide_eq_decide];omega
theorem xU (a b:Cell):ltT (cD a) (cD b)=some (clt a b):=by
 show some (HT.lexLt (ic a) (ic b))=_
 rw[yI]
theorem Aa (a b:Cell):rS (cD a) (cD b)=M.ret (.bl (clt a b)):=by
 unfold rS;rw[xU]
def bH (a b:Cell):Cell:=if clt b a then b else a
theorem Az (a b:Cell):oR [cD a,cD b]=M.ret (cD (bH a b)):=by
 show (match ltT (cD b) (cD a) with | some r=>M.ret (if r then cD b else cD a) | none=>M.stuck)=_
 rw[xU]
 unfold bH
 cases clt b a<;>rfl
def rank (W:Nat) (x:Cell):Nat:=x.1*W+x.2
theorem eT {R W:Nat}{a b:Cell}(ha:On R W a) (hb:On R W b):clt a b=true↔rank W a<rank W b:=by
 unfold clt rank
 have h1:=ha.2
 have h2:=hb.2
 by_cases h:a.1=b.1
 ·rw[if_pos h,decide_eq_true_eq,h];omega
 ·rw[if_neg h,decide_eq_true_eq]
  constructor
  ·intro q
   have:(a.1+1)*W≤b.1*W:=Nat.mul_le_mul_right _ q
   rw[Nat.add_mul,Nat.one_mul] at this
   omega
  ·intro q
   refine Classical.byContradiction fun z=>?_
   have:(b.1+1)*W≤a.1*W:=Nat.mul_le_mul_right _ (by omega)
   rw[Nat.add_mul,Nat.one_mul] at this
   omega
theorem jq {R W:Nat}{a b:Cell}(ha:On R W a) (hb:On R W b) (h:rank W a=rank W b):a=b:=by
 have n1:¬clt a b=true:=fun z=>by have:=(eT ha hb).mp z;omega
 have n2:¬clt b a=true:=fun z=>by have:=(eT hb ha).mp z;omega
 unfold clt at n1 n2
 obtain⟨a1,a2⟩:=a
 obtain⟨b1,b2⟩:=b
 simp only at n1 n2
 by_cases h1:a1=b1
 ·rw[if_pos h1,decide_eq_true_eq] at n1
  rw[if_pos h1.symm,decide_eq_true_eq] at n2
  rw[Prod.mk.injEq];exact⟨h1,by omega⟩
 ·rw[if_neg h1,decide_eq_true_eq] at n1
  rw[if_neg (Ne.symm h1),decide_eq_true_eq] at n2
  omega
theorem zP {R W:Nat}{a:Cell}(ha:On R W a):rank W a<R*W:=by
 unfold rank
 have:(a.1+1)*W≤R*W:=Nat.mul_le_mul_right _ ha.1
 rw[Nat.add_mul,Nat.one_mul] at this
 have:=ha.2
 omega
theorem wd (a b:Cell):bH a b=a∨bH a b=b:=by unfold bH;split;exact .inr rfl;exact .inl rfl
theorem vO {R W:Nat}{a b:Cell}(ha:On R W a) (hb:On R W b):rank W (bH a b)≤rank W a∧rank W (bH a b)≤rank W b:=by
 unfold bH
 by_cases h:clt b a=true
 ·rw[if_pos h];have:=(eT hb ha).mp h;omega
 ·rw[if_neg h]
  have:¬rank W b<rank W a:=fun z=>h ((eT hb ha).mpr z)
  omega
theorem tX {α:Type}{f g:α→Nat}:∀{l:List α},(∀x∈l,f x≤g x)→(l.map f).sum≤(l.map g).sum
 |[],_=>Nat.le_refl _
 |a::l,h=>by
  rw[List.map_cons,List.map_cons,List.sum_cons,List.sum_cons]
  exact Nat.add_le_add (h a (List.mem_cons_self ..)) (tX fun x hx=>h x (List.mem_cons_of_mem _ hx))
theorem yc {α:Type}{f g:α→Nat}:∀{l:List α},(∀x∈l,f x≤g x)→(∃x∈l,f x<g x)→(l.map f).sum<(l.map g).sum
 |[],_,⟨x,hx,_⟩=>by cases hx
 |a::l,h,⟨x,hx,hl⟩=>by
  rw[List.map_cons,List.map_cons,List.sum_cons,List.sum_cons]
  have h1:=h a (List.mem_cons_self ..)
  have h2:=tX fun x hx=>h x (List.mem_cons_of_mem _ hx)
  rcases List.mem_cons.mp hx with rfl | hx
  ·omega
  ·have:=yc (fun x hx=>h x (List.mem_cons_of_mem _ hx)) ⟨x,hx,hl⟩
   omega
section
variable {bd : List Str} {W w : Nat}
def df (s:(Cell→Cell)×Bool) (p:Cell×Cell):(Cell→Cell)×Bool:=
 if s.1 p.1=s.1 p.2 then s else(fun z=>if z=p.2 then bH (s.1 p.1) (s.1 p.2) else if z=p.1 then bH (s.1 p.1) (s.1 p.2) else s.1 z,true)
structure Lab (bd:List Str) (W w:Nat) (L:Cell→Cell):Prop where
 on:∀x,On bd.length W x→On bd.length W (L x)
 cn:∀x,On bd.length W x→Cn bd W w x (L x)
 le:∀x,On bd.length W x→rank W (L x)≤rank W x
def mu (R W:Nat) (L:Cell→Cell):Nat:=((ai R W).map fun x=>rank W (L x)).sum
def uv (bd:List Str) (W w:Nat) (p:Cell×Cell):Prop:=On bd.length W p.1∧On bd.length W p.2∧Cn bd W w p.1 p.2
theorem tG (hw:Ways w) {s:(Cell→Cell)×Bool}{p:Cell×Cell}(hp:uv bd W w p) (h:Lab bd W w s.1):
 Lab bd W w (df s p).1∧mu bd.length W (df s p).1≤mu bd.length W s.1∧((df s p).2=s.2∧(df s p).1=s.1∧s.1 p.1=s.1 p.2∨(df s p).2=true∧mu bd.length W (df s p).1<mu bd.length W s.1):=by
 obtain⟨h1,h2,h3⟩:=hp
 unfold df
 by_cases e:s.1 p.1=s.1 p.2
 ·rw[if_pos e];exact⟨h,Nat.le_refl _, .inl ⟨rfl,rfl,e⟩⟩
 ·rw[if_neg e]
  have o1:=h.on _ h1
  have o2:=h.on _ h2
  have hle:=vO o1 o2
  have hor:=wd (s.1 p.1) (s.1 p.2)
  have hon:On bd.length W (bH (s.1 p.1) (s.1 p.2)):=by rcases hor with q | q<;>rw[q]<;>assumption
  have c1:Cn bd W w p.1 (bH (s.1 p.1) (s.1 p.2)):=by
   rcases hor with q | q<;>rw[q]
   ·exact h.cn _ h1
   ·exact h3.trans (h.cn _ h2)
  have c2:Cn bd W w p.2 (bH (s.1 p.1) (s.1 p.2)):=(h3.symm hw h1).trans c1
  have le':∀z,On bd.length W z→rank W (if z=p.2 then bH (s.1 p.1) (s.1 p.2) else if z=p.1 then bH (s.1 p.1) (s.1 p.2) else s.1 z)≤rank W (s.1 z):=fun z hz=>by
   by_cases z1:z=p.2
   ·rw[if_pos z1,z1];exact hle.2
   ·rw[if_neg z1]
    by_cases z2:z=p.1
    ·rw[if_pos z2,z2];exact hle.1
    ·rw[if_neg z2];exact Nat.le_refl _
  have lt':mu bd.length W (fun z=>if z=p.2 then bH (s.1 p.1) (s.1 p.2) else if z=p.1 then bH (s.1 p.1) (s.1 p.2) else s.1 z)<mu bd.length W s.1:=by
   refine yc (fun x hx=>le' x (aA.mp hx)) ?_
   have hne:rank W (s.1 p.1)≠rank W (s.1 p.2):=fun z=>e (jq o1 o2 z)
   by_cases q:rank W (s.1 p.1)<rank W (s.1 p.2)
   ·refine⟨p.2,aA.mpr h2,?_⟩
    show rank W (if p.2=p.2 then _ else _)<_
    rw[if_pos rfl];omega
   ·refine⟨p.1,aA.mpr h1,?_⟩
    by_cases q2:p.1=p.2
    ·rw[q2] at hne;exact absurd rfl hne
    ·show rank W (if p.1=p.2 then _ else if p.1=p.1 then _ else _)<_
     rw[if_neg q2,if_pos rfl];omega
  refine⟨⟨fun x hx=>?_,fun x hx=>?_,fun x hx=>Nat.le_trans (le' x hx) (h.le x hx)⟩,Nat.le_of_lt lt', .inr ⟨rfl,lt'⟩⟩
  ·show On _ _ (if x=p.2 then _ else if x=p.1 then _ else s.1 x)
   split
   ·exact hon
   ·split
    ·exact hon
    ·exact h.on x hx
  ·show Cn _ _ _ _ (if x=p.2 then _ else if x=p.1 then _ else s.1 x)
   by_cases z1:x=p.2
   ·rw[if_pos z1,z1];exact c2
   ·rw[if_neg z1]
    by_cases z2:x=p.1
    ·rw[if_pos z2,z2];exact c1
    ·rw[if_neg z2];exact h.cn x hx
theorem Bg (hw:Ways w):∀(ps:List (Cell×Cell)) (s:(Cell→Cell)×Bool),(∀p∈ps,uv bd W w p)→Lab bd W w s.1→
 Lab bd W w (ps.foldl df s).1∧mu bd.length W (ps.foldl df s).1≤mu bd.length W s.1∧((ps.foldl df s).2=s.2∧(ps.foldl df s).1=s.1∧(∀p∈ps,s.1 p.1=s.1 p.2)∨(ps.foldl df s).2=true∧mu bd.length W (ps.foldl df s).1<mu bd.length W s.1)
 |[],s,_,h=>⟨h,Nat.le_refl _, .inl ⟨rfl,rfl,fun p hp=>by cases hp⟩⟩
 |p::ps,s,hp,h=>by
  obtain⟨a1,a2,a3⟩:=tG hw (hp p (List.mem_cons_self ..)) h
  obtain⟨b1,b2,b3⟩:=Bg hw ps (df s p) (fun q hq=>hp q (List.mem_cons_of_mem _ hq)) a1
  rw[List.foldl_cons]
  refine⟨b1,Nat.le_trans b2 a2,?_⟩
  rcases b3 with⟨c1,c2,c3⟩ | ⟨c1,c2⟩
  ·rcases a3 with⟨d1,d2,d3⟩ | ⟨d1,d2⟩
   ·refine .inl ⟨c1.trans d1,c2.trans d2,fun q hq=>?_⟩
    rcases List.mem_cons.mp hq with rfl | hq
    ·exact d3
    ·rw[←d2];exact c3 q hq
   ·exact .inr ⟨c1.trans d1,by rw[c2];exact d2⟩
  ·exact .inr ⟨c1,Nat.lt_of_lt_of_le c2 a2⟩
def pD (p:Cell×Cell):D:= .tup [cD p.1,cD p.2]
def lbB:DS:=(bN [8,9,10] (sIf (tTf (tB' (d2 gNe (d2 dw (dV 2) (dV 8)) (d2 dw (dV 2) (dV 9))))) (aB (bh 10 (dTf (dA oR (aC (d2 dw (dV 2) (dV 8)) (aC (d2 dw (dV 2) (dV 9)) aN))))) (aB (fb 2 (dV 8) (dV 10)) (aB (fb 2 (dV 9) (dV 10)) (bh 7 (dC (.bl true)))))) cf))
def lbR (bd:List Str) (W w:Nat) (ps:List (Cell×Cell)) (s:(Cell→Cell)×Bool) (x8 x9 x10:Option Sl):Rho:=[fz (brd bd),fz (.int (w:Int)),some (.ow (dfn (ai bd.length W) fun x=>cD (s.1 x))),fz (.lst (ps.map pD)),none,none,none,fz (.bl s.2),x8,x9,x10]
theorem qV {ks:List Cell}{x:Cell}(h:x∈ks):bT ks x=ks:=if_pos h
theorem Am (hg:Brd bd W) {ps:List (Cell×Cell)}{s:(Cell→Cell)×Bool}{p:Cell×Cell}(h1:On bd.length W p.1) (h2:On bd.length W p.2):
 lbB (lbR bd W w ps s (fz (cD p.1)) (fz (cD p.2)) none)=M.ret (.nx (lbR bd W w ps (df s p) none none none)):=by
 have hm:bd.length*W≤64:=Nat.mul_le_mul hg.r8 hg.w8
 have hcl:(ai bd.length W).length<lim:=by rw[aX,dc];omega
 have m1:=aA.mpr h1
 have m2:=aA.mpr h2
 have i1:∀{x10:Option Sl},d2 dw (dV 2) (dV 8) (frA (lbR bd W w ps s (fz (cD p.1)) (fz (cD p.2)) x10))=M.ret (cD (s.1 p.1)):=(aM (x:=dfD (ai bd.length W) fun x=>cD (s.1 x)) (y:=cD p.1) rfl rfl).trans (lZ m1)
 have i2:∀{x10:Option Sl},d2 dw (dV 2) (dV 9) (frA (lbR bd W w ps s (fz (cD p.1)) (fz (cD p.2)) x10))=M.ret (cD (s.1 p.2)):=(aM (x:=dfD (ai bd.length W) fun x=>cD (s.1 x)) (y:=cD p.2) rfl rfl).trans (lZ m2)
 have ht:tTf (tB' (d2 gNe (d2 dw (dV 2) (dV 8)) (d2 dw (dV 2) (dV 9)))) (lbR bd W w ps s (fz (cD p.1)) (fz (cD p.2)) none)=M.ret (!decide (s.1 p.1=s.1 p.2)):=xx (fZ ((aM i1 i2).trans (Da _ _)))
 unfold df
 by_cases e:s.1 p.1=s.1 p.2
 ·rw[decide_eq_true e] at ht
  rw[if_pos e]
  exact(a_ (dP ht rfl)).trans rfl
 ·rw[decide_eq_false e] at ht
  rw[if_neg e]
  have hmn:dTf (dA oR (aC (d2 dw (dV 2) (dV 8)) (aC (d2 dw (dV 2) (dV 9)) aN))) (lbR bd W w ps s (fz (cD p.1)) (fz (cD p.2)) none)=M.ret (cD (bH (s.1 p.1) (s.1 p.2))):=
   Dz ((cN (xs:=[cD (s.1 p.1),cD (s.1 p.2)]) (bA i1 (bA i2 rfl))).trans (Az _ _)) (zF _)
  refine(a_ (el ht (ak ((aQ hmn).trans rfl) (ak ((lD (x:=p.1) (d:=cD (bH (s.1 p.1) (s.1 p.2))) (ks:=ai bd.length W) (f:=fun x=>cD (s.1 x)) rfl rfl rfl hcl).trans rfl) (ak ((lD (x:=p.2) (d:=cD (bH (s.1 p.1) (s.1 p.2))) (ks:=bT (ai bd.length W) p.1) (f:=d8 (fun x=>cD (s.1 x)) p.1 (cD (bH (s.1 p.1) (s.1 p.2)))) rfl rfl rfl (by rw[qV m1];exact hcl)).trans rfl) rfl))))).trans ?_
  rw[qV m1,qV m2]
  unfold lbR
  have ef:d8 (d8 (fun x=>cD (s.1 x)) p.1 (cD (bH (s.1 p.1) (s.1 p.2)))) p.2 (cD (bH (s.1 p.1) (s.1 p.2)))=fun x=>cD (if x=p.2 then bH (s.1 p.1) (s.1 p.2) else if x=p.1 then bH (s.1 p.1) (s.1 p.2) else s.1 x):=by
   funext x
   unfold d8
   by_cases z1:x=p.2
   ·rw[if_pos z1,if_pos z1]
   ·rw[if_neg z1,if_neg z1]
    by_cases z2:x=p.1
    ·rw[if_pos z2,if_pos z2]
    ·rw[if_neg z2,if_neg z2]
  rw[ef]
  rfl
end
end K1
namespace K1
open PySem L2 L3
theorem yy {i:Nat}{δ:DF}{ρ:Rho}{c:C}(h:δ ρ=M.ret c):ph i δ ρ=M.ret (.nx (ρ.set i (some (.ow c)))):=by
 unfold ph
 rw[h]
 rfl
theorem tM {δ:DE}{ρ:Rho}{l:List Cell}(h:δ ρ=M.ret (cL l)):cW δ ρ=M.ret (l.map cD):=by
 show (δ ρ>>=lstM)=_
 rw[h]
 rfl
theorem eX (R W:Nat):RiseC (ai R W):=by
 unfold RiseC ai aO
 rw[List.pairwise_flatMap]
 constructor
 ·intro r _
  rw[List.pairwise_map]
  exact List.pairwise_lt_range.imp fun h=>by show (if _ then _ else _)=true;rw[if_pos rfl,decide_eq_true_eq];exact h
 ·refine List.pairwise_lt_range.imp fun {a b} h x hx y hy=>?_
  obtain⟨i,_,rfl⟩:=List.mem_map.mp hx
  obtain⟨j,_,rfl⟩:=List.mem_map.mp hy
  show (if a=b then _ else decide (a<b))=true
  rw[if_neg (by omega),decide_eq_true_eq]
  exact h
section
variable {bd : List Str} {W w : Nat}
def rH (bd:List Str) (x y:Cell):Bool:=clt x y&&decide (lt bd x=lt bd y)
def bsG (bd:List Str) (x y:Cell):List D:=if rH bd x y then [pD (x,y)] else []
def bj (bd:List Str) (W w:Nat):List (Cell×Cell):=(ai bd.length W).flatMap fun x=>((jz bd.length W w x).filter (rH bd x)).map fun y=>(x,y)
theorem iU (hw:Ways w) {p:Cell×Cell}:p∈bj bd W w↔On bd.length W p.1∧On bd.length W p.2∧nxt w p.1 p.2=true∧lt bd p.1=lt bd p.2∧clt p.1 p.2=true:=by
 unfold bj rH
 simp only[List.mem_flatMap,List.mem_map,List.mem_filter,Bool.and_eq_true,decide_eq_true_eq]
 constructor
 ·rintro⟨x,hx,y,⟨hy,h1,h2⟩,rfl⟩
  have hx:=aA.mp hx
  have:=(mJ hw hx).mp hy
  exact⟨hx,this.1,this.2,h2,h1⟩
 ·rintro⟨h1,h2,h3,h4,h5⟩
  exact⟨p.1,aA.mpr h1,p.2,⟨(mJ hw h1).mpr ⟨h2,h3⟩,h5,h4⟩,rfl⟩
theorem nA (hw:Ways w) {p:Cell×Cell}(h:p∈bj bd W w):uv bd W w p:=by
 obtain⟨h1,h2,h3,h4,_⟩:=(iU hw).mp h
 exact⟨h1,h2,Cn.refl.step ((fE hw).mpr ⟨h2,h3,h4.symm⟩)⟩
theorem sR (x:Cell):∀l:List Cell,l.flatMap (bsG bd x)=((l.filter (rH bd x)).map fun y=>(x,y)).map pD
 |[]=>rfl
 |y::l=>by
  rw[List.flatMap_cons,sR x l]
  unfold bsG
  by_cases h:rH bd x y=true
  ·rw[if_pos h,List.filter_cons_of_pos h];rfl
  ·rw[if_neg h,List.filter_cons_of_neg h];rfl
def prB:DS:=(bN [5,6] (aB (bh 6 (d2 iI (d2 aK (dV 0) (d2 aK (dV 4) (dC (.int 0)))) (d2 aK (dV 4) (dC (.int 1))))) (sIf (jH (tB' (d2 rS (dV 4) (dV 5))) (tB' (d2 gEq (dV 6) (d2 iI (d2 aK (dV 0) (d2 aK (dV 5) (dC (.int 0)))) (d2 aK (dV 5) (dC (.int 1))))))) (gY 3 (dA aU (aC (dV 4) (aC (dV 5) aN)))) cf)))
def prR (bd:List Str) (w:Nat) (o:Option Sl) (acc:List D) (x4 x5 x6:Option Sl):Rho:=[fz (brd bd),fz (.int (w:Int)),o,some (.ow (.lst acc)),x4,x5,x6,none,none,none,none]
theorem AE (hg:Brd bd W) {o:Option Sl}{x y:Cell}(hx:On bd.length W x) (hy:On bd.length W y) {acc:List D}(hl:(acc++bsG bd x y).length≤600):
 prB (prR bd w o acc (fz (cD x)) (fz (cD y)) none)=M.ret (.nx (prR bd w o (acc++bsG bd x y) (fz (cD x)) none none)):=by
 have ht:jH (tB' (d2 rS (dV 4) (dV 5))) (tB' (d2 gEq (dV 6) (d2 iI (d2 aK (dV 0) (d2 aK (dV 5) (dC (.int 0)))) (d2 aK (dV 5) (dC (.int 1)))))) (prR bd w o acc (fz (cD x)) (fz (cD y)) (fz (sg (lt bd x))))=M.ret (rH bd x y):=
  uW (fZ ((aM (x:=cD x) (y:=cD y) rfl rfl).trans (Aa _ _))) (fZ ((aM (x:=sg (lt bd x)) rfl (vE hg hy rfl rfl)).trans (A5 _ _)))
 have h6:d2 iI (d2 aK (dV 0) (d2 aK (dV 4) (dC (.int 0)))) (d2 aK (dV 4) (dC (.int 1))) (prR bd w o acc (fz (cD x)) (fz (cD y)) none)=M.ret (sg (lt bd x)):=vE hg hx rfl rfl
 unfold bsG at hl⊢
 by_cases hb:rH bd x y=true
 ·rw[if_pos hb] at hl⊢
  rw[hb] at ht
  refine(a_ (ρ':=prR bd w o (acc++[pD (x,y)]) (fz (cD x)) (fz (cD y)) (fz (sg (lt bd x)))) (ak (ρ':=prR bd w o acc (fz (cD x)) (fz (cD y)) (fz (sg (lt bd x)))) ((aQ h6).trans rfl) (el ht ?_))).trans rfl
  show (if acc.length<lim then M.ret (Out.nx (prR bd w o (acc++[pD (x,y)]) (fz (cD x)) (fz (cD y)) (fz (sg (lt bd x))))) else M.stuck)=_
  rw[if_pos (by rw[List.length_append] at hl;rw[dc];simp at hl;omega)]
 ·rw[if_neg hb,List.append_nil]
  rw[Bool.eq_false_iff.mpr hb] at ht
  exact(a_ (ρ':=prR bd w o acc (fz (cD x)) (fz (cD y)) (fz (sg (lt bd x)))) (ak (ρ':=prR bd w o acc (fz (cD x)) (fz (cD y)) (fz (sg (lt bd x)))) ((aQ h6).trans rfl) (dP ht rfl))).trans rfl
theorem nk {α β:Type}{n:Nat}(f:α→List β) (h:∀a,(f a).length≤n):∀l:List α,(l.flatMap f).length≤n*l.length
 |[]=>Nat.zero_le _
 |a::l=>by
  rw[List.flatMap_cons,List.length_append,List.length_cons,Nat.mul_add,Nat.mul_one]
  have:=h a
  have:=nk f h l
  omega
theorem Ad (hg:Brd bd W) (hw:Ways w) {o:Option Sl}:forL (putN 4) (bN [4,5,6] (cT (putN 5) (cW (ax 3 c7 (aC (dV 0) (aC (dV 4) (aC (dV 1) aN))))) prB)) ((ai bd.length W).map cD) (prR bd w o [] none none none)=M.ret (.nx (prR bd w o ((bj bd W w).map pD) none none none)):=by
 have hm:bd.length*W≤64:=Nat.mul_le_mul hg.r8 hg.w8
 have hfl:(ai bd.length W).flatMap (fun x=>(jz bd.length W w x).flatMap (bsG bd x))=(bj bd W w).map pD:=by
  unfold bj
  rw[List.map_flatMap]
  congr 1
  funext x
  exact sR x _
 have hln:((bj bd W w).map pD).length≤576:=by
  rw[List.length_map]
  have:=nk (n:=9) (fun x=>((jz bd.length W w x).filter (rH bd x)).map fun y=>(x,y)) (fun x=>by rw[List.length_map];exact Nat.le_trans (List.length_filter_le ..) (rh ..)) (ai bd.length W)
  rw[aX] at this
  exact Nat.le_trans this (by omega)
 have:=dh (put:=putN 4) (body:=bN [4,5,6] (cT (putN 5) (cW (ax 3 c7 (aC (dV 0) (aC (dV 4) (aC (dV 1) aN))))) prB)) (B:=600) cD (fun acc=>prR bd w o acc none none none) (fun x=>(jz bd.length W w x).flatMap (bsG bd x)) (ai bd.length W) [] (by rw[List.nil_append,hfl];omega) fun x hx acc hl=>by
  have hx:=aA.mp hx
  refine⟨prR bd w o acc (fz (cD x)) none none,rfl,(a_ (ρ':=prR bd w o (acc++(jz bd.length W w x).flatMap (bsG bd x)) (fz (cD x)) none none) (dQ (ds:=(jz bd.length W w x).map cD) ?_ ?_)).trans rfl⟩
  ·exact tM ((ao (ds:=[brd bd,cD x, .int (w:Int)]) rfl rfl).trans (nr hg))
  ·exact dh (B:=600) cD (fun acc=>prR bd w o acc (fz (cD x)) none none) (bsG bd x) _ acc hl fun y hy acc' hl'=>⟨_,rfl,AE hg hx ((mJ hw hx).mp hy).1 hl'⟩
 rw[List.nil_append,hfl] at this
 exact this
def lbW:DS:=(bN [8,9,10] (aB (bh 7 (dC (.bl false))) (sFz 3 (cT (jd [8,9]) (cW (dV 3)) lbB))))
def lbQ (bd:List Str) (W w:Nat) (s:(Cell→Cell)×Bool) (x3:Option Sl):Rho:=[fz (brd bd),fz (.int (w:Int)),some (.ow (dfn (ai bd.length W) fun x=>cD (s.1 x))),x3,none,none,none,fz (.bl s.2),none,none,none]
theorem zZ (hg:Brd bd W) (hw:Ways w) {L:Cell→Cell}{b:Bool}{x3:Option Sl}(h3:x3=some (.ow (.lst ((bj bd W w).map pD)))∨x3=fz (.lst ((bj bd W w).map pD))) (h:Lab bd W w L):
 lbW (lbQ bd W w (L,b) x3)=M.ret (.nx (lbQ bd W w ((bj bd W w).foldl df (L,false)) (fz (.lst ((bj bd W w).map pD))))):=by
 have hf:=(iD (put:=jd [8,9]) (body:=lbB) pD (fun s=>lbR bd W w (bj bd W w) s none none none) df (fun s=>Lab bd W w s.1) (bj bd W w) (L,false) h fun s hs p hp=>by
  obtain⟨q1,q2,q3⟩:=nA hw hp
  exact⟨(tG hw (nA hw hp) hs).1,_,rfl,Am hg q1 q2⟩).2
 refine(a_ (ρ':=lbR bd W w (bj bd W w) ((bj bd W w).foldl df (L,false)) none none none) (ak (ρ':=lbQ bd W w (L,false) x3) rfl ?_)).trans rfl
 rcases h3 with rfl | rfl
 ·exact dQ (ds:=(bj bd W w).map pD) rfl hf
 ·exact dQ (ds:=(bj bd W w).map pD) rfl hf
theorem sS (hg:Brd bd W) (hw:Ways w):∀(fuel:Nat) (L:Cell→Cell) (x3:Option Sl),x3=some (.ow (.lst ((bj bd W w).map pD)))∨x3=fz (.lst ((bj bd W w).map pD))→Lab bd W w L→mu bd.length W L+2≤fuel→
 ∃L',Lab bd W w L'∧(∀p∈bj bd W w,L' p.1=L' p.2)∧eK (bU (dV 7)) lbW fuel (lbQ bd W w (L,true) x3)=M.ret (.nx (lbQ bd W w (L',false) (fz (.lst ((bj bd W w).map pD)))))
 |0,_,_,_,_,hf=>by omega
 |1,_,_,_,_,hf=>by omega
 |fuel+2,L,x3,h3,h,hf=>by
  have hp:=zZ (b:=true) hg hw h3 h
  obtain⟨a1,a2,a3⟩:=Bg hw (bj bd W w) (L,false) (fun p hp=>nA hw hp) h
  rcases a3 with⟨b1,b2,b3⟩ | ⟨b1,b2⟩
  ·have e:(bj bd W w).foldl df (L,false)=(L,false):=Prod.ext b2 b1
   rw[e] at hp
   exact⟨L,h,b3,lP (gA rfl) hp (rT (gA rfl))⟩
  ·have e:(bj bd W w).foldl df (L,false)=(((bj bd W w).foldl df (L,false)).1,true):=Prod.ext rfl b1
   obtain⟨L',c1,c2,c3⟩:=sS hg hw (fuel+1) _ _ (.inr rfl) a1 (by have b2:mu bd.length W _<mu bd.length W L:=b2;omega)
   rw[e] at hp
   exact⟨L',c1,c2,lP (gA rfl) hp c3⟩
def Least (bd:List Str) (W w:Nat) (x m:Cell):Prop:=Cn bd W w x m∧∀z,Cn bd W w x z→rank W m≤rank W z
theorem lQ (hw:Ways w) {L:Cell→Cell}(h:∀p∈bj bd W w,L p.1=L p.2) {x:Cell}(hx:On bd.length W x):∀{j:Nat}{y:Cell},Rb (bq bd W w) x j y→L x=L y
 |0,y,h0=>by rw[show y=x from h0]
 |j+1,y,h0=>by
  rcases h0 with q | ⟨z,q1,q2⟩
  ·exact lQ hw h hx q
  ·rw[lQ hw h hx q1]
   have hz:=sP hw hx q1
   obtain⟨y1,y2,y3⟩:=(fE hw).mp q2
   by_cases hlt:rank W z<rank W y
   ·exact h (z,y) ((iU hw).mpr ⟨hz,y1,y2,y3.symm,(eT hz y1).mpr hlt⟩)
   ·have hne:rank W z≠rank W y:=fun e=>by
     have:=jq hz y1 e
     subst this
     rw[Cj hw] at y2
     cases y2
    exact(h (y,z) ((iU hw).mpr ⟨y1,hz,by rw[se];exact y2,y3,(eT y1 hz).mpr (by omega)⟩)).symm
theorem d7 (hg:Brd bd W) (hw:Ways w):∃L:Cell→Cell,(∀x,On bd.length W x→Least bd W w x (L x))∧fi [brd bd, .int (w:Int)]=M.ret (dfD (ai bd.length W) fun x=>cD (L x)):=by
 have hm:bd.length*W≤64:=Nat.mul_le_mul hg.r8 hg.w8
 have l0:Lab bd W w id:=⟨fun x hx=>hx,fun x hx=>Cn.refl,fun x hx=>Nat.le_refl _⟩
 have hmu:mu bd.length W id≤4032:=by
  unfold mu
  have:=tX (f:=fun x=>rank W (id x)) (g:=fun _=>63) (l:=ai bd.length W) fun x hx=>by
   have:=zP (aA.mp hx)
   show rank W x≤63
   omega
  refine Nat.le_trans this ?_
  rw[List.map_const',List.sum_replicate_nat,aX]
  have:bd.length*W*63≤64*63:=Nat.mul_le_mul_right _ hm
  omega
 obtain⟨L,h1,h2,h3⟩:=sS hg hw lim id (some (.ow (.lst ((bj bd W w).map pD)))) (.inl rfl) l0 (by rw[dc];omega)
 refine⟨L,fun x hx=>⟨h1.cn x hx,fun z hz=>?_⟩,?_⟩
 ·obtain⟨j,q⟩:=hz
  rw[lQ hw h2 hx q]
  exact h1.le z (sP hw hx q)
 ·have hnd:((ai bd.length W).map keyOf).Nodup:=by
   exact(eX _ _).nodup.map (f:=keyOf) fun a b h z=>h (fG z)
  have hnew:(aC (br 0 (cW (ax 1 bC (aC (dV 0) aN))) cb (dA aU (aC (dV 0) (aC (dV 0) aN)))) aN) [fz (brd bd),fz (.int (w:Int)),none,none,none,none,none,none,none,none,none]=M.ret [.lst ((ai bd.length W).map fun x=>pD (x,x))]:=by
   refine bA (bS (ds:=(ai bd.length W).map cD) ?_ (eG cD (fun x=>pD (x,x)) _ fun x _=>rfl) (by rw[List.length_map,aX,dc];omega)) rfl
   exact tM ((ao (ds:=[brd bd]) rfl rfl).trans (eN hg))
  have hpd:∀l:List Cell,iX (l.map fun x=>pD (x,x))=some (l.map keyOf,l.map cD):=fun l=>by
   induction l with
   |nil=>rfl
   |cons a l ih=>
    show (match dX (cD a),iX (l.map fun x=>pD (x,x)) with | some kk,some q=>some (kk::q.1,cD a::q.2) | _,_=>none)=_
    rw[ih]
    rfl
  refine bf (ak (ρ':=[fz (brd bd),fz (.int (w:Int)),some (.ow (dfn (ai bd.length W) cD)),none,none,none,none,none,none,none,none]) ?_ (ak (ρ':=prR bd w (some (.ow (dfn (ai bd.length W) cD))) [] none none none) rfl (ak (ρ':=prR bd w (some (.ow (dfn (ai bd.length W) cD))) ((bj bd W w).map pD) none none none) (c8 (dQ (ds:=(ai bd.length W).map cD) ?_ (Ad hg hw))) (ak (ρ':=lbQ bd W w (id,true) (some (.ow (.lst ((bj bd W w).map pD))))) rfl (ak (ρ':=lbQ bd W w (L,false) (fz (.lst ((bj bd W w).map pD)))) ?_ rfl)))))
  ·refine yy (ρ:=[fz (brd bd),fz (.int (w:Int)),none,none,none,none,none,none,none,none,none]) (c:=dfn (ai bd.length W) cD) ?_
   refine(congrArg (· >>=vq) hnew).trans ?_
   show (match iX ((ai bd.length W).map fun x=>pD (x,x)) with | some q=>if q.1.Nodup∧q.2.length≤lim then M.ret (C.dct q.1 q.2) else M.stuck | none=>M.stuck)=_
   rw[hpd]
   show (if ((ai bd.length W).map keyOf).Nodup∧((ai bd.length W).map cD).length≤lim then M.ret (C.dct ((ai bd.length W).map keyOf) ((ai bd.length W).map cD)) else M.stuck)=_
   rw[if_pos ⟨hnd,by rw[List.length_map,aX,dc];omega⟩]
   rfl
  ·exact tM ((ao (ds:=[brd bd]) rfl rfl).trans (eN hg))
  ·exact c8 h3
end
end K1
namespace K1
open PySem L2 L3
theorem Dh:((ai 8 8).map fun c=>fU (ic c)).Nodup:=by decide+kernel
theorem oO {α β:Type}{f:α→β}:∀{l:List α},(l.map f).Nodup→∀a∈l,∀b∈l,f a=f b→a=b
 |x::l,h,a,ha,b,hb,e=>by
  rw[List.map_cons,List.nodup_cons] at h
  by_cases h1:a=x
  ·by_cases h2:b=x
   ·rw[h1,h2]
   ·have hb:b∈l:=(List.mem_cons.mp hb).resolve_left h2
    exact absurd (List.mem_map.mpr ⟨b,hb,by rw[←h1];exact e.symm⟩) h.1
  ·have ha:a∈l:=(List.mem_cons.mp ha).resolve_left h1
   by_cases h2:b=x
   ·exact absurd (List.mem_map.mpr ⟨a,ha,by rw[←h2];exact e⟩) h.1
   ·exact oO h.2 a ha b ((List.mem_cons.mp hb).resolve_left h2) e
theorem AW {R W:Nat}(hR:R≤8) (hW:W≤8) {l:List Cell}(hn:l.Nodup) (hon:∀x∈l,On R W x):(l.map fun c=>fU (ic c)).Nodup:=by
 have h8:∀x∈l,x∈ai 8 8:=fun x hx=>aA.mpr ⟨by have:=(hon x hx).1;omega,by have:=(hon x hx).2;omega⟩
 rw[List.Nodup,List.pairwise_map]
 refine List.Pairwise.imp_of_mem (fun {a b} ha hb h z=>h ?_) hn
 exact oO Dh a (h8 a ha) b (h8 b hb) z
theorem Bx {ks:List Cell}{f:Cell→D}{x:Cell}{d:D}:dg (ks.map keyOf) (ks.map f) (keyOf x)=(bT ks x).map keyOf∧cg (ks.map keyOf) (ks.map f) (keyOf x) d=(bT ks x).map (d8 f x d):=by
 unfold bT dg cg
 by_cases h:x∈ks
 ·rw[jJ h,if_pos h]
  exact⟨rfl,pI⟩
 ·rw[fw h,if_neg h]
  have e1:ks.map f=ks.map (d8 f x d):=List.map_congr_left fun y hy=>by
   unfold d8;rw[if_neg (fun z:y=x=>h (z▸hy))]
  have e2:(ks++[x]).map (d8 f x d)=ks.map (d8 f x d)++[d]:=by
   rw[List.map_append]
   congr 1
   show [d8 f x d x]=[d]
   unfold d8;rw[if_pos rfl]
  exact⟨by rw[List.map_append];rfl,by rw[e2,←e1];rfl⟩
theorem mw:∀(l ks:List Cell),b_ (ks.map keyOf) (aL ks) (l.map keyOf) (aL l)=((l.foldl bT ks).map keyOf,aL (l.foldl bT ks))
 |[],ks=>rfl
 |x::l,ks=>by
  show b_ (dg (ks.map keyOf) (aL ks) (keyOf x)) (cg (ks.map keyOf) (aL ks) (keyOf x) (.bl true)) (l.map keyOf) (aL l)=_
  have h:=Bx (ks:=ks) (f:=fun _=>D.bl true) (x:=x) (d:= .bl true)
  have e:d8 (fun _=>D.bl true) x (.bl true)=fun _=>D.bl true:=by
   funext y;unfold d8;split<;>rfl
  rw[e] at h
  rw[show aL ks=ks.map (fun _=>D.bl true) from rfl,h.1,h.2]
  exact mw l (bT ks x)
theorem zr {l ks:List Cell}(h:ks.Nodup):(l.foldl bT ks).Nodup:=(kR l ks).1 h
section
open Classical
variable {bd : List Str} {W w : Nat}
noncomputable def aI (bd:List Str) (W w:Nat) (m:Cell):List Cell:=(ai bd.length W).filter fun x=>decide (Cn bd W w m x)
noncomputable def cj (bd:List Str) (W w:Nat) (l:List Cell):List Cell:=l.filter fun x=>decide (Least bd W w x x)
theorem eB (hw:Ways w) {m:Cell}(hm:On bd.length W m):IsPatch bd W w m (aI bd W w m):=by
 refine⟨(eX _ _).filter _,fun x=>?_⟩
 unfold aI
 rw[List.mem_filter,aA,decide_eq_true_eq]
 exact⟨fun h=>h.2,fun h=>⟨h.on hw hm,h⟩⟩
theorem Least.on (hw:Ways w) {x m:Cell}(hx:On bd.length W x) (h:Least bd W w x m):On bd.length W m:=h.1.on hw hx
theorem Least.move (hw:Ways w) {x y m:Cell}(hx:On bd.length W x) (h:Least bd W w x m) (hy:Cn bd W w x y):Least bd W w y m:=
 ⟨(hy.symm hw hx).trans h.1,fun z hz=>h.2 z (hy.trans hz)⟩
theorem Least.one (hw:Ways w) {x m n:Cell}(hx:On bd.length W x) (h:Least bd W w x m) (h2:Least bd W w x n):m=n:=
 jq (h.on hw hx) (h2.on hw hx) (Nat.le_antisymm (h.2 n h2.1) (h2.2 m h.1))
theorem Least.self (hw:Ways w) {x m:Cell}(hx:On bd.length W x) (h:Least bd W w x m):Least bd W w m m:=h.move hw hx h.1
variable (L : Cell → Cell)
noncomputable def ls (L:Cell→Cell) (s:List Cell):Cell→D:=fun k=>cL (s.filter fun x=>decide (L x=k))
noncomputable def lpC (L:Cell→Cell) (s:List Cell):C:=dfn (a7 (s.map L)) (ls L s)
noncomputable def lpR (bd:List Str) (W w:Nat) (L:Cell→Cell) (s:List Cell) (x4:Option Sl):Rho:=[fz (brd bd),fz (.int (w:Int)),fz (dfD (ai bd.length W) fun x=>cD (L x)),some (.ow (lpC L s)),x4]
theorem vG:∀l:List Cell,lV (l.map cD)=true
 |[]=>rfl
 |x::l=>by
  show (pb (cD x)&&lV (l.map cD))=true
  rw[vG l]
  rfl
theorem AR {δ:DE}{ρ:Rho}{l:List Cell}(h1:jU ρ=true) (h:δ (frA ρ)=M.ret (cL l)):dTd δ ρ=M.ret (cL l):=by
 unfold dTd
 rw[if_pos h1,h]
 show (if pb (cL l) then M.ret (cL l) else M.stuck)=_
 rw[if_pos (show pb (cL l)=true from vG l)]
theorem t_ (l:List Cell) (x:Cell):a7 (l++[x])=bT (a7 l) x:=by
 unfold a7
 rw[List.foldl_append]
 rfl
theorem yK {i:Nat}{ρ:Rho}{δk:DE}{ks:List Cell}{f:Cell→D}{k:Cell}(h1:dV i ρ=M.ret (dfD ks f)) (h2:δk ρ=M.ret (cD k)):nv (dV i) δk (dA bD aN) ρ=M.ret (if k∈ks then f k else .lst []):=by
 unfold nv
 rw[h1,ar]
 show (δk ρ>>=fun k=>dA bD aN ρ>>=fun v=>getM (dfD ks f) k v)=_
 rw[h2,ar]
 show getM (dfD ks f) (cD k) (.lst [])=_
 by_cases h:k∈ks
 ·rw[z7 h,if_pos h]
 ·rw[yQ h,if_neg h]
def lpB:DS:=(bN [4] (fb 3 (d2 dw (dV 2) (dV 4)) (dTd (d2 gj (nv (dV 3) (d2 dw (dV 2) (dV 4)) (dA bD aN)) (dA bD (aC (dV 4) aN))))))
theorem AJ (hg:Brd bd W) {L:Cell→Cell}{s:List Cell}{x:Cell}(hx:On bd.length W x) (hs:s.length<64):lpB (lpR bd W w L s (fz (cD x)))=M.ret (.nx (lpR bd W w L (s++[x]) none)):=by
 have hl:(a7 (s.map L)).length<lim:=by
  have:=j7 (s.map L)
  rw[List.length_map] at this
  rw[dc];omega
 have i1:∀{o:Option Sl},d2 dw (dV 2) (dV 4) [fz (brd bd),fz (.int (w:Int)),fz (dfD (ai bd.length W) fun x=>cD (L x)),o,fz (cD x)]=M.ret (cD (L x)):=(aM (x:=dfD (ai bd.length W) fun x=>cD (L x)) (y:=cD x) rfl rfl).trans (lZ (aA.mpr hx))
 have hv:dTd (d2 gj (nv (dV 3) (d2 dw (dV 2) (dV 4)) (dA bD aN)) (dA bD (aC (dV 4) aN))) (lpR bd W w L s (fz (cD x)))=M.ret (cL ((s.filter fun y=>decide (L y=L x))++[x])):=by
  refine AR rfl ?_
  have g:nv (dV 3) (d2 dw (dV 2) (dV 4)) (dA bD aN) (frA (lpR bd W w L s (fz (cD x))))=M.ret (cL (s.filter fun y=>decide (L y=L x))):=by
   refine(yK (i:=3) (ks:=a7 (s.map L)) (f:=ls L s) (k:=L x) rfl i1).trans ?_
   by_cases h:L x∈a7 (s.map L)
   ·rw[if_pos h];rfl
   ·rw[if_neg h]
    have:s.filter (fun y=>decide (L y=L x))=[]:=List.filter_eq_nil_iff.mpr fun y hy=>by
     rw[decide_eq_true_eq]
     exact fun z=>h (gb.mpr (List.mem_map.mpr ⟨y,hy,z⟩))
    rw[this]
    rfl
  exact(aM (y:=cL [x]) g rfl).trans (BS (by have:=List.length_filter_le (fun y=>decide (L y=L x)) s;show _+1≤4096;omega))
 refine(a_ ((lD (ks:=a7 (s.map L)) (f:=ls L s) (x:=L x) rfl hv i1 hl).trans rfl)).trans ?_
 have ef:d8 (ls L s) (L x) (cL ((s.filter fun y=>decide (L y=L x))++[x]))=ls L (s++[x]):=by
  funext k
  unfold d8 ls
  rw[List.filter_append]
  by_cases e:k=L x
  ·subst e
   rw[if_pos rfl,List.filter_cons_of_pos (by simp),List.filter_nil]
  ·rw[if_neg e,List.filter_cons_of_neg (by simp;exact fun z=>e z.symm),List.filter_nil,List.append_nil]
 show M.ret (Out.nx [fz (brd bd),fz (.int (w:Int)),fz (dfD (ai bd.length W) fun x=>cD (L x)),some (.ow (dfn (bT (a7 (s.map L)) (L x)) (d8 (ls L s) (L x) (cL ((s.filter fun y=>decide (L y=L x))++[x]))))),none])=_
 rw[ef,←t_]
 unfold lpR lpC
 rw[List.map_append]
 rfl
theorem vb (hg:Brd bd W) {L:Cell→Cell}:∀(l s:List Cell),(∀x∈l,On bd.length W x)→s.length+l.length≤64→forL (putN 4) lpB (l.map cD) (lpR bd W w L s none)=M.ret (.nx (lpR bd W w L (s++l) none))
 |[],s,_,_=>by rw[List.append_nil];rfl
 |x::l,s,h,hl=>by
  rw[List.length_cons] at hl
  have:=vb hg (L:=L) l (s++[x]) (fun y hy=>h y (List.mem_cons_of_mem _ hy)) (by rw[List.length_append];show _+1+_≤_;omega)
  rw[List.append_assoc] at this
  exact(dS rfl (AJ hg (h x (List.mem_cons_self ..)) (by omega))).trans this
noncomputable def g_ (bd:List Str) (W w:Nat):D:= .lst ((cj bd W w (ai bd.length W)).map fun m=>cL (aI bd W w m))
theorem lh (hg:Brd bd W) (hs:bd.length*W<64) (hw:Ways w):b6 [brd bd, .int (w:Int)]=M.ret (g_ bd W w):=by
 have hm:bd.length*W≤64:=Nat.mul_le_mul hg.r8 hg.w8
 obtain⟨L,hL,eL⟩:=d7 hg hw
 have hlen:(ai bd.length W).length≤64:=by rw[aX];omega
 have lp:=vb (w:=w) (L:=L) hg (ai bd.length W) [] (fun x hx=>aA.mp hx) (by simpa using hlen)
 rw[List.nil_append] at lp
 have hks:(a7 ((ai bd.length W).map L)).length<64:=by
  have:=j7 ((ai bd.length W).map L)
  rw[List.length_map,aX] at this
  omega
 have hsort:js (a7 ((ai bd.length W).map L))=cj bd W w (ai bd.length W):=by
  refine kc (jc (lX _)) ((eX _ _).filter _) fun k=>?_
  rw[iF,gb,List.mem_map]
  unfold cj
  rw[List.mem_filter,decide_eq_true_eq]
  constructor
  ·rintro⟨x,hx,rfl⟩
   have hx:=aA.mp hx
   exact⟨aA.mpr ((hL x hx).on hw hx),(hL x hx).self hw hx⟩
  ·rintro⟨hk,h⟩
   exact⟨k,hk,(hL k (aA.mp hk)).one hw (aA.mp hk) h⟩
 have hrow:∀k∈cj bd W w (ai bd.length W),ls L (ai bd.length W) k=cL (aI bd W w k):=fun k hk=>by
  unfold cj at hk
  rw[List.mem_filter,decide_eq_true_eq] at hk
  have hko:=aA.mp hk.1
  unfold ls aI
  congr 1
  refine List.filter_congr fun x hx=>?_
  have hx:=aA.mp hx
  rw[decide_eq_decide]
  constructor
  ·intro e
   have:=(hL x hx).1
   rw[e] at this
   exact this.symm hw hx
  ·intro e
   exact(hL x hx).one hw hx (hk.2.move hw hko e)
 refine bf (ak (ρ':=[fz (brd bd),fz (.int (w:Int)),fz (dfD (ai bd.length W) fun x=>cD (L x)),none,none]) ((aQ (d:=dfD (ai bd.length W) fun x=>cD (L x)) ((ao (ds:=[brd bd, .int (w:Int)]) rfl rfl).trans eL)).trans rfl) (ak (ρ':=lpR bd W w L [] none) rfl (ak (ρ':=lpR bd W w L (ai bd.length W) none) (c8 (dQ (ds:=(ai bd.length W).map cD) (tM ((ao (ds:=[brd bd]) rfl rfl).trans (eN hg))) lp)) ?_)))
 refine aR (bS (ds:=(cj bd W w (ai bd.length W)).map cD) (ys:=(cj bd W w (ai bd.length W)).map fun m=>cL (aI bd W w m)) (tM ?_) (eG cD (fun m=>cL (aI bd W w m)) _ fun m hm=>?_) ?_)
 ·rw[←hsort]
  exact(cN (xs:=[dfD (a7 ((ai bd.length W).map L)) (ls L (ai bd.length W))]) rfl).trans (lW (lX _) hks)
 ·rw[jb,←hrow m hm]
  have hmk:m∈a7 ((ai bd.length W).map L):=by rw[←iF,hsort];exact hm
  have:d2 dw (dV 4) (dV 0) (fz (cD m)::frz 3 (lpR bd W w L (ai bd.length W) none))=M.ret (ls L (ai bd.length W) m):=(aM (x:=dfD (a7 ((ai bd.length W).map L)) (ls L (ai bd.length W))) (y:=cD m) rfl rfl).trans (lZ hmk)
  rw[this]
  rfl
 ·rw[List.length_map,dc]
  have:=List.length_filter_le (fun x=>decide (Least bd W w x x)) (ai bd.length W)
  unfold cj
  omega
end
end K1
namespace K1
open PySem L2 L3
section
open Classical
variable {bd : List Str} {W w : Nat}
def apB:DS:=(bN [4,5] (sIf (tTf (tB' (d2 (nV true) (dV 4) (dV 3)))) (aB (bh 5 (dA gR (aC (ax 3 aT (aC (dV 0) (aC (dV 4) (aC (dV 1) aN)))) aN))) (aB (gY 2 (dV 5)) (w9 3 (ax 1 jF (aC (dV 5) aN))))) cf))
noncomputable def apF (bd:List Str) (W w:Nat) (s:List Cell):List D:=(cj bd W w s).map fun m=>cL (aI bd W w m)
noncomputable def apR (bd:List Str) (W w:Nat) (s ks:List Cell) (x4 x5:Option Sl):Rho:=[fz (brd bd),fz (.int (w:Int)),some (.ow (.lst (apF bd W w s))),some (.ow (.dct (ks.map keyOf) (aL ks))),x4,x5]
structure Seen (bd:List Str) (W w:Nat) (s ks:List Cell):Prop where
 nd:ks.Nodup
 on:∀y∈ks,On bd.length W y
 mem:∀y,y∈ks↔∃m∈cj bd W w s,Cn bd W w m y
theorem za {i:Nat}{δ:DE}{ρ:Rho}{ks l:List Cell}(h0:ρ[i]? =some (some (.ow (.dct (ks.map keyOf) (aL ks))))) (hd:δ ρ=M.ret (uc l)) (hz:ks.length+l.length≤4096) (hh:ks=[]→((a7 l).map fun c=>fU (ic c)).Nodup):
 w9 i δ ρ=M.ret (.nx (ρ.set i (some (.ow (.dct (((a7 l).foldl bT ks).map keyOf) (aL ((a7 l).foldl bT ks))))))):=by
 unfold w9 tP
 rw[h0]
 show (δ ρ>>=fun d=>match zy (ks.map keyOf) (aL ks) d with | some c'=>M.ret (Out.nx (ρ.set i (some (.ow c')))) | none=>M.stuck)=_
 rw[hd,ar]
 have:zy (ks.map keyOf) (aL ks) (uc l)=some (.dct (((a7 l).foldl bT ks).map keyOf) (aL ((a7 l).foldl bT ks))):=by
  show (match fJ ((a7 l).map keyOf) with | some ns=>if (aL ks).length+(aL (a7 l)).length≤lim∧((ks.map keyOf).isEmpty=true→(ns.map fU).Nodup) then some (C.dct (b_ (ks.map keyOf) (aL ks) ((a7 l).map keyOf) (aL (a7 l))).1 (b_ (ks.map keyOf) (aL ks) ((a7 l).map keyOf) (aL (a7 l))).2) else none | none=>none)=_
  rw[j5]
  show (if (aL ks).length+(aL (a7 l)).length≤lim∧((ks.map keyOf).isEmpty=true→(((a7 l).map ic).map fU).Nodup) then some (C.dct (b_ (ks.map keyOf) (aL ks) ((a7 l).map keyOf) (aL (a7 l))).1 (b_ (ks.map keyOf) (aL ks) ((a7 l).map keyOf) (aL (a7 l))).2) else none)=_
  have c1:(aL ks).length+(aL (a7 l)).length≤lim:=by
   have:=j7 l
   unfold aL
   rw[List.length_map,List.length_map,dc];omega
  have c2:(ks.map keyOf).isEmpty=true→(((a7 l).map ic).map fU).Nodup:=fun z=>by
   rw[List.map_map]
   exact hh (by cases ks with | nil=>rfl | cons _ _=>cases z)
  rw[if_pos ⟨c1,c2⟩,mw]
 rw[this]
theorem sv (hg:Brd bd W) (hs:bd.length*W<64) (hw:Ways w) {x:Cell}(hx:On bd.length W x) {ρ:Rho}(h0:dV 0 ρ=M.ret (brd bd)) (h1:dV 1 ρ=M.ret (.int (w:Int))) (h4:dV 4 ρ=M.ret (cD x)):
 dA gR (aC (ax 3 aT (aC (dV 0) (aC (dV 4) (aC (dV 1) aN)))) aN) ρ=M.ret (cL (aI bd W w x)):=by
 obtain⟨k,ks,ps,q1,q2,q3⟩:=ir hg hw hx
 have e1:ax 3 aT (aC (dV 0) (aC (dV 4) (aC (dV 1) aN))) ρ=M.ret (vA ks ps):=(ao (ds:=[brd bd,cD x, .int (w:Int)]) (bA h0 (bA h4 (bA h1 rfl))) rfl).trans q3
 refine(cN (xs:=[vA ks ps]) (bA e1 rfl)).trans ((lW q1.nd (Nat.lt_of_le_of_lt (lE q1.nd q2) hs)).trans ?_)
 have:js ks=aI bd W w x:=IsPatch.one ⟨jc q1.nd,fun x=>iF.trans (q1.last x)⟩ (eB hw hx)
 rw[this]
theorem gK (s:List Cell) (x:Cell):cj bd W w (s++[x])=if Least bd W w x x then cj bd W w s++[x] else cj bd W w s:=by
 unfold cj
 rw[List.filter_append]
 by_cases h:Least bd W w x x
 ·rw[if_pos h,List.filter_cons_of_pos (by rw[decide_eq_true_eq];exact h),List.filter_nil]
 ·rw[if_neg h,List.filter_cons_of_neg (by rw[decide_eq_true_eq];exact h),List.filter_nil,List.append_nil]
theorem AU (hg:Brd bd W) (hs:bd.length*W<64) (hw:Ways w) {L:Cell→Cell}(hL:∀x,On bd.length W x→Least bd W w x (L x)) {s r ks:List Cell}{x:Cell}(e:s++x::r=ai bd.length W) (h:Seen bd W w s ks):
 ∃ks',Seen bd W w (s++[x]) ks'∧apB (apR bd W w s ks (fz (cD x)) none)=M.ret (.nx (apR bd W w (s++[x]) ks' none none)):=by
 have hx:On bd.length W x:=aA.mp (by rw[←e];simp)
 have hrise:=eX bd.length W
 rw[←e] at hrise
 have hso:∀y∈s,On bd.length W y:=fun y hy=>aA.mp (by rw[←e];simp[hy])
 have hro:∀y∈r,On bd.length W y:=fun y hy=>aA.mp (by rw[←e];simp[hy])
 have hbefore:∀y∈s,rank W y<rank W x:=fun y hy=>(eT (hso y hy) hx).mp ((List.pairwise_append.mp hrise).2.2 y hy x (List.mem_cons_self ..))
 have hafter:∀y∈r,rank W x<rank W y:=fun y hy=>(eT hx (hro y hy)).mp ((List.pairwise_cons.mp (List.pairwise_append.mp hrise).2.1).1 y hy)
 have hkl:ks.length≤64:=by have:=lE (bd:=bd) (W:=W) h.nd h.on;omega
 have hsl:s.length<64:=by
  have:=congrArg List.length e
  rw[aX,List.length_append,List.length_cons] at this
  omega
 have ht:tTf (tB' (d2 (nV true) (dV 4) (dV 3))) (apR bd W w s ks (fz (cD x)) none)=M.ret (!decide (x∈ks)):=
  xx (fZ ((aM (x:=cD x) (y:= .dct (ks.map keyOf) (aL ks)) rfl rfl).trans (vH (neg:=true) (by simp[aL]))))
 by_cases hl:Least bd W w x x
 ·have hxk:x∉ks:=fun z=>by
   obtain⟨m,hm,hc⟩:=(h.mem x).mp z
   unfold cj at hm
   rw[List.mem_filter,decide_eq_true_eq] at hm
   have h1:=hbefore m hm.1
   have h2:=hl.2 m (hc.symm hw (hso m hm.1))
   omega
  rw[decide_eq_false hxk] at ht
  have hP:=eB hw hx (bd:=bd) (W:=W)
  have hPon:∀y∈aI bd W w x,On bd.length W y:=fun y hy=>((hP.mem y).mp hy).on hw hx
  have hPl:(aI bd W w x).length≤64:=by have:=lE (bd:=bd) (W:=W) hP.rise.nodup hPon;omega
  have hfl:(apF bd W w s).length<lim:=by
   unfold apF
   rw[List.length_map,dc]
   have:=List.length_filter_le (fun x=>decide (Least bd W w x x)) s
   unfold cj
   omega
  refine⟨(a7 (aI bd W w x)).foldl bT ks,⟨zr h.nd,fun y hy=>?_,fun y=>?_⟩,?_⟩
  ·rcases((kR (a7 (aI bd W w x)) ks).2.1 y).mp hy with q | q
   ·exact h.on y q
   ·exact hPon y (gb.mp q)
  ·rw[(kR (a7 (aI bd W w x)) ks).2.1 y,gb,h.mem y,gK,if_pos hl,hP.mem y]
   constructor
   ·rintro(⟨m,hm,hc⟩ | hc)
    ·exact⟨m,List.mem_append.mpr (.inl hm),hc⟩
    ·exact⟨x,by simp,hc⟩
   ·rintro⟨m,hm,hc⟩
    rcases List.mem_append.mp hm with hm | hm
    ·exact .inl ⟨m,hm,hc⟩
    ·rw[List.mem_singleton.mp hm] at hc;exact .inr hc
  ·have ef:apF bd W w (s++[x])=apF bd W w s++[cL (aI bd W w x)]:=by
    unfold apF
    rw[gK,if_pos hl,List.map_append]
    rfl
   refine(a_ (ρ':=[fz (brd bd),fz (.int (w:Int)),some (.ow (.lst (apF bd W w s++[cL (aI bd W w x)]))),some (.ow (.dct (((a7 (aI bd W w x)).foldl bT ks).map keyOf) (aL ((a7 (aI bd W w x)).foldl bT ks)))),fz (cD x),fz (cL (aI bd W w x))]) (el ht (ak (ρ':=apR bd W w s ks (fz (cD x)) (fz (cL (aI bd W w x)))) ((aQ (sv hg hs hw hx rfl rfl rfl)).trans rfl) (ak (ρ':=[fz (brd bd),fz (.int (w:Int)),some (.ow (.lst (apF bd W w s++[cL (aI bd W w x)]))),some (.ow (.dct (ks.map keyOf) (aL ks))),fz (cD x),fz (cL (aI bd W w x))]) ?_ ?_)))).trans ?_
   ·show (if (apF bd W w s).length<lim then M.ret (Out.nx [fz (brd bd),fz (.int (w:Int)),some (.ow (.lst (apF bd W w s++[cL (aI bd W w x)]))),some (.ow (.dct (ks.map keyOf) (aL ks))),fz (cD x),fz (cL (aI bd W w x))]) else M.stuck)=_
    rw[if_pos hfl]
   ·exact(za (ks:=ks) (l:=aI bd W w x) rfl ((ao (ds:=[cL (aI bd W w x)]) rfl rfl).trans (wu (by omega))) (by omega) (fun _=>AW hg.r8 hg.w8 (lX _) fun y hy=>hPon y (gb.mp hy))).trans rfl
   ·unfold apR
    rw[ef]
    rfl
 ·have hm:=hL x hx
  have hne:L x≠x:=fun z=>hl (by rw[z] at hm;exact hm)
  have hlt:rank W (L x)<rank W x:=by
   have h1:=hm.2 x Cn.refl
   have h2:rank W (L x)≠rank W x:=fun z=>hne (jq (hm.on hw hx) hx z)
   omega
  have hms:L x∈s:=by
   have:L x∈s++x::r:=by rw[e];exact aA.mpr (hm.on hw hx)
   rcases List.mem_append.mp this with q | q
   ·exact q
   ·rcases List.mem_cons.mp q with q | q
    ·exact absurd q hne
    ·have:=hafter _ q;omega
  have hxk:x∈ks:=(h.mem x).mpr ⟨L x,by unfold cj;rw[List.mem_filter,decide_eq_true_eq];exact⟨hms,hm.self hw hx⟩,hm.1.symm hw hx⟩
  rw[decide_eq_true hxk] at ht
  refine⟨ks,⟨h.nd,h.on,fun y=>by rw[gK,if_neg hl];exact h.mem y⟩,?_⟩
  have ef:apF bd W w (s++[x])=apF bd W w s:=by
   unfold apF
   rw[gK,if_neg hl]
  refine(a_ (dP ht rfl)).trans ?_
  unfold apR
  rw[ef]
  rfl
theorem vF (hg:Brd bd W) (hs:bd.length*W<64) (hw:Ways w) {L:Cell→Cell}(hL:∀x,On bd.length W x→Least bd W w x (L x)):∀(r s ks:List Cell),s++r=ai bd.length W→Seen bd W w s ks→
 ∃ks',forL (putN 4) apB (r.map cD) (apR bd W w s ks none none)=M.ret (.nx (apR bd W w (ai bd.length W) ks' none none))
 |[],s,ks,e,h=>by
  rw[List.append_nil] at e
  exact⟨ks,by rw[e];rfl⟩
 |x::r,s,ks,e,h=>by
  obtain⟨ks1,h1,e1⟩:=AU hg hs hw hL e h
  obtain⟨ks2,e2⟩:=vF hg hs hw hL r (s++[x]) ks1 (by rw[List.append_assoc];exact e) h1
  exact⟨ks2,(dS rfl e1).trans e2⟩
theorem eZ (hg:Brd bd W) (hs:bd.length*W<64) (hw:Ways w):bR [brd bd, .int (w:Int)]=M.ret (g_ bd W w):=by
 obtain⟨L,hL,_⟩:=d7 hg hw
 obtain⟨ks,e⟩:=vF hg hs hw hL (ai bd.length W) [] [] rfl ⟨List.nodup_nil,(fun y hy=>(by cases hy)),(fun y=>⟨fun z=>(by cases z),fun⟨m,hm,_⟩=>(by cases hm)⟩)⟩
 refine bf (ak (ρ':=[fz (brd bd),fz (.int (w:Int)),some (.ow (.lst [])),none,none,none]) rfl (ak (ρ':=apR bd W w [] [] none none) rfl (ak (ρ':=apR bd W w (ai bd.length W) ks none none) (c8 (dQ (ds:=(ai bd.length W).map cD) (tM ((ao (ds:=[brd bd]) rfl rfl).trans (nE hg))) e)) rfl)))
end
end K1
namespace K1
open PySem L2 L3
structure NumOk (R W:Nat) (Ps:List (List Cell)) (ks:List Cell) (f:Cell→Nat):Prop where
 nd:ks.Nodup
 on:∀y∈ks,On R W y
 num:∀y∈ks,∃P,Ps[f y]? =some P∧y∈P
def nmB:DS:=bN [4] (fb 1 (dV 4) (dV 2))
def nmR (Ps:List (List Cell)) (ks:List Cell) (f:Cell→Nat) (x2 x3 x4:Option Sl):Rho:=[fz (.lst (Ps.map cL)),some (.ow (dfn ks fun y=> .int (f y:Int))),x2,x3,x4]
theorem wH {ks:List Cell}{x:Cell}:x∈bT ks x:=gX.mpr (.inr rfl)
theorem Bd {R W:Nat}(hm:R*W≤64) {Ps:List (List Cell)}{i:Nat}{P:List Cell}(hP:Ps[i]? =some P) {x3:Option Sl}(hon:∀y∈P,On R W y):∀(l ks:List Cell) (f:Cell→Nat),(∀y∈l,y∈P)→NumOk R W Ps ks f→
 ∃ks' f',NumOk R W Ps ks' f'∧(∀y∈ks,y∈ks')∧(∀y∈l,y∈ks')∧forL (putN 4) nmB (l.map cD) (nmR Ps ks f (fz (.int (i:Int))) x3 none)=M.ret (.nx (nmR Ps ks' f' (fz (.int (i:Int))) x3 none))
 |[],ks,f,_,h=>⟨ks,f,h,fun y hy=>hy,(fun y hy=>(by cases hy)),rfl⟩
 |x::l,ks,f,hl,h=>by
  have hx:=hl x (List.mem_cons_self ..)
  have hkl:ks.length≤64:=by
   have h1:=jf h.nd fun y hy=>aA.mpr (h.on y hy)
   rw[aX] at h1
   omega
  have h1:NumOk R W Ps (bT ks x) (fun y=>if y=x then i else f y):=by
   refine⟨(kR [x] ks).1 h.nd,fun y hy=>?_,fun y hy=>?_⟩
   ·rcases gX.mp hy with q | q
    ·exact h.on y q
    ·rw[q];exact hon x hx
   ·by_cases e:y=x
    ·refine⟨P,?_,by rw[e];exact hx⟩
     show Ps[if y=x then i else f y]? =_
     rw[if_pos e];exact hP
    ·rcases gX.mp hy with q | q
     ·obtain⟨Q,q1,q2⟩:=h.num y q
      refine⟨Q,?_,q2⟩
      show Ps[if y=x then i else f y]? =_
      rw[if_neg e];exact q1
     ·exact absurd q e
  obtain⟨ks',f',a1,a2,a3,a4⟩:=Bd hm hP hon l (bT ks x) _ (fun y hy=>hl y (List.mem_cons_of_mem _ hy)) h1
  refine⟨ks',f',a1,fun y hy=>a2 y (gX.mpr (.inl hy)),fun y hy=>?_,?_⟩
  ·rcases List.mem_cons.mp hy with rfl | hy
   ·exact a2 _ wH
   ·exact a3 y hy
  ·refine(dS (ρ1:=nmR Ps ks f (fz (.int (i:Int))) x3 (fz (cD x))) rfl ?_).trans a4
   refine(a_ ((lD (ks:=ks) (f:=fun y=> .int (f y:Int)) (x:=x) (d:= .int (i:Int)) rfl rfl rfl (by rw[dc];omega)).trans rfl)).trans ?_
   have ef:d8 (fun y=>D.int (f y:Int)) x (.int (i:Int))=fun y=>D.int ((if y=x then i else f y:Nat):Int):=by
    funext y
    unfold d8
    by_cases e:y=x
    ·rw[if_pos e,if_pos e]
    ·rw[if_neg e,if_neg e]
   show M.ret (Out.nx [fz (.lst (Ps.map cL)),some (.ow (dfn (bT ks x) (d8 (fun y=>D.int (f y:Int)) x (.int (i:Int))))),fz (.int (i:Int)),x3,none])=_
   rw[ef]
   rfl
def enD (q:Nat×List Cell):D:= .tup [.int (q.1:Int),cL q.2]
theorem yi {R W:Nat}(hm:R*W≤64) {Ps:List (List Cell)}(hon:∀P∈Ps,∀y∈P,On R W y):∀(qs:List (Nat×List Cell)) (ks:List Cell) (f:Cell→Nat),(∀q∈qs,Ps[q.1]? =some q.2)→NumOk R W Ps ks f→
 ∃ks' f',NumOk R W Ps ks' f'∧(∀y∈ks,y∈ks')∧(∀q∈qs,∀y∈q.2,y∈ks')∧forL (jd [2,3]) (bN [2,3,4] (cT (putN 4) (cW (dV 3)) nmB)) (qs.map enD) (nmR Ps ks f none none none)=M.ret (.nx (nmR Ps ks' f' none none none))
 |[],ks,f,_,h=>⟨ks,f,h,fun y hy=>hy,(fun q hq=>(by cases hq)),rfl⟩
 |q::qs,ks,f,hq,h=>by
  have hP:=hq q (List.mem_cons_self ..)
  obtain⟨ks1,f1,a1,a2,a3,a4⟩:=Bd hm hP (x3:=fz (cL q.2)) (hon q.2 (List.mem_of_getElem? hP)) q.2 ks f (fun y hy=>hy) h
  obtain⟨ks2,f2,b1,b2,b3,b4⟩:=yi hm hon qs ks1 f1 (fun q' hq'=>hq q' (List.mem_cons_of_mem _ hq')) a1
  refine⟨ks2,f2,b1,fun y hy=>b2 y (a2 y hy),fun q' hq' y hy=>?_,?_⟩
  ·rcases List.mem_cons.mp hq' with rfl | hq'
   ·exact b2 y (a3 y hy)
   ·exact b3 q' hq' y hy
  ·exact(dS (ρ1:=nmR Ps ks f (fz (.int (q.1:Int))) (fz (cL q.2)) none) rfl ((a_ (dQ (ds:=q.2.map cD) (itL rfl) a4)).trans rfl)).trans b4
theorem vV (Ps:List (List Cell)):(Ps.map cL).mapIdx (fun i d=>D.tup [.int (i:Int),d])=(Ps.zipIdx.map fun q:List Cell×Nat=>(q.2,q.1)).map enD:=by
 apply List.ext_getElem?
 intro i
 simp only[List.getElem?_mapIdx,List.getElem?_map,List.getElem?_zipIdx,Option.map_map,Nat.zero_add]
 cases Ps[i]? <;>simp[enD]
theorem l5 {R W:Nat}(hm:R*W≤64) {Ps:List (List Cell)}(hon:∀P∈Ps,∀y∈P,On R W y):∃ks f,NumOk R W Ps ks f∧(∀P∈Ps,∀y∈P,y∈ks)∧fc [.lst (Ps.map cL)]=M.ret (dfD ks fun y=> .int (f y:Int)):=by
 have hq:∀q∈Ps.zipIdx.map (fun q:List Cell×Nat=>(q.2,q.1)),Ps[q.1]? =some q.2:=fun q hq=>by
  obtain⟨⟨P,i⟩,h1,rfl⟩:=List.mem_map.mp hq
  exact List.mem_zipIdx_iff_getElem?.mp h1
 obtain⟨ks,f,a1,a2,a3,a4⟩:=yi hm hon (Ps.zipIdx.map fun q:List Cell×Nat=>(q.2,q.1)) [] (fun _=>0) hq ⟨List.nodup_nil,(fun y hy=>(by cases hy)),(fun y hy=>(by cases hy))⟩
 refine⟨ks,f,a1,fun P hP y hy=>?_,?_⟩
 ·obtain⟨i,hi,rfl⟩:=List.getElem_of_mem hP
  refine a3 (i,Ps[i]) (List.mem_map.mpr ⟨(Ps[i],i),List.mem_zipIdx_iff_getElem?.mpr (by rw[List.getElem?_eq_getElem hi]),rfl⟩) y hy
 ·refine bf (ak (ρ':=nmR Ps [] (fun _=>0) none none none) rfl (ak (ρ':=nmR Ps ks f none none none) (c8 (dQ (ds:=(Ps.zipIdx.map fun q:List Cell×Nat=>(q.2,q.1)).map enD) ?_ a4)) rfl))
  show M.ret ((Ps.map cL).mapIdx fun i d=>D.tup [.int (i:Int),d])=_
  rw[vV]
theorem sG {α β:Type}(g:α→β):∀l:List α,(l.flatMap fun r=>[g r])=l.map g
 |[]=>rfl
 |a::l=>by rw[List.flatMap_cons,sG g l];rfl
section
open Classical
variable {bd : List Str} {W w : Nat}
noncomputable def aV (bd:List Str) (W w:Nat):List (List Cell):=(cj bd W w (ai bd.length W)).map (aI bd W w)
theorem gO:g_ bd W w= .lst ((aV bd W w).map cL):=by
 unfold g_ aV
 rw[List.map_map]
 rfl
theorem mM {m:Cell}(h:m∈cj bd W w (ai bd.length W)):On bd.length W m:=by
 unfold cj at h
 exact aA.mp (List.mem_filter.mp h).1
theorem wU (hw:Ways w):∀P∈aV bd W w,∀y∈P,On bd.length W y:=fun P hP y hy=>by
 unfold aV at hP
 obtain⟨m,hm,rfl⟩:=List.mem_map.mp hP
 exact(((eB hw (mM hm)).mem y).mp hy).on hw (mM hm)
theorem tV (hg:Brd bd W) (hw:Ways w) {x:Cell}(hx:On bd.length W x):∃P∈aV bd W w,x∈P:=by
 obtain⟨L,hL,_⟩:=d7 hg hw
 have hm:=hL x hx
 have hmo:=hm.on hw hx
 refine⟨aI bd W w (L x),List.mem_map.mpr ⟨L x,?_,rfl⟩,((eB hw hmo).mem x).mpr (hm.1.symm hw hx)⟩
 unfold cj
 rw[List.mem_filter,decide_eq_true_eq]
 exact⟨aA.mpr hmo,hm.self hw hx⟩
theorem uH (hg:Brd bd W) (hw:Ways w) {x:Cell}(hx:On bd.length W x):(aV bd W w).filter (fun P=>decide (x∈P))=[aI bd W w x]:=by
 obtain⟨L,hL,_⟩:=d7 hg hw
 have hm:=hL x hx
 have hmo:=hm.on hw hx
 have e1:(cj bd W w (ai bd.length W)).filter ((fun P=>decide (x∈P))∘aI bd W w)=[L x]:=by
  refine kc (((eX _ _).filter _).filter _) (List.pairwise_singleton ..) fun m=>?_
  rw[List.mem_filter,List.mem_singleton]
  show (m∈cj bd W w (ai bd.length W)∧decide (x∈aI bd W w m)=true)↔_
  rw[decide_eq_true_eq]
  constructor
  ·rintro⟨h1,h2⟩
   have ho:=mM h1
   have hc:=((eB hw ho).mem x).mp h2
   unfold cj at h1
   rw[List.mem_filter,decide_eq_true_eq] at h1
   exact(h1.2.move hw ho hc).one hw hx hm
  ·rintro rfl
   refine⟨?_,((eB hw hmo).mem x).mpr (hm.1.symm hw hx)⟩
   unfold cj
   rw[List.mem_filter,decide_eq_true_eq]
   exact⟨aA.mpr hmo,hm.self hw hx⟩
 unfold aV
 rw[List.filter_map,e1]
 show [aI bd W w (L x)]=_
 congr 1
 unfold aI
 refine List.filter_congr fun y _=>?_
 rw[decide_eq_decide]
 exact⟨fun h=>hm.1.trans h,fun h=>(hm.1.symm hw hx).trans h⟩
theorem uD:(aV bd W w).length≤bd.length*W:=by
 unfold aV cj
 rw[List.length_map,←aX bd.length W]
 exact List.length_filter_le ..
theorem rO (hg:Brd bd W) (hs:bd.length*W<64) (hw:Ways w):c_ [brd bd, .int (w:Int)]=M.ret (.lst ((aV bd W w).map cL)):=by
 rw[←gO]
 exact bf (ak (bX ((ao (ds:=[brd bd]) rfl rfl).trans hg.nb)) (ak (bX ((ao (ds:=[.int (w:Int)]) rfl rfl).trans hw.nw)) (aR ((ao (ds:=[brd bd, .int (w:Int)]) rfl rfl).trans (eZ hg hs hw)))))
theorem qh (hg:Brd bd W) (hs:bd.length*W<64) (hw:Ways w):cu [brd bd, .int (w:Int)]=M.ret (.int ((aV bd W w).length:Int)):=by
 refine bf (ak (bX ((ao (ds:=[brd bd]) rfl rfl).trans hg.nb)) (ak (bX ((ao (ds:=[.int (w:Int)]) rfl rfl).trans hw.nw)) (aR ((cN (xs:=[g_ bd W w]) (bA ((ao (ds:=[brd bd, .int (w:Int)]) rfl rfl).trans (eZ hg hs hw)) rfl)).trans ?_))))
 rw[gO]
 show M.ret (D.int (((aV bd W w).map cL).length:Int))=_
 rw[List.length_map]
theorem ql (hg:Brd bd W) (hs:bd.length*W<64) (hw:Ways w):∃f:Cell→Nat,(∀x,On bd.length W x→∃P,(aV bd W w)[f x]? =some P∧x∈P)∧
 cy [brd bd, .int (w:Int)]=M.ret (.lst ((List.range bd.length).map fun r=> .lst ((aO W r).map fun y=> .int (f y:Int)))):=by
 obtain⟨ks,f,a1,a2,a3⟩:=l5 (R:=bd.length) (W:=W) (by omega) (wU (bd:=bd) hw)
 have hks:∀x,On bd.length W x→x∈ks:=fun x hx=>by
  obtain⟨P,hP,h⟩:=tV hg hw hx
  exact a2 P hP x h
 refine⟨f,fun x hx=>a1.num x (hks x hx),?_⟩
 have h8:=hg.r8
 have w8:=hg.w8
 have e:=dh (put:=putN 4) (body:=bN [4] (gY 3 (br 0 (cW (ax 2 aY (aC (dV 0) (aC (dV 4) aN)))) cb (d2 dw (dV 3) (dV 0))))) (fun (k:Nat)=>D.int (k:Int)) (fun acc=>[fz (brd bd),fz (.int (w:Int)),fz (dfD ks fun y=> .int (f y:Int)),some (.ow (.lst acc)),none]) (fun r=>[D.lst ((aO W r).map fun y=> .int (f y:Int))]) (B:=64) (List.range bd.length) []
  (by
   rw[List.nil_append]
   have:=nk (n:=1) (fun r=>[D.lst ((aO W r).map fun y=> .int (f y:Int))]) (fun r=>by simp) (List.range bd.length)
   rw[List.length_range] at this
   omega) fun r hr acc hB=>by
   refine⟨[fz (brd bd),fz (.int (w:Int)),fz (dfD ks fun y=> .int (f y:Int)),some (.ow (.lst acc)),fz (.int (r:Int))],rfl,?_⟩
   have hc:br 0 (cW (ax 2 aY (aC (dV 0) (aC (dV 4) aN)))) cb (d2 dw (dV 3) (dV 0)) [fz (brd bd),fz (.int (w:Int)),fz (dfD ks fun y=> .int (f y:Int)),some (.ow (.lst acc)),fz (.int (r:Int))]=M.ret (.lst ((aO W r).map fun y=> .int (f y:Int))):=by
    refine bS (ds:=(aO W r).map cD) (tM ((ao (ds:=[brd bd, .int (r:Int)]) rfl rfl).trans (gq hg r))) (eG cD (fun y=> .int (f y:Int)) _ fun y hy=>?_) (by simp[aO,dc];omega)
    have hy':On bd.length W y:=by
     obtain⟨k,hk,rfl⟩:=List.mem_map.mp hy
     exact⟨List.mem_range.mp hr,List.mem_range.mp hk⟩
    rw[jb]
    have:d2 dw (dV 3) (dV 0) [fz (cD y),fz (brd bd),fz (.int (w:Int)),fz (dfD ks fun y=> .int (f y:Int)),some (.ow (.lst acc)),fz (.int (r:Int))]=M.ret (.int (f y:Int)):=(aM (x:=dfD ks fun y=> .int (f y:Int)) (y:=cD y) rfl rfl).trans (lZ (f:=fun y=> .int (f y:Int)) (hks y hy'))
    rw[this]
    rfl
   refine(a_ (ρ':=[fz (brd bd),fz (.int (w:Int)),fz (dfD ks fun y=> .int (f y:Int)),some (.ow (.lst (acc++[.lst ((aO W r).map fun y=> .int (f y:Int))]))),fz (.int (r:Int))]) ?_).trans rfl
   show (br 0 (cW (ax 2 aY (aC (dV 0) (aC (dV 4) aN)))) cb (d2 dw (dV 3) (dV 0)) [fz (brd bd),fz (.int (w:Int)),fz (dfD ks fun y=> .int (f y:Int)),some (.ow (.lst acc)),fz (.int (r:Int))]>>=fun d=>if acc.length<lim then M.ret (Out.nx [fz (brd bd),fz (.int (w:Int)),fz (dfD ks fun y=> .int (f y:Int)),some (.ow (.lst (acc++[d]))),fz (.int (r:Int))]) else M.stuck)=_
   rw[hc,ar,if_pos (by rw[List.length_append] at hB;rw[dc];simp at hB;omega)]
 rw[List.nil_append,show ((List.range bd.length).flatMap fun r=>[D.lst ((aO W r).map fun y=> .int (f y:Int))])=(List.range bd.length).map (fun r=>D.lst ((aO W r).map fun y=> .int (f y:Int))) from sG _ _] at e
 refine bf (ak (bX ((ao (ds:=[brd bd]) rfl rfl).trans hg.nb)) (ak (bX ((ao (ds:=[.int (w:Int)]) rfl rfl).trans hw.nw)) (ak (ρ':=[fz (brd bd),fz (.int (w:Int)),fz (dfD ks fun y=> .int (f y:Int)),none,none]) ((aQ (d:=dfD ks fun y=> .int (f y:Int)) ((ao (ds:=[.lst ((aV bd W w).map cL)]) (bA ((ao (ds:=[brd bd, .int (w:Int)]) rfl rfl).trans ((eZ hg hs hw).trans (by rw[gO]))) rfl) rfl).trans a3)).trans rfl) (ak (ρ':=[fz (brd bd),fz (.int (w:Int)),fz (dfD ks fun y=> .int (f y:Int)),some (.ow (.lst [])),none]) rfl (ak (c8 (dQ (vJ (n:=bd.length) (t9 rfl) (by omega)) e)) rfl)))))
end
end K1
namespace K1
open PySem L2 L3
theorem fq {δ:DE}{ρ:Rho}{n:Nat}(h:δ ρ=M.raise n):i8 δ ρ=M.raise n:=by
 unfold i8
 rw[h]
 rfl
theorem fg {a b:DS}{ρ:Rho}{n:Nat}(h:a ρ=M.raise n):aB a b ρ=M.raise n:=by
 unfold aB
 rw[h]
 rfl
def fY (n:Nat):D:= .tup [.str "refused", .int (n:Int)]
def z5 (m:M D):M D:=match m with
 |some (.ex n)=>noex (hdM n)
 |r=>r
theorem vm {b c w:D}:aw [.int 0,b,c,w]=z5 (bW [b,c,w]):=by
 show ((match (bW [b,c,w]>>=fun d=>M.ret (Out.rt d))>>=(fun o=>match o with | .nx ρ'=>_ | .rt d=>M.ret (Out.rt d)) with | some (.ex n)=>noex (hdM n)>>=fun d=>M.ret (Out.rt d) | r=>r)>>=fun o=>match o with | .nx _=>M.ret D.non | .rt d=>M.ret d)=_
 match bW [b,c,w] with
 |none=>rfl
 |some (.ok a)=>rfl
 |some (.ex n)=>rfl
theorem xD {b c w:D}:aw [.int 1,b,c,w]=z5 (c_ [b,w]):=by
 show ((match (c_ [b,w]>>=fun d=>M.ret (Out.rt d)) with | some (.ex n)=>noex (hdM n)>>=fun d=>M.ret (Out.rt d) | r=>r)>>=fun o=>match o with | .nx _=>M.ret D.non | .rt d=>M.ret d)=_
 match c_ [b,w] with
 |none=>rfl
 |some (.ok a)=>rfl
 |some (.ex n)=>rfl
theorem xH {b c w:D}:aw [.int 2,b,c,w]=z5 (cu [b,w]):=by
 show ((match (cu [b,w]>>=fun d=>M.ret (Out.rt d)) with | some (.ex n)=>noex (hdM n)>>=fun d=>M.ret (Out.rt d) | r=>r)>>=fun o=>match o with | .nx _=>M.ret D.non | .rt d=>M.ret d)=_
 match cu [b,w] with
 |none=>rfl
 |some (.ok a)=>rfl
 |some (.ex n)=>rfl
theorem xA {b c w:D}:aw [.int 3,b,c,w]=z5 (cy [b,w]):=by
 show ((match (cy [b,w]>>=fun d=>M.ret (Out.rt d)) with | some (.ex n)=>noex (hdM n)>>=fun d=>M.ret (Out.rt d) | r=>r)>>=fun o=>match o with | .nx _=>M.ret D.non | .rt d=>M.ret d)=_
 match cy [b,w] with
 |none=>rfl
 |some (.ok a)=>rfl
 |some (.ex n)=>rfl
theorem nT {d:D}(h:Plain2 d) (hb:i9 d=false):be [d]=M.raise 0:=by
 refine dZ (el (pL (b:=false) (gA ((ao (ds:=[d]) rfl rfl).trans ((jP h).trans (by rw[hb]))))) rfl)
theorem qQ {bd:List Str}{W:Nat}(hg:Brd bd W) {d:D}(h:Plain2 d) (hb:tw bd.length W d=false):dO [brd bd,d]=M.raise 2:=by
 refine dZ (el (pL (b:=false) (gA ((ao (ds:=[brd bd,d]) rfl rfl).trans ((la hg h).trans (by rw[hb]))))) rfl)
def wV:List D:=[.int 0, .int 5, .non, .bl true, .str "8", .int 6]
theorem qd {d:D}(h:d∈wV):bE [d]=M.raise 1:=by
 unfold wV at h
 simp only[List.mem_cons,List.not_mem_nil,or_false] at h
 rcases h with rfl | rfl | rfl | rfl | rfl | rfl<;>rfl
section
variable {bd : List Str} {W : Nat}
theorem yP (hg:Brd bd W) {c:Cell}(hc:On bd.length W c) {d:D}(h:d∈wV) (k:Nat) (hk:k<4):aw [.int (k:Int),brd bd,cD c,d]=M.ret (fY 1):=by
 have n1:be [brd bd]=M.ret .non:=hg.nb
 have n2:dO [brd bd,cD c]=M.ret .non:=hg.nc hc
 have n3:=qd h
 have p0:bW [brd bd,cD c,d]=M.raise 1:=dZ (ak (bX ((ao (ds:=[brd bd]) rfl rfl).trans n1)) (ak (bX ((ao (ds:=[brd bd,cD c]) rfl rfl).trans n2)) (fg (fq ((ao (ds:=[d]) rfl rfl).trans n3)))))
 have p1:c_ [brd bd,d]=M.raise 1:=dZ (ak (bX ((ao (ds:=[brd bd]) rfl rfl).trans n1)) (fg (fq ((ao (ds:=[d]) rfl rfl).trans n3))))
 have p2:cu [brd bd,d]=M.raise 1:=dZ (ak (bX ((ao (ds:=[brd bd]) rfl rfl).trans n1)) (fg (fq ((ao (ds:=[d]) rfl rfl).trans n3))))
 have p3:cy [brd bd,d]=M.raise 1:=dZ (ak (bX ((ao (ds:=[brd bd]) rfl rfl).trans n1)) (fg (fq ((ao (ds:=[d]) rfl rfl).trans n3))))
 match k,hk with
 |0,_=>exact vm.trans (by rw[p0];rfl)
 |1,_=>exact xD.trans (by rw[p1];rfl)
 |2,_=>exact xH.trans (by rw[p2];rfl)
 |3,_=>exact xA.trans (by rw[p3];rfl)
theorem yS (hg:Brd bd W) {b d:D}(hb:Plain2 b) (h2:tw bd.length W b=false):aw [.int 0,brd bd,b,d]=M.ret (fY 2):=by
 have p0:bW [brd bd,b,d]=M.raise 2:=dZ (ak (bX ((ao (ds:=[brd bd]) rfl rfl).trans hg.nb)) (fg (fq ((ao (ds:=[brd bd,b]) rfl rfl).trans (qQ hg hb h2)))))
 exact vm.trans (by rw[p0];rfl)
theorem vY {x:D}(hp:Plain2 x) (hx:i9 x=false) {b d:D}(k:Nat) (hk:k<4):aw [.int (k:Int),x,b,d]=M.ret (fY 0):=by
 have n1:=nT hp hx
 have p0:bW [x,b,d]=M.raise 0:=dZ (fg (fq ((ao (ds:=[x]) rfl rfl).trans n1)))
 have p1:c_ [x,d]=M.raise 0:=dZ (fg (fq ((ao (ds:=[x]) rfl rfl).trans n1)))
 have p2:cu [x,d]=M.raise 0:=dZ (fg (fq ((ao (ds:=[x]) rfl rfl).trans n1)))
 have p3:cy [x,d]=M.raise 0:=dZ (fg (fq ((ao (ds:=[x]) rfl rfl).trans n1)))
 match k,hk with
 |0,_=>exact vm.trans (by rw[p0];rfl)
 |1,_=>exact xD.trans (by rw[p1];rfl)
 |2,_=>exact xH.trans (by rw[p2];rfl)
 |3,_=>exact xA.trans (by rw[p3];rfl)
end
section
open Classical
variable {bd : List Str} {W w : Nat}
theorem Bm {Ps:List (List Cell)}{i:Nat}{P:List Cell}(h:Ps[i]? =some P):e9 (.lst (Ps.map cL)) (.int (i:Int))=M.ret (cL P):=by
 show (match L2.atI (Ps.map cL) (i:Int) with | some x=>M.ret x | none=>M.stuck)=_
 rw[eY (x:=cL P) (by rw[List.getElem?_map,h];rfl)]
theorem lB {l:List D}{i:Nat}{d:D}(h:l[i]? =some d):e9 (.lst l) (.int (i:Int))=M.ret d:=by
 show (match L2.atI l (i:Int) with | some x=>M.ret x | none=>M.stuck)=_
 rw[eY h]
def cLL (Ps:List (List Cell)):D:= .lst (Ps.map cL)
theorem zO:o6 3 cLL:=p6 (p6 ui)
def xP:DS:=(bN [4,5,6,7,8,9] (aB (bh 5 (ax 2 b6 (aC (dV 1) (aC (dV 4) aN)))) (aB (bh 6 (d2 e9 (br 0 (cW (dV 5)) (tB' (d2 (nR false) (dV 4) (dV 0))) (dV 0)) (dC (.int 0)))) (aB (sIf (dOr (tB' (d2 gNe (ax 4 aw (aC (dC (.int 0)) (aC (dV 1) (aC (dV 3) (aC (dV 4) aN))))) (dV 6))) (tB' (d2 gNe (ax 4 aw (aC (dC (.int 1)) (aC (dV 1) (aC (dV 3) (aC (dV 4) aN))))) (dV 5)))) (bp (dC (.bl false))) cf) (aB (sIf (tB' (d2 gNe (ax 4 aw (aC (dC (.int 2)) (aC (dV 1) (aC (dV 3) (aC (dV 4) aN))))) (dA aS (aC (dV 5) aN)))) (bp (dC (.bl false))) cf) (aB (bh 7 (ax 4 aw (aC (dC (.int 3)) (aC (dV 1) (aC (dV 3) (aC (dV 4) aN)))))) (aB (sIf (dOr (tB' (d2 gNe (dA aS (aC (dV 7) aN)) (dA aS (aC (dV 1) aN)))) (tB' (d2 gNe (br 0 (cW (dV 7)) (tB' (d2 gNe (dA aS (aC (dV 0) aN)) (dA aS (aC (d2 aK (dV 2) (dC (.int 0))) aN)))) (dV 0)) (dA bD aN)))) (bp (dC (.bl false))) cf) (cT (jd [8,9]) (cW (dV 2)) (bN [8,9] (sIf (tB' (d2 (nR true) (dA aU (aC (dV 8) (aC (dV 9) aN))) (d2 e9 (dV 5) (d2 e9 (d2 e9 (dV 7) (dV 8)) (dV 9))))) (bp (dC (.bl false))) cf))))))))))
theorem uB (hg:Brd bd W) (hs:bd.length*W<64) (hw:Ways w) {a:Cell}(ha:On bd.length W a) (s:D):
 xP [fz s,fz (brd bd),fz (cL (ai bd.length W)),fz (cD a),fz (.int (w:Int)),none,none,none,none,none,none,none]=M.ret (.nx [fz s,fz (brd bd),fz (cL (ai bd.length W)),fz (cD a),none,none,none,none,none,none,none,none]):=by
 have hlp:b6 [brd bd, .int (w:Int)]=M.ret (cLL (aV bd W w)):=(lh hg hs hw).trans (by rw[gO];rfl)
 obtain⟨f,hf,ef⟩:=ql hg hs hw
 have hpo:bW [brd bd,cD a, .int (w:Int)]=M.ret (cL (aI bd W w a)):=by
  obtain⟨P,h1,h2⟩:=qm hg hs hw ha
  rw[h2,h1.one (eB hw ha)]
 have t0:aw [.int 0,brd bd,cD a, .int (w:Int)]=M.ret (cL (aI bd W w a)):=vm.trans (by rw[hpo];rfl)
 have t1:aw [.int 1,brd bd,cD a, .int (w:Int)]=M.ret (cLL (aV bd W w)):=xD.trans (by rw[rO hg hs hw];rfl)
 have t2:aw [.int 2,brd bd,cD a, .int (w:Int)]=M.ret (.int ((aV bd W w).length:Int)):=xH.trans (by rw[qh hg hs hw];rfl)
 have t3:aw [.int 3,brd bd,cD a, .int (w:Int)]=M.ret (.lst ((List.range bd.length).map fun r=> .lst ((aO W r).map fun y=> .int (f y:Int)))):=xA.trans (by rw[ef];rfl)
 have hpl:=uD (bd:=bd) (W:=W) (w:=w)
 refine(a_ (ρ':=[fz s,fz (brd bd),fz (cL (ai bd.length W)),fz (cD a),fz (.int (w:Int)),fz (cLL (aV bd W w)),fz (cL (aI bd W w a)),fz (.lst ((List.range bd.length).map fun r=> .lst ((aO W r).map fun y=> .int (f y:Int)))),none,none,none,none]) ?_).trans rfl
 refine ak (ρ':=[fz s,fz (brd bd),fz (cL (ai bd.length W)),fz (cD a),fz (.int (w:Int)),fz (cLL (aV bd W w)),none,none,none,none,none,none]) ((aQ ((ao (ds:=[brd bd, .int (w:Int)]) rfl rfl).trans hlp)).trans rfl) ?_
 refine ak (ρ':=[fz s,fz (brd bd),fz (cL (ai bd.length W)),fz (cD a),fz (.int (w:Int)),fz (cLL (aV bd W w)),fz (cL (aI bd W w a)),none,none,none,none,none]) ((aQ (d:=cL (aI bd W w a)) ?_).trans rfl) ?_
 ·refine(aM (x:=cLL [aI bd W w a]) (y:= .int 0) ?_ rfl).trans rfl
  refine bS (ds:=(aV bd W w).map cL) (ys:=[aI bd W w a].map cL) rfl ?_ (by simp[dc])
  rw[←uH hg hw ha]
  refine ix cL (fun P=>decide (a∈P)) _ fun P hP=>?_
  rw[tN]
  have:tB' (d2 (nR false) (dV 4) (dV 0)) [fz (cL P),fz s,fz (brd bd),fz (cL (ai bd.length W)),fz (cD a),fz (.int (w:Int)),fz (cLL (aV bd W w)),none,none,none,none,none,none]=M.ret (decide (a∈P)):=fZ ((aM (x:=cD a) (y:=cL P) rfl rfl).trans vg)
  rw[this]
  by_cases h:a∈P
  ·rw[decide_eq_true h];rfl
  ·rw[decide_eq_false h];rfl
 refine ak (dP (yT (p:=false) (q:=false) (fZ ((aM (x:=cL (aI bd W w a)) (y:=cL (aI bd W w a)) ((ao (ds:=[.int 0,brd bd,cD a, .int (w:Int)]) rfl rfl).trans t0) rfl).trans ((Df _ _).trans (by simp)))) (fZ ((aM (x:=cLL (aV bd W w)) (y:=cLL (aV bd W w)) ((ao (ds:=[.int 1,brd bd,cD a, .int (w:Int)]) rfl rfl).trans t1) rfl).trans ((ux zO (by decide) _ _).trans (by simp))))) rfl) ?_
 refine ak (dP (fZ ((aM (x:= .int ((aV bd W w).length:Int)) (y:= .int ((aV bd W w).length:Int)) ((ao (ds:=[.int 2,brd bd,cD a, .int (w:Int)]) rfl rfl).trans t2) ((cN (xs:=[cLL (aV bd W w)]) rfl).trans (show M.ret (D.int (((aV bd W w).map cL).length:Int))=_ by rw[List.length_map]))).trans ((yu _ _).trans (by simp)))) rfl) ?_
 refine ak ((aQ ((ao (ds:=[.int 3,brd bd,cD a, .int (w:Int)]) rfl rfl).trans t3)).trans rfl) ?_
 refine ak (dP (yT (p:=false) (q:=false) (fZ ((aM (x:= .int (bd.length:Int)) (y:= .int (bd.length:Int)) ((cN (xs:=[.lst ((List.range bd.length).map fun r=> .lst ((aO W r).map fun y=> .int (f y:Int)))]) rfl).trans (show M.ret (D.int (((List.range bd.length).map fun r=>D.lst ((aO W r).map fun y=> .int (f y:Int))).length:Int))=_ by rw[List.length_map,List.length_range])) (t9 rfl)).trans ((yu _ _).trans (by simp)))) ?_) rfl) ?_
 ·have cm:br 0 (cW (dV 7)) (tB' (d2 gNe (dA aS (aC (dV 0) aN)) (dA aS (aC (d2 aK (dV 2) (dC (.int 0))) aN)))) (dV 0) [fz s,fz (brd bd),fz (cL (ai bd.length W)),fz (cD a),fz (.int (w:Int)),fz (cLL (aV bd W w)),fz (cL (aI bd W w a)),fz (.lst ((List.range bd.length).map fun r=> .lst ((aO W r).map fun y=> .int (f y:Int)))),none,none,none,none]=M.ret (.lst []):=by
   refine bS (ds:=(List.range bd.length).map fun r=> .lst ((aO W r).map fun y=> .int (f y:Int))) rfl ?_ (Nat.zero_le _)
   have:=ix (f:=f9 0 (tB' (d2 gNe (dA aS (aC (dV 0) aN)) (dA aS (aC (d2 aK (dV 2) (dC (.int 0))) aN)))) (dV 0) [fz s,fz (brd bd),fz (cL (ai bd.length W)),fz (cD a),fz (.int (w:Int)),fz (cLL (aV bd W w)),fz (cL (aI bd W w a)),fz (.lst ((List.range bd.length).map fun r=> .lst ((aO W r).map fun y=> .int (f y:Int)))),none,none,none,none]) (fun r=>D.lst ((aO W r).map fun y=> .int (f y:Int))) (fun _=>false) (List.range bd.length) fun r hr=>by
    rw[tN]
    have e0:dA aS (aC (d2 aK (dV 2) (dC (.int 0))) aN) [fz (.lst ((aO W r).map fun y=> .int (f y:Int))),fz s,fz (brd bd),fz (cL (ai bd.length W)),fz (cD a),fz (.int (w:Int)),fz (cLL (aV bd W w)),fz (cL (aI bd W w a)),fz (.lst ((List.range bd.length).map fun r=> .lst ((aO W r).map fun y=> .int (f y:Int)))),none,none,none,none]=M.ret (.int (W:Int)):=hg.len0 rfl
    have e1:dA aS (aC (dV 0) aN) [fz (.lst ((aO W r).map fun y=> .int (f y:Int))),fz s,fz (brd bd),fz (cL (ai bd.length W)),fz (cD a),fz (.int (w:Int)),fz (cLL (aV bd W w)),fz (cL (aI bd W w a)),fz (.lst ((List.range bd.length).map fun r=> .lst ((aO W r).map fun y=> .int (f y:Int)))),none,none,none,none]=M.ret (.int (W:Int)):=by
     show M.ret (D.int (((aO W r).map fun y=>D.int (f y:Int)).length:Int))=_
     rw[List.length_map,aO,List.length_map,List.length_range]
    rw[fZ ((aM e1 e0).trans ((yu _ _).trans (by simp)):_=M.ret (.bl false))]
    rfl
   rw[this,show (List.range bd.length).filter (fun _=>false)=[] from List.filter_eq_nil_iff.mpr fun _ _=>by simp]
   rfl
  exact fZ ((aM cm (y:= .lst []) rfl).trans rfl)
 refine dQ (ds:=(ai bd.length W).map cD) (itL rfl) (ke cD _ _ fun x hx=>?_)
 have hx:=aA.mp hx
 obtain⟨P,h1,h2⟩:=hf x hx
 refine⟨[fz s,fz (brd bd),fz (cL (ai bd.length W)),fz (cD a),fz (.int (w:Int)),fz (cLL (aV bd W w)),fz (cL (aI bd W w a)),fz (.lst ((List.range bd.length).map fun r=> .lst ((aO W r).map fun y=> .int (f y:Int)))),fz (.int (x.1:Int)),fz (.int (x.2:Int)),none,none],rfl,(a_ (dP ?_ rfl)).trans rfl⟩
 have r1:d2 e9 (dV 7) (dV 8) [fz s,fz (brd bd),fz (cL (ai bd.length W)),fz (cD a),fz (.int (w:Int)),fz (cLL (aV bd W w)),fz (cL (aI bd W w a)),fz (.lst ((List.range bd.length).map fun r=> .lst ((aO W r).map fun y=> .int (f y:Int)))),fz (.int (x.1:Int)),fz (.int (x.2:Int)),none,none]=M.ret (.lst ((aO W x.1).map fun y=> .int (f y:Int))):=
  (aM (x:= .lst ((List.range bd.length).map fun r=> .lst ((aO W r).map fun y=> .int (f y:Int)))) (y:= .int (x.1:Int)) rfl rfl).trans (lB (by rw[List.getElem?_map,List.getElem?_range hx.1];rfl))
 have r2:d2 e9 (d2 e9 (dV 7) (dV 8)) (dV 9) [fz s,fz (brd bd),fz (cL (ai bd.length W)),fz (cD a),fz (.int (w:Int)),fz (cLL (aV bd W w)),fz (cL (aI bd W w a)),fz (.lst ((List.range bd.length).map fun r=> .lst ((aO W r).map fun y=> .int (f y:Int)))),fz (.int (x.1:Int)),fz (.int (x.2:Int)),none,none]=M.ret (.int (f x:Int)):=
  (aM (y:= .int (x.2:Int)) r1 rfl).trans (lB (by rw[aO,List.map_map,List.getElem?_map,List.getElem?_range hx.2];rfl))
 exact fZ ((aM (x:=cD x) (y:=cL P) rfl ((aM (x:=cLL (aV bd W w)) rfl r2).trans (Bm h1))).trans (vg.trans (by rw[decide_eq_true h2];rfl)))
end
def uN (R:Nat):List D:=[.tup [.int (R:Int), .int 0], .tup [.int 0, .int (-1)], .non, .tup [.bl true, .int 0], .lst [.int 0, .int 0]]
theorem vC {R W:Nat}{b:D}(h:b∈uN R):Plain2 b∧tw R W b=false:=by
 unfold uN at h
 simp only[List.mem_cons,List.not_mem_nil,or_false] at h
 rcases h with rfl | rfl | rfl | rfl | rfl
 ·refine⟨fun d hd=>?_,?_⟩
  ·simp only[List.mem_cons,List.not_mem_nil,or_false] at hd
   rcases hd with rfl | rfl<;>exact True.intro
  ·show ((decide ((0:Int)≤(R:Int))&&decide ((R:Int)<(R:Int)))&&_)=false
   rw[decide_eq_false (Int.lt_irrefl _),Bool.and_false,Bool.false_and]
 ·refine⟨fun d hd=>?_,?_⟩
  ·simp only[List.mem_cons,List.not_mem_nil,or_false] at hd
   rcases hd with rfl | rfl<;>exact True.intro
  ·show (_&&(decide ((0:Int)≤ -1)&&_))=false
   rw[show decide ((0:Int)≤ -1)=false from rfl,Bool.false_and,Bool.and_false]
 ·exact⟨True.intro,rfl⟩
 ·refine⟨fun d hd=>?_,rfl⟩
  simp only[List.mem_cons,List.not_mem_nil,or_false] at hd
  rcases hd with rfl | rfl<;>exact True.intro
 ·exact⟨True.intro,rfl⟩
theorem four {δ:DE}{ρ:Rho}{d:D}(h:∀k:Nat,k<4→δ (fz (.int (k:Int))::ρ)=M.ret d):br 0 (fun ρ=>(aC (dC (.int 4)) aN) ρ>>=eR) cb δ ρ=M.ret (.lst [d,d,d,d]):=by
 refine bS (vJ (n:=4) (δ:=dC (.int 4)) rfl (by decide)) ?_ (show 4≤lim by decide)
 refine(eG (fun (k:Nat)=>D.int (k:Int)) (fun _=>d) (List.range 4) fun k hk=>?_).trans rfl
 rw[jb,h k (List.mem_range.mp hk)]
 rfl
theorem xR (ns:List Int) (hl:ns.length≤63):iw [.scr ns]=M.ret (.bl true):=by
 obtain⟨bd,W,hG,eb⟩:=vT ns hl 0 5 (by decide) (by decide)
 have hg:=hG.brd
 have hs:bd.length*W<64:=Nat.lt_of_le_of_lt (Nat.mul_le_mul hG.r5 hG.w5) (by decide)
 have h0:0<bd.length*W:=Nat.mul_pos hg.r1 hg.w1
 refine bf ?_
 refine ak (ρ':=[fz (.scr ns),fz (brd bd),none,none,none,none,none,none,none,none,none,none]) ((aQ (d:=brd bd) ((ao (ds:=[.scr ns, .int 0, .int 5]) rfl rfl).trans eb)).trans rfl) ?_
 refine ak (ρ':=[fz (.scr ns),fz (brd bd),fz (cL (ai bd.length W)),none,none,none,none,none,none,none,none,none]) ((aQ (d:=cL (ai bd.length W)) ((ao (ds:=[brd bd]) rfl rfl).trans (eN hg))).trans rfl) ?_
 obtain⟨a,ha,ea⟩:=x_ ns hl h0 (i:=2) (s:=0) (k:=50) (δk:=dC (.int 50)) (ρ:=[fz (.scr ns),fz (brd bd),fz (cL (ai bd.length W)),none,none,none,none,none,none,none,none,none]) rfl rfl rfl
 refine ak (ρ':=[fz (.scr ns),fz (brd bd),fz (cL (ai bd.length W)),fz (cD a),none,none,none,none,none,none,none,none]) ((aQ ea).trans rfl) ?_
 refine ak (ρ':=[fz (.scr ns),fz (brd bd),fz (cL (ai bd.length W)),fz (cD a),none,none,none,none,none,none,none,none]) ?_ ?_
 ·refine c8 (dQ (ds:=[4,8].map fun(w:Nat)=>D.int (w:Int)) rfl (ke (body:=xP) (fun (w:Nat)=>D.int (w:Int)) _ [4,8] fun w hw=>?_))
  refine⟨_,rfl,uB hg hs ?_ ha (.scr ns)⟩
  have:w=4∨w=8:=by simpa using hw
  exact this
 obtain⟨v,hv,ev⟩:=eA ns hl 51 5 (by decide)
 obtain⟨u,hu,eu⟩:=eA ns hl 52 6 (by decide)
 obtain⟨b,hb⟩:∃b,(uN bd.length)[v]? =some b:=⟨_,List.getElem?_eq_getElem (show v<5 from hv)⟩
 obtain⟨o,ho⟩:∃o,wV[u]? =some o:=⟨_,List.getElem?_eq_getElem (show u<6 from hu)⟩
 have hbm:b∈uN bd.length:=List.mem_of_getElem? hb
 have hom:o∈wV:=List.mem_of_getElem? ho
 have hbl:dA bD (aC (dA aU (aC (dA aS (aC (dV 1) aN)) (aC (dC (.int 0)) aN))) (aC (dA aU (aC (dC (.int 0)) (aC (d1 ur (dC (.int 1))) aN))) (aC (dC .non) (aC (dA aU (aC (dC (.bl true)) (aC (dC (.int 0)) aN))) (aC (dA bD (aC (dC (.int 0)) (aC (dC (.int 0)) aN))) aN))))) [fz (.scr ns),fz (brd bd),fz (cL (ai bd.length W)),fz (cD a),none,none,none,none,none,none,none,none]=M.ret (.lst (uN bd.length)):=by
  have hlr:dA aS (aC (dV 1) aN) [fz (.scr ns),fz (brd bd),fz (cL (ai bd.length W)),fz (cD a),none,none,none,none,none,none,none,none]=M.ret (.int (bd.length:Int)):=t9 rfl
  exact(cN (xs:=uN bd.length) (bA ((cN (xs:=[.int (bd.length:Int), .int 0]) (bA hlr rfl)).trans rfl) rfl)).trans rfl
 refine ak (ρ':=[fz (.scr ns),fz (brd bd),fz (cL (ai bd.length W)),fz (cD a),none,none,none,none,none,none,fz b,none]) ((aQ (d:=b) ((aM (x:= .lst (uN bd.length)) (y:= .int (v:Int)) hbl ((ao (ds:=[.scr ns, .int 51, .int 5]) rfl rfl).trans ev)).trans (lB hb))).trans rfl) ?_
 refine ak (ρ':=[fz (.scr ns),fz (brd bd),fz (cL (ai bd.length W)),fz (cD a),none,none,none,none,none,none,fz b,fz o]) ((aQ (d:=o) ((aM (x:= .lst wV) (y:= .int (u:Int)) rfl ((ao (ds:=[.scr ns, .int 52, .int 6]) rfl rfl).trans eu)).trans (lB ho))).trans rfl) ?_
 refine ak (dP (fZ ((aM (x:= .lst [fY 1,fY 1,fY 1,fY 1]) (y:= .lst [fY 1,fY 1,fY 1,fY 1]) (four fun k hk=>(ao (ds:=[.int (k:Int),brd bd,cD a,o]) rfl rfl).trans (yP hg ha hom k hk)) rfl).trans rfl)) rfl) ?_
 refine ak (dP (fZ ((aM (x:=fY 2) (y:=fY 2) ((ao (ds:=[.int 0,brd bd,b,o]) rfl rfl).trans (yS hg (vC (W:=W) hbm).1 (vC (W:=W) hbm).2)) rfl).trans rfl)) rfl) ?_
 refine aR ((aM (x:= .lst [fY 0,fY 0,fY 0,fY 0]) (y:= .lst [fY 0,fY 0,fY 0,fY 0]) (four fun k hk=>(ao (ds:=[.int (k:Int), .lst (bd.map D.str),b,o]) rfl rfl).trans (vY (x:= .lst (bd.map D.str)) True.intro rfl k hk)) rfl).trans rfl)
end K1
namespace K1
open PySem PySem.Spec L2 L3
open PyProof.Rows hiding St
def mkA (c0 c1 c2 c3 c4 c5 c6:Addr):Nat→Addr
 |0=>c0
 |1=>c1
 |2=>c2
 |3=>c3
 |4=>c4
 |5=>c5
 |_=>c6
theorem all_mk {P:Program}{w:World}{K:PySem.W.Frag}{h:Heap}{mg:Str→Option Value}{fa:Addr}(X:K.In h) (G:h.Ns mainGlobals mg) (hfa:mg "law"=some (.ref fa))
 {f_is_wholeA:Addr}{od_is_whole an_is_whole:Option Addr}{sl_is_whole:Array (Option Value)}{oc_is_whole kV_is_whole dc_is_whole pm_is_whole cd_is_whole ct_is_whole:Value}
 {f_is_letterA:Addr}{od_is_letter an_is_letter:Option Addr}{sl_is_letter:Array (Option Value)}{oc_is_letter kV_is_letter dc_is_letter pm_is_letter cd_is_letter ct_is_letter:Value}
 {f_cells_of_rowA:Addr}{od_cells_of_row an_cells_of_row:Option Addr}{sl_cells_of_row:Array (Option Value)}{oc_cells_of_row kV_cells_of_row dc_cells_of_row pm_cells_of_row cd_cells_of_row ct_cells_of_row:Value}
 {f_letter_ofA:Addr}{od_letter_of an_letter_of:Option Addr}{sl_letter_of:Array (Option Value)}{oc_letter_of kV_letter_of dc_letter_of pm_letter_of cd_letter_of ct_letter_of:Value}
 {f_are_nextA:Addr}{od_are_next an_are_next:Option Addr}{sl_are_next:Array (Option Value)}{oc_are_next kV_are_next dc_are_next pm_are_next cd_are_next ct_are_next:Value}
 {f_keyedA:Addr}{od_keyed an_keyed:Option Addr}{sl_keyed:Array (Option Value)}{oc_keyed kV_keyed dc_keyed pm_keyed cd_keyed ct_keyed:Value}
 {f_numbers_ofA:Addr}{od_numbers_of an_numbers_of:Option Addr}{sl_numbers_of:Array (Option Value)}{oc_numbers_of kV_numbers_of dc_numbers_of pm_numbers_of cd_numbers_of ct_numbers_of:Value}
 {f_law_cellA:Addr}{od_law_cell an_law_cell:Option Addr}{sl_law_cell:Array (Option Value)}{oc_law_cell kV_law_cell dc_law_cell pm_law_cell cd_law_cell ct_law_cell:Value}
 {f_law_cellsA:Addr}{od_law_cells an_law_cells:Option Addr}{sl_law_cells:Array (Option Value)}{oc_law_cells kV_law_cells dc_law_cells pm_law_cells cd_law_cells ct_law_cells:Value}
 {f_law_besideA:Addr}{od_law_beside an_law_beside:Option Addr}{sl_law_beside:Array (Option Value)}{oc_law_beside kV_law_beside dc_law_beside pm_law_beside cd_law_beside ct_law_beside:Value}
 {f_law_refusedA:Addr}{od_law_refused an_law_refused:Option Addr}{sl_law_refused:Array (Option Value)}{oc_law_refused kV_law_refused dc_law_refused pm_law_refused cd_law_refused ct_law_refused:Value}
 {f_is_rowA:Addr}{od_is_row an_is_row:Option Addr}{sl_is_row:Array (Option Value)}{oc_is_row kV_is_row dc_is_row pm_is_row cd_is_row ct_is_row:Value}
 {f_is_cellA:Addr}{od_is_cell an_is_cell:Option Addr}{sl_is_cell:Array (Option Value)}{oc_is_cell kV_is_cell dc_is_cell pm_is_cell cd_is_cell ct_is_cell:Value}
 {f_need_waysA:Addr}{od_need_ways an_need_ways:Option Addr}{sl_need_ways:Array (Option Value)}{oc_need_ways kV_need_ways dc_need_ways pm_need_ways cd_need_ways ct_need_ways:Value}
 {f_all_cellsA:Addr}{od_all_cells an_all_cells:Option Addr}{sl_all_cells:Array (Option Value)}{oc_all_cells kV_all_cells dc_all_cells pm_all_cells cd_all_cells ct_all_cells:Value}
 {f_next_cellsA:Addr}{od_next_cells an_next_cells:Option Addr}{sl_next_cells:Array (Option Value)}{oc_next_cells kV_next_cells dc_next_cells pm_next_cells cd_next_cells ct_next_cells:Value}
 {f_law_drawnA:Addr}{od_law_drawn an_law_drawn:Option Addr}{sl_law_drawn:Array (Option Value)}{oc_law_drawn kV_law_drawn dc_law_drawn pm_law_drawn cd_law_drawn ct_law_drawn:Value}
 {f_law_labelsA:Addr}{od_law_labels an_law_labels:Option Addr}{sl_law_labels:Array (Option Value)}{oc_law_labels kV_law_labels dc_law_labels pm_law_labels cd_law_labels ct_law_labels:Value}
 {f_is_boardA:Addr}{od_is_board an_is_board:Option Addr}{sl_is_board:Array (Option Value)}{oc_is_board kV_is_board dc_is_board pm_is_board cd_is_board ct_is_board:Value}
 {f_need_cellA:Addr}{od_need_cell an_need_cell:Option Addr}{sl_need_cell:Array (Option Value)}{oc_need_cell kV_need_cell dc_need_cell pm_need_cell cd_need_cell ct_need_cell:Value}
 {f_like_cellsA:Addr}{od_like_cells an_like_cells:Option Addr}{sl_like_cells:Array (Option Value)}{oc_like_cells kV_like_cells dc_like_cells pm_like_cells cd_like_cells ct_like_cells:Value}
 {f_law_boardA:Addr}{od_law_board an_law_board:Option Addr}{sl_law_board:Array (Option Value)}{oc_law_board kV_law_board dc_law_board pm_law_board cd_law_board ct_law_board:Value}
 {f_law_patchesA:Addr}{od_law_patches an_law_patches:Option Addr}{sl_law_patches:Array (Option Value)}{oc_law_patches kV_law_patches dc_law_patches pm_law_patches cd_law_patches ct_law_patches:Value}
 {f_need_boardA:Addr}{od_need_board an_need_board:Option Addr}{sl_need_board:Array (Option Value)}{oc_need_board kV_need_board dc_need_board pm_need_board cd_need_board ct_need_board:Value}
 {f_steps_backA:Addr}{od_steps_back an_steps_back:Option Addr}{sl_steps_back:Array (Option Value)}{oc_steps_back kV_steps_back dc_steps_back pm_steps_back cd_steps_back ct_steps_back:Value}
 {f_all_patchesA:Addr}{od_all_patches an_all_patches:Option Addr}{sl_all_patches:Array (Option Value)}{oc_all_patches kV_all_patches dc_all_patches pm_all_patches cd_all_patches ct_all_patches:Value}
 {f_patch_ofA:Addr}{od_patch_of an_patch_of:Option Addr}{sl_patch_of:Array (Option Value)}{oc_patch_of kV_patch_of dc_patch_of pm_patch_of cd_patch_of ct_patch_of:Value}
 {f_patchesA:Addr}{od_patches an_patches:Option Addr}{sl_patches:Array (Option Value)}{oc_patches kV_patches dc_patches pm_patches cd_patches ct_patches:Value}
 {f_how_manyA:Addr}{od_how_many an_how_many:Option Addr}{sl_how_many:Array (Option Value)}{oc_how_many kV_how_many dc_how_many pm_how_many cd_how_many ct_how_many:Value}
 {f_numberedA:Addr}{od_numbered an_numbered:Option Addr}{sl_numbered:Array (Option Value)}{oc_numbered kV_numbered dc_numbered pm_numbered cd_numbered ct_numbered:Value}
 {f_law_told_v3A:Addr}{od_law_told_v3 an_law_told_v3:Option Addr}{sl_law_told_v3:Array (Option Value)}{oc_law_told_v3 kV_law_told_v3 dc_law_told_v3 pm_law_told_v3 cd_law_told_v3 ct_law_told_v3:Value}
 {f_law_k10A:Addr}{od_law_k10 an_law_k10:Option Addr}{sl_law_k10:Array (Option Value)}{oc_law_k10 kV_law_k10 dc_law_k10 pm_law_k10 cd_law_k10 ct_law_k10:Value}
 {t_LETTERS:Tok}
 {t_MOST_ROWS:Tok}
 {t_MOST_COLUMNS:Tok}
 {C0 C1 C2 C3 C4 C5 C6 Cp:Addr}{r0:ClassData}{r1:ClassData}{r2:ClassData}
 (a_is_whole:PySem.W.nsIn K mainGlobals "is_whole"=some (some (.ref f_is_wholeA))) (l_is_whole:K.lookup f_is_wholeA=some ⟨oc_is_whole,od_is_whole, .func (PySem.W.fnOf "is_whole" "is_whole" (aH eF) (az eF) (ag eF) .none kV_is_whole dc_is_whole pm_is_whole an_is_whole cd_is_whole ct_is_whole),sl_is_whole⟩) (c_is_whole:PySem.W.codeIn K cd_is_whole "is_whole"=true) (k_is_whole:PySem.W.keepIn K (.ref f_is_wholeA)=true)
 (a_is_letter:PySem.W.nsIn K mainGlobals "is_letter"=some (some (.ref f_is_letterA))) (l_is_letter:K.lookup f_is_letterA=some ⟨oc_is_letter,od_is_letter, .func (PySem.W.fnOf "is_letter" "is_letter" (aH dU) (az dU) (ag dU) .none kV_is_letter dc_is_letter pm_is_letter an_is_letter cd_is_letter ct_is_letter),sl_is_letter⟩) (c_is_letter:PySem.W.codeIn K cd_is_letter "is_letter"=true) (k_is_letter:PySem.W.keepIn K (.ref f_is_letterA)=true)
 (a_cells_of_row:PySem.W.nsIn K mainGlobals "cells_of_row"=some (some (.ref f_cells_of_rowA))) (l_cells_of_row:K.lookup f_cells_of_rowA=some ⟨oc_cells_of_row,od_cells_of_row, .func (PySem.W.fnOf "cells_of_row" "cells_of_row" (aH bV) (az bV) (ag bV) .none kV_cells_of_row dc_cells_of_row pm_cells_of_row an_cells_of_row cd_cells_of_row ct_cells_of_row),sl_cells_of_row⟩) (c_cells_of_row:PySem.W.codeIn K cd_cells_of_row "cells_of_row"=true) (k_cells_of_row:PySem.W.keepIn K (.ref f_cells_of_rowA)=true)
 (a_letter_of:PySem.W.nsIn K mainGlobals "letter_of"=some (some (.ref f_letter_ofA))) (l_letter_of:K.lookup f_letter_ofA=some ⟨oc_letter_of,od_letter_of, .func (PySem.W.fnOf "letter_of" "letter_of" (aH dH) (az dH) (ag dH) .none kV_letter_of dc_letter_of pm_letter_of an_letter_of cd_letter_of ct_letter_of),sl_letter_of⟩) (c_letter_of:PySem.W.codeIn K cd_letter_of "letter_of"=true) (k_letter_of:PySem.W.keepIn K (.ref f_letter_ofA)=true)
 (a_are_next:PySem.W.nsIn K mainGlobals "are_next"=some (some (.ref f_are_nextA))) (l_are_next:K.lookup f_are_nextA=some ⟨oc_are_next,od_are_next, .func (PySem.W.fnOf "are_next" "are_next" (aH eE) (az eE) (ag eE) .none kV_are_next dc_are_next pm_are_next an_are_next cd_are_next ct_are_next),sl_are_next⟩) (c_are_next:PySem.W.codeIn K cd_are_next "are_next"=true) (k_are_next:PySem.W.keepIn K (.ref f_are_nextA)=true)
 (a_keyed:PySem.W.nsIn K mainGlobals "keyed"=some (some (.ref f_keyedA))) (l_keyed:K.lookup f_keyedA=some ⟨oc_keyed,od_keyed, .func (PySem.W.fnOf "keyed" "keyed" (aH iG) (az iG) (ag iG) .none kV_keyed dc_keyed pm_keyed an_keyed cd_keyed ct_keyed),sl_keyed⟩) (c_keyed:PySem.W.codeIn K cd_keyed "keyed"=true) (k_keyed:PySem.W.keepIn K (.ref f_keyedA)=true)
 (a_numbers_of:PySem.W.nsIn K mainGlobals "numbers_of"=some (some (.ref f_numbers_ofA))) (l_numbers_of:K.lookup f_numbers_ofA=some ⟨oc_numbers_of,od_numbers_of, .func (PySem.W.fnOf "numbers_of" "numbers_of" (aH cY) (az cY) (ag cY) .none kV_numbers_of dc_numbers_of pm_numbers_of an_numbers_of cd_numbers_of ct_numbers_of),sl_numbers_of⟩) (c_numbers_of:PySem.W.codeIn K cd_numbers_of "numbers_of"=true) (k_numbers_of:PySem.W.keepIn K (.ref f_numbers_ofA)=true)
 (a_law_cell:PySem.W.nsIn K mainGlobals "_law_cell"=some (some (.ref f_law_cellA))) (l_law_cell:K.lookup f_law_cellA=some ⟨oc_law_cell,od_law_cell, .func (PySem.W.fnOf "_law_cell" "_law_cell" (aH et) (az et) (ag et) .none kV_law_cell dc_law_cell pm_law_cell an_law_cell cd_law_cell ct_law_cell),sl_law_cell⟩) (c_law_cell:PySem.W.codeIn K cd_law_cell "_law_cell"=true) (k_law_cell:PySem.W.keepIn K (.ref f_law_cellA)=true)
 (a_law_cells:PySem.W.nsIn K mainGlobals "_law_cells"=some (some (.ref f_law_cellsA))) (l_law_cells:K.lookup f_law_cellsA=some ⟨oc_law_cells,od_law_cells, .func (PySem.W.fnOf "_law_cells" "_law_cells" (aH cQ) (az cQ) (ag cQ) .none kV_law_cells dc_law_cells pm_law_cells an_law_cells cd_law_cells ct_law_cells),sl_law_cells⟩) (c_law_cells:PySem.W.codeIn K cd_law_cells "_law_cells"=true) (k_law_cells:PySem.W.keepIn K (.ref f_law_cellsA)=true)
 (a_law_beside:PySem.W.nsIn K mainGlobals "_law_beside"=some (some (.ref f_law_besideA))) (l_law_beside:K.lookup f_law_besideA=some ⟨oc_law_beside,od_law_beside, .func (PySem.W.fnOf "_law_beside" "_law_beside" (aH de) (az de) (ag de) .none kV_law_beside dc_law_beside pm_law_beside an_law_beside cd_law_beside ct_law_beside),sl_law_beside⟩) (c_law_beside:PySem.W.codeIn K cd_law_beside "_law_beside"=true) (k_law_beside:PySem.W.keepIn K (.ref f_law_besideA)=true)
 (a_law_refused:PySem.W.nsIn K mainGlobals "_law_refused"=some (some (.ref f_law_refusedA))) (l_law_refused:K.lookup f_law_refusedA=some ⟨oc_law_refused,od_law_refused, .func (PySem.W.fnOf "_law_refused" "_law_refused" (aH cE) (az cE) (ag cE) .none kV_law_refused dc_law_refused pm_law_refused an_law_refused cd_law_refused ct_law_refused),sl_law_refused⟩) (c_law_refused:PySem.W.codeIn K cd_law_refused "_law_refused"=true) (k_law_refused:PySem.W.keepIn K (.ref f_law_refusedA)=true)
 (a_is_row:PySem.W.nsIn K mainGlobals "is_row"=some (some (.ref f_is_rowA))) (l_is_row:K.lookup f_is_rowA=some ⟨oc_is_row,od_is_row, .func (PySem.W.fnOf "is_row" "is_row" (aH fL) (az fL) (ag fL) .none kV_is_row dc_is_row pm_is_row an_is_row cd_is_row ct_is_row),sl_is_row⟩) (c_is_row:PySem.W.codeIn K cd_is_row "is_row"=true) (k_is_row:PySem.W.keepIn K (.ref f_is_rowA)=true)
 (a_is_cell:PySem.W.nsIn K mainGlobals "is_cell"=some (some (.ref f_is_cellA))) (l_is_cell:K.lookup f_is_cellA=some ⟨oc_is_cell,od_is_cell, .func (PySem.W.fnOf "is_cell" "is_cell" (aH fF) (az fF) (ag fF) .none kV_is_cell dc_is_cell pm_is_cell an_is_cell cd_is_cell ct_is_cell),sl_is_cell⟩) (c_is_cell:PySem.W.codeIn K cd_is_cell "is_cell"=true) (k_is_cell:PySem.W.keepIn K (.ref f_is_cellA)=true)
 (a_need_ways:PySem.W.nsIn K mainGlobals "need_ways"=some (some (.ref f_need_waysA))) (l_need_ways:K.lookup f_need_waysA=some ⟨oc_need_ways,od_need_ways, .func (PySem.W.fnOf "need_ways" "need_ways" (aH dG) (az dG) (ag dG) .none kV_need_ways dc_need_ways pm_need_ways an_need_ways cd_need_ways ct_need_ways),sl_need_ways⟩) (c_need_ways:PySem.W.codeIn K cd_need_ways "need_ways"=true) (k_need_ways:PySem.W.keepIn K (.ref f_need_waysA)=true)
 (a_all_cells:PySem.W.nsIn K mainGlobals "all_cells"=some (some (.ref f_all_cellsA))) (l_all_cells:K.lookup f_all_cellsA=some ⟨oc_all_cells,od_all_cells, .func (PySem.W.fnOf "all_cells" "all_cells" (aH dN) (az dN) (ag dN) .none kV_all_cells dc_all_cells pm_all_cells an_all_cells cd_all_cells ct_all_cells),sl_all_cells⟩) (c_all_cells:PySem.W.codeIn K cd_all_cells "all_cells"=true) (k_all_cells:PySem.W.keepIn K (.ref f_all_cellsA)=true)
 (a_next_cells:PySem.W.nsIn K mainGlobals "next_cells"=some (some (.ref f_next_cellsA))) (l_next_cells:K.lookup f_next_cellsA=some ⟨oc_next_cells,od_next_cells, .func (PySem.W.fnOf "next_cells" "next_cells" (aH cX) (az cX) (ag cX) .none kV_next_cells dc_next_cells pm_next_cells an_next_cells cd_next_cells ct_next_cells),sl_next_cells⟩) (c_next_cells:PySem.W.codeIn K cd_next_cells "next_cells"=true) (k_next_cells:PySem.W.keepIn K (.ref f_next_cellsA)=true)
 (a_law_drawn:PySem.W.nsIn K mainGlobals "_law_drawn"=some (some (.ref f_law_drawnA))) (l_law_drawn:K.lookup f_law_drawnA=some ⟨oc_law_drawn,od_law_drawn, .func (PySem.W.fnOf "_law_drawn" "_law_drawn" (aH dJ) (az dJ) (ag dJ) .none kV_law_drawn dc_law_drawn pm_law_drawn an_law_drawn cd_law_drawn ct_law_drawn),sl_law_drawn⟩) (c_law_drawn:PySem.W.codeIn K cd_law_drawn "_law_drawn"=true) (k_law_drawn:PySem.W.keepIn K (.ref f_law_drawnA)=true)
 (a_law_labels:PySem.W.nsIn K mainGlobals "_law_labels"=some (some (.ref f_law_labelsA))) (l_law_labels:K.lookup f_law_labelsA=some ⟨oc_law_labels,od_law_labels, .func (PySem.W.fnOf "_law_labels" "_law_labels" (aH cw) (az cw) (ag cw) .none kV_law_labels dc_law_labels pm_law_labels an_law_labels cd_law_labels ct_law_labels),sl_law_labels⟩) (c_law_labels:PySem.W.codeIn K cd_law_labels "_law_labels"=true) (k_law_labels:PySem.W.keepIn K (.ref f_law_labelsA)=true)
 (a_is_board:PySem.W.nsIn K mainGlobals "is_board"=some (some (.ref f_is_boardA))) (l_is_board:K.lookup f_is_boardA=some ⟨oc_is_board,od_is_board, .func (PySem.W.fnOf "is_board" "is_board" (aH cU) (az cU) (ag cU) .none kV_is_board dc_is_board pm_is_board an_is_board cd_is_board ct_is_board),sl_is_board⟩) (c_is_board:PySem.W.codeIn K cd_is_board "is_board"=true) (k_is_board:PySem.W.keepIn K (.ref f_is_boardA)=true)
 (a_need_cell:PySem.W.nsIn K mainGlobals "need_cell"=some (some (.ref f_need_cellA))) (l_need_cell:K.lookup f_need_cellA=some ⟨oc_need_cell,od_need_cell, .func (PySem.W.fnOf "need_cell" "need_cell" (aH dW) (az dW) (ag dW) .none kV_need_cell dc_need_cell pm_need_cell an_need_cell cd_need_cell ct_need_cell),sl_need_cell⟩) (c_need_cell:PySem.W.codeIn K cd_need_cell "need_cell"=true) (k_need_cell:PySem.W.keepIn K (.ref f_need_cellA)=true)
 (a_like_cells:PySem.W.nsIn K mainGlobals "like_cells"=some (some (.ref f_like_cellsA))) (l_like_cells:K.lookup f_like_cellsA=some ⟨oc_like_cells,od_like_cells, .func (PySem.W.fnOf "like_cells" "like_cells" (aH cq) (az cq) (ag cq) .none kV_like_cells dc_like_cells pm_like_cells an_like_cells cd_like_cells ct_like_cells),sl_like_cells⟩) (c_like_cells:PySem.W.codeIn K cd_like_cells "like_cells"=true) (k_like_cells:PySem.W.keepIn K (.ref f_like_cellsA)=true)
 (a_law_board:PySem.W.nsIn K mainGlobals "_law_board"=some (some (.ref f_law_boardA))) (l_law_board:K.lookup f_law_boardA=some ⟨oc_law_board,od_law_board, .func (PySem.W.fnOf "_law_board" "_law_board" (aH cO) (az cO) (ag cO) .none kV_law_board dc_law_board pm_law_board an_law_board cd_law_board ct_law_board),sl_law_board⟩) (c_law_board:PySem.W.codeIn K cd_law_board "_law_board"=true) (k_law_board:PySem.W.keepIn K (.ref f_law_boardA)=true)
 (a_law_patches:PySem.W.nsIn K mainGlobals "_law_patches"=some (some (.ref f_law_patchesA))) (l_law_patches:K.lookup f_law_patchesA=some ⟨oc_law_patches,od_law_patches, .func (PySem.W.fnOf "_law_patches" "_law_patches" (aH b5) (az b5) (ag b5) .none kV_law_patches dc_law_patches pm_law_patches an_law_patches cd_law_patches ct_law_patches),sl_law_patches⟩) (c_law_patches:PySem.W.codeIn K cd_law_patches "_law_patches"=true) (k_law_patches:PySem.W.keepIn K (.ref f_law_patchesA)=true)
 (a_need_board:PySem.W.nsIn K mainGlobals "need_board"=some (some (.ref f_need_boardA))) (l_need_board:K.lookup f_need_boardA=some ⟨oc_need_board,od_need_board, .func (PySem.W.fnOf "need_board" "need_board" (aH cZ) (az cZ) (ag cZ) .none kV_need_board dc_need_board pm_need_board an_need_board cd_need_board ct_need_board),sl_need_board⟩) (c_need_board:PySem.W.codeIn K cd_need_board "need_board"=true) (k_need_board:PySem.W.keepIn K (.ref f_need_boardA)=true)
 (a_steps_back:PySem.W.nsIn K mainGlobals "steps_back"=some (some (.ref f_steps_backA))) (l_steps_back:K.lookup f_steps_backA=some ⟨oc_steps_back,od_steps_back, .func (PySem.W.fnOf "steps_back" "steps_back" (aH c9) (az c9) (ag c9) .none kV_steps_back dc_steps_back pm_steps_back an_steps_back cd_steps_back ct_steps_back),sl_steps_back⟩) (c_steps_back:PySem.W.codeIn K cd_steps_back "steps_back"=true) (k_steps_back:PySem.W.keepIn K (.ref f_steps_backA)=true)
 (a_all_patches:PySem.W.nsIn K mainGlobals "all_patches"=some (some (.ref f_all_patchesA))) (l_all_patches:K.lookup f_all_patchesA=some ⟨oc_all_patches,od_all_patches, .func (PySem.W.fnOf "all_patches" "all_patches" (aH cF) (az cF) (ag cF) .none kV_all_patches dc_all_patches pm_all_patches an_all_patches cd_all_patches ct_all_patches),sl_all_patches⟩) (c_all_patches:PySem.W.codeIn K cd_all_patches "all_patches"=true) (k_all_patches:PySem.W.keepIn K (.ref f_all_patchesA)=true)
 (a_patch_of:PySem.W.nsIn K mainGlobals "patch_of"=some (some (.ref f_patch_ofA))) (l_patch_of:K.lookup f_patch_ofA=some ⟨oc_patch_of,od_patch_of, .func (PySem.W.fnOf "patch_of" "patch_of" (aH eM) (az eM) (ag eM) .none kV_patch_of dc_patch_of pm_patch_of an_patch_of cd_patch_of ct_patch_of),sl_patch_of⟩) (c_patch_of:PySem.W.codeIn K cd_patch_of "patch_of"=true) (k_patch_of:PySem.W.keepIn K (.ref f_patch_ofA)=true)
 (a_patches:PySem.W.nsIn K mainGlobals "patches"=some (some (.ref f_patchesA))) (l_patches:K.lookup f_patchesA=some ⟨oc_patches,od_patches, .func (PySem.W.fnOf "patches" "patches" (aH fB) (az fB) (ag fB) .none kV_patches dc_patches pm_patches an_patches cd_patches ct_patches),sl_patches⟩) (c_patches:PySem.W.codeIn K cd_patches "patches"=true) (k_patches:PySem.W.keepIn K (.ref f_patchesA)=true)
 (a_how_many:PySem.W.nsIn K mainGlobals "how_many"=some (some (.ref f_how_manyA))) (l_how_many:K.lookup f_how_manyA=some ⟨oc_how_many,od_how_many, .func (PySem.W.fnOf "how_many" "how_many" (aH ez) (az ez) (ag ez) .none kV_how_many dc_how_many pm_how_many an_how_many cd_how_many ct_how_many),sl_how_many⟩) (c_how_many:PySem.W.codeIn K cd_how_many "how_many"=true) (k_how_many:PySem.W.keepIn K (.ref f_how_manyA)=true)
 (a_numbered:PySem.W.nsIn K mainGlobals "numbered"=some (some (.ref f_numberedA))) (l_numbered:K.lookup f_numberedA=some ⟨oc_numbered,od_numbered, .func (PySem.W.fnOf "numbered" "numbered" (aH du) (az du) (ag du) .none kV_numbered dc_numbered pm_numbered an_numbered cd_numbered ct_numbered),sl_numbered⟩) (c_numbered:PySem.W.codeIn K cd_numbered "numbered"=true) (k_numbered:PySem.W.keepIn K (.ref f_numberedA)=true)
 (a_law_told_v3:PySem.W.nsIn K mainGlobals "_law_told"=some (some (.ref f_law_told_v3A))) (l_law_told_v3:K.lookup f_law_told_v3A=some ⟨oc_law_told_v3,od_law_told_v3, .func (PySem.W.fnOf "_law_told" "_law_told" (aH cC) (az cC) (ag cC) .none kV_law_told_v3 dc_law_told_v3 pm_law_told_v3 an_law_told_v3 cd_law_told_v3 ct_law_told_v3),sl_law_told_v3⟩) (c_law_told_v3:PySem.W.codeIn K cd_law_told_v3 "_law_told"=true) (k_law_told_v3:PySem.W.keepIn K (.ref f_law_told_v3A)=true)
 (a_law_k10:PySem.W.nsIn K mainGlobals "law"=some (some (.ref f_law_k10A))) (l_law_k10:K.lookup f_law_k10A=some ⟨oc_law_k10,od_law_k10, .func (PySem.W.fnOf "law" "law" (aH ay) (az ay) (ag ay) .none kV_law_k10 dc_law_k10 pm_law_k10 an_law_k10 cd_law_k10 ct_law_k10),sl_law_k10⟩) (c_law_k10:PySem.W.codeIn K cd_law_k10 "law"=true) (k_law_k10:PySem.W.keepIn K (.ref f_law_k10A)=true)
 (z_len:PySem.W.nsIn K mainGlobals "len"=some none)
 (z_isinstance:PySem.W.nsIn K mainGlobals "isinstance"=some none)
 (z_all:PySem.W.nsIn K mainGlobals "all"=some none)
 (z_abs:PySem.W.nsIn K mainGlobals "abs"=some none)
 (z_max:PySem.W.nsIn K mainGlobals "max"=some none)
 (z_min:PySem.W.nsIn K mainGlobals "min"=some none)
 (z_range:PySem.W.nsIn K mainGlobals "range"=some none)
 (z_str:PySem.W.nsIn K mainGlobals "str"=some none)
 (z_int:PySem.W.nsIn K mainGlobals "int"=some none)
 (z_bool:PySem.W.nsIn K mainGlobals "bool"=some none)
 (z_tuple:PySem.W.nsIn K mainGlobals "tuple"=some none)
 (z_list:PySem.W.nsIn K mainGlobals "list"=some none)
 (z_dict:PySem.W.nsIn K mainGlobals "dict"=some none)
 (z_sorted:PySem.W.nsIn K mainGlobals "sorted"=some none)
 (z_enumerate:PySem.W.nsIn K mainGlobals "enumerate"=some none)
 (z_ValueError:PySem.W.nsIn K mainGlobals "ValueError"=some none)
 (y_LETTERS:PySem.W.nsIn K mainGlobals "LETTERS"=some (some (.str "abcdef" t_LETTERS)))
 (y_MOST_ROWS:PySem.W.nsIn K mainGlobals "MOST_ROWS"=some (some (.int 8 t_MOST_ROWS)))
 (y_MOST_COLUMNS:PySem.W.nsIn K mainGlobals "MOST_COLUMNS"=some (some (.int 8 t_MOST_COLUMNS)))
 (e0:PySem.W.nsIn K mainGlobals "NoBoard"=some (some (.ref C0)))
 (e1:PySem.W.nsIn K mainGlobals "NoWays"=some (some (.ref C1)))
 (e2:PySem.W.nsIn K mainGlobals "NoCell"=some (some (.ref C2)))
 (e3:PySem.W.nsIn K mainGlobals "NoLetter"=some (some (.ref C3)))
 (e4:PySem.W.nsIn K mainGlobals "NoNumber"=some (some (.ref C4)))
 (e5:PySem.W.nsIn K mainGlobals "NoFit"=some (some (.ref C5)))
 (e6:PySem.W.nsIn K mainGlobals "Nothing"=some (some (.ref C6)))
 (ep:PySem.W.nsIn K mainGlobals "PatchError"=some (some (.ref Cp)))
 (sp:PySem.W.subIn K (.ref Cp) (.type "BaseException")=some true)
 (q0:PySem.W.excIn K C0 [.type "ValueError", .type "Exception", .type "BaseException", .type "object"] "ValueError.__new__"=true)
 (ga0:PySem.W.findIn K (.ref C0) "__getattribute__"=some (some (.builtin "BaseException.__getattribute__"))) (gt0:PySem.W.findIn K (.ref C0) "__getattr__"=some none) (ca0:PySem.W.findIn K (.ref C0) "__class__"=some (some (.builtin "object.__class__"))) (mo0:PySem.W.mroIn K C0 (.type "object")=some true) (mb0:PySem.W.mroIn K C0 (.type "BaseException")=some true) (cl0:PySem.W.clsIn K C0=some r0)
 (kp0:PySem.W.kitOne K (.ref C0) (.ref Cp)=some true) (kv0:PySem.W.kitOne K (.ref C0) (.type "ValueError")=some true) (np0:((Value.ref C0)==(Value.ref Cp))=false)
 (k00:PySem.W.kitOne K (.ref C0) (.ref C0)=some true)
 (k01:PySem.W.kitOne K (.ref C0) (.ref C1)=some false)
 (k02:PySem.W.kitOne K (.ref C0) (.ref C2)=some false)
 (k03:PySem.W.kitOne K (.ref C0) (.ref C3)=some false)
 (k04:PySem.W.kitOne K (.ref C0) (.ref C4)=some false)
 (k05:PySem.W.kitOne K (.ref C0) (.ref C5)=some false)
 (k06:PySem.W.kitOne K (.ref C0) (.ref C6)=some false)
 (q1:PySem.W.excIn K C1 [.type "ValueError", .type "Exception", .type "BaseException", .type "object"] "ValueError.__new__"=true)
 (ga1:PySem.W.findIn K (.ref C1) "__getattribute__"=some (some (.builtin "BaseException.__getattribute__"))) (gt1:PySem.W.findIn K (.ref C1) "__getattr__"=some none) (ca1:PySem.W.findIn K (.ref C1) "__class__"=some (some (.builtin "object.__class__"))) (mo1:PySem.W.mroIn K C1 (.type "object")=some true) (mb1:PySem.W.mroIn K C1 (.type "BaseException")=some true) (cl1:PySem.W.clsIn K C1=some r1)
 (kp1:PySem.W.kitOne K (.ref C1) (.ref Cp)=some true) (kv1:PySem.W.kitOne K (.ref C1) (.type "ValueError")=some true) (np1:((Value.ref C1)==(Value.ref Cp))=false)
 (k10:PySem.W.kitOne K (.ref C1) (.ref C0)=some false)
 (k11:PySem.W.kitOne K (.ref C1) (.ref C1)=some true)
 (k12:PySem.W.kitOne K (.ref C1) (.ref C2)=some false)
 (k13:PySem.W.kitOne K (.ref C1) (.ref C3)=some false)
 (k14:PySem.W.kitOne K (.ref C1) (.ref C4)=some false)
 (k15:PySem.W.kitOne K (.ref C1) (.ref C5)=some false)
 (k16:PySem.W.kitOne K (.ref C1) (.ref C6)=some false)
 (q2:PySem.W.excIn K C2 [.type "ValueError", .type "Exception", .type "BaseException", .type "object"] "ValueError.__new__"=true)
 (ga2:PySem.W.findIn K (.ref C2) "__getattribute__"=some (some (.builtin "BaseException.__getattribute__"))) (gt2:PySem.W.findIn K (.ref C2) "__getattr__"=some none) (ca2:PySem.W.findIn K (.ref C2) "__class__"=some (some (.builtin "object.__class__"))) (mo2:PySem.W.mroIn K C2 (.type "object")=some true) (mb2:PySem.W.mroIn K C2 (.type "BaseException")=some true) (cl2:PySem.W.clsIn K C2=some r2)
 (kp2:PySem.W.kitOne K (.ref C2) (.ref Cp)=some true) (kv2:PySem.W.kitOne K (.ref C2) (.type "ValueError")=some true) (np2:((Value.ref C2)==(Value.ref Cp))=false)
 (k20:PySem.W.kitOne K (.ref C2) (.ref C0)=some false)
 (k21:PySem.W.kitOne K (.ref C2) (.ref C1)=some false)
 (k22:PySem.W.kitOne K (.ref C2) (.ref C2)=some true)
 (k23:PySem.W.kitOne K (.ref C2) (.ref C3)=some false)
 (k24:PySem.W.kitOne K (.ref C2) (.ref C4)=some false)
 (k25:PySem.W.kitOne K (.ref C2) (.ref C5)=some false)
 (k26:PySem.W.kitOne K (.ref C2) (.ref C6)=some false):
 ∃(cv:Nat→Value) (fd:FuncData),(∀(s:Shared) (u:Value),BindsTo s fd ⟨[u],[]⟩ [("_law_script",u)])∧∀base:Heap,K.In base→base.Ns mainGlobals mg→FnOk P w K mg base (CX1 P w cv) 8 fa fd ["_law_script"] (spD K cv 1 iw):=by
 have ea:=hfa.symm.trans (PySem.W.mg_of X G a_law_k10)
 cases ea
 refine⟨fun n=> .ref (cB (mkA C0 C1 C2 C3 C4 C5 C6) n),PySem.W.fnOf "law" "law" (aH ay) (az ay) (ag ay) .none kV_law_k10 dc_law_k10 pm_law_k10 an_law_k10 cd_law_k10 ct_law_k10,fun s v=> .of_eq rfl,fun base KB GB=>?_⟩
 have B:Bl K mg base (fun n=> .ref (cB (mkA C0 C1 C2 C3 C4 C5 C6) n)) (mkA C0 C1 C2 C3 C4 C5 C6) Cp:=by
  refine⟨PySem.W.mg_none_of X G z_len,PySem.W.mg_none_of X G z_isinstance,PySem.W.mg_none_of X G z_all,PySem.W.mg_none_of X G z_abs,PySem.W.mg_none_of X G z_max,PySem.W.mg_none_of X G z_min,PySem.W.mg_none_of X G z_range,PySem.W.mg_none_of X G z_str,PySem.W.mg_none_of X G z_int,PySem.W.mg_none_of X G z_bool,PySem.W.mg_none_of X G z_tuple,PySem.W.mg_none_of X G z_list,PySem.W.mg_none_of X G z_dict,PySem.W.mg_none_of X G z_sorted,PySem.W.mg_none_of X G z_enumerate,PySem.W.mg_none_of X G z_ValueError,⟨_,PySem.W.mg_of X G y_LETTERS⟩,⟨_,PySem.W.mg_of X G y_MOST_ROWS⟩,⟨_,PySem.W.mg_of X G y_MOST_COLUMNS⟩,?cls,ua KB GB e0 q0,ua KB GB e1 q1,ua KB GB e2 q2,fun _=>rfl,PySem.W.mg_of X G ep,?exm,?exs,?kit,?kitV⟩
  case cls=>
   intro n x e
   match n,e with
   |0,e=>cases e;exact PySem.W.mg_of X G e0
   |1,e=>cases e;exact PySem.W.mg_of X G e1
   |2,e=>cases e;exact PySem.W.mg_of X G e2
   |3,e=>cases e;exact PySem.W.mg_of X G e3
   |4,e=>cases e;exact PySem.W.mg_of X G e4
   |5,e=>cases e;exact PySem.W.mg_of X G e5
   |6,e=>cases e;exact PySem.W.mg_of X G e6
   |n+7,e=>cases e
  case exm=>
   intro n
   have h:∀m,m∈[0,1,2]→PySem.W.exmOne K (.ref ((mkA C0 C1 C2 C3 C4 C5 C6) m)) (.ref Cp)=some true:=by
    intro m hm
    simp only[List.mem_cons,List.not_mem_nil,or_false] at hm
    rcases hm with rfl | rfl | rfl
    ·exact uj sp kp0 np0
    ·exact uj sp kp1 np1
    ·exact uj sp kp2 np2
   exact h (rzI n) (u9 n)
  case exs=>
   intro C hC
   simp only[cAs,mkA,List.mem_cons,List.not_mem_nil,or_false] at hC
   rcases hC with e | e | e<;>subst e
   ·exact⟨ga0,gt0,ca0,mo0,mb0,by rw[cl0];rfl⟩
   ·exact⟨ga1,gt1,ca1,mo1,mb1,by rw[cl1];rfl⟩
   ·exact⟨ga2,gt2,ca2,mo2,mb2,by rw[cl2];rfl⟩
  case kit=>
   intro n m hn hm
   simp only[List.mem_cons,List.not_mem_nil,or_false] at hn
   rcases hn with rfl | rfl | rfl
   ·match m,hm with
    |0,_=>exact k00
    |1,_=>exact k01
    |2,_=>exact k02
    |3,_=>exact k03
    |4,_=>exact k04
    |5,_=>exact k05
    |6,_=>exact k06
    |m+7,hm=>exact absurd hm (by omega)
   ·match m,hm with
    |0,_=>exact k10
    |1,_=>exact k11
    |2,_=>exact k12
    |3,_=>exact k13
    |4,_=>exact k14
    |5,_=>exact k15
    |6,_=>exact k16
    |m+7,hm=>exact absurd hm (by omega)
   ·match m,hm with
    |0,_=>exact k20
    |1,_=>exact k21
    |2,_=>exact k22
    |3,_=>exact k23
    |4,_=>exact k24
    |5,_=>exact k25
    |6,_=>exact k26
    |m+7,hm=>exact absurd hm (by omega)
  case kitV=>
   intro n hn
   simp only[List.mem_cons,List.not_mem_nil,or_false] at hn
   rcases hn with rfl | rfl | rfl
   ·exact kv0
   ·exact kv1
   ·exact kv2
 have o_is_whole:=tF (P:=P) (w:=w) B ⟨PySem.W.mg_of X G a_is_whole,_,bc (st:=eF) l_is_whole c_is_whole k_is_whole⟩
 have o_is_letter:=qA (P:=P) (w:=w) B ⟨PySem.W.mg_of X G a_is_letter,_,bc (st:=dU) l_is_letter c_is_letter k_is_letter⟩
 have o_cells_of_row:=lq (P:=P) (w:=w) B ⟨PySem.W.mg_of X G a_cells_of_row,_,bc (st:=bV) l_cells_of_row c_cells_of_row k_cells_of_row⟩
 have o_letter_of:=pw (P:=P) (w:=w) B ⟨PySem.W.mg_of X G a_letter_of,_,bc (st:=dH) l_letter_of c_letter_of k_letter_of⟩
 have o_are_next:=tf (P:=P) (w:=w) B ⟨PySem.W.mg_of X G a_are_next,_,bc (st:=eE) l_are_next c_are_next k_are_next⟩
 have o_keyed:=xQ (P:=P) (w:=w) B ⟨PySem.W.mg_of X G a_keyed,_,bc (st:=iG) l_keyed c_keyed k_keyed⟩
 have o_numbers_of:=nM (P:=P) (w:=w) B ⟨PySem.W.mg_of X G a_numbers_of,_,bc (st:=cY) l_numbers_of c_numbers_of k_numbers_of⟩
 have o_law_cell:=sC (P:=P) (w:=w) B ⟨PySem.W.mg_of X G a_law_cell,_,bc (st:=et) l_law_cell c_law_cell k_law_cell⟩
 have o_law_cells:=qC (P:=P) (w:=w) B ⟨PySem.W.mg_of X G a_law_cells,_,bc (st:=cQ) l_law_cells c_law_cells k_law_cells⟩
 have o_law_beside:=nH (P:=P) (w:=w) B ⟨PySem.W.mg_of X G a_law_beside,_,bc (st:=de) l_law_beside c_law_beside k_law_beside⟩
 have o_law_refused:=nu (P:=P) (w:=w) B ⟨PySem.W.mg_of X G a_law_refused,_,bc (st:=cE) l_law_refused c_law_refused k_law_refused⟩
 have o_is_row:=vM (P:=P) (w:=w) B o_is_letter ⟨PySem.W.mg_of X G a_is_row,_,bc (st:=fL) l_is_row c_is_row k_is_row⟩
 have o_is_cell:=uR (P:=P) (w:=w) B o_is_whole ⟨PySem.W.mg_of X G a_is_cell,_,bc (st:=fF) l_is_cell c_is_cell k_is_cell⟩
 have o_need_ways:=pM (P:=P) (w:=w) B o_is_whole ⟨PySem.W.mg_of X G a_need_ways,_,bc (st:=dG) l_need_ways c_need_ways k_need_ways⟩
 have o_all_cells:=qo (P:=P) (w:=w) B o_cells_of_row ⟨PySem.W.mg_of X G a_all_cells,_,bc (st:=dN) l_all_cells c_all_cells k_all_cells⟩
 have o_next_cells:=nX (P:=P) (w:=w) B o_are_next ⟨PySem.W.mg_of X G a_next_cells,_,bc (st:=cX) l_next_cells c_next_cells k_next_cells⟩
 have o_law_drawn:=pJ (P:=P) (w:=w) B o_law_cell ⟨PySem.W.mg_of X G a_law_drawn,_,bc (st:=dJ) l_law_drawn c_law_drawn k_law_drawn⟩
 have o_law_labels:=nL (P:=P) (w:=w) B o_law_cells o_law_beside ⟨PySem.W.mg_of X G a_law_labels,_,bc (st:=cw) l_law_labels c_law_labels k_law_labels⟩
 have o_is_board:=ro (P:=P) (w:=w) B o_is_row ⟨PySem.W.mg_of X G a_is_board,_,bc (st:=cU) l_is_board c_is_board k_is_board⟩
 have o_need_cell:=qK (P:=P) (w:=w) B o_is_cell ⟨PySem.W.mg_of X G a_need_cell,_,bc (st:=dW) l_need_cell c_need_cell k_need_cell⟩
 have o_like_cells:=nB (P:=P) (w:=w) B o_letter_of o_next_cells ⟨PySem.W.mg_of X G a_like_cells,_,bc (st:=cq) l_like_cells c_like_cells k_like_cells⟩
 have o_law_board:=q_ (P:=P) (w:=w) B o_law_drawn ⟨PySem.W.mg_of X G a_law_board,_,bc (st:=cO) l_law_board c_law_board k_law_board⟩
 have o_law_patches:=lO (P:=P) (w:=w) B o_law_labels o_law_cells ⟨PySem.W.mg_of X G a_law_patches,_,bc (st:=b5) l_law_patches c_law_patches k_law_patches⟩
 have o_need_board:=nJ (P:=P) (w:=w) B o_is_board ⟨PySem.W.mg_of X G a_need_board,_,bc (st:=cZ) l_need_board c_need_board k_need_board⟩
 have o_steps_back:=nQ (P:=P) (w:=w) B o_like_cells ⟨PySem.W.mg_of X G a_steps_back,_,bc (st:=c9) l_steps_back c_steps_back k_steps_back⟩
 have o_all_patches:=mn (P:=P) (w:=w) B o_all_cells o_steps_back o_keyed ⟨PySem.W.mg_of X G a_all_patches,_,bc (st:=cF) l_all_patches c_all_patches k_all_patches⟩
 have o_patch_of:=rb (P:=P) (w:=w) B o_need_board o_need_cell o_need_ways o_steps_back ⟨PySem.W.mg_of X G a_patch_of,_,bc (st:=eM) l_patch_of c_patch_of k_patch_of⟩
 have o_patches:=uq (P:=P) (w:=w) B o_need_board o_need_ways o_all_patches ⟨PySem.W.mg_of X G a_patches,_,bc (st:=fB) l_patches c_patches k_patches⟩
 have o_how_many:=sm (P:=P) (w:=w) B o_need_board o_need_ways o_all_patches ⟨PySem.W.mg_of X G a_how_many,_,bc (st:=ez) l_how_many c_how_many k_how_many⟩
 have o_numbered:=tE (P:=P) (w:=w) B o_need_board o_need_ways o_numbers_of o_all_patches o_cells_of_row ⟨PySem.W.mg_of X G a_numbered,_,bc (st:=du) l_numbered c_numbered k_numbered⟩
 have o_law_told_v3:=ml (P:=P) (w:=w) B o_patch_of o_law_refused o_patches o_how_many o_numbered ⟨PySem.W.mg_of X G a_law_told_v3,_,bc (st:=cC) l_law_told_v3 c_law_told_v3 k_law_told_v3⟩
 exact rj B o_law_board o_law_cells o_law_drawn o_law_patches o_law_told_v3 (bc (st:=ay) l_law_k10 c_law_k10 k_law_k10)
end K1
open PySem PySem.W PyProof.Rows
set_option maxHeartbeats 0 in
theorem PySem.Challenge.cw_cellpatches_k10_patches_holds : PySem.Challenge.rw_cellpatches_k10_patches.Holds := by
 w_on;o_law
 refine holds_open (q:=K1.sI) (loose:=[]) (Xt:=fun s=>xlAt K1.sI [] s&&recOk (RowW.records (OpenRow.toRowW _)) s) (XP:=XL K1.sI []) (Yf:=Hook.obs (kHook K1.mx K1.mH (fun _=>by kernel_rfl))) (Ya:=Hook.val (kHook K1.mx K1.mH (fun _=>by kernel_rfl))) (YP:=Hook.says (kHook K1.mx K1.mH (fun _=>by kernel_rfl))) (N:=5508) ?hl (Hook.of (kHook K1.mx K1.mH (fun _=>by kernel_rfl))) (Hook.keeps (kHook K1.mx K1.mH (fun _=>by kernel_rfl))) (fun s e=>xl_of s (Bool.and_eq_true_iff.mp e).1) XL.keeps (by rfl) (by rfl) (by rfl) (fun s e=>recFacts_of (Bool.and_eq_true_iff.mp e).2) (by rfl) (by first | assumption | decide+kernel) (by decide+kernel) ⟨rfl,rfl,rfl,rfl,rfl,by decide+kernel⟩ ?hw ?hc
 case hl=>exact K1.CY
 (case hw=>w_witness2)
 k_fill
 refine L3.DH (l:=PySem.Challenge.rw_cellpatches_k10_patches) (k:=8) (n:=63) (x:="_law_script") (g:=K1.iw) rfl (by decide) rfl ⟨rfl,by decide,by decide⟩ (fun w h Y=>PySem.W.kIn_of Y) K1.xR ?F
 case F=>
  intro w mg fa h KX G hmg
  refine' K1.all_mk KX G hmg ?a_is_whole ?l_is_whole ?c_is_whole ?k_is_whole ?a_is_letter ?l_is_letter ?c_is_letter ?k_is_letter ?a_cells_of_row ?l_cells_of_row ?c_cells_of_row ?k_cells_of_row ?a_letter_of ?l_letter_of ?c_letter_of ?k_letter_of ?a_are_next ?l_are_next ?c_are_next ?k_are_next ?a_keyed ?l_keyed ?c_keyed ?k_keyed ?a_numbers_of ?l_numbers_of ?c_numbers_of ?k_numbers_of ?a_law_cell ?l_law_cell ?c_law_cell ?k_law_cell ?a_law_cells ?l_law_cells ?c_law_cells ?k_law_cells ?a_law_beside ?l_law_beside ?c_law_beside ?k_law_beside ?a_law_refused ?l_law_refused ?c_law_refused ?k_law_refused ?a_is_row ?l_is_row ?c_is_row ?k_is_row ?a_is_cell ?l_is_cell ?c_is_cell ?k_is_cell ?a_need_ways ?l_need_ways ?c_need_ways ?k_need_ways ?a_all_cells ?l_all_cells ?c_all_cells ?k_all_cells ?a_next_cells ?l_next_cells ?c_next_cells ?k_next_cells ?a_law_drawn ?l_law_drawn ?c_law_drawn ?k_law_drawn ?a_law_labels ?l_law_labels ?c_law_labels ?k_law_labels ?a_is_board ?l_is_board ?c_is_board ?k_is_board ?a_need_cell ?l_need_cell ?c_need_cell ?k_need_cell ?a_like_cells ?l_like_cells ?c_like_cells ?k_like_cells ?a_law_board ?l_law_board ?c_law_board ?k_law_board ?a_law_patches ?l_law_patches ?c_law_patches ?k_law_patches ?a_need_board ?l_need_board ?c_need_board ?k_need_board ?a_steps_back ?l_steps_back ?c_steps_back ?k_steps_back ?a_all_patches ?l_all_patches ?c_all_patches ?k_all_patches ?a_patch_of ?l_patch_of ?c_patch_of ?k_patch_of ?a_patches ?l_patches ?c_patches ?k_patches ?a_how_many ?l_how_many ?c_how_many ?k_how_many ?a_numbered ?l_numbered ?c_numbered ?k_numbered ?a_law_told_v3 ?l_law_told_v3 ?c_law_told_v3 ?k_law_told_v3 ?a_law_k10 ?l_law_k10 ?c_law_k10 ?k_law_k10 ?z_len ?z_isinstance ?z_all ?z_abs ?z_max ?z_min ?z_range ?z_str ?z_int ?z_bool ?z_tuple ?z_list ?z_dict ?z_sorted ?z_enumerate ?z_ValueError ?y_LETTERS ?y_MOST_ROWS ?y_MOST_COLUMNS ?e0 ?e1 ?e2 ?e3 ?e4 ?e5 ?e6 ?ep ?sp ?q0 ?ga0 ?gt0 ?ca0 ?mo0 ?mb0 ?cl0 ?kp0 ?kv0 ?np0 ?k00 ?k01 ?k02 ?k03 ?k04 ?k05 ?k06 ?q1 ?ga1 ?gt1 ?ca1 ?mo1 ?mb1 ?cl1 ?kp1 ?kv1 ?np1 ?k10 ?k11 ?k12 ?k13 ?k14 ?k15 ?k16 ?q2 ?ga2 ?gt2 ?ca2 ?mo2 ?mb2 ?cl2 ?kp2 ?kv2 ?np2 ?k20 ?k21 ?k22 ?k23 ?k24 ?k25 ?k26
  (case a_is_whole=>k_is)
  (case l_is_whole=>k_is)
  (case c_is_whole=>k_is)
  (case k_is_whole=>k_is)
  (case a_is_letter=>k_is)
  (case l_is_letter=>k_is)
  (case c_is_letter=>k_is)
  (case k_is_letter=>k_is)
  (case a_cells_of_row=>k_is)
  (case l_cells_of_row=>k_is)
  (case c_cells_of_row=>k_is)
  (case k_cells_of_row=>k_is)
  (case a_letter_of=>k_is)
  (case l_letter_of=>k_is)
  (case c_letter_of=>k_is)
  (case k_letter_of=>k_is)
  (case a_are_next=>k_is)
  (case l_are_next=>k_is)
  (case c_are_next=>k_is)
  (case k_are_next=>k_is)
  (case a_keyed=>k_is)
  (case l_keyed=>k_is)
  (case c_keyed=>k_is)
  (case k_keyed=>k_is)
  (case a_numbers_of=>k_is)
  (case l_numbers_of=>k_is)
  (case c_numbers_of=>k_is)
  (case k_numbers_of=>k_is)
  (case a_law_cell=>k_is)
  (case l_law_cell=>k_is)
  (case c_law_cell=>k_is)
  (case k_law_cell=>k_is)
  (case a_law_cells=>k_is)
  (case l_law_cells=>k_is)
  (case c_law_cells=>k_is)
  (case k_law_cells=>k_is)
  (case a_law_beside=>k_is)
  (case l_law_beside=>k_is)
  (case c_law_beside=>k_is)
  (case k_law_beside=>k_is)
  (case a_law_refused=>k_is)
  (case l_law_refused=>k_is)
  (case c_law_refused=>k_is)
  (case k_law_refused=>k_is)
  (case a_is_row=>k_is)
  (case l_is_row=>k_is)
  (case c_is_row=>k_is)
  (case k_is_row=>k_is)
  (case a_is_cell=>k_is)
  (case l_is_cell=>k_is)
  (case c_is_cell=>k_is)
  (case k_is_cell=>k_is)
  (case a_need_ways=>k_is)
  (case l_need_ways=>k_is)
  (case c_need_ways=>k_is)
  (case k_need_ways=>k_is)
  (case a_all_cells=>k_is)
  (case l_all_cells=>k_is)
  (case c_all_cells=>k_is)
  (case k_all_cells=>k_is)
  (case a_next_cells=>k_is)
  (case l_next_cells=>k_is)
  (case c_next_cells=>k_is)
  (case k_next_cells=>k_is)
  (case a_law_drawn=>k_is)
  (case l_law_drawn=>k_is)
  (case c_law_drawn=>k_is)
  (case k_law_drawn=>k_is)
  (case a_law_labels=>k_is)
  (case l_law_labels=>k_is)
  (case c_law_labels=>k_is)
  (case k_law_labels=>k_is)
  (case a_is_board=>k_is)
  (case l_is_board=>k_is)
  (case c_is_board=>k_is)
  (case k_is_board=>k_is)
  (case a_need_cell=>k_is)
  (case l_need_cell=>k_is)
  (case c_need_cell=>k_is)
  (case k_need_cell=>k_is)
  (case a_like_cells=>k_is)
  (case l_like_cells=>k_is)
  (case c_like_cells=>k_is)
  (case k_like_cells=>k_is)
  (case a_law_board=>k_is)
  (case l_law_board=>k_is)
  (case c_law_board=>k_is)
  (case k_law_board=>k_is)
  (case a_law_patches=>k_is)
  (case l_law_patches=>k_is)
  (case c_law_patches=>k_is)
  (case k_law_patches=>k_is)
  (case a_need_board=>k_is)
  (case l_need_board=>k_is)
  (case c_need_board=>k_is)
  (case k_need_board=>k_is)
  (case a_steps_back=>k_is)
  (case l_steps_back=>k_is)
  (case c_steps_back=>k_is)
  (case k_steps_back=>k_is)
  (case a_all_patches=>k_is)
  (case l_all_patches=>k_is)
  (case c_all_patches=>k_is)
  (case k_all_patches=>k_is)
  (case a_patch_of=>k_is)
  (case l_patch_of=>k_is)
  (case c_patch_of=>k_is)
  (case k_patch_of=>k_is)
  (case a_patches=>k_is)
  (case l_patches=>k_is)
  (case c_patches=>k_is)
  (case k_patches=>k_is)
  (case a_how_many=>k_is)
  (case l_how_many=>k_is)
  (case c_how_many=>k_is)
  (case k_how_many=>k_is)
  (case a_numbered=>k_is)
  (case l_numbered=>k_is)
  (case c_numbered=>k_is)
  (case k_numbered=>k_is)
  (case a_law_told_v3=>k_is)
  (case l_law_told_v3=>k_is)
  (case c_law_told_v3=>k_is)
  (case k_law_told_v3=>k_is)
  (case a_law_k10=>k_is)
  (case l_law_k10=>k_is)
  (case c_law_k10=>k_is)
  (case k_law_k10=>k_is)
  (case z_len=>k_is)
  (case z_isinstance=>k_is)
  (case z_all=>k_is)
  (case z_abs=>k_is)
  (case z_max=>k_is)
  (case z_min=>k_is)
  (case z_range=>k_is)
  (case z_str=>k_is)
  (case z_int=>k_is)
  (case z_bool=>k_is)
  (case z_tuple=>k_is)
  (case z_list=>k_is)
  (case z_dict=>k_is)
  (case z_sorted=>k_is)
  (case z_enumerate=>k_is)
  (case z_ValueError=>k_is)
  (case y_LETTERS=>k_is)
  (case y_MOST_ROWS=>k_is)
  (case y_MOST_COLUMNS=>k_is)
  (case e0=>k_is)
  (case e1=>k_is)
  (case e2=>k_is)
  (case e3=>k_is)
  (case e4=>k_is)
  (case e5=>k_is)
  (case e6=>k_is)
  (case ep=>k_is)
  (case sp=>k_is)
  (case q0=>k_exc)
  (case ga0=>k_is)
  (case gt0=>k_is)
  (case ca0=>k_is)
  (case mo0=>k_is)
  (case mb0=>k_is)
  (case cl0=>k_is)
  (case kp0=>kit_is)
  (case kv0=>kit_is)
  (case np0=>rfl)
  (case k00=>kit_is)
  (case k01=>kit_is)
  (case k02=>kit_is)
  (case k03=>kit_is)
  (case k04=>kit_is)
  (case k05=>kit_is)
  (case k06=>kit_is)
  (case q1=>k_exc)
  (case ga1=>k_is)
  (case gt1=>k_is)
  (case ca1=>k_is)
  (case mo1=>k_is)
  (case mb1=>k_is)
  (case cl1=>k_is)
  (case kp1=>kit_is)
  (case kv1=>kit_is)
  (case np1=>rfl)
  (case k10=>kit_is)
  (case k11=>kit_is)
  (case k12=>kit_is)
  (case k13=>kit_is)
  (case k14=>kit_is)
  (case k15=>kit_is)
  (case k16=>kit_is)
  (case q2=>k_exc)
  (case ga2=>k_is)
  (case gt2=>k_is)
  (case ca2=>k_is)
  (case mo2=>k_is)
  (case mb2=>k_is)
  (case cl2=>k_is)
  (case kp2=>kit_is)
  (case kv2=>kit_is)
  (case np2=>rfl)
  (case k20=>kit_is)
  (case k21=>kit_is)
  (case k22=>kit_is)
  (case k23=>kit_is)
  (case k24=>kit_is)
  (case k25=>kit_is)
  (case k26=>kit_is)
